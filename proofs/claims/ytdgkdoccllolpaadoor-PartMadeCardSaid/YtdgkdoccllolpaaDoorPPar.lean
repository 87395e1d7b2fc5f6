/- Parameters of types api.Shape, api.Fault, [2]int: their numbers, and their reading again anywhere. -/
import Derived.Test.YtdgkdoccllolpaaDoorGParam
import Derived.ChangeSame
import Derived.OpenShut
namespace Go.Proofs.YtdgkdoccllolpaaDoor.P
open Go Go.ChangeShapes Go.WideShapes Go.ChangeAt Go.RowKit
open G
theorem cells_shape : Tryd.prog.cellsOf 23 = 6 := by kernel_rfl
theorem cells_place : Tryd.prog.cellsOf 24 = 6 := by kernel_rfl
theorem cells_fault : Tryd.prog.cellsOf 26 = 11 := by kernel_rfl
theorem cells_pair : Tryd.prog.cellsOf 27 = 2 := by kernel_rfl
theorem cells_u8 : Tryd.prog.cellsOf 5 = 1 := by kernel_rfl
theorem cells_bool : Tryd.prog.cellsOf 4 = 1 := by kernel_rfl
theorem list2 {α : Type} (l : List α) (h : (⟨l⟩ : Array α).size = 2) : ∃ a b, l = [a, b] := by
  match l, h with
  | [a, b], _ => exact ⟨a, b, rfl⟩
theorem list6 {α : Type} (l : List α) (h : (⟨l⟩ : Array α).size = 6) : ∃ a b c d e f, l = [a, b, c, d, e, f] := by
  match l, h with
  | [a, b, c, d, e, f], _ => exact ⟨a, b, c, d, e, f, rfl⟩
theorem list11 {α : Type} (l : List α) (h : (⟨l⟩ : Array α).size = 11) : ∃ a b c d e f g h i j k, l = [a, b, c, d, e, f, g, h, i, j, k] := by
  match l, h with
  | [a, b, c, d, e, f, g, h, i, j, k], _ => exact ⟨a, b, c, d, e, f, g, h, i, j, k, rfl⟩
section
variable {H : Type} {enc : TypeId × Value → H} {P : Program} {w : World} {base : Nat} {spare : Nat → Bool} {held : Bool}
theorem trod_struct6 {t : TypeId} {f0 f1 f2 f3 f4 f5 : Field} {fuel : Nat} {cs : List Value} {x : DataW H × List MemPlace} (ht : P.underlying t = some (.struct #[f0, f1, f2, f3, f4, f5])) (h : DataW.trod enc P w base spare held fuel t cs = some x) :
    ∃ y0 y1 y2 y3 y4 y5 n, x = (.agg [y0.1, y1.1, y2.1, y3.1, y4.1, y5.1], y0.2 ++ (y1.2 ++ (y2.2 ++ (y3.2 ++ (y4.2 ++ y5.2))))) ∧ DataW.trod enc P w base spare held n f0.type ((cs.drop f0.offset).take (P.cellsOf f0.type)) = some y0 ∧
      DataW.trod enc P w base spare held n f1.type ((cs.drop f1.offset).take (P.cellsOf f1.type)) = some y1 ∧ DataW.trod enc P w base spare held n f2.type ((cs.drop f2.offset).take (P.cellsOf f2.type)) = some y2 ∧
      DataW.trod enc P w base spare held n f3.type ((cs.drop f3.offset).take (P.cellsOf f3.type)) = some y3 ∧ DataW.trod enc P w base spare held n f4.type ((cs.drop f4.offset).take (P.cellsOf f4.type)) = some y4 ∧
      DataW.trod enc P w base spare held n f5.type ((cs.drop f5.offset).take (P.cellsOf f5.type)) = some y5 := by
  obtain ⟨xs, n, _, rfl, hl, hlen, hf⟩ := DataW.trod_struct ht h
  match xs, hlen with
  | [y0, y1, y2, y3, y4, y5], _ => exact ⟨y0, y1, y2, y3, y4, y5, n, by simp, by simpa using hf 0 f0 rfl, by simpa using hf 1 f1 rfl, by simpa using hf 2 f2 rfl, by simpa using hf 3 f3 rfl, by simpa using hf 4 f4 rfl, by simpa using hf 5 f5 rfl⟩
theorem trod_struct6_mk {t : TypeId} {f0 f1 f2 f3 f4 f5 : Field} {n : Nat} {cs : List Value} {y0 y1 y2 y3 y4 y5 : DataW H × List MemPlace} (ht : P.underlying t = some (.struct #[f0, f1, f2, f3, f4, f5])) (hl : cs.length = P.cellsOf t)
    (h0 : DataW.trod enc P w base spare held n f0.type ((cs.drop f0.offset).take (P.cellsOf f0.type)) = some y0) (h1 : DataW.trod enc P w base spare held n f1.type ((cs.drop f1.offset).take (P.cellsOf f1.type)) = some y1)
    (h2 : DataW.trod enc P w base spare held n f2.type ((cs.drop f2.offset).take (P.cellsOf f2.type)) = some y2) (h3 : DataW.trod enc P w base spare held n f3.type ((cs.drop f3.offset).take (P.cellsOf f3.type)) = some y3)
    (h4 : DataW.trod enc P w base spare held n f4.type ((cs.drop f4.offset).take (P.cellsOf f4.type)) = some y4) (h5 : DataW.trod enc P w base spare held n f5.type ((cs.drop f5.offset).take (P.cellsOf f5.type)) = some y5) :
    DataW.trod enc P w base spare held (n + 1) t cs = some (.agg [y0.1, y1.1, y2.1, y3.1, y4.1, y5.1], y0.2 ++ (y1.2 ++ (y2.2 ++ (y3.2 ++ (y4.2 ++ y5.2))))) := by
  have := trod_struct_mk (enc := enc) (w := w) (base := base) (spare := spare) (held := held) (n := n) (xs := [y0, y1, y2, y3, y4, y5]) ht hl (by simp [h0, h1, h2, h3, h4, h5])
  simpa using this
theorem trod_array2 {t e : TypeId} {fuel : Nat} {c0 c1 : Value} {x : DataW H × List MemPlace} (ht : P.underlying t = some (.array 2 e)) (hce : P.cellsOf e = 1)
    (h : DataW.trod enc P w base spare held fuel t [c0, c1] = some x) :
    ∃ y0 y1 n, x = (.agg [y0.1, y1.1], y0.2 ++ y1.2) ∧ DataW.trod enc P w base spare held n e [c0] = some y0 ∧ DataW.trod enc P w base spare held n e [c1] = some y1 := by
  cases fuel with
  | zero => simp [DataW.trod] at h
  | succ n =>
    unfold DataW.trod at h
    rw [ht] at h
    have r2 : List.range 2 = [0, 1] := rfl
    simp [r2, hce] at h
    obtain ⟨_, h⟩ := h
    cases h0 : DataW.trod enc P w base spare held n e [c0] with
    | none => simp [h0] at h
    | some y0 =>
      cases h1 : DataW.trod enc P w base spare held n e [c1] with
      | none => simp [h0, h1] at h
      | some y1 =>
        simp [h0, h1] at h
        exact ⟨y0, y1, n, h.symm, h0, h1⟩
/-- A struct of six numbers in a reading. -/
theorem six_again {t i : TypeId} {fuel : Nat} {c0 c1 c2 c3 c4 c5 : Value} {x : DataW H × List MemPlace} {fs : Array Field} (ht : P.underlying t = some (.struct fs)) (hi : P.underlying i = some (.int .i64)) (hci : P.cellsOf i = 1) (hct : P.cellsOf t = 6)
    {f0 f1 f2 f3 f4 f5 : Field} (hfs : fs = #[f0, f1, f2, f3, f4, f5]) (h0 : f0.type = i ∧ f0.offset = 0) (h1 : f1.type = i ∧ f1.offset = 1) (h2 : f2.type = i ∧ f2.offset = 2) (h3 : f3.type = i ∧ f3.offset = 3) (h4 : f4.type = i ∧ f4.offset = 4) (h5 : f5.type = i ∧ f5.offset = 5)
    (h : DataW.trod enc P w base spare held fuel t [c0, c1, c2, c3, c4, c5] = some x) :
    ∃ (a : Nat → Int), c0 = .int .i64 (a 0) ∧ c1 = .int .i64 (a 1) ∧ c2 = .int .i64 (a 2) ∧ c3 = .int .i64 (a 3) ∧ c4 = .int .i64 (a 4) ∧ c5 = .int .i64 (a 5) ∧ x.2 = [] ∧
      ∀ (W' : World) (b : Nat) (sp : Nat → Bool) (hd : Bool) (m : Nat), DataW.trod enc P W' b sp hd (m + 2) t [.int .i64 (a 0), .int .i64 (a 1), .int .i64 (a 2), .int .i64 (a 3), .int .i64 (a 4), .int .i64 (a 5)] = some (x.1, []) := by
  subst hfs
  obtain ⟨y0, y1, y2, y3, y4, y5, n, rfl, g0, g1, g2, g3, g4, g5⟩ := trod_struct6 ht h
  rw [h0.1, h0.2, hci] at g0
  rw [h1.1, h1.2, hci] at g1
  rw [h2.1, h2.2, hci] at g2
  rw [h3.1, h3.2, hci] at g3
  rw [h4.1, h4.2, hci] at g4
  rw [h5.1, h5.2, hci] at g5
  obtain ⟨x0, e0, rfl, w0⟩ := DataW.trod_int hi g0
  obtain ⟨x1, e1, rfl, w1⟩ := DataW.trod_int hi g1
  obtain ⟨x2, e2, rfl, w2⟩ := DataW.trod_int hi g2
  obtain ⟨x3, e3, rfl, w3⟩ := DataW.trod_int hi g3
  obtain ⟨x4, e4, rfl, w4⟩ := DataW.trod_int hi g4
  obtain ⟨x5, e5, rfl, w5⟩ := DataW.trod_int hi g5
  simp at e0 e1 e2 e3 e4 e5
  subst e0 e1 e2 e3 e4 e5
  refine ⟨fun | 0 => x0 | 1 => x1 | 2 => x2 | 3 => x3 | 4 => x4 | _ => x5, rfl, rfl, rfl, rfl, rfl, rfl, rfl, fun W' b sp hd m => ?_⟩
  exact trod_struct6_mk (y0 := (.lit (.int .i64 x0), [])) (y1 := (.lit (.int .i64 x1), [])) (y2 := (.lit (.int .i64 x2), [])) (y3 := (.lit (.int .i64 x3), [])) (y4 := (.lit (.int .i64 x4), [])) (y5 := (.lit (.int .i64 x5), [])) ht (by rw [hct]; rfl)
    (by rw [h0.1, h0.2, hci]; exact trod_int_mk m hi w0) (by rw [h1.1, h1.2, hci]; exact trod_int_mk m hi w1) (by rw [h2.1, h2.2, hci]; exact trod_int_mk m hi w2) (by rw [h3.1, h3.2, hci]; exact trod_int_mk m hi w3) (by rw [h4.1, h4.2, hci]; exact trod_int_mk m hi w4) (by rw [h5.1, h5.2, hci]; exact trod_int_mk m hi w5)
theorem trod_bool_mk {t : TypeId} {b : Bool} (m : Nat) (ht : P.underlying t = some .bool) : DataW.trod enc P w base spare held (m + 1) t [.bool b] = some (.lit (.bool b), []) := by
  simp [DataW.trod, ht]
end
set_option maxRecDepth 100000 in
theorem shape_param {H : Type} {enc : TypeId × Value → H} {W : World} {base : Nat} {v : Value} {d : DataW H} {p : List MemPlace}
    (hv : Value.okWide Tryd.prog W .any base 23 v) (hd : DataW.Trod enc Tryd.prog W 0 (fun _ => true) true 23 v d p) :
    ∃ x : Nat → Int, v = .agg #[.int .i64 (x 0), .int .i64 (x 1), .int .i64 (x 2), .int .i64 (x 3), .int .i64 (x 4), .int .i64 (x 5)] ∧ p = [] ∧ ∀ (W' : World) (sp : Nat → Bool), DataW.Trod enc Tryd.prog W' 0 sp true 23 v d [] := by
  obtain ⟨cs, rfl, hsz⟩ := okWide_struct Tryd.underlying23 hv
  rw [cells_shape] at hsz
  obtain ⟨l⟩ := cs
  obtain ⟨c0, c1, c2, c3, c4, c5, rfl⟩ := list6 l hsz
  obtain ⟨fuel, hf⟩ := hd
  obtain ⟨a, rfl, rfl, rfl, rfl, rfl, rfl, hp, hx⟩ := six_again Tryd.underlying23 Tryd.underlying3 cells_int cells_shape rfl ⟨rfl, rfl⟩ ⟨rfl, rfl⟩ ⟨rfl, rfl⟩ ⟨rfl, rfl⟩ ⟨rfl, rfl⟩ ⟨rfl, rfl⟩ hf
  simp only at hp hx
  exact ⟨a, rfl, hp, fun W' sp => ⟨2, hx W' 0 sp true 0⟩⟩
set_option maxRecDepth 100000 in
theorem fault_param {H : Type} {enc : TypeId × Value → H} {W : World} {base : Nat} {v : Value} {d : DataW H} {p : List MemPlace}
    (hv : Value.okWide Tryd.prog W .any base 26 v) (hd : DataW.Trod enc Tryd.prog W 0 (fun _ => true) true 26 v d p) :
    ∃ (kd : Int) (pl : Nat → Int) (ch m u : Int) (b : Bool), v = .agg #[.int .i64 kd, .int .i64 (pl 0), .int .i64 (pl 1), .int .i64 (pl 2), .int .i64 (pl 3), .int .i64 (pl 4), .int .i64 (pl 5), .int .i64 ch, .int .u8 m, .int .u8 u, .bool b] ∧ p = [] ∧ ∀ (W' : World) (sp : Nat → Bool), DataW.Trod enc Tryd.prog W' 0 sp true 26 v d [] := by
  obtain ⟨cs, rfl, hsz⟩ := okWide_struct Tryd.underlying26 hv
  rw [cells_fault] at hsz
  obtain ⟨l⟩ := cs
  obtain ⟨c0, c1, c2, c3, c4, c5, c6, c7, c8, c9, c10, rfl⟩ := list11 l hsz
  obtain ⟨fuel, hf⟩ := hd
  obtain ⟨y0, y1, y2, y3, y4, y5, n, hx, g0, g1, g2, g3, g4, g5⟩ := trod_struct6 Tryd.underlying26 hf
  simp [Value.cells, cells_int, cells_place, cells_u8, cells_bool] at g0 g1 g2 g3 g4 g5
  obtain ⟨x0, e0, rfl, w0⟩ := DataW.trod_int Tryd.underlying3 g0
  obtain ⟨a, rfl, rfl, rfl, rfl, rfl, rfl, hp1, hx1⟩ := six_again Tryd.underlying24 Tryd.underlying3 cells_int cells_place rfl ⟨rfl, rfl⟩ ⟨rfl, rfl⟩ ⟨rfl, rfl⟩ ⟨rfl, rfl⟩ ⟨rfl, rfl⟩ ⟨rfl, rfl⟩ g1
  obtain ⟨x2, e2, rfl, w2⟩ := DataW.trod_int Tryd.underlying3 g2
  obtain ⟨x3, e3, rfl, w3⟩ := DataW.trod_int Tryd.underlying5 g3
  obtain ⟨x4, e4, rfl, w4⟩ := DataW.trod_int Tryd.underlying5 g4
  obtain ⟨x5, e5, rfl⟩ := DataW.trod_bool Tryd.underlying4 g5
  simp at e0 e2 e3 e4 e5
  subst e0 e2 e3 e4 e5
  obtain ⟨d1, p1⟩ := y1
  simp only at hp1 hx1
  subst hp1
  simp only [Prod.mk.injEq] at hx
  obtain ⟨rfl, rfl⟩ := hx
  refine ⟨x0, a, x2, x3, x4, x5, rfl, rfl, fun W' sp => ⟨3, ?_⟩⟩
  exact trod_struct6_mk (y0 := (.lit (.int .i64 x0), [])) (y1 := (d1, [])) (y2 := (.lit (.int .i64 x2), [])) (y3 := (.lit (.int .u8 x3), [])) (y4 := (.lit (.int .u8 x4), [])) (y5 := (.lit (.bool x5), [])) Tryd.underlying26 (by rw [cells_fault]; rfl)
    (by simpa [Value.cells, cells_int] using trod_int_mk 1 Tryd.underlying3 w0) (by simpa [Value.cells, cells_place] using hx1 W' 0 sp true 0) (by simpa [Value.cells, cells_int] using trod_int_mk 1 Tryd.underlying3 w2)
    (by simpa [Value.cells, cells_u8] using trod_int_mk 1 Tryd.underlying5 w3) (by simpa [Value.cells, cells_u8] using trod_int_mk 1 Tryd.underlying5 w4) (by simpa [Value.cells, cells_bool] using trod_bool_mk 1 Tryd.underlying4)
set_option maxRecDepth 100000 in
theorem pair_param {H : Type} {enc : TypeId × Value → H} {W : World} {base : Nat} {v : Value} {d : DataW H} {p : List MemPlace}
    (hv : Value.okWide Tryd.prog W .any base 27 v) (hd : DataW.Trod enc Tryd.prog W 0 (fun _ => true) true 27 v d p) :
    ∃ m n : Int, v = .agg #[.int .i64 m, .int .i64 n] ∧ p = [] ∧ ∀ (W' : World) (sp : Nat → Bool), DataW.Trod enc Tryd.prog W' 0 sp true 27 v d [] := by
  obtain ⟨cs, rfl, hsz, _⟩ : ∃ cs, v = .agg cs ∧ cs.size = Tryd.prog.cellsOf 27 ∧ Row.okWide Tryd.prog W .any base 27 cs := by
    simpa [Value.okWide, Tryd.underlying27] using hv
  rw [cells_pair] at hsz
  obtain ⟨l⟩ := cs
  obtain ⟨c0, c1, rfl⟩ := list2 l hsz
  obtain ⟨fuel, hf⟩ := hd
  obtain ⟨y0, y1, m, hx, hy0, hy1⟩ := trod_array2 Tryd.underlying27 cells_int hf
  obtain ⟨x0, e0, rfl, w0⟩ := DataW.trod_int Tryd.underlying3 hy0
  obtain ⟨x1, e1, rfl, w1⟩ := DataW.trod_int Tryd.underlying3 hy1
  simp at e0 e1
  subst e0 e1
  simp only [Prod.mk.injEq] at hx
  obtain ⟨rfl, rfl⟩ := hx
  exact ⟨x0, x1, rfl, rfl, fun W' sp => ⟨2, by simp [DataW.trod, Value.cells, Tryd.underlying27, Tryd.underlying3, cells_pair, cells_int, w0, w1, show List.range 2 = [0, 1] from rfl]⟩⟩
end Go.Proofs.YtdgkdoccllolpaaDoor.P
