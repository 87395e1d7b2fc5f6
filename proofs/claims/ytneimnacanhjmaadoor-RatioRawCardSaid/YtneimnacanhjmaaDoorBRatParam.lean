/- A parameter of type Ratio: its two rows of limbs, and its reading again behind a call that only makes memory. -/
import Derived.Test.YtneimnacanhjmaaDoorBNatParam
namespace Go.Proofs.YtneimnacanhjmaaDoor
open Go Go.ChangeShapes Go.WideShapes Go.ChangeAt Go.RowKit

theorem cells_ratio : Tryd.prog.cellsOf 58 = 2 := by kernel_rfl
theorem pair_list {α : Type} (l : List α) (h : (⟨l⟩ : Array α).size = 2) : ∃ a b, l = [a, b] := by
  match l, h with
  | [a, b], _ => exact ⟨a, b, rfl⟩
set_option maxRecDepth 100000 in
theorem rat_param {H : Type} {enc : TypeId × Value → H} {W : World} {base : Nat} {v : Value} {d : DataW H} {p : List MemPlace}
    (hv : Value.okWide Tryd.prog W .any base 58 v) (hd : DataW.Trod enc Tryd.prog W 0 (fun _ => true) true 58 v d p) :
    ∃ (a : Option Addr) (ca : Nat) (zs : List Int) (b : Option Addr) (cb : Nat) (ys : List Int), v = .agg #[.slice a zs.length ca, .slice b ys.length cb] ∧ Row W a zs ca ∧ Row W b ys cb ∧
      ∀ (W' : World) (sp : Nat → Bool), Below W.heap.size W W' → (∀ q ∈ p, sp q.block = true) → DataW.Trod enc Tryd.prog W' 0 sp true 58 v d p := by
  obtain ⟨cs, rfl, hsz⟩ := okWide_struct Tryd.underlying58 hv
  rw [cells_ratio] at hsz
  obtain ⟨l⟩ := cs
  obtain ⟨e0, e1, rfl⟩ := pair_list l hsz
  obtain ⟨fuel, hf⟩ := hd
  obtain ⟨x0, x1, n, hx, _, h0, h1⟩ := trod_struct2 Tryd.underlying58 hf
  simp [Value.cells, cells_nat] at h0 h1
  cases n with
  | zero => simp [DataW.trod] at h0
  | succ n =>
    obtain ⟨y0, n0, hx0, _, h00⟩ := trod_struct1 Tryd.underlying24 h0
    obtain ⟨y1, n1, hx1, _, h11⟩ := trod_struct1 Tryd.underlying24 h1
    simp [cells_ints] at h00 h11
    subst hx0 hx1
    simp only [Prod.mk.injEq] at hx
    obtain ⟨rfl, rfl⟩ := hx
    obtain ⟨a, zs, ca, rfl, hr0, ha0⟩ := ints_again h00
    obtain ⟨b, ys, cb, rfl, hr1, ha1⟩ := ints_again h11
    refine ⟨a, ca, zs, b, cb, ys, rfl, hr0, hr1, fun W' sp hb hsp => ?_⟩
    have k0 := ha0 W' sp hb (fun q hq => hsp q (by simp [hq]))
    have k1 := ha1 W' sp hb (fun q hq => hsp q (by simp [hq]))
    have j0 := trod_struct1_mk (enc := enc) (w := W') (base := 0) (spare := sp) (held := true) (cs := [.slice a zs.length ca]) Tryd.underlying24 (by simp [cells_nat]) (by simpa [cells_ints] using k0)
    have j1 := trod_struct1_mk (enc := enc) (w := W') (base := 0) (spare := sp) (held := true) (cs := [.slice b ys.length cb]) Tryd.underlying24 (by simp [cells_nat]) (by simpa [cells_ints] using k1)
    have := trod_struct2_mk (enc := enc) (P := Tryd.prog) (w := W') (base := 0) (spare := sp) (held := true) (n := 3) (cs := [.slice a zs.length ca, .slice b ys.length cb]) (y0 := (DataW.agg [y0.1], y0.2)) (y1 := (DataW.agg [y1.1], y1.2)) Tryd.underlying58 (by simp [cells_ratio]) (by simpa [cells_nat] using j0) (by simpa [cells_nat] using j1)
    exact ⟨4, by simpa [Value.cells] using this⟩
end Go.Proofs.YtneimnacanhjmaaDoor
