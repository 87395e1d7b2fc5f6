/- Parameters of types []int, uint64 and Matrix: what they hold, and their reading again behind a call that only makes memory. -/
import Derived.Test.YtodiokladojnjaaRows
import Derived.WalkKit
import Derived.ProofKit
import Derived.OpenShut
import Derived.Test.YtodiokladojnjaaBAwake
namespace Go.Proofs.Ytodiokladojnjaa.B
open Go Go.ChangeShapes Go.WideShapes Go.ChangeAt Go.RowKit

theorem IN.el_take {zs : List Int} {n k : Nat} (h : k < n) : Go.Proofs.Ytodiokladojnjaa.IN.el (zs.take n) k = zs.getD k 0 := by
  unfold Go.Proofs.Ytodiokladojnjaa.IN.el
  rw [List.getElem?_take, if_pos h]
  rfl
theorem own : ownKnob Try.prog.godebug = none := by kernel_rfl

section
variable {H : Type} {enc : TypeId × Value → H} {P : Program}
/-- The row's post where all that lay before the call lies as it lay. -/
theorem post_below {f : Func} {s : ChangeSpec} {apart fresh handsOn again : Bool} {W W' : World} {args : Array Value} {v : Value} {ds gs : List (DataW H)} {before pa pv : List MemPlace}
    (hW : DataW.Whole enc P f.params.toList s.vars apart W args.toList ds gs before) (hb : Below W.heap.size W W') (hps : before = pa ++ pv)
    (hres : ∀ (b : Nat) (sp : Nat → Bool) (hd : Bool), DataW.TrodAll enc P W' b sp hd f.resultTypes.toList (v.resultList f.resultTypes.size) (s.fn H (ds ++ gs)).results [])
    (hargs : ∀ sp : Nat → Bool, (∀ p ∈ before, sp p.block = true) → DataW.TrodAll enc P W' 0 sp true f.params.toList args.toList (s.fn H (ds ++ gs)).args pa)
    (hvars : ∀ sp : Nat → Bool, (∀ p ∈ before, sp p.block = true) → DataW.TrodVars enc P W' sp s.vars (s.fn H (ds ++ gs)).vars pv)
    (hok : ∀ (j : Nat) (t : TypeId) (r : Value), f.resultTypes[j]? = some t → (v.resultList f.resultTypes.size)[j]? = some r → Value.okWide P W' .any 0 t r) :
    s.post enc P f apart fresh handsOn again W args v W' := by
  have hlt : ∀ p ∈ before, p.block < W.heap.size := fun p hp => hW.lt p hp
  have hall : ∀ p ∈ before, (fun b => decide (b < W.heap.size)) p.block = true := fun p hp => by simpa using hlt p hp
  obtain ⟨_, _, _, _, _, hz, hn⟩ := id hW
  refine ⟨ds, gs, before, [], pa, pv, hW, hres _ _ _, hargs _ hall, hvars _ hall, World.keptBut_mono (fun p hp => ⟨hp, by rw [hps, List.mem_append] at hp; exact .inr hp⟩) (hb.frame (· ∈ before)), fun _ => ⟨hok, _, _, ([] ++ pa) ++ pv, ⟨[] ++ pa, pv, trodAll_append (hargs _ (fun _ _ => rfl)) (hres _ _ _), hvars _ (fun _ _ => rfl), rfl, ?_, ?_⟩, ?_⟩⟩
  · intro b off hp
    have hin : MemPlace.cell b off ∈ before := by rw [hps]; simpa using hp
    exact (hb.frozen (hlt _ hin)).trans (hz b off hin)
  · intro ha
    have := hn ha
    rw [hps] at this
    simpa using this
  · intro p hp _
    rw [hps]
    simpa using hp
end

theorem cells_int : Try.prog.cellsOf 3 = 1 := by kernel_rfl

set_option maxRecDepth 100000 in
theorem slice_param {H : Type} {enc : TypeId × Value → H} {W : World} {base : Nat} {v : Value} {d : DataW H} {p : List MemPlace}
    (hv : Value.okWide Try.prog W .any base 29 v) (hd : DataW.Trod enc Try.prog W 0 (fun _ => true) true 29 v d p) :
    ∃ (a : Option Addr) (ts : List Int) (cap : Nat), v = .slice a ts.length cap ∧ IRow W a ts cap ∧
      ∀ (W' : World) (sp : Nat → Bool), Below W.heap.size W W' → (∀ q ∈ p, sp q.block = true) → DataW.Trod enc Try.prog W' 0 sp true 29 v d p := by
  obtain ⟨a0, len, cap, rfl⟩ := okWide_slice Try.underlying29 hv
  obtain ⟨fuel, hf⟩ := hd
  rcases open_ints Try.underlying29 Try.underlying3 cells_int hf with ⟨hcs, hx⟩ | ⟨a, len', cap', zs, hcs, _, hl, hm, hz, hx, hcell, hwz⟩
  · simp [Value.cells] at hcs
    obtain ⟨rfl, rfl, rfl⟩ := hcs
    simp only [Prod.mk.injEq] at hx
    obtain ⟨rfl, rfl⟩ := hx
    exact ⟨none, [], 0, rfl, ⟨Nat.le_refl _, by omega, fun j hj => by simp at hj⟩, fun _ _ _ _ => shut_slice_nil Try.underlying29⟩
  · simp [Value.cells] at hcs
    obtain ⟨rfl, rfl, rfl⟩ := hcs
    simp only [Prod.mk.injEq] at hx
    obtain ⟨rfl, rfl⟩ := hx
    rw [if_pos rfl] at hz
    have e1 : (zs.take len).length = len := by rw [List.length_take]; omega
    refine ⟨some a, zs.take len, cap, by rw [e1], ⟨by omega, by unfold maxLen at hm; omega, fun j hj => ?_⟩, fun W' sp hb hsp => ?_⟩
    · obtain ⟨b, off, rfl, hc⟩ := ints_at hcell (by omega)
      refine ⟨b, off, rfl, ?_⟩
      rw [hc j (by omega), IN.el_take (by omega)]
    · refine ⟨2, shut_ints 0 Try.underlying29 Try.underlying3 cells_int (Nat.zero_le _) hl hm ?_ (fun i hi => (hb.cell (p := a.add i) (lt_of_cell (hcell i hi))).trans (hcell i hi)) hwz⟩
      by_cases h0 : 0 < zs.length
      · rw [if_pos]
        · exact hz
        · refine hsp (.cell a.block (a.off + 0)) ?_
          unfold MemPlace.row
          exact List.mem_map.2 ⟨0, List.mem_range.2 h0, rfl⟩
      · split <;> omega



theorem u64_lo {a : Int} (h : (Lit.int .u64 a).wf = true) : 0 ≤ a := by simp [Lit.wf, IntKind.min, IntKind.max, IntKind.bits, IntKind.signed] at h; omega
theorem u64_hi {a : Int} (h : (Lit.int .u64 a).wf = true) : a < 18446744073709551616 := by simp [Lit.wf, IntKind.min, IntKind.max, IntKind.bits, IntKind.signed] at h; omega
def toV (z : Int) : V := BitVec.ofNat 64 z.toNat
theorem toV_v {z : Int} (h : (Lit.int .u64 z).wf = true) : ((toV z).toNat : Int) = z := by
  have h1 := u64_lo h
  have h2 := u64_hi h
  unfold toV
  rw [BitVec.toNat_ofNat, Nat.mod_eq_of_lt (by omega)]
  omega
theorem cells_vec : Try.prog.cellsOf 32 = 1 := by kernel_rfl
theorem cells_mat : Try.prog.cellsOf 49 = 2 := by kernel_rfl
theorem cells_rows : Try.prog.cellsOf 22 = 1 := by kernel_rfl
theorem getD_mem {zs : List Int} {j : Nat} (h : j < zs.length) : zs.getD j 0 ∈ zs := by
  rw [List.getD, List.getElem?_eq_getElem h]; exact List.getElem_mem h
theorem vec_again {H : Type} {enc : TypeId × Value → H} {W : World} {c0 : Value} {y0 : DataW H × List MemPlace} {n : Nat}
    (hf : DataW.trod enc Try.prog W 0 (fun _ => true) true n 22 [c0] = some y0) :
    ∃ (a : Option Addr) (ts : List V) (cap : Nat), c0 = .slice a ts.length cap ∧ Row W a ts cap ∧
      ∀ (W' : World) (sp : Nat → Bool), Below W.heap.size W W' → (∀ q ∈ y0.2, sp q.block = true) → DataW.trod enc Try.prog W' 0 sp true 2 22 [c0] = some y0 := by
  rcases open_ints Try.underlying22 Try.underlying32 cells_vec hf with ⟨hcs, hx⟩ | ⟨a, len', cap', zs, hcs, _, hl, hm, hz, hx, hcell, hwz⟩
  · simp at hcs
    subst hcs
    subst hx
    refine ⟨none, [], 0, rfl, Row.nil _ _ _ (by omega), fun W' sp _ _ => ?_⟩
    simp [DataW.trod, Try.underlying22]
  · simp at hcs
    subst hcs
    subst hx
    rw [if_pos rfl] at hz
    have e1 : ((zs.take len').map toV).length = len' := by rw [List.length_map, List.length_take]; omega
    refine ⟨some a, (zs.take len').map toV, cap', by rw [e1], ⟨by omega, by unfold maxLen at hm; omega, fun j hj => ?_⟩, fun W' sp hb hsp => ?_⟩
    · obtain ⟨b, off, rfl, hc⟩ := ints_at hcell (by omega)
      refine ⟨b, off, rfl, ?_⟩
      have hjl : j < (zs.take len').length := by rw [List.length_map] at hj; exact hj
      have hjz : j < zs.length := by rw [List.length_take] at hjl; omega
      show _ = some (Value.int .u64 ((el ((zs.take len').map toV) j).toNat : Int))
      rw [hc j hjz, el_lt hj, List.getElem_map, toV_v (hwz _ (by rw [List.getElem_take]; exact List.getElem_mem hjz)), List.getElem_take, List.getD, List.getElem?_eq_getElem hjz]
      rfl
    · refine shut_ints 0 Try.underlying22 Try.underlying32 cells_vec (Nat.zero_le _) hl hm ?_ (fun i hi => (hb.cell (p := a.add i) (lt_of_cell (hcell i hi))).trans (hcell i hi)) hwz
      by_cases h0 : 0 < zs.length
      · rw [if_pos]
        · exact hz
        · refine hsp (.cell a.block (a.off + 0)) ?_
          unfold MemPlace.row
          exact List.mem_map.2 ⟨0, List.mem_range.2 h0, rfl⟩
      · split <;> omega
theorem pair_list {α : Type} (l : List α) (h : (⟨l⟩ : Array α).size = 2) : ∃ a b, l = [a, b] := by
  match l, h with
  | [a, b], _ => exact ⟨a, b, rfl⟩
set_option maxRecDepth 100000 in
theorem mat_param {H : Type} {enc : TypeId × Value → H} {W : World} {base : Nat} {v : Value} {d : DataW H} {p : List MemPlace}
    (hv : Value.okWide Try.prog W .any base 49 v) (hd : DataW.Trod enc Try.prog W 0 (fun _ => true) true 49 v d p) :
    ∃ (C : Int) (b : Option Addr) (R : List V) (cb : Nat), v = .agg #[.int .i64 C, .slice b R.length cb] ∧ Row W b R cb ∧ (Lit.int .i64 C).wf = true ∧
      ∀ (W' : World) (sp : Nat → Bool), Below W.heap.size W W' → (∀ q ∈ p, sp q.block = true) → DataW.Trod enc Try.prog W' 0 sp true 49 v d p := by
  obtain ⟨cs, rfl, hsz⟩ := okWide_struct Try.underlying49 hv
  rw [cells_mat] at hsz
  obtain ⟨l⟩ := cs
  obtain ⟨e0, e1, rfl⟩ := pair_list l hsz
  obtain ⟨fuel, hf⟩ := hd
  obtain ⟨x0, x1, n, hx, _, h0, h1⟩ := trod_struct2 Try.underlying49 hf
  simp [Value.cells, cells_int, cells_rows] at h0 h1
  obtain ⟨C, hc0, hx0, hwf⟩ := DataW.trod_int Try.underlying3 h0
  simp at hc0
  subst hc0
  subst hx0
  simp only [Prod.mk.injEq] at hx
  obtain ⟨rfl, rfl⟩ := hx
  obtain ⟨b, R, cb, rfl, hr1, ha1⟩ := vec_again h1
  refine ⟨C, b, R, cb, rfl, hr1, hwf, fun W' sp hb hsp => ?_⟩
  have k1 := ha1 W' sp hb (fun q hq => hsp q (by simp [hq]))
  have k0 := trod_int_mk (enc := enc) (P := Try.prog) (w := W') (base := 0) (spare := sp) (held := true) (n := C) 1 Try.underlying3 hwf
  have := trod_struct2_mk (enc := enc) (P := Try.prog) (w := W') (base := 0) (spare := sp) (held := true) (n := 2) (cs := [.int .i64 C, .slice b R.length cb]) (y0 := (.lit (.int .i64 C), [])) (y1 := x1) Try.underlying49 (by simp [cells_mat]) (by simpa [cells_int] using k0) (by simpa [cells_rows] using k1)
  exact ⟨3, by simpa [Value.cells] using this⟩
end Go.Proofs.Ytodiokladojnjaa.B
