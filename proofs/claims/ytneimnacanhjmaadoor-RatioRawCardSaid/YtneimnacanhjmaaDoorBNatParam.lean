/- A parameter of type Nat: its row of limbs, and its reading again behind a call that only makes memory. -/
import Derived.Lib.SmallJoins
import Derived.Test.YtneimnacanhjmaaDoorB10
namespace Go.Proofs.YtneimnacanhjmaaDoor
open Go Go.ChangeShapes Go.WideShapes Go.ChangeAt Go.RowKit

theorem cells_ints : Tryd.prog.cellsOf 22 = 1 := by kernel_rfl
theorem cells_nat : Tryd.prog.cellsOf 24 = 1 := by kernel_rfl

set_option maxRecDepth 100000 in
theorem ints_again {H : Type} {enc : TypeId × Value → H} {W : World} {c0 : Value} {y0 : DataW H × List MemPlace} {n : Nat}
    (hf : DataW.trod enc Tryd.prog W 0 (fun _ => true) true n 22 [c0] = some y0) :
    ∃ (a : Option Addr) (ts : List Int) (cap : Nat), c0 = .slice a ts.length cap ∧ Row W a ts cap ∧
      ∀ (W' : World) (sp : Nat → Bool), Below W.heap.size W W' → (∀ q ∈ y0.2, sp q.block = true) → DataW.trod enc Tryd.prog W' 0 sp true 2 22 [c0] = some y0 := by
  rcases open_ints Tryd.underlying22 Tryd.underlying3 cells_int hf with ⟨hcs, hx⟩ | ⟨a, len', cap', zs, hcs, _, hl, hm, hz, hx, hcell, hwz⟩
  · simp at hcs
    subst hcs
    subst hx
    refine ⟨none, [], 0, rfl, ⟨Nat.le_refl _, by omega, fun j hj => by simp at hj⟩, fun W' sp _ _ => ?_⟩
    have h := (shut_slice_nil Tryd.underlying22 : DataW.Trod enc Tryd.prog W' 0 sp true 22 (.slice none 0 0) _ _)
    simp [DataW.trod, Tryd.underlying22]
  · simp at hcs
    subst hcs
    subst hx
    rw [if_pos rfl] at hz
    have e1 : (zs.take len').length = len' := by rw [List.length_take]; omega
    refine ⟨some a, zs.take len', cap', by rw [e1], ⟨by omega, by unfold maxLen at hm; omega, fun j hj => ?_⟩, fun W' sp hb hsp => ?_⟩
    · obtain ⟨b, off, rfl, hc⟩ := ints_at hcell (by omega)
      refine ⟨b, off, rfl, ?_⟩
      rw [hc j (by omega), M.el_take (by omega)]
      rfl
    · refine shut_ints 0 Tryd.underlying22 Tryd.underlying3 cells_int (Nat.zero_le _) hl hm ?_ (fun i hi => (hb.cell (p := a.add i) (lt_of_cell (hcell i hi))).trans (hcell i hi)) hwz
      by_cases h0 : 0 < zs.length
      · rw [if_pos]
        · exact hz
        · refine hsp (.cell a.block (a.off + 0)) ?_
          unfold MemPlace.row
          exact List.mem_map.2 ⟨0, List.mem_range.2 h0, rfl⟩
      · split <;> omega

theorem list1 {α : Type} (l : List α) (h : (⟨l⟩ : Array α).size = 1) : ∃ a, l = [a] := by
  match l, h with
  | [a], _ => exact ⟨a, rfl⟩
set_option maxRecDepth 100000 in
theorem nat_param {H : Type} {enc : TypeId × Value → H} {W : World} {base : Nat} {v : Value} {d : DataW H} {p : List MemPlace}
    (hv : Value.okWide Tryd.prog W .any base 24 v) (hd : DataW.Trod enc Tryd.prog W 0 (fun _ => true) true 24 v d p) :
    ∃ (a : Option Addr) (ts : List Int) (cap : Nat), v = .agg #[.slice a ts.length cap] ∧ Row W a ts cap ∧
      ∀ (W' : World) (sp : Nat → Bool), Below W.heap.size W W' → (∀ q ∈ p, sp q.block = true) → DataW.Trod enc Tryd.prog W' 0 sp true 24 v d p := by
  obtain ⟨cs, rfl, hsz⟩ := okWide_struct Tryd.underlying24 hv
  rw [cells_nat] at hsz
  obtain ⟨l⟩ := cs
  obtain ⟨c0, rfl⟩ := list1 l hsz
  obtain ⟨fuel, hf⟩ := hd
  obtain ⟨y0, n, hx, _, h0⟩ := trod_struct1 Tryd.underlying24 hf
  simp [Value.cells, cells_ints] at h0
  simp only [Prod.mk.injEq] at hx
  obtain ⟨rfl, rfl⟩ := hx
  obtain ⟨a, ts, cap, rfl, hr, ha⟩ := ints_again h0
  refine ⟨a, ts, cap, rfl, hr, fun W' sp hb hsp => ?_⟩
  have h1 := ha W' sp hb hsp
  exact ⟨3, trod_struct1_mk Tryd.underlying24 (by simp [Value.cells, cells_nat]) (by simpa [Value.cells, cells_ints] using h1)⟩
end Go.Proofs.YtneimnacanhjmaaDoor
