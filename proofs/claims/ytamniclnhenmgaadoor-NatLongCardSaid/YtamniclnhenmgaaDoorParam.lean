/- A parameter of type []int: its row of numbers, and its reading again behind a call that only makes memory. -/
import Derived.Test.YtamniclnhenmgaaDoorFrame
import Derived.Test.YtamniclnhenmgaaDoorPascal
namespace Go.Proofs.YtamniclnhenmgaaDoor
open Go Go.ChangeShapes Go.WideShapes Go.ChangeAt Go.RowKit

theorem cells_int : Tryd.prog.cellsOf 3 = 1 := by kernel_rfl

set_option maxRecDepth 100000 in
theorem slice_param {H : Type} {enc : TypeId × Value → H} {W : World} {base : Nat} {v : Value} {d : DataW H} {p : List MemPlace}
    (hv : Value.okWide Tryd.prog W .any base 22 v) (hd : DataW.Trod enc Tryd.prog W 0 (fun _ => true) true 22 v d p) :
    ∃ (a : Option Addr) (ts : List Int) (cap : Nat), v = .slice a ts.length cap ∧ Row W a ts cap ∧
      ∀ (W' : World) (sp : Nat → Bool), Below W.heap.size W W' → (∀ q ∈ p, sp q.block = true) → DataW.Trod enc Tryd.prog W' 0 sp true 22 v d p := by
  obtain ⟨a0, len, cap, rfl⟩ := okWide_slice Tryd.underlying22 hv
  obtain ⟨fuel, hf⟩ := hd
  rcases open_ints Tryd.underlying22 Tryd.underlying3 cells_int hf with ⟨hcs, hx⟩ | ⟨a, len', cap', zs, hcs, _, hl, hm, hz, hx, hcell, hwz⟩
  · simp [Value.cells] at hcs
    obtain ⟨rfl, rfl, rfl⟩ := hcs
    simp only [Prod.mk.injEq] at hx
    obtain ⟨rfl, rfl⟩ := hx
    exact ⟨none, [], 0, rfl, ⟨Nat.le_refl _, by omega, fun j hj => by simp at hj⟩, fun _ _ _ _ => shut_slice_nil Tryd.underlying22⟩
  · simp [Value.cells] at hcs
    obtain ⟨rfl, rfl, rfl⟩ := hcs
    simp only [Prod.mk.injEq] at hx
    obtain ⟨rfl, rfl⟩ := hx
    rw [if_pos rfl] at hz
    have e1 : (zs.take len).length = len := by rw [List.length_take]; omega
    refine ⟨some a, zs.take len, cap, by rw [e1], ⟨by omega, by unfold maxLen at hm; omega, fun j hj => ?_⟩, fun W' sp hb hsp => ?_⟩
    · obtain ⟨b, off, rfl, hc⟩ := ints_at hcell (by omega)
      refine ⟨b, off, rfl, ?_⟩
      rw [hc j (by omega), M.el_take (by omega)]
      rfl
    · refine ⟨2, shut_ints 0 Tryd.underlying22 Tryd.underlying3 cells_int (Nat.zero_le _) hl hm ?_ (fun i hi => (hb.cell (p := a.add i) (lt_of_cell (hcell i hi))).trans (hcell i hi)) hwz⟩
      by_cases h0 : 0 < zs.length
      · rw [if_pos]
        · exact hz
        · refine hsp (.cell a.block (a.off + 0)) ?_
          unfold MemPlace.row
          exact List.mem_map.2 ⟨0, List.mem_range.2 h0, rfl⟩
      · split <;> omega
end Go.Proofs.YtamniclnhenmgaaDoor
