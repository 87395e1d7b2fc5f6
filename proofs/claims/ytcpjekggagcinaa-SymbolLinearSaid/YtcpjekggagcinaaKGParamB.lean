/- Parameters of type []byte. -/
import Derived.Test.YtcpjekggagcinaaK4
namespace Go.Proofs.Ytcpjekggagcinaa.G
open Go Go.ChangeShapes Go.WideShapes Go.ChangeAt Go.RowKit

theorem u8_lo {a : Int} (h : (Lit.int .u8 a).wf = true) : 0 ≤ a := by simp [Lit.wf, IntKind.min, IntKind.max, IntKind.bits, IntKind.signed] at h; omega
theorem u8_hi {a : Int} (h : (Lit.int .u8 a).wf = true) : a ≤ 255 := by simp [Lit.wf, IntKind.min, IntKind.max, IntKind.bits, IntKind.signed] at h; omega
theorem cells_byte : Try.prog.cellsOf 5 = 1 := by kernel_rfl
def toY (z : Int) : Y := BitVec.ofNat 8 z.toNat
theorem toY_v {z : Int} (h : (Lit.int .u8 z).wf = true) : ((toY z).toNat : Int) = z := by
  have h1 := u8_lo h
  have h2 := u8_hi h
  unfold toY
  rw [BitVec.toNat_ofNat, Nat.mod_eq_of_lt (by omega)]
  omega
theorem getD_mem {zs : List Int} {j : Nat} (h : j < zs.length) : zs.getD j 0 ∈ zs := by
  rw [List.getD, List.getElem?_eq_getElem h]; exact List.getElem_mem h

set_option maxRecDepth 100000 in
theorem bytes_param {H : Type} {enc : TypeId × Value → H} {W : World} {base : Nat} {v : Value} {d : DataW H} {p : List MemPlace}
    (hv : Value.okWide Try.prog W .any base 30 v) (hd : DataW.Trod enc Try.prog W 0 (fun _ => true) true 30 v d p) :
    ∃ (a : Option Addr) (ts : List Y) (cap : Nat), v = .slice a ts.length cap ∧ Row W a ts cap ∧
      ∀ (W' : World) (sp : Nat → Bool), Below W.heap.size W W' → (∀ q ∈ p, sp q.block = true) → DataW.Trod enc Try.prog W' 0 sp true 30 v d p := by
  obtain ⟨a0, len, cap, rfl⟩ := okWide_slice Try.underlying30 hv
  obtain ⟨fuel, hf⟩ := hd
  rcases open_ints Try.underlying30 Try.underlying5 cells_byte hf with ⟨hcs, hx⟩ | ⟨a, len', cap', zs, hcs, _, hl, hm, hz, hx, hcell, hwz⟩
  · simp [Value.cells] at hcs
    obtain ⟨rfl, rfl, rfl⟩ := hcs
    simp only [Prod.mk.injEq] at hx
    obtain ⟨rfl, rfl⟩ := hx
    exact ⟨none, [], 0, rfl, Row.nil _ _ _ (by omega), fun _ _ _ _ => shut_slice_nil Try.underlying30⟩
  · simp [Value.cells] at hcs
    obtain ⟨rfl, rfl, rfl⟩ := hcs
    simp only [Prod.mk.injEq] at hx
    obtain ⟨rfl, rfl⟩ := hx
    rw [if_pos rfl] at hz
    have e1 : ((zs.take len).map toY).length = len := by rw [List.length_map, List.length_take]; omega
    refine ⟨some a, (zs.take len).map toY, cap, by rw [e1], ⟨by omega, by unfold maxLen at hm; omega, fun j hj => ?_⟩, fun W' sp hb hsp => ?_⟩
    · obtain ⟨b, off, rfl, hc⟩ := ints_at hcell (by omega)
      refine ⟨b, off, rfl, ?_⟩
      have hjl : j < (zs.take len).length := by rw [List.length_map] at hj; exact hj
      have hjz : j < zs.length := by rw [List.length_take] at hjl; omega
      show _ = some (Value.int .u8 ((el ((zs.take len).map toY) j).toNat : Int))
      rw [hc j hjz, el_lt hj, List.getElem_map, toY_v (hwz _ (by rw [List.getElem_take]; exact List.getElem_mem hjz)), List.getElem_take, List.getD, List.getElem?_eq_getElem hjz]
      rfl
    · refine ⟨2, shut_ints 0 Try.underlying30 Try.underlying5 cells_byte (Nat.zero_le _) hl hm ?_ (fun i hi => (hb.cell (p := a.add i) (lt_of_cell (hcell i hi))).trans (hcell i hi)) hwz⟩
      by_cases h0 : 0 < zs.length
      · rw [if_pos]
        · exact hz
        · refine hsp (.cell a.block (a.off + 0)) ?_
          unfold MemPlace.row
          exact List.mem_map.2 ⟨0, List.mem_range.2 h0, rfl⟩
      · split <;> omega
end Go.Proofs.Ytcpjekggagcinaa.G
