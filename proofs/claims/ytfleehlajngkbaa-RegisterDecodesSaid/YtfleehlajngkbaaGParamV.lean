/- A parameter of type []uint64 (BitVec 64). -/
import Derived.Test.YtfleehlajngkbaaGParam
import Derived.Test.YtfleehlajngkbaaGU64
namespace Go.Proofs.Ytfleehlajngkbaa.G
open Go Go.ChangeShapes Go.WideShapes Go.ChangeAt Go.RowKit

theorem u64_lo {a : Int} (h : (Lit.int .u64 a).wf = true) : 0 ≤ a := by simp [Lit.wf, IntKind.min, IntKind.max, IntKind.bits, IntKind.signed] at h; omega
theorem u64_hi {a : Int} (h : (Lit.int .u64 a).wf = true) : a < 18446744073709551616 := by simp [Lit.wf, IntKind.min, IntKind.max, IntKind.bits, IntKind.signed] at h; omega
def toV (z : Int) : V := BitVec.ofNat 64 z.toNat
theorem toV_v {z : Int} (h : (Lit.int .u64 z).wf = true) : ((toV z).toNat : Int) = z := by
  have h1 := u64_lo h
  have h2 := u64_hi h
  unfold toV
  rw [BitVec.toNat_ofNat, Nat.mod_eq_of_lt (by omega)]
  omega
theorem cells_vec : Try.prog.cellsOf 38 = 1 := by kernel_rfl
theorem cells_rows : Try.prog.cellsOf 22 = 1 := by kernel_rfl
theorem getD_memV {zs : List Int} {j : Nat} (h : j < zs.length) : zs.getD j 0 ∈ zs := by
  rw [List.getD, List.getElem?_eq_getElem h]; exact List.getElem_mem h
theorem vec_again {H : Type} {enc : TypeId × Value → H} {W : World} {c0 : Value} {y0 : DataW H × List MemPlace} {n : Nat}
    (hf : DataW.trod enc Try.prog W 0 (fun _ => true) true n 22 [c0] = some y0) :
    ∃ (a : Option Addr) (ts : List V) (cap : Nat), c0 = .slice a ts.length cap ∧ Row W a ts cap ∧
      ∀ (W' : World) (sp : Nat → Bool), Below W.heap.size W W' → (∀ q ∈ y0.2, sp q.block = true) → DataW.trod enc Try.prog W' 0 sp true 2 22 [c0] = some y0 := by
  rcases open_ints Try.underlying22 Try.underlying38 cells_vec hf with ⟨hcs, hx⟩ | ⟨a, len', cap', zs, hcs, _, hl, hm, hz, hx, hcell, hwz⟩
  · simp at hcs
    subst hcs
    subst hx
    refine ⟨none, [], 0, rfl, Row.nil _ _ _ (by omega), fun W' sp _ _ => ?_⟩
    simp [DataW.trod, Try.underlying22]
  · simp at hcs
    subst hcs
    subst hx
    rw [if_pos rfl] at hz
    have e1 : ((zs.take len').map toV).length = len' := by rw [List.length_map, List.length_take]; omega
    refine ⟨some a, (zs.take len').map toV, cap', by rw [e1], ⟨by omega, by unfold maxLen at hm; omega, fun j hj => ?_⟩, fun W' sp hb hsp => ?_⟩
    · obtain ⟨b, off, rfl, hc⟩ := ints_at hcell (by omega)
      refine ⟨b, off, rfl, ?_⟩
      have hjl : j < (zs.take len').length := by rw [List.length_map] at hj; exact hj
      have hjz : j < zs.length := by rw [List.length_take] at hjl; omega
      show _ = some (Value.int .u64 ((el ((zs.take len').map toV) j).toNat : Int))
      rw [hc j hjz, el_lt hj, List.getElem_map, toV_v (hwz _ (by rw [List.getElem_take]; exact List.getElem_mem hjz)), List.getElem_take, List.getD, List.getElem?_eq_getElem hjz]
      rfl
    · refine shut_ints 0 Try.underlying22 Try.underlying38 cells_vec (Nat.zero_le _) hl hm ?_ (fun i hi => (hb.cell (p := a.add i) (lt_of_cell (hcell i hi))).trans (hcell i hi)) hwz
      by_cases h0 : 0 < zs.length
      · rw [if_pos]
        · exact hz
        · refine hsp (.cell a.block (a.off + 0)) ?_
          unfold MemPlace.row
          exact List.mem_map.2 ⟨0, List.mem_range.2 h0, rfl⟩
      · split <;> omega
set_option maxRecDepth 100000 in
theorem masks_param {H : Type} {enc : TypeId × Value → H} {W : World} {base : Nat} {v : Value} {d : DataW H} {p : List MemPlace}
    (hv : Value.okWide Try.prog W .any base 22 v) (hd : DataW.Trod enc Try.prog W 0 (fun _ => true) true 22 v d p) :
    ∃ (a : Option Addr) (R : List V) (cap : Nat), v = .slice a R.length cap ∧ Row W a R cap ∧
      ∀ (W' : World) (sp : Nat → Bool), Below W.heap.size W W' → (∀ q ∈ p, sp q.block = true) → DataW.Trod enc Try.prog W' 0 sp true 22 v d p := by
  obtain ⟨a0, len, cap, rfl⟩ := okWide_slice Try.underlying22 hv
  obtain ⟨fuel, hf⟩ := hd
  simp only [Value.cells] at hf
  obtain ⟨b, R, cb, e, hr, ha⟩ := vec_again hf
  exact ⟨b, R, cb, e, hr, fun W' sp hb hsp => ⟨2, by simpa [Value.cells] using ha W' sp hb hsp⟩⟩
end Go.Proofs.Ytfleehlajngkbaa.G
