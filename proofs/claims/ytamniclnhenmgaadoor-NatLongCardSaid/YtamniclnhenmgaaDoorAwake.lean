/- The statements' own check 'awake'. -/
import Derived.Test.YtamniclnhenmgaaDoorOf
import Derived.Test.YtamniclnhenmgaaDoorMul
import Derived.Test.YtamniclnhenmgaaDoorChoose
import Derived.Test.YtamniclnhenmgaaDoorPrint
namespace Go.Proofs.YtamniclnhenmgaaDoor
open Go Go.RowKit Go.Shelf

theorem prPost_at {n K : Nat} {e : Ending} (h : PrPost n e) (hK : n < 10 ^ K) : e = .returned (.string ⟨((M.decs K n).map UInt8.ofNat).toArray⟩) := by
  obtain ⟨k, hk, rfl⟩ := h
  rw [M.decs_any hk hK]

theorem dig_two (n : Nat) (h1 : 16777216 ≤ n) (h2 : n < 281474976710656) : (M.dig n).length = 2 := by
  rw [M.dig_pos (by omega), M.dig_pos (n := n / 16777216) (by omega), show n / 16777216 / 16777216 = 0 by omega, M.dig_zero]; rfl

theorem small_len {n : Nat} (h : n < 16777216 ^ 3) : (M.dig n).length ≤ 200 := Nat.le_trans (M.dig_len_le.2 h) (by omega)
theorem decs15 : (M.decs 15 281474976710656).map UInt8.ofNat = [50, 56, 49, 52, 55, 52, 57, 55, 54, 55, 49, 48, 54, 53, 54] := by decide
theorem decs2 : (M.decs 2 10).map UInt8.ofNat = [49, 48] := by decide

set_option maxRecDepth 100000 in
theorem print_big {a : Option Addr} {cap : Nat} {w : World} (hR : Row w a (M.dig 281474976710656) cap) :
    Calls Tryd.prog 39 #[.agg #[.slice a (M.dig 281474976710656).length cap]] w fun e W' => e = .returned (.string ⟨#[50, 56, 49, 52, 55, 52, 57, 55, 54, 55, 49, 48, 54, 53, 54]⟩) ∧ Below w.heap.size w W' :=
  (print_pos a cap 281474976710656 w (by omega) (small_len (by decide)) hR).mono fun _ _ h => ⟨(prPost_at (K := 15) h.1 (by decide)).trans (by rw [decs15]), h.2⟩

set_option maxRecDepth 100000 in
theorem print_ten {a : Option Addr} {cap : Nat} {w : World} (hR : Row w a (M.dig 10) cap) :
    Calls Tryd.prog 39 #[.agg #[.slice a (M.dig 10).length cap]] w fun e W' => e = .returned (.string ⟨#[49, 48]⟩) ∧ Below w.heap.size w W' :=
  (print_pos a cap 10 w (by omega) (small_len (by decide)) hR).mono fun _ _ h => ⟨(prPost_at (K := 2) h.1 (by decide)).trans (by rw [decs2]), h.2⟩

set_option maxRecDepth 100000 in
set_option maxHeartbeats 2000000 in
/-- **awake** -/
theorem awake_any (w : World) : Calls Tryd.prog 18 #[] w fun e W' => e = .returned (.bool true) ∧ Below w.heap.size w W' := by
  have ho := of_any 16777216 w (by omega)
  have HO := Lib.hid ho
  have hl2 : (((M.dig 16777216).length : Int) == 2) = true := by rw [dig_two _ (by omega) (by omega)]; rfl
  have HL := Lib.hid hl2
  clear ho hl2
  go_enter Tryd.func18, Tryd.ntmps18
  go_wp2_with fail
  refine HO.out.mono ?_
  rintro e w1 ⟨v, rfl, ⟨a, cap, rfl, hr⟩, hb1⟩
  have HR1 := Lib.hid hr
  have HB1 := Lib.hid hb1
  have hs1 := hb1.size
  clear hr hb1 HO
  go_wp2_with fail
  have hm := mul_any a a cap cap 16777216 16777216 (w1.alloc (.cells #[.slice a (M.dig 16777216).length cap] 24)) (small_len (by decide)) (small_len (by decide)) (HR1.out.alloc _) (HR1.out.alloc _)
  refine hm.mono ?_
  rintro e w2 ⟨hres, hb2⟩
  obtain ⟨v, rfl, a2, cap2, rfl, hr2⟩ := hres.ok (small_len (by decide))
  have c1 := (hb2.cell (p := ⟨w1.heap.size, 0, none⟩) (by simp)).trans (cell_new w1 (.slice a (M.dig 16777216).length cap) 24)
  have HR2 := Lib.hid (show Row w2 a2 (M.dig 281474976710656) cap2 from hr2)
  rw [show (16777216 * 16777216 : Nat) = 281474976710656 from rfl]
  have hs2 : w1.heap.size < w2.heap.size := by have := hb2.size; simp at this; omega
  have HB2 := Lib.hid (HB1.out.trans (((Below.refl _ w1).alloc hs1 _).trans (hb2.mono (by simp; omega))))
  clear hb2 hm hres hr2
  go_wp2_with fail
  have hc := choose_num 5 2 (w2.alloc (.cells #[.slice a2 (M.dig 281474976710656).length cap2] 24)) (by omega)
  refine hc.mono ?_
  rintro e w3 ⟨v, rfl, ⟨a3, cap3, rfl, hr3⟩, hb3⟩
  have d1 := (hb3.cell (p := ⟨w1.heap.size, 0, none⟩) (by simp; omega)).trans (cell_later _ c1)
  have d2 := (hb3.cell (p := ⟨w2.heap.size, 0, none⟩) (by simp)).trans (cell_new w2 (.slice a2 (M.dig 281474976710656).length cap2) 24)
  have hch : chI 5 2 = 10 := by decide
  rw [hch] at hr3 ⊢
  have HR3 := Lib.hid hr3
  have hs3 : w2.heap.size < w3.heap.size := by have := hb3.size; simp at this; omega
  have HR2' := Lib.hid ((HR2.out.alloc (.cells #[.slice a2 (M.dig 281474976710656).length cap2] 24)).below hb3)
  have HB3 := Lib.hid (HB2.out.trans (((Below.refl _ w2).alloc (by omega) _).trans (hb3.mono (by simp; omega))))
  clear hb3 hc hch hr3 c1
  have hl2 := HL.out
  have hs13 : w1.heap.size < w3.heap.size := by omega
  have hn13 : ¬ w1.heap.size = w3.heap.size := by omega
  have hn23 : ¬ w2.heap.size = w3.heap.size := by omega
  go_wp2_with fail
  refine (print_big (HR2'.out.alloc _)).mono ?_
  rintro e w4 ⟨rfl, hb4⟩
  have d3 := (hb4.cell (p := ⟨w3.heap.size, 0, none⟩) (by simp)).trans (cell_new w3 (.slice a3 (M.dig 10).length cap3) 24)
  have HR4 := Lib.hid ((HR3.out.alloc (.cells #[.slice a3 (M.dig 10).length cap3] 24)).below hb4)
  have HB4 := Lib.hid (HB3.out.trans (((Below.refl _ w3).alloc (by have := HB3.out.size; omega) _).trans (hb4.mono (by have := HB3.out.size; simp; omega))))
  clear hb4 d1 d2
  go_wp2_with fail
  refine (print_ten HR4.out).mono ?_
  rintro e w5 ⟨rfl, hb5⟩
  have HB5 := Lib.hid (HB4.out.trans (hb5.mono (by have := HB4.out.size; omega)))
  clear hb5
  go_wp2_with fail
  go_ret
  exact ⟨rfl, HB5.out⟩
end Go.Proofs.YtamniclnhenmgaaDoor
