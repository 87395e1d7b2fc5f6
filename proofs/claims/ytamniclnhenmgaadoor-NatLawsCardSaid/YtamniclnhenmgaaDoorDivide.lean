/- nat.Divide and nat.Gcd. -/
import Derived.Test.YtamniclnhenmgaaDoorDivLimbs
import Derived.Test.YtamniclnhenmgaaDoorAdd
namespace Go.Proofs.YtamniclnhenmgaaDoor
open Go Go.RowKit Go.Shelf

theorem dig_len_div (x y : Nat) : (M.dig (x / y)).length ≤ (M.dig x).length := M.dig_len_le.2 (Nat.lt_of_le_of_lt (Nat.div_le_self x y) (M.dig_len_le.1 (Nat.le_refl _)))
theorem dig_len_mod (x y : Nat) : (M.dig (x % y)).length ≤ (M.dig x).length := M.dig_len_le.2 (Nat.lt_of_le_of_lt (Nat.mod_le x y) (M.dig_len_le.1 (Nat.le_refl _)))
theorem dig_len_divmul (x y : Nat) : (M.dig (x / y * y)).length ≤ (M.dig x).length := M.dig_len_le.2 (Nat.lt_of_le_of_lt (Nat.div_mul_le_self x y) (M.dig_len_le.1 (Nat.le_refl _)))

def DivRes (x y : Nat) (e : Ending) (W : World) : Prop :=
  ∃ a1 c1 a2 c2, e = .returned (.tuple #[.agg #[.slice a1 (M.dig (x / y)).length c1], .agg #[.slice a2 (M.dig (x % y)).length c2], .int .i64 0]) ∧ Row W a1 (M.dig (x / y)) c1 ∧ Row W a2 (M.dig (x % y)) c2

/-- Four boxes: two parameters, two results. -/
theorem boxes4 (w : World) (u v : Value) : ∃ w4 : World, w4 = (boxes w u v).alloc (.cells #[.slice none 0 0] 24) ∧ w4.heap.size = w.heap.size + 4 ∧ Below w.heap.size w w4 ∧
    w4.cell? ⟨w.heap.size, 0, none⟩ = some u ∧ w4.cell? ⟨w.heap.size + 1, 0, none⟩ = some v ∧ w4.cell? ⟨w.heap.size + 1 + 1, 0, none⟩ = some (.slice none 0 0) ∧ w4.frozen? ⟨w.heap.size + 1 + 1, 0, none⟩ = false ∧
    w4.cell? ⟨w.heap.size + 1 + 1 + 1, 0, none⟩ = some (.slice none 0 0) ∧ w4.frozen? ⟨w.heap.size + 1 + 1 + 1, 0, none⟩ = false := by
  obtain ⟨h0, h1, h2, h3⟩ := boxes_cells w u v
  have hs := boxes_size w u v
  have h4 := cell_new (boxes w u v) (.slice none 0 0) 24
  have h5 := frozen_new (boxes w u v) (.slice none 0 0) 24
  rw [hs] at h4 h5
  exact ⟨_, rfl, by rw [World.size_alloc, hs], (boxes_below w u v).alloc (by rw [hs]; omega) _, cell_later _ h0, cell_later _ h1, cell_later _ h2, frozen_later _ h2 h3, h4, h5⟩

set_option maxRecDepth 100000 in
set_option maxHeartbeats 1000000 in
theorem divide_any (a b : Option Addr) (ca cb x y : Nat) (w : World) (hy : 0 < y) (hx200 : (M.dig x).length ≤ 200) (hy200 : (M.dig y).length ≤ 200) (hA : Row w a (M.dig x) ca) (hB : Row w b (M.dig y) cb) :
    Calls Tryd.prog 40 #[.agg #[.slice a (M.dig x).length ca], .agg #[.slice b (M.dig y).length cb]] w fun e W' => DivRes x y e W' ∧ Below w.heap.size w W' := by
  have hyl : ¬ (M.dig y).length = 0 := by intro h; have := M.dig_nil.1 (List.length_eq_zero_iff.1 h); omega
  have Hvx := Lib.hid (vld_dig hx200)
  have Hvy := Lib.hid (vld_dig hy200)
  have HA := Lib.hid hA
  have HB := Lib.hid hB
  clear hA hB
  go_enter Tryd.func40, Tryd.ntmps40
  go_wp2_with fail
  obtain ⟨w4, hw4, hs4, hb4, c0, c1, c2, f2, c3, f3⟩ := boxes4 w (.slice a (M.dig x).length ca) (.slice b (M.dig y).length cb)
  rw [show ((((w.alloc (.cells #[.slice a (M.dig x).length ca] 24)).alloc (.cells #[.slice b (M.dig y).length cb] 24)).alloc (.cells #[.slice none 0 0] 24)).alloc (.cells #[.slice none 0 0] 24)) = w4 from hw4.symm]
  have HB4 := Lib.hid hb4
  clear hw4 hb4
  refine (valid_yes a _ ca _ (HA.out.below HB4.out) Hvx.out).mono ?_
  rintro e w5 ⟨rfl, hb5⟩
  have d0 := cell_below hb5 c0
  have d1 := cell_below hb5 c1
  have d2 := cell_below hb5 c2
  have g2 := frozen_below hb5 c2 f2
  have d3 := cell_below hb5 c3
  have g3 := frozen_below hb5 c3 f3
  have HB5 := Lib.hid (HB4.out.trans (hb5.mono HB4.out.size))
  have hs5 := hb5.size
  clear c0 c1 c2 f2 c3 f3 hb5
  go_wp2_with fail
  refine (valid_yes b _ cb _ (HB.out.below HB5.out) Hvy.out).mono ?_
  rintro e w6 ⟨rfl, hb6⟩
  have c0 := cell_below hb6 d0
  have c1 := cell_below hb6 d1
  have c2 := cell_below hb6 d2
  have f2 := frozen_below hb6 d2 g2
  have c3 := cell_below hb6 d3
  have f3 := frozen_below hb6 d3 g3
  have HB6 := Lib.hid (HB5.out.trans (hb6.mono HB5.out.size))
  have hs6 := hb6.size
  clear d0 d1 d2 g2 d3 g3 hb6
  have hyn : (((M.dig y).length : Int) == 0) = false := beq_eq_false_iff_ne.2 (by omega)
  go_wp2_with fail
  refine (divideLimbs_any a b ca cb x y w6 hy hx200 hy200 (HA.out.below HB6.out) (HB.out.below HB6.out)).mono ?_
  rintro e w7 ⟨a1, p1, a2, p2, rfl, hr1, hr2, hf1, hf2, hb7⟩
  have HF1 := Lib.hid hf1
  have HF2 := Lib.hid hf2
  have d2 := cell_below hb7 c2
  have g2 := frozen_below hb7 c2 f2
  have d3 := cell_below hb7 c3
  have g3 := frozen_below hb7 c3 f3
  have HB7 := Lib.hid (HB6.out.trans (hb7.mono HB6.out.size))
  have hs7 := hb7.size
  have HR1 := Lib.hid hr1
  have HR2 := Lib.hid hr2
  clear c0 c1 c2 f2 c3 f3 hb7 hr1 hr2 hf1 hf2
  go_wp2_with fail
  refine bodyPost_ret (v := .tuple #[.agg #[.slice a1 (M.dig (x / y)).length p1], .agg #[.slice a2 (M.dig (x % y)).length p2], .int .i64 0]) (by simp [results, Tryd.results40, go_sem, d2, d3]) rfl ⟨⟨a1, p1, a2, p2, rfl, ?_, ?_⟩, ?_⟩
  · exact (HR1.out.setFresh HF1.out (p := ⟨w.heap.size + 1 + 1, 0, none⟩) (by show w.heap.size + 1 + 1 < _; omega) _).setFresh HF1.out (p := ⟨w.heap.size + 1 + 1 + 1, 0, none⟩) (by show w.heap.size + 1 + 1 + 1 < _; omega) _
  · exact (HR2.out.setFresh HF2.out (p := ⟨w.heap.size + 1 + 1, 0, none⟩) (by show w.heap.size + 1 + 1 < _; omega) _).setFresh HF2.out (p := ⟨w.heap.size + 1 + 1 + 1, 0, none⟩) (by show w.heap.size + 1 + 1 + 1 < _; omega) _
  · exact (HB7.out.setCell (p := ⟨w.heap.size + 1 + 1, 0, none⟩) (by simp; omega) _).setCell (p := ⟨w.heap.size + 1 + 1 + 1, 0, none⟩) (by simp; omega) _

set_option maxRecDepth 100000 in
set_option maxHeartbeats 1000000 in
theorem divide_zero (a b : Option Addr) (ca cb x : Nat) (w : World) (hx200 : (M.dig x).length ≤ 200) (hA : Row w a (M.dig x) ca) (hB : Row w b [] cb) :
    Calls Tryd.prog 40 #[.agg #[.slice a (M.dig x).length ca], .agg #[.slice b 0 cb]] w fun e W' => e = .returned (.tuple #[.agg #[.slice none 0 0], .agg #[.slice none 0 0], .int .i64 4]) ∧ Below w.heap.size w W' := by
  have Hvx := Lib.hid (vld_dig hx200)
  have Hvy : Hid (Vld []) := by have := vld_dig (n := 0) (by rw [M.dig_zero]; simp); rwa [M.dig_zero] at this
  have HA := Lib.hid hA
  have HB := Lib.hid hB
  clear hA hB
  go_enter Tryd.func40, Tryd.ntmps40
  go_wp2_with fail
  obtain ⟨w4, hw4, hs4, hb4, c0, c1, c2, f2, c3, f3⟩ := boxes4 w (.slice a (M.dig x).length ca) (.slice b 0 cb)
  rw [show ((((w.alloc (.cells #[.slice a (M.dig x).length ca] 24)).alloc (.cells #[.slice b 0 cb] 24)).alloc (.cells #[.slice none 0 0] 24)).alloc (.cells #[.slice none 0 0] 24)) = w4 from hw4.symm]
  have HB4 := Lib.hid hb4
  clear hw4 hb4
  refine (valid_yes a _ ca _ (HA.out.below HB4.out) Hvx.out).mono ?_
  rintro e w5 ⟨rfl, hb5⟩
  have d0 := cell_below hb5 c0
  have d1 := cell_below hb5 c1
  have d2 := cell_below hb5 c2
  have g2 := frozen_below hb5 c2 f2
  have d3 := cell_below hb5 c3
  have g3 := frozen_below hb5 c3 f3
  have HB5 := Lib.hid (HB4.out.trans (hb5.mono HB4.out.size))
  have hs5 := hb5.size
  clear c0 c1 c2 f2 c3 f3 hb5
  go_wp2_with fail
  refine (valid_yes b [] cb _ (HB.out.below HB5.out) Hvy.out).mono ?_
  rintro e w6 ⟨rfl, hb6⟩
  have c0 := cell_below hb6 d0
  have c1 := cell_below hb6 d1
  have c2 := cell_below hb6 d2
  have f2 := frozen_below hb6 d2 g2
  have c3 := cell_below hb6 d3
  have f3 := frozen_below hb6 d3 g3
  have HB6 := Lib.hid (HB5.out.trans (hb6.mono HB5.out.size))
  have hs6 := hb6.size
  clear d0 d1 d2 g2 d3 g3 hb6
  go_wp2_with fail
  refine bodyPost_ret (v := .tuple #[.agg #[.slice none 0 0], .agg #[.slice none 0 0], .int .i64 4]) (by simp [results, Tryd.results40, go_sem, c2, c3]) rfl ⟨rfl, ?_⟩
  exact (HB6.out.setCell (p := ⟨w.heap.size + 1 + 1, 0, none⟩) (by simp; omega) _).setCell (p := ⟨w.heap.size + 1 + 1 + 1, 0, none⟩) (by simp; omega) _
end Go.Proofs.YtamniclnhenmgaaDoor
