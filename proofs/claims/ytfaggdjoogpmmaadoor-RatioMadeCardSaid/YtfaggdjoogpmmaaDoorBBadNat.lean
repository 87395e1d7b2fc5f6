/- What the functions of nat and of the reference return where an argument is no number. -/
import Derived.Test.YtfaggdjoogpmmaaDoorBBadRat
namespace Go.Proofs.YtfaggdjoogpmmaaDoor
open Go Go.RowKit Go.Shelf

set_option maxRecDepth 100000 in
set_option maxHeartbeats 1000000 in
theorem add_bad (a b : Option Addr) (ca cb : Nat) (zs ys : List Int) (w : World) (hA : Row w a zs ca) (hB : Row w b ys cb) (h : ¬ (Vld zs ∧ Vld ys)) :
    Calls Tryd.prog 26 #[.agg #[.slice a zs.length ca], .agg #[.slice b ys.length cb]] w fun e W' => e = .returned (.tuple #[.agg #[.slice none 0 0], .int .i64 1]) ∧ Below w.heap.size w W' := by
  have HS := Lib.hid (BSt.nat hA hB)
  clear hA hB
  go_enter Tryd.func26, Tryd.ntmps26
  go_wp2_with fail
  generalize (((w.alloc (.cells #[.slice a zs.length ca] 24)).alloc (.cells #[.slice b ys.length cb] 24)).alloc (.cells #[.slice none 0 0] 24)) = w3 at *
  by_cases hz : Vld zs
  · have HY := Lib.hid (show ¬ Vld ys from fun hy => h ⟨hz, hy⟩)
    have HZ := Lib.hid hz
    clear h hz
    refine (valid_yes a zs ca _ HS.out.ra HZ.out).mono ?_
    rintro e w4 ⟨rfl, hb4⟩
    have HS4 := Lib.hid (HS.out.keep hb4)
    clear hb4 HS
    have d1 := HS4.out.c1
    go_wp2_with fail
    refine (valid_no b ys cb _ HS4.out.rb HY.out).mono ?_
    rintro e w5 ⟨rfl, hb5⟩
    have HS5 := Lib.hid (HS4.out.keep hb5)
    clear hb5 HS4 d1
    have r0 := (HS5.out.res ⟨w.heap.size + 1 + 1, 0, none⟩ (by simp)).1
    have f0 := (HS5.out.res ⟨w.heap.size + 1 + 1, 0, none⟩ (by simp)).2
    have HB := Lib.hid HS5.out.below
    clear HS5
    go_wp2_with fail
    refine bodyPost_ret (v := .tuple #[.agg #[.slice none 0 0], .int .i64 1]) (by simp [results, Tryd.results26, go_sem, r0]) rfl ⟨rfl, (HB.out.setCell (p := ⟨w.heap.size + 1 + 1, 0, none⟩) (by show _ ≤ w.heap.size + 1 + 1; omega) _)⟩
  · have HZ := Lib.hid hz
    clear h hz
    refine (valid_no a zs ca _ HS.out.ra HZ.out).mono ?_
    rintro e w4 ⟨rfl, hb4⟩
    have HS4 := Lib.hid (HS.out.keep hb4)
    clear hb4 HS
    have r0 := (HS4.out.res ⟨w.heap.size + 1 + 1, 0, none⟩ (by simp)).1
    have f0 := (HS4.out.res ⟨w.heap.size + 1 + 1, 0, none⟩ (by simp)).2
    have HB := Lib.hid HS4.out.below
    clear HS4
    go_wp2_with fail
    refine bodyPost_ret (v := .tuple #[.agg #[.slice none 0 0], .int .i64 1]) (by simp [results, Tryd.results26, go_sem, r0]) rfl ⟨rfl, (HB.out.setCell (p := ⟨w.heap.size + 1 + 1, 0, none⟩) (by show _ ≤ w.heap.size + 1 + 1; omega) _)⟩

set_option maxRecDepth 100000 in
set_option maxHeartbeats 1000000 in
theorem sub_bad (a b : Option Addr) (ca cb : Nat) (zs ys : List Int) (w : World) (hA : Row w a zs ca) (hB : Row w b ys cb) (h : ¬ (Vld zs ∧ Vld ys)) :
    Calls Tryd.prog 43 #[.agg #[.slice a zs.length ca], .agg #[.slice b ys.length cb]] w fun e W' => e = .returned (.tuple #[.agg #[.slice none 0 0], .int .i64 1]) ∧ Below w.heap.size w W' := by
  have HS := Lib.hid (BSt.nat hA hB)
  clear hA hB
  go_enter Tryd.func43, Tryd.ntmps43
  go_wp2_with fail
  generalize (((w.alloc (.cells #[.slice a zs.length ca] 24)).alloc (.cells #[.slice b ys.length cb] 24)).alloc (.cells #[.slice none 0 0] 24)) = w3 at *
  by_cases hz : Vld zs
  · have HY := Lib.hid (show ¬ Vld ys from fun hy => h ⟨hz, hy⟩)
    have HZ := Lib.hid hz
    clear h hz
    refine (valid_yes a zs ca _ HS.out.ra HZ.out).mono ?_
    rintro e w4 ⟨rfl, hb4⟩
    have HS4 := Lib.hid (HS.out.keep hb4)
    clear hb4 HS
    have d1 := HS4.out.c1
    go_wp2_with fail
    refine (valid_no b ys cb _ HS4.out.rb HY.out).mono ?_
    rintro e w5 ⟨rfl, hb5⟩
    have HS5 := Lib.hid (HS4.out.keep hb5)
    clear hb5 HS4 d1
    have r0 := (HS5.out.res ⟨w.heap.size + 1 + 1, 0, none⟩ (by simp)).1
    have f0 := (HS5.out.res ⟨w.heap.size + 1 + 1, 0, none⟩ (by simp)).2
    have HB := Lib.hid HS5.out.below
    clear HS5
    go_wp2_with fail
    refine bodyPost_ret (v := .tuple #[.agg #[.slice none 0 0], .int .i64 1]) (by simp [results, Tryd.results43, go_sem, r0]) rfl ⟨rfl, (HB.out.setCell (p := ⟨w.heap.size + 1 + 1, 0, none⟩) (by show _ ≤ w.heap.size + 1 + 1; omega) _)⟩
  · have HZ := Lib.hid hz
    clear h hz
    refine (valid_no a zs ca _ HS.out.ra HZ.out).mono ?_
    rintro e w4 ⟨rfl, hb4⟩
    have HS4 := Lib.hid (HS.out.keep hb4)
    clear hb4 HS
    have r0 := (HS4.out.res ⟨w.heap.size + 1 + 1, 0, none⟩ (by simp)).1
    have f0 := (HS4.out.res ⟨w.heap.size + 1 + 1, 0, none⟩ (by simp)).2
    have HB := Lib.hid HS4.out.below
    clear HS4
    go_wp2_with fail
    refine bodyPost_ret (v := .tuple #[.agg #[.slice none 0 0], .int .i64 1]) (by simp [results, Tryd.results43, go_sem, r0]) rfl ⟨rfl, (HB.out.setCell (p := ⟨w.heap.size + 1 + 1, 0, none⟩) (by show _ ≤ w.heap.size + 1 + 1; omega) _)⟩

set_option maxRecDepth 100000 in
set_option maxHeartbeats 1000000 in
theorem mul_bad (a b : Option Addr) (ca cb : Nat) (zs ys : List Int) (w : World) (hA : Row w a zs ca) (hB : Row w b ys cb) (h : ¬ (Vld zs ∧ Vld ys)) :
    Calls Tryd.prog 28 #[.agg #[.slice a zs.length ca], .agg #[.slice b ys.length cb]] w fun e W' => e = .returned (.tuple #[.agg #[.slice none 0 0], .int .i64 1]) ∧ Below w.heap.size w W' := by
  have HS := Lib.hid (BSt.nat hA hB)
  clear hA hB
  go_enter Tryd.func28, Tryd.ntmps28
  go_wp2_with fail
  generalize (((w.alloc (.cells #[.slice a zs.length ca] 24)).alloc (.cells #[.slice b ys.length cb] 24)).alloc (.cells #[.slice none 0 0] 24)) = w3 at *
  by_cases hz : Vld zs
  · have HY := Lib.hid (show ¬ Vld ys from fun hy => h ⟨hz, hy⟩)
    have HZ := Lib.hid hz
    clear h hz
    refine (valid_yes a zs ca _ HS.out.ra HZ.out).mono ?_
    rintro e w4 ⟨rfl, hb4⟩
    have HS4 := Lib.hid (HS.out.keep hb4)
    clear hb4 HS
    have d1 := HS4.out.c1
    go_wp2_with fail
    refine (valid_no b ys cb _ HS4.out.rb HY.out).mono ?_
    rintro e w5 ⟨rfl, hb5⟩
    have HS5 := Lib.hid (HS4.out.keep hb5)
    clear hb5 HS4 d1
    have r0 := (HS5.out.res ⟨w.heap.size + 1 + 1, 0, none⟩ (by simp)).1
    have f0 := (HS5.out.res ⟨w.heap.size + 1 + 1, 0, none⟩ (by simp)).2
    have HB := Lib.hid HS5.out.below
    clear HS5
    go_wp2_with fail
    refine bodyPost_ret (v := .tuple #[.agg #[.slice none 0 0], .int .i64 1]) (by simp [results, Tryd.results28, go_sem, r0]) rfl ⟨rfl, (HB.out.setCell (p := ⟨w.heap.size + 1 + 1, 0, none⟩) (by show _ ≤ w.heap.size + 1 + 1; omega) _)⟩
  · have HZ := Lib.hid hz
    clear h hz
    refine (valid_no a zs ca _ HS.out.ra HZ.out).mono ?_
    rintro e w4 ⟨rfl, hb4⟩
    have HS4 := Lib.hid (HS.out.keep hb4)
    clear hb4 HS
    have r0 := (HS4.out.res ⟨w.heap.size + 1 + 1, 0, none⟩ (by simp)).1
    have f0 := (HS4.out.res ⟨w.heap.size + 1 + 1, 0, none⟩ (by simp)).2
    have HB := Lib.hid HS4.out.below
    clear HS4
    go_wp2_with fail
    refine bodyPost_ret (v := .tuple #[.agg #[.slice none 0 0], .int .i64 1]) (by simp [results, Tryd.results28, go_sem, r0]) rfl ⟨rfl, (HB.out.setCell (p := ⟨w.heap.size + 1 + 1, 0, none⟩) (by show _ ≤ w.heap.size + 1 + 1; omega) _)⟩

set_option maxRecDepth 100000 in
set_option maxHeartbeats 1000000 in
theorem div_bad (a b : Option Addr) (ca cb : Nat) (zs ys : List Int) (w : World) (hA : Row w a zs ca) (hB : Row w b ys cb) (h : ¬ (Vld zs ∧ Vld ys)) :
    Calls Tryd.prog 40 #[.agg #[.slice a zs.length ca], .agg #[.slice b ys.length cb]] w fun e W' => e = .returned (.tuple #[.agg #[.slice none 0 0], .agg #[.slice none 0 0], .int .i64 1]) ∧ Below w.heap.size w W' := by
  have HS := Lib.hid (BSt.nat2 hA hB)
  clear hA hB
  go_enter Tryd.func40, Tryd.ntmps40
  go_wp2_with fail
  generalize ((((w.alloc (.cells #[.slice a zs.length ca] 24)).alloc (.cells #[.slice b ys.length cb] 24)).alloc (.cells #[.slice none 0 0] 24)).alloc (.cells #[.slice none 0 0] 24)) = w3 at *
  by_cases hz : Vld zs
  · have HY := Lib.hid (show ¬ Vld ys from fun hy => h ⟨hz, hy⟩)
    have HZ := Lib.hid hz
    clear h hz
    refine (valid_yes a zs ca _ HS.out.ra HZ.out).mono ?_
    rintro e w4 ⟨rfl, hb4⟩
    have HS4 := Lib.hid (HS.out.keep hb4)
    clear hb4 HS
    have d1 := HS4.out.c1
    go_wp2_with fail
    refine (valid_no b ys cb _ HS4.out.rb HY.out).mono ?_
    rintro e w5 ⟨rfl, hb5⟩
    have HS5 := Lib.hid (HS4.out.keep hb5)
    clear hb5 HS4 d1
    have r0 := (HS5.out.res ⟨w.heap.size + 1 + 1, 0, none⟩ (by simp)).1
    have f0 := (HS5.out.res ⟨w.heap.size + 1 + 1, 0, none⟩ (by simp)).2
    have r1 := (HS5.out.res ⟨w.heap.size + 1 + 1 + 1, 0, none⟩ (by simp)).1
    have f1 := (HS5.out.res ⟨w.heap.size + 1 + 1 + 1, 0, none⟩ (by simp)).2
    have HB := Lib.hid HS5.out.below
    clear HS5
    go_wp2_with fail
    refine bodyPost_ret (v := .tuple #[.agg #[.slice none 0 0], .agg #[.slice none 0 0], .int .i64 1]) (by simp [results, Tryd.results40, go_sem, r0, r1]) rfl ⟨rfl, ((HB.out.setCell (p := ⟨w.heap.size + 1 + 1, 0, none⟩) (by show _ ≤ w.heap.size + 1 + 1; omega) _).setCell (p := ⟨w.heap.size + 1 + 1 + 1, 0, none⟩) (by show _ ≤ w.heap.size + 1 + 1 + 1; omega) _)⟩
  · have HZ := Lib.hid hz
    clear h hz
    refine (valid_no a zs ca _ HS.out.ra HZ.out).mono ?_
    rintro e w4 ⟨rfl, hb4⟩
    have HS4 := Lib.hid (HS.out.keep hb4)
    clear hb4 HS
    have r0 := (HS4.out.res ⟨w.heap.size + 1 + 1, 0, none⟩ (by simp)).1
    have f0 := (HS4.out.res ⟨w.heap.size + 1 + 1, 0, none⟩ (by simp)).2
    have r1 := (HS4.out.res ⟨w.heap.size + 1 + 1 + 1, 0, none⟩ (by simp)).1
    have f1 := (HS4.out.res ⟨w.heap.size + 1 + 1 + 1, 0, none⟩ (by simp)).2
    have HB := Lib.hid HS4.out.below
    clear HS4
    go_wp2_with fail
    refine bodyPost_ret (v := .tuple #[.agg #[.slice none 0 0], .agg #[.slice none 0 0], .int .i64 1]) (by simp [results, Tryd.results40, go_sem, r0, r1]) rfl ⟨rfl, ((HB.out.setCell (p := ⟨w.heap.size + 1 + 1, 0, none⟩) (by show _ ≤ w.heap.size + 1 + 1; omega) _).setCell (p := ⟨w.heap.size + 1 + 1 + 1, 0, none⟩) (by show _ ≤ w.heap.size + 1 + 1 + 1; omega) _)⟩

set_option maxRecDepth 100000 in
set_option maxHeartbeats 1000000 in
theorem radd_bad (a b : Option Addr) (ca cb : Nat) (zs ys : List Int) (w : World) (hA : Row w a zs ca) (hB : Row w b ys cb) (h : ¬ (Vld zs ∧ Vld ys)) :
    Calls Tryd.prog 27 #[.agg #[.slice a zs.length ca], .agg #[.slice b ys.length cb]] w fun e W' => e = .returned (.tuple #[.agg #[.slice none 0 0], .int .i64 1]) ∧ Below w.heap.size w W' := by
  have HS := Lib.hid (BSt.nat hA hB)
  clear hA hB
  go_enter Tryd.func27, Tryd.ntmps27
  go_wp2_with fail
  generalize (((w.alloc (.cells #[.slice a zs.length ca] 24)).alloc (.cells #[.slice b ys.length cb] 24)).alloc (.cells #[.slice none 0 0] 24)) = w3 at *
  by_cases hz : Vld zs
  · have HY := Lib.hid (show ¬ Vld ys from fun hy => h ⟨hz, hy⟩)
    have HZ := Lib.hid hz
    clear h hz
    refine (rvalid_yes a zs ca _ HS.out.ra HZ.out).mono ?_
    rintro e w4 ⟨rfl, hb4⟩
    have HS4 := Lib.hid (HS.out.keep hb4)
    clear hb4 HS
    have d1 := HS4.out.c1
    go_wp2_with fail
    refine (rvalid_no b ys cb _ HS4.out.rb HY.out).mono ?_
    rintro e w5 ⟨rfl, hb5⟩
    have HS5 := Lib.hid (HS4.out.keep hb5)
    clear hb5 HS4 d1
    have r0 := (HS5.out.res ⟨w.heap.size + 1 + 1, 0, none⟩ (by simp)).1
    have f0 := (HS5.out.res ⟨w.heap.size + 1 + 1, 0, none⟩ (by simp)).2
    have HB := Lib.hid HS5.out.below
    clear HS5
    go_wp2_with fail
    refine bodyPost_ret (v := .tuple #[.agg #[.slice none 0 0], .int .i64 1]) (by simp [results, Tryd.results27, go_sem, r0]) rfl ⟨rfl, (HB.out.setCell (p := ⟨w.heap.size + 1 + 1, 0, none⟩) (by show _ ≤ w.heap.size + 1 + 1; omega) _)⟩
  · have HZ := Lib.hid hz
    clear h hz
    refine (rvalid_no a zs ca _ HS.out.ra HZ.out).mono ?_
    rintro e w4 ⟨rfl, hb4⟩
    have HS4 := Lib.hid (HS.out.keep hb4)
    clear hb4 HS
    have r0 := (HS4.out.res ⟨w.heap.size + 1 + 1, 0, none⟩ (by simp)).1
    have f0 := (HS4.out.res ⟨w.heap.size + 1 + 1, 0, none⟩ (by simp)).2
    have HB := Lib.hid HS4.out.below
    clear HS4
    go_wp2_with fail
    refine bodyPost_ret (v := .tuple #[.agg #[.slice none 0 0], .int .i64 1]) (by simp [results, Tryd.results27, go_sem, r0]) rfl ⟨rfl, (HB.out.setCell (p := ⟨w.heap.size + 1 + 1, 0, none⟩) (by show _ ≤ w.heap.size + 1 + 1; omega) _)⟩

set_option maxRecDepth 100000 in
set_option maxHeartbeats 1000000 in
theorem rsub_bad (a b : Option Addr) (ca cb : Nat) (zs ys : List Int) (w : World) (hA : Row w a zs ca) (hB : Row w b ys cb) (h : ¬ (Vld zs ∧ Vld ys)) :
    Calls Tryd.prog 63 #[.agg #[.slice a zs.length ca], .agg #[.slice b ys.length cb]] w fun e W' => e = .returned (.tuple #[.agg #[.slice none 0 0], .int .i64 1]) ∧ Below w.heap.size w W' := by
  have HS := Lib.hid (BSt.nat hA hB)
  clear hA hB
  go_enter Tryd.func63, Tryd.ntmps63
  go_wp2_with fail
  generalize (((w.alloc (.cells #[.slice a zs.length ca] 24)).alloc (.cells #[.slice b ys.length cb] 24)).alloc (.cells #[.slice none 0 0] 24)) = w3 at *
  by_cases hz : Vld zs
  · have HY := Lib.hid (show ¬ Vld ys from fun hy => h ⟨hz, hy⟩)
    have HZ := Lib.hid hz
    clear h hz
    refine (rvalid_yes a zs ca _ HS.out.ra HZ.out).mono ?_
    rintro e w4 ⟨rfl, hb4⟩
    have HS4 := Lib.hid (HS.out.keep hb4)
    clear hb4 HS
    have d1 := HS4.out.c1
    go_wp2_with fail
    refine (rvalid_no b ys cb _ HS4.out.rb HY.out).mono ?_
    rintro e w5 ⟨rfl, hb5⟩
    have HS5 := Lib.hid (HS4.out.keep hb5)
    clear hb5 HS4 d1
    have r0 := (HS5.out.res ⟨w.heap.size + 1 + 1, 0, none⟩ (by simp)).1
    have f0 := (HS5.out.res ⟨w.heap.size + 1 + 1, 0, none⟩ (by simp)).2
    have HB := Lib.hid HS5.out.below
    clear HS5
    go_wp2_with fail
    refine bodyPost_ret (v := .tuple #[.agg #[.slice none 0 0], .int .i64 1]) (by simp [results, Tryd.results63, go_sem, r0]) rfl ⟨rfl, (HB.out.setCell (p := ⟨w.heap.size + 1 + 1, 0, none⟩) (by show _ ≤ w.heap.size + 1 + 1; omega) _)⟩
  · have HZ := Lib.hid hz
    clear h hz
    refine (rvalid_no a zs ca _ HS.out.ra HZ.out).mono ?_
    rintro e w4 ⟨rfl, hb4⟩
    have HS4 := Lib.hid (HS.out.keep hb4)
    clear hb4 HS
    have r0 := (HS4.out.res ⟨w.heap.size + 1 + 1, 0, none⟩ (by simp)).1
    have f0 := (HS4.out.res ⟨w.heap.size + 1 + 1, 0, none⟩ (by simp)).2
    have HB := Lib.hid HS4.out.below
    clear HS4
    go_wp2_with fail
    refine bodyPost_ret (v := .tuple #[.agg #[.slice none 0 0], .int .i64 1]) (by simp [results, Tryd.results63, go_sem, r0]) rfl ⟨rfl, (HB.out.setCell (p := ⟨w.heap.size + 1 + 1, 0, none⟩) (by show _ ≤ w.heap.size + 1 + 1; omega) _)⟩

set_option maxRecDepth 100000 in
set_option maxHeartbeats 1000000 in
theorem rmul_bad (a b : Option Addr) (ca cb : Nat) (zs ys : List Int) (w : World) (hA : Row w a zs ca) (hB : Row w b ys cb) (h : ¬ (Vld zs ∧ Vld ys)) :
    Calls Tryd.prog 29 #[.agg #[.slice a zs.length ca], .agg #[.slice b ys.length cb]] w fun e W' => e = .returned (.tuple #[.agg #[.slice none 0 0], .int .i64 1]) ∧ Below w.heap.size w W' := by
  have HS := Lib.hid (BSt.nat hA hB)
  clear hA hB
  go_enter Tryd.func29, Tryd.ntmps29
  go_wp2_with fail
  generalize (((w.alloc (.cells #[.slice a zs.length ca] 24)).alloc (.cells #[.slice b ys.length cb] 24)).alloc (.cells #[.slice none 0 0] 24)) = w3 at *
  by_cases hz : Vld zs
  · have HY := Lib.hid (show ¬ Vld ys from fun hy => h ⟨hz, hy⟩)
    have HZ := Lib.hid hz
    clear h hz
    refine (rvalid_yes a zs ca _ HS.out.ra HZ.out).mono ?_
    rintro e w4 ⟨rfl, hb4⟩
    have HS4 := Lib.hid (HS.out.keep hb4)
    clear hb4 HS
    have d1 := HS4.out.c1
    go_wp2_with fail
    refine (rvalid_no b ys cb _ HS4.out.rb HY.out).mono ?_
    rintro e w5 ⟨rfl, hb5⟩
    have HS5 := Lib.hid (HS4.out.keep hb5)
    clear hb5 HS4 d1
    have r0 := (HS5.out.res ⟨w.heap.size + 1 + 1, 0, none⟩ (by simp)).1
    have f0 := (HS5.out.res ⟨w.heap.size + 1 + 1, 0, none⟩ (by simp)).2
    have HB := Lib.hid HS5.out.below
    clear HS5
    go_wp2_with fail
    refine bodyPost_ret (v := .tuple #[.agg #[.slice none 0 0], .int .i64 1]) (by simp [results, Tryd.results29, go_sem, r0]) rfl ⟨rfl, (HB.out.setCell (p := ⟨w.heap.size + 1 + 1, 0, none⟩) (by show _ ≤ w.heap.size + 1 + 1; omega) _)⟩
  · have HZ := Lib.hid hz
    clear h hz
    refine (rvalid_no a zs ca _ HS.out.ra HZ.out).mono ?_
    rintro e w4 ⟨rfl, hb4⟩
    have HS4 := Lib.hid (HS.out.keep hb4)
    clear hb4 HS
    have r0 := (HS4.out.res ⟨w.heap.size + 1 + 1, 0, none⟩ (by simp)).1
    have f0 := (HS4.out.res ⟨w.heap.size + 1 + 1, 0, none⟩ (by simp)).2
    have HB := Lib.hid HS4.out.below
    clear HS4
    go_wp2_with fail
    refine bodyPost_ret (v := .tuple #[.agg #[.slice none 0 0], .int .i64 1]) (by simp [results, Tryd.results29, go_sem, r0]) rfl ⟨rfl, (HB.out.setCell (p := ⟨w.heap.size + 1 + 1, 0, none⟩) (by show _ ≤ w.heap.size + 1 + 1; omega) _)⟩

set_option maxRecDepth 100000 in
set_option maxHeartbeats 1000000 in
theorem rdiv_bad (a b : Option Addr) (ca cb : Nat) (zs ys : List Int) (w : World) (hA : Row w a zs ca) (hB : Row w b ys cb) (h : ¬ (Vld zs ∧ Vld ys)) :
    Calls Tryd.prog 64 #[.agg #[.slice a zs.length ca], .agg #[.slice b ys.length cb]] w fun e W' => e = .returned (.tuple #[.agg #[.slice none 0 0], .agg #[.slice none 0 0], .int .i64 1]) ∧ Below w.heap.size w W' := by
  have HS := Lib.hid (BSt.nat2 hA hB)
  clear hA hB
  go_enter Tryd.func64, Tryd.ntmps64
  go_wp2_with fail
  generalize ((((w.alloc (.cells #[.slice a zs.length ca] 24)).alloc (.cells #[.slice b ys.length cb] 24)).alloc (.cells #[.slice none 0 0] 24)).alloc (.cells #[.slice none 0 0] 24)) = w3 at *
  by_cases hz : Vld zs
  · have HY := Lib.hid (show ¬ Vld ys from fun hy => h ⟨hz, hy⟩)
    have HZ := Lib.hid hz
    clear h hz
    refine (rvalid_yes a zs ca _ HS.out.ra HZ.out).mono ?_
    rintro e w4 ⟨rfl, hb4⟩
    have HS4 := Lib.hid (HS.out.keep hb4)
    clear hb4 HS
    have d1 := HS4.out.c1
    go_wp2_with fail
    refine (rvalid_no b ys cb _ HS4.out.rb HY.out).mono ?_
    rintro e w5 ⟨rfl, hb5⟩
    have HS5 := Lib.hid (HS4.out.keep hb5)
    clear hb5 HS4 d1
    have r0 := (HS5.out.res ⟨w.heap.size + 1 + 1, 0, none⟩ (by simp)).1
    have f0 := (HS5.out.res ⟨w.heap.size + 1 + 1, 0, none⟩ (by simp)).2
    have r1 := (HS5.out.res ⟨w.heap.size + 1 + 1 + 1, 0, none⟩ (by simp)).1
    have f1 := (HS5.out.res ⟨w.heap.size + 1 + 1 + 1, 0, none⟩ (by simp)).2
    have HB := Lib.hid HS5.out.below
    clear HS5
    go_wp2_with fail
    refine bodyPost_ret (v := .tuple #[.agg #[.slice none 0 0], .agg #[.slice none 0 0], .int .i64 1]) (by simp [results, Tryd.results64, go_sem, r0, r1]) rfl ⟨rfl, ((HB.out.setCell (p := ⟨w.heap.size + 1 + 1, 0, none⟩) (by show _ ≤ w.heap.size + 1 + 1; omega) _).setCell (p := ⟨w.heap.size + 1 + 1 + 1, 0, none⟩) (by show _ ≤ w.heap.size + 1 + 1 + 1; omega) _)⟩
  · have HZ := Lib.hid hz
    clear h hz
    refine (rvalid_no a zs ca _ HS.out.ra HZ.out).mono ?_
    rintro e w4 ⟨rfl, hb4⟩
    have HS4 := Lib.hid (HS.out.keep hb4)
    clear hb4 HS
    have r0 := (HS4.out.res ⟨w.heap.size + 1 + 1, 0, none⟩ (by simp)).1
    have f0 := (HS4.out.res ⟨w.heap.size + 1 + 1, 0, none⟩ (by simp)).2
    have r1 := (HS4.out.res ⟨w.heap.size + 1 + 1 + 1, 0, none⟩ (by simp)).1
    have f1 := (HS4.out.res ⟨w.heap.size + 1 + 1 + 1, 0, none⟩ (by simp)).2
    have HB := Lib.hid HS4.out.below
    clear HS4
    go_wp2_with fail
    refine bodyPost_ret (v := .tuple #[.agg #[.slice none 0 0], .agg #[.slice none 0 0], .int .i64 1]) (by simp [results, Tryd.results64, go_sem, r0, r1]) rfl ⟨rfl, ((HB.out.setCell (p := ⟨w.heap.size + 1 + 1, 0, none⟩) (by show _ ≤ w.heap.size + 1 + 1; omega) _).setCell (p := ⟨w.heap.size + 1 + 1 + 1, 0, none⟩) (by show _ ≤ w.heap.size + 1 + 1 + 1; omega) _)⟩

set_option maxRecDepth 100000 in
set_option maxHeartbeats 1000000 in
theorem rgcd_bad (a b : Option Addr) (ca cb : Nat) (zs ys : List Int) (w : World) (hA : Row w a zs ca) (hB : Row w b ys cb) (h : ¬ (Vld zs ∧ Vld ys)) :
    Calls Tryd.prog 65 #[.agg #[.slice a zs.length ca], .agg #[.slice b ys.length cb]] w fun e W' => e = .returned (.tuple #[.agg #[.slice none 0 0], .int .i64 1]) ∧ Below w.heap.size w W' := by
  have HS := Lib.hid (BSt.nat hA hB)
  clear hA hB
  go_enter Tryd.func65, Tryd.ntmps65
  go_wp2_with fail
  generalize (((w.alloc (.cells #[.slice a zs.length ca] 24)).alloc (.cells #[.slice b ys.length cb] 24)).alloc (.cells #[.slice none 0 0] 24)) = w3 at *
  by_cases hz : Vld zs
  · have HY := Lib.hid (show ¬ Vld ys from fun hy => h ⟨hz, hy⟩)
    have HZ := Lib.hid hz
    clear h hz
    refine (rvalid_yes a zs ca _ HS.out.ra HZ.out).mono ?_
    rintro e w4 ⟨rfl, hb4⟩
    have HS4 := Lib.hid (HS.out.keep hb4)
    clear hb4 HS
    have d1 := HS4.out.c1
    go_wp2_with fail
    refine (rvalid_no b ys cb _ HS4.out.rb HY.out).mono ?_
    rintro e w5 ⟨rfl, hb5⟩
    have HS5 := Lib.hid (HS4.out.keep hb5)
    clear hb5 HS4 d1
    have r0 := (HS5.out.res ⟨w.heap.size + 1 + 1, 0, none⟩ (by simp)).1
    have f0 := (HS5.out.res ⟨w.heap.size + 1 + 1, 0, none⟩ (by simp)).2
    have HB := Lib.hid HS5.out.below
    clear HS5
    go_wp2_with fail
    refine bodyPost_ret (v := .tuple #[.agg #[.slice none 0 0], .int .i64 1]) (by simp [results, Tryd.results65, go_sem, r0]) rfl ⟨rfl, (HB.out.setCell (p := ⟨w.heap.size + 1 + 1, 0, none⟩) (by show _ ≤ w.heap.size + 1 + 1; omega) _)⟩
  · have HZ := Lib.hid hz
    clear h hz
    refine (rvalid_no a zs ca _ HS.out.ra HZ.out).mono ?_
    rintro e w4 ⟨rfl, hb4⟩
    have HS4 := Lib.hid (HS.out.keep hb4)
    clear hb4 HS
    have r0 := (HS4.out.res ⟨w.heap.size + 1 + 1, 0, none⟩ (by simp)).1
    have f0 := (HS4.out.res ⟨w.heap.size + 1 + 1, 0, none⟩ (by simp)).2
    have HB := Lib.hid HS4.out.below
    clear HS4
    go_wp2_with fail
    refine bodyPost_ret (v := .tuple #[.agg #[.slice none 0 0], .int .i64 1]) (by simp [results, Tryd.results65, go_sem, r0]) rfl ⟨rfl, (HB.out.setCell (p := ⟨w.heap.size + 1 + 1, 0, none⟩) (by show _ ≤ w.heap.size + 1 + 1; omega) _)⟩
end Go.Proofs.YtfaggdjoogpmmaaDoor
