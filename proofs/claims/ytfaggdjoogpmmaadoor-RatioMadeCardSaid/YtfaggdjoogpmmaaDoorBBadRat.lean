/- What the functions of two numbers return where one is no number. -/
import Derived.Test.YtfaggdjoogpmmaaDoorBBad
import Derived.Test.YtfaggdjoogpmmaaDoorB10
namespace Go.Proofs.YtfaggdjoogpmmaaDoor
open Go Go.RowKit Go.Shelf

/-- Two parameters of type Nat in boxes, results that are empty. -/
structure BSt (w : World) (a b : Option Addr) (ca cb : Nat) (zs ys : List Int) (ps : List Addr) (W : World) : Prop where
  c0 : W.cell? ⟨w.heap.size, 0, none⟩ = some (.slice a zs.length ca)
  c1 : W.cell? ⟨w.heap.size + 1, 0, none⟩ = some (.slice b ys.length cb)
  ra : Row W a zs ca
  rb : Row W b ys cb
  res : ∀ p ∈ ps, W.cell? p = some (.slice none 0 0) ∧ W.frozen? p = false
  below : Below w.heap.size w W
section
variable {w W : World} {a b : Option Addr} {ca cb : Nat} {zs ys : List Int} {ps : List Addr}
theorem BSt.keep {W' : World} (h : BSt w a b ca cb zs ys ps W) (hb : Below W.heap.size W W') : BSt w a b ca cb zs ys ps W' :=
  ⟨cell_below hb h.c0, cell_below hb h.c1, h.ra.below hb, h.rb.below hb, fun p hp => ⟨cell_below hb (h.res p hp).1, frozen_below hb (h.res p hp).1 (h.res p hp).2⟩, h.below.trans (hb.mono h.below.size)⟩
theorem BSt.alloc (h : BSt w a b ca cb zs ys ps W) (o : Obj) : BSt w a b ca cb zs ys ps (W.alloc o) := h.keep ((Below.refl _ W).alloc (Nat.le_refl _) o)
theorem BSt.nat (hA : Row w a zs ca) (hB : Row w b ys cb) : BSt w a b ca cb zs ys [⟨w.heap.size + 1 + 1, 0, none⟩] (((w.alloc (.cells #[.slice a zs.length ca] 24)).alloc (.cells #[.slice b ys.length cb] 24)).alloc (.cells #[.slice none 0 0] 24)) := by
  have k0 := cell_new w (.slice a zs.length ca) 24
  have k1 := cell_new (w.alloc (.cells #[.slice a zs.length ca] 24)) (.slice b ys.length cb) 24
  have k2 := cell_new ((w.alloc (.cells #[.slice a zs.length ca] 24)).alloc (.cells #[.slice b ys.length cb] 24)) (.slice none 0 0) 24
  have k3 := frozen_new ((w.alloc (.cells #[.slice a zs.length ca] 24)).alloc (.cells #[.slice b ys.length cb] 24)) (.slice none 0 0) 24
  simp only [World.size_alloc] at k1 k2 k3
  refine ⟨cell_later _ (cell_later _ k0), cell_later _ k1, ((hA.alloc _).alloc _).alloc _, ((hB.alloc _).alloc _).alloc _, ?_, (((Below.refl _ w).alloc (Nat.le_refl _) _).alloc (by simp) _).alloc (by simp; omega) _⟩
  intro p hp
  simp only [List.mem_singleton] at hp
  subst hp
  exact ⟨k2, k3⟩
theorem BSt.nat2 (hA : Row w a zs ca) (hB : Row w b ys cb) : BSt w a b ca cb zs ys [⟨w.heap.size + 1 + 1, 0, none⟩, ⟨w.heap.size + 1 + 1 + 1, 0, none⟩] ((((w.alloc (.cells #[.slice a zs.length ca] 24)).alloc (.cells #[.slice b ys.length cb] 24)).alloc (.cells #[.slice none 0 0] 24)).alloc (.cells #[.slice none 0 0] 24)) := by
  have k0 := cell_new w (.slice a zs.length ca) 24
  have k1 := cell_new (w.alloc (.cells #[.slice a zs.length ca] 24)) (.slice b ys.length cb) 24
  have k2 := cell_new ((w.alloc (.cells #[.slice a zs.length ca] 24)).alloc (.cells #[.slice b ys.length cb] 24)) (.slice none 0 0) 24
  have k3 := frozen_new ((w.alloc (.cells #[.slice a zs.length ca] 24)).alloc (.cells #[.slice b ys.length cb] 24)) (.slice none 0 0) 24
  have k4 := cell_new (((w.alloc (.cells #[.slice a zs.length ca] 24)).alloc (.cells #[.slice b ys.length cb] 24)).alloc (.cells #[.slice none 0 0] 24)) (.slice none 0 0) 24
  have k5 := frozen_new (((w.alloc (.cells #[.slice a zs.length ca] 24)).alloc (.cells #[.slice b ys.length cb] 24)).alloc (.cells #[.slice none 0 0] 24)) (.slice none 0 0) 24
  simp only [World.size_alloc] at k1 k2 k3 k4 k5
  refine ⟨cell_later _ (cell_later _ (cell_later _ k0)), cell_later _ (cell_later _ k1), (((hA.alloc _).alloc _).alloc _).alloc _, (((hB.alloc _).alloc _).alloc _).alloc _, ?_, ((((Below.refl _ w).alloc (Nat.le_refl _) _).alloc (by simp) _).alloc (by simp; omega) _).alloc (by simp; omega) _⟩
  intro p hp
  simp only [List.mem_cons, List.not_mem_nil, or_false] at hp
  rcases hp with rfl | rfl
  · exact ⟨cell_later _ k2, frozen_later _ k2 k3⟩
  · exact ⟨k4, k5⟩
theorem BSt.ratio (hA : Row w a zs ca) (hB : Row w b ys cb) : BSt w a b ca cb zs ys [⟨w.heap.size + 1 + 1, 0, none⟩, ⟨w.heap.size + 1 + 1, 1, none⟩] (((w.alloc (.cells #[.slice a zs.length ca] 24)).alloc (.cells #[.slice b ys.length cb] 24)).alloc (.cells #[.slice none 0 0, .slice none 0 0] 58)) := by
  have k0 := cell_new w (.slice a zs.length ca) 24
  have k1 := cell_new (w.alloc (.cells #[.slice a zs.length ca] 24)) (.slice b ys.length cb) 24
  obtain ⟨⟨k2, k3⟩, k4, k5⟩ := two_cells ((w.alloc (.cells #[.slice a zs.length ca] 24)).alloc (.cells #[.slice b ys.length cb] 24)) (.slice none 0 0) (.slice none 0 0) 58
  simp only [World.size_alloc] at k1 k2 k3 k4 k5
  refine ⟨cell_later _ (cell_later _ k0), cell_later _ k1, ((hA.alloc _).alloc _).alloc _, ((hB.alloc _).alloc _).alloc _, ?_, (((Below.refl _ w).alloc (Nat.le_refl _) _).alloc (by simp) _).alloc (by simp; omega) _⟩
  intro p hp
  simp only [List.mem_cons, List.not_mem_nil, or_false] at hp
  rcases hp with rfl | rfl
  · exact ⟨k2, k3⟩
  · exact ⟨k4, k5⟩
end

set_option maxRecDepth 100000 in
set_option maxHeartbeats 1000000 in
theorem gcd_bad (a b : Option Addr) (ca cb : Nat) (zs ys : List Int) (w : World) (hA : Row w a zs ca) (hB : Row w b ys cb) (h : ¬ (Vld zs ∧ Vld ys)) :
    Calls Tryd.prog 44 #[.agg #[.slice a zs.length ca], .agg #[.slice b ys.length cb]] w fun e W' => e = .returned (.tuple #[.agg #[.slice none 0 0], .int .i64 1]) ∧ Below w.heap.size w W' := by
  have HS := Lib.hid (BSt.nat hA hB)
  clear hA hB
  go_enter Tryd.func44, Tryd.ntmps44
  go_wp2_with fail
  generalize (((w.alloc (.cells #[.slice a zs.length ca] 24)).alloc (.cells #[.slice b ys.length cb] 24)).alloc (.cells #[.slice none 0 0] 24)) = w3 at *
  by_cases hz : Vld zs
  · have HY := Lib.hid (show ¬ Vld ys from fun hy => h ⟨hz, hy⟩)
    have HZ := Lib.hid hz
    clear h hz
    refine (valid_yes a zs ca _ HS.out.ra HZ.out).mono ?_
    rintro e w4 ⟨rfl, hb4⟩
    have HS4 := Lib.hid (HS.out.keep hb4)
    clear hb4 HS
    have d1 := HS4.out.c1
    go_wp2_with fail
    refine (valid_no b ys cb _ HS4.out.rb HY.out).mono ?_
    rintro e w5 ⟨rfl, hb5⟩
    have HS5 := Lib.hid (HS4.out.keep hb5)
    clear hb5 HS4 d1
    have r0 := (HS5.out.res ⟨w.heap.size + 1 + 1, 0, none⟩ (by simp)).1
    have f0 := (HS5.out.res ⟨w.heap.size + 1 + 1, 0, none⟩ (by simp)).2
    have HB := Lib.hid HS5.out.below
    clear HS5
    go_wp2_with fail
    refine bodyPost_ret (v := .tuple #[.agg #[.slice none 0 0], .int .i64 1]) (by simp [results, Tryd.results44, go_sem, r0]) rfl ⟨rfl, (HB.out.setCell (p := ⟨w.heap.size + 1 + 1, 0, none⟩) (by show _ ≤ w.heap.size + 1 + 1; omega) _)⟩
  · have HZ := Lib.hid hz
    clear h hz
    refine (valid_no a zs ca _ HS.out.ra HZ.out).mono ?_
    rintro e w4 ⟨rfl, hb4⟩
    have HS4 := Lib.hid (HS.out.keep hb4)
    clear hb4 HS
    have r0 := (HS4.out.res ⟨w.heap.size + 1 + 1, 0, none⟩ (by simp)).1
    have f0 := (HS4.out.res ⟨w.heap.size + 1 + 1, 0, none⟩ (by simp)).2
    have HB := Lib.hid HS4.out.below
    clear HS4
    go_wp2_with fail
    refine bodyPost_ret (v := .tuple #[.agg #[.slice none 0 0], .int .i64 1]) (by simp [results, Tryd.results44, go_sem, r0]) rfl ⟨rfl, (HB.out.setCell (p := ⟨w.heap.size + 1 + 1, 0, none⟩) (by show _ ≤ w.heap.size + 1 + 1; omega) _)⟩

set_option maxRecDepth 100000 in
set_option maxHeartbeats 1000000 in
theorem rmake_bad (a b : Option Addr) (ca cb : Nat) (zs ys : List Int) (w : World) (hA : Row w a zs ca) (hB : Row w b ys cb) (h : ¬ (Vld zs ∧ Vld ys)) :
    Calls Tryd.prog 52 #[.agg #[.slice a zs.length ca], .agg #[.slice b ys.length cb]] w fun e W' => e = .returned (.tuple #[.agg #[.slice none 0 0, .slice none 0 0], .int .i64 1]) ∧ Below w.heap.size w W' := by
  have HS := Lib.hid (BSt.ratio hA hB)
  clear hA hB
  go_enter Tryd.func52, Tryd.ntmps52
  go_wp2_with fail
  generalize (((w.alloc (.cells #[.slice a zs.length ca] 24)).alloc (.cells #[.slice b ys.length cb] 24)).alloc (.cells #[.slice none 0 0, .slice none 0 0] 58)) = w3 at *
  by_cases hz : Vld zs
  · have HY := Lib.hid (show ¬ Vld ys from fun hy => h ⟨hz, hy⟩)
    have HZ := Lib.hid hz
    clear h hz
    refine (rvalid_yes a zs ca _ HS.out.ra HZ.out).mono ?_
    rintro e w4 ⟨rfl, hb4⟩
    have HS4 := Lib.hid (HS.out.keep hb4)
    clear hb4 HS
    have d1 := HS4.out.c1
    go_wp2_with fail
    refine (rvalid_no b ys cb _ HS4.out.rb HY.out).mono ?_
    rintro e w5 ⟨rfl, hb5⟩
    have HS5 := Lib.hid (HS4.out.keep hb5)
    clear hb5 HS4 d1
    have r0 := (HS5.out.res ⟨w.heap.size + 1 + 1, 0, none⟩ (by simp)).1
    have f0 := (HS5.out.res ⟨w.heap.size + 1 + 1, 0, none⟩ (by simp)).2
    have r1 := (HS5.out.res ⟨w.heap.size + 1 + 1, 1, none⟩ (by simp)).1
    have f1 := (HS5.out.res ⟨w.heap.size + 1 + 1, 1, none⟩ (by simp)).2
    have HB := Lib.hid HS5.out.below
    clear HS5
    go_wp2_with fail
    refine bodyPost_ret (v := .tuple #[.agg #[.slice none 0 0, .slice none 0 0], .int .i64 1]) (by simp [results, Tryd.results52, go_sem, r0, r1]) rfl ⟨rfl, ((HB.out.setCell (p := ⟨w.heap.size + 1 + 1, 0, none⟩) (by show _ ≤ w.heap.size + 1 + 1; omega) _).setCell (p := ⟨w.heap.size + 1 + 1, 1, none⟩) (by show _ ≤ w.heap.size + 1 + 1; omega) _)⟩
  · have HZ := Lib.hid hz
    clear h hz
    refine (rvalid_no a zs ca _ HS.out.ra HZ.out).mono ?_
    rintro e w4 ⟨rfl, hb4⟩
    have HS4 := Lib.hid (HS.out.keep hb4)
    clear hb4 HS
    have r0 := (HS4.out.res ⟨w.heap.size + 1 + 1, 0, none⟩ (by simp)).1
    have f0 := (HS4.out.res ⟨w.heap.size + 1 + 1, 0, none⟩ (by simp)).2
    have r1 := (HS4.out.res ⟨w.heap.size + 1 + 1, 1, none⟩ (by simp)).1
    have f1 := (HS4.out.res ⟨w.heap.size + 1 + 1, 1, none⟩ (by simp)).2
    have HB := Lib.hid HS4.out.below
    clear HS4
    go_wp2_with fail
    refine bodyPost_ret (v := .tuple #[.agg #[.slice none 0 0, .slice none 0 0], .int .i64 1]) (by simp [results, Tryd.results52, go_sem, r0, r1]) rfl ⟨rfl, ((HB.out.setCell (p := ⟨w.heap.size + 1 + 1, 0, none⟩) (by show _ ≤ w.heap.size + 1 + 1; omega) _).setCell (p := ⟨w.heap.size + 1 + 1, 1, none⟩) (by show _ ≤ w.heap.size + 1 + 1; omega) _)⟩
end Go.Proofs.YtfaggdjoogpmmaaDoor
