/- What the functions of fractions answer for invalid ones. -/
import Derived.Test.YtfaggdjoogpmmaaDoorBRatValAll
namespace Go.Proofs.YtfaggdjoogpmmaaDoor
open Go Go.RowKit Go.Shelf

theorem ratValid_ok (a b : Option Addr) (ca cb : Nat) (zs ys : List Int) (w : World) (hA : Row w a zs ca) (hB : Row w b ys cb) (h : RVd zs ys) :
    Calls Tryd.prog 59 #[.agg #[.slice a zs.length ca, .slice b ys.length cb]] w fun e W' => e = .returned (.bool true) ∧ Below w.heap.size w W' := by
  obtain ⟨x, y, rfl, rfl, hx, hy, hy0, hg⟩ := h.nums
  exact ratValid_yes ⟨a, ca, b, cb, rfl, hA, hB⟩ hy0 hg hx hy

/-- Two parameters of type Ratio in boxes, results that are empty. -/
structure QSt (w : World) (a1 a2 b1 b2 : Option Addr) (c1 c2 d1 d2 : Nat) (z1 z2 y1 y2 : List Int) (ps : List Addr) (W : World) : Prop where
  k0 : W.cell? ⟨w.heap.size, 0, none⟩ = some (.slice a1 z1.length c1)
  k1 : W.cell? ⟨w.heap.size, 1, none⟩ = some (.slice a2 z2.length c2)
  l0 : W.cell? ⟨w.heap.size + 1, 0, none⟩ = some (.slice b1 y1.length d1)
  l1 : W.cell? ⟨w.heap.size + 1, 1, none⟩ = some (.slice b2 y2.length d2)
  ra1 : Row W a1 z1 c1
  ra2 : Row W a2 z2 c2
  rb1 : Row W b1 y1 d1
  rb2 : Row W b2 y2 d2
  res : ∀ p ∈ ps, W.cell? p = some (.slice none 0 0) ∧ W.frozen? p = false
  below : Below w.heap.size w W
section
variable {w W : World} {a1 a2 b1 b2 : Option Addr} {c1 c2 d1 d2 : Nat} {z1 z2 y1 y2 : List Int} {ps : List Addr}
theorem QSt.keep {W' : World} (h : QSt w a1 a2 b1 b2 c1 c2 d1 d2 z1 z2 y1 y2 ps W) (hb : Below W.heap.size W W') : QSt w a1 a2 b1 b2 c1 c2 d1 d2 z1 z2 y1 y2 ps W' :=
  ⟨cell_below hb h.k0, cell_below hb h.k1, cell_below hb h.l0, cell_below hb h.l1, h.ra1.below hb, h.ra2.below hb, h.rb1.below hb, h.rb2.below hb, fun p hp => ⟨cell_below hb (h.res p hp).1, frozen_below hb (h.res p hp).1 (h.res p hp).2⟩, h.below.trans (hb.mono h.below.size)⟩
theorem QSt.alloc (h : QSt w a1 a2 b1 b2 c1 c2 d1 d2 z1 z2 y1 y2 ps W) (o : Obj) : QSt w a1 a2 b1 b2 c1 c2 d1 d2 z1 z2 y1 y2 ps (W.alloc o) := h.keep ((Below.refl _ W).alloc (Nat.le_refl _) o)
theorem QSt.more (h : QSt w a1 a2 b1 b2 c1 c2 d1 d2 z1 z2 y1 y2 ps W) {p : Addr} (h1 : W.cell? p = some (.slice none 0 0)) (h2 : W.frozen? p = false) : QSt w a1 a2 b1 b2 c1 c2 d1 d2 z1 z2 y1 y2 (p :: ps) W :=
  ⟨h.k0, h.k1, h.l0, h.l1, h.ra1, h.ra2, h.rb1, h.rb2, fun q hq => by
      simp only [List.mem_cons] at hq
      rcases hq with rfl | hq
      · exact ⟨h1, h2⟩
      · exact h.res q hq, h.below⟩
theorem QSt.two (h1 : Row w a1 z1 c1) (h2 : Row w a2 z2 c2) (h3 : Row w b1 y1 d1) (h4 : Row w b2 y2 d2) : QSt w a1 a2 b1 b2 c1 c2 d1 d2 z1 z2 y1 y2 [] ((w.alloc (.cells #[.slice a1 z1.length c1, .slice a2 z2.length c2] 58)).alloc (.cells #[.slice b1 y1.length d1, .slice b2 y2.length d2] 58)) := by
  obtain ⟨⟨k0, _⟩, k1, _⟩ := two_cells w (.slice a1 z1.length c1) (.slice a2 z2.length c2) 58
  obtain ⟨⟨l0, _⟩, l1, _⟩ := two_cells (w.alloc (.cells #[.slice a1 z1.length c1, .slice a2 z2.length c2] 58)) (.slice b1 y1.length d1) (.slice b2 y2.length d2) 58
  simp only [World.size_alloc] at l0 l1
  exact ⟨cell_later _ k0, cell_later _ k1, l0, l1, (h1.alloc _).alloc _, (h2.alloc _).alloc _, (h3.alloc _).alloc _, (h4.alloc _).alloc _, (fun p hp => by cases hp), ((Below.refl _ w).alloc (Nat.le_refl _) _).alloc (by simp) _⟩
theorem QSt.ratio (h1 : Row w a1 z1 c1) (h2 : Row w a2 z2 c2) (h3 : Row w b1 y1 d1) (h4 : Row w b2 y2 d2) : QSt w a1 a2 b1 b2 c1 c2 d1 d2 z1 z2 y1 y2 [⟨w.heap.size + 1 + 1, 0, none⟩, ⟨w.heap.size + 1 + 1, 1, none⟩] (((w.alloc (.cells #[.slice a1 z1.length c1, .slice a2 z2.length c2] 58)).alloc (.cells #[.slice b1 y1.length d1, .slice b2 y2.length d2] 58)).alloc (.cells #[.slice none 0 0, .slice none 0 0] 58)) := by
  obtain ⟨⟨k0, k1⟩, k2, k3⟩ := two_cells ((w.alloc (.cells #[.slice a1 z1.length c1, .slice a2 z2.length c2] 58)).alloc (.cells #[.slice b1 y1.length d1, .slice b2 y2.length d2] 58)) (.slice none 0 0) (.slice none 0 0) 58
  simp only [World.size_alloc] at k0 k1 k2 k3
  exact (((QSt.two h1 h2 h3 h4).alloc _).more k2 k3).more k0 k1
end
set_option maxRecDepth 100000 in
set_option maxHeartbeats 1000000 in
theorem rratMul_bad (a1 a2 b1 b2 : Option Addr) (c1 c2 d1 d2 : Nat) (z1 z2 y1 y2 : List Int) (w : World) (h1 : Row w a1 z1 c1) (h2 : Row w a2 z2 c2) (h3 : Row w b1 y1 d1) (h4 : Row w b2 y2 d2) (h : ¬ (RVd z1 z2 ∧ RVd y1 y2)) :
    Calls Tryd.prog 89 #[.agg #[.slice a1 z1.length c1, .slice a2 z2.length c2], .agg #[.slice b1 y1.length d1, .slice b2 y2.length d2]] w fun e W' => e = .returned (.tuple #[.agg #[.slice none 0 0, .slice none 0 0], .int .i64 1]) ∧ Below w.heap.size w W' := by
  have HS := Lib.hid (QSt.ratio h1 h2 h3 h4)
  have k0 := HS.out.k0
  have k1 := HS.out.k1
  clear h1 h2 h3 h4
  go_enter Tryd.func89, Tryd.ntmps89
  go_wp2_with fail
  generalize ((w.alloc (.cells #[.slice a1 z1.length c1, .slice a2 z2.length c2] 58)).alloc (.cells #[.slice b1 y1.length d1, .slice b2 y2.length d2] 58)).alloc (.cells #[.slice none 0 0, .slice none 0 0] 58) = w0 at *
  by_cases hz : RVd z1 z2
  · have HY := Lib.hid (show ¬ RVd y1 y2 from fun hy => h ⟨hz, hy⟩)
    have HZ := Lib.hid hz
    clear h hz
    refine (rratValid_yes a1 a2 c1 c2 z1 z2 _ HS.out.ra1 HS.out.ra2 HZ.out).mono ?_
    rintro e u1 ⟨rfl, hb⟩
    replace HS := Lib.hid (HS.out.keep hb)
    clear hb
    clear k0 k1
    have l0 := HS.out.l0
    have l1 := HS.out.l1
    go_wp2_with fail
    refine (rratValid_no b1 b2 d1 d2 y1 y2 _ HS.out.rb1 HS.out.rb2 HY.out).mono ?_
    rintro e u2 ⟨rfl, hb⟩
    replace HS := Lib.hid (HS.out.keep hb)
    clear hb
    clear l0 l1
    have r0 := (HS.out.res ⟨w.heap.size + 1 + 1, 0, none⟩ (by simp)).1
    have r1 := (HS.out.res ⟨w.heap.size + 1 + 1, 1, none⟩ (by simp)).1
    have f0 := (HS.out.res ⟨w.heap.size + 1 + 1, 0, none⟩ (by simp)).2
    have f1 := (HS.out.res ⟨w.heap.size + 1 + 1, 1, none⟩ (by simp)).2
    have HB := Lib.hid HS.out.below
    clear HS
    go_wp2_with fail
    refine bodyPost_ret (v := .tuple #[.agg #[.slice none 0 0, .slice none 0 0], .int .i64 1]) (by simp [results, Tryd.results89, go_sem, r0, r1]) rfl ⟨rfl, ?_⟩
    first | exact (HB.out.setCell (p := ⟨w.heap.size + 1 + 1, 0, none⟩) (by show _ ≤ w.heap.size + 1 + 1; omega) _).setCell (p := ⟨w.heap.size + 1 + 1, 1, none⟩) (by show _ ≤ w.heap.size + 1 + 1; omega) _ | exact HB.out
  · have HZ := Lib.hid hz
    clear h hz
    refine (rratValid_no a1 a2 c1 c2 z1 z2 _ HS.out.ra1 HS.out.ra2 HZ.out).mono ?_
    rintro e u1 ⟨rfl, hb⟩
    replace HS := Lib.hid (HS.out.keep hb)
    clear hb
    clear k0 k1
    have r0 := (HS.out.res ⟨w.heap.size + 1 + 1, 0, none⟩ (by simp)).1
    have r1 := (HS.out.res ⟨w.heap.size + 1 + 1, 1, none⟩ (by simp)).1
    have f0 := (HS.out.res ⟨w.heap.size + 1 + 1, 0, none⟩ (by simp)).2
    have f1 := (HS.out.res ⟨w.heap.size + 1 + 1, 1, none⟩ (by simp)).2
    have HB := Lib.hid HS.out.below
    clear HS
    go_wp2_with fail
    refine bodyPost_ret (v := .tuple #[.agg #[.slice none 0 0, .slice none 0 0], .int .i64 1]) (by simp [results, Tryd.results89, go_sem, r0, r1]) rfl ⟨rfl, ?_⟩
    first | exact (HB.out.setCell (p := ⟨w.heap.size + 1 + 1, 0, none⟩) (by show _ ≤ w.heap.size + 1 + 1; omega) _).setCell (p := ⟨w.heap.size + 1 + 1, 1, none⟩) (by show _ ≤ w.heap.size + 1 + 1; omega) _ | exact HB.out

set_option maxRecDepth 100000 in
set_option maxHeartbeats 1000000 in
theorem rratDivide_bad (a1 a2 b1 b2 : Option Addr) (c1 c2 d1 d2 : Nat) (z1 z2 y1 y2 : List Int) (w : World) (h1 : Row w a1 z1 c1) (h2 : Row w a2 z2 c2) (h3 : Row w b1 y1 d1) (h4 : Row w b2 y2 d2) (h : ¬ (RVd z1 z2 ∧ RVd y1 y2)) :
    Calls Tryd.prog 90 #[.agg #[.slice a1 z1.length c1, .slice a2 z2.length c2], .agg #[.slice b1 y1.length d1, .slice b2 y2.length d2]] w fun e W' => e = .returned (.tuple #[.agg #[.slice none 0 0, .slice none 0 0], .int .i64 1]) ∧ Below w.heap.size w W' := by
  have HS := Lib.hid (QSt.ratio h1 h2 h3 h4)
  have k0 := HS.out.k0
  have k1 := HS.out.k1
  clear h1 h2 h3 h4
  go_enter Tryd.func90, Tryd.ntmps90
  go_wp2_with fail
  generalize ((w.alloc (.cells #[.slice a1 z1.length c1, .slice a2 z2.length c2] 58)).alloc (.cells #[.slice b1 y1.length d1, .slice b2 y2.length d2] 58)).alloc (.cells #[.slice none 0 0, .slice none 0 0] 58) = w0 at *
  by_cases hz : RVd z1 z2
  · have HY := Lib.hid (show ¬ RVd y1 y2 from fun hy => h ⟨hz, hy⟩)
    have HZ := Lib.hid hz
    clear h hz
    refine (rratValid_yes a1 a2 c1 c2 z1 z2 _ HS.out.ra1 HS.out.ra2 HZ.out).mono ?_
    rintro e u1 ⟨rfl, hb⟩
    replace HS := Lib.hid (HS.out.keep hb)
    clear hb
    clear k0 k1
    have l0 := HS.out.l0
    have l1 := HS.out.l1
    go_wp2_with fail
    refine (rratValid_no b1 b2 d1 d2 y1 y2 _ HS.out.rb1 HS.out.rb2 HY.out).mono ?_
    rintro e u2 ⟨rfl, hb⟩
    replace HS := Lib.hid (HS.out.keep hb)
    clear hb
    clear l0 l1
    have r0 := (HS.out.res ⟨w.heap.size + 1 + 1, 0, none⟩ (by simp)).1
    have r1 := (HS.out.res ⟨w.heap.size + 1 + 1, 1, none⟩ (by simp)).1
    have f0 := (HS.out.res ⟨w.heap.size + 1 + 1, 0, none⟩ (by simp)).2
    have f1 := (HS.out.res ⟨w.heap.size + 1 + 1, 1, none⟩ (by simp)).2
    have HB := Lib.hid HS.out.below
    clear HS
    go_wp2_with fail
    refine bodyPost_ret (v := .tuple #[.agg #[.slice none 0 0, .slice none 0 0], .int .i64 1]) (by simp [results, Tryd.results90, go_sem, r0, r1]) rfl ⟨rfl, ?_⟩
    first | exact (HB.out.setCell (p := ⟨w.heap.size + 1 + 1, 0, none⟩) (by show _ ≤ w.heap.size + 1 + 1; omega) _).setCell (p := ⟨w.heap.size + 1 + 1, 1, none⟩) (by show _ ≤ w.heap.size + 1 + 1; omega) _ | exact HB.out
  · have HZ := Lib.hid hz
    clear h hz
    refine (rratValid_no a1 a2 c1 c2 z1 z2 _ HS.out.ra1 HS.out.ra2 HZ.out).mono ?_
    rintro e u1 ⟨rfl, hb⟩
    replace HS := Lib.hid (HS.out.keep hb)
    clear hb
    clear k0 k1
    have r0 := (HS.out.res ⟨w.heap.size + 1 + 1, 0, none⟩ (by simp)).1
    have r1 := (HS.out.res ⟨w.heap.size + 1 + 1, 1, none⟩ (by simp)).1
    have f0 := (HS.out.res ⟨w.heap.size + 1 + 1, 0, none⟩ (by simp)).2
    have f1 := (HS.out.res ⟨w.heap.size + 1 + 1, 1, none⟩ (by simp)).2
    have HB := Lib.hid HS.out.below
    clear HS
    go_wp2_with fail
    refine bodyPost_ret (v := .tuple #[.agg #[.slice none 0 0, .slice none 0 0], .int .i64 1]) (by simp [results, Tryd.results90, go_sem, r0, r1]) rfl ⟨rfl, ?_⟩
    first | exact (HB.out.setCell (p := ⟨w.heap.size + 1 + 1, 0, none⟩) (by show _ ≤ w.heap.size + 1 + 1; omega) _).setCell (p := ⟨w.heap.size + 1 + 1, 1, none⟩) (by show _ ≤ w.heap.size + 1 + 1; omega) _ | exact HB.out

set_option maxRecDepth 100000 in
set_option maxHeartbeats 1000000 in
theorem rratAdd_bad (a1 a2 b1 b2 : Option Addr) (c1 c2 d1 d2 : Nat) (z1 z2 y1 y2 : List Int) (w : World) (h1 : Row w a1 z1 c1) (h2 : Row w a2 z2 c2) (h3 : Row w b1 y1 d1) (h4 : Row w b2 y2 d2) (h : ¬ (RVd z1 z2 ∧ RVd y1 y2)) :
    Calls Tryd.prog 87 #[.agg #[.slice a1 z1.length c1, .slice a2 z2.length c2], .agg #[.slice b1 y1.length d1, .slice b2 y2.length d2]] w fun e W' => e = .returned (.tuple #[.agg #[.slice none 0 0, .slice none 0 0], .int .i64 1]) ∧ Below w.heap.size w W' := by
  have HS := Lib.hid (QSt.ratio h1 h2 h3 h4)
  have k0 := HS.out.k0
  have k1 := HS.out.k1
  clear h1 h2 h3 h4
  go_enter Tryd.func87, Tryd.ntmps87
  go_wp2_with fail
  generalize ((w.alloc (.cells #[.slice a1 z1.length c1, .slice a2 z2.length c2] 58)).alloc (.cells #[.slice b1 y1.length d1, .slice b2 y2.length d2] 58)).alloc (.cells #[.slice none 0 0, .slice none 0 0] 58) = w0 at *
  by_cases hz : RVd z1 z2
  · have HY := Lib.hid (show ¬ RVd y1 y2 from fun hy => h ⟨hz, hy⟩)
    have HZ := Lib.hid hz
    clear h hz
    refine (rratValid_yes a1 a2 c1 c2 z1 z2 _ HS.out.ra1 HS.out.ra2 HZ.out).mono ?_
    rintro e u1 ⟨rfl, hb⟩
    replace HS := Lib.hid (HS.out.keep hb)
    clear hb
    clear k0 k1
    have l0 := HS.out.l0
    have l1 := HS.out.l1
    go_wp2_with fail
    refine (rratValid_no b1 b2 d1 d2 y1 y2 _ HS.out.rb1 HS.out.rb2 HY.out).mono ?_
    rintro e u2 ⟨rfl, hb⟩
    replace HS := Lib.hid (HS.out.keep hb)
    clear hb
    clear l0 l1
    have r0 := (HS.out.res ⟨w.heap.size + 1 + 1, 0, none⟩ (by simp)).1
    have r1 := (HS.out.res ⟨w.heap.size + 1 + 1, 1, none⟩ (by simp)).1
    have f0 := (HS.out.res ⟨w.heap.size + 1 + 1, 0, none⟩ (by simp)).2
    have f1 := (HS.out.res ⟨w.heap.size + 1 + 1, 1, none⟩ (by simp)).2
    have HB := Lib.hid HS.out.below
    clear HS
    go_wp2_with fail
    refine bodyPost_ret (v := .tuple #[.agg #[.slice none 0 0, .slice none 0 0], .int .i64 1]) (by simp [results, Tryd.results87, go_sem, r0, r1]) rfl ⟨rfl, ?_⟩
    first | exact (HB.out.setCell (p := ⟨w.heap.size + 1 + 1, 0, none⟩) (by show _ ≤ w.heap.size + 1 + 1; omega) _).setCell (p := ⟨w.heap.size + 1 + 1, 1, none⟩) (by show _ ≤ w.heap.size + 1 + 1; omega) _ | exact HB.out
  · have HZ := Lib.hid hz
    clear h hz
    refine (rratValid_no a1 a2 c1 c2 z1 z2 _ HS.out.ra1 HS.out.ra2 HZ.out).mono ?_
    rintro e u1 ⟨rfl, hb⟩
    replace HS := Lib.hid (HS.out.keep hb)
    clear hb
    clear k0 k1
    have r0 := (HS.out.res ⟨w.heap.size + 1 + 1, 0, none⟩ (by simp)).1
    have r1 := (HS.out.res ⟨w.heap.size + 1 + 1, 1, none⟩ (by simp)).1
    have f0 := (HS.out.res ⟨w.heap.size + 1 + 1, 0, none⟩ (by simp)).2
    have f1 := (HS.out.res ⟨w.heap.size + 1 + 1, 1, none⟩ (by simp)).2
    have HB := Lib.hid HS.out.below
    clear HS
    go_wp2_with fail
    refine bodyPost_ret (v := .tuple #[.agg #[.slice none 0 0, .slice none 0 0], .int .i64 1]) (by simp [results, Tryd.results87, go_sem, r0, r1]) rfl ⟨rfl, ?_⟩
    first | exact (HB.out.setCell (p := ⟨w.heap.size + 1 + 1, 0, none⟩) (by show _ ≤ w.heap.size + 1 + 1; omega) _).setCell (p := ⟨w.heap.size + 1 + 1, 1, none⟩) (by show _ ≤ w.heap.size + 1 + 1; omega) _ | exact HB.out

set_option maxRecDepth 100000 in
set_option maxHeartbeats 1000000 in
theorem rratSub_bad (a1 a2 b1 b2 : Option Addr) (c1 c2 d1 d2 : Nat) (z1 z2 y1 y2 : List Int) (w : World) (h1 : Row w a1 z1 c1) (h2 : Row w a2 z2 c2) (h3 : Row w b1 y1 d1) (h4 : Row w b2 y2 d2) (h : ¬ (RVd z1 z2 ∧ RVd y1 y2)) :
    Calls Tryd.prog 88 #[.agg #[.slice a1 z1.length c1, .slice a2 z2.length c2], .agg #[.slice b1 y1.length d1, .slice b2 y2.length d2]] w fun e W' => e = .returned (.tuple #[.agg #[.slice none 0 0, .slice none 0 0], .int .i64 1]) ∧ Below w.heap.size w W' := by
  have HS := Lib.hid (QSt.ratio h1 h2 h3 h4)
  have k0 := HS.out.k0
  have k1 := HS.out.k1
  clear h1 h2 h3 h4
  go_enter Tryd.func88, Tryd.ntmps88
  go_wp2_with fail
  generalize ((w.alloc (.cells #[.slice a1 z1.length c1, .slice a2 z2.length c2] 58)).alloc (.cells #[.slice b1 y1.length d1, .slice b2 y2.length d2] 58)).alloc (.cells #[.slice none 0 0, .slice none 0 0] 58) = w0 at *
  by_cases hz : RVd z1 z2
  · have HY := Lib.hid (show ¬ RVd y1 y2 from fun hy => h ⟨hz, hy⟩)
    have HZ := Lib.hid hz
    clear h hz
    refine (rratValid_yes a1 a2 c1 c2 z1 z2 _ HS.out.ra1 HS.out.ra2 HZ.out).mono ?_
    rintro e u1 ⟨rfl, hb⟩
    replace HS := Lib.hid (HS.out.keep hb)
    clear hb
    clear k0 k1
    have l0 := HS.out.l0
    have l1 := HS.out.l1
    go_wp2_with fail
    refine (rratValid_no b1 b2 d1 d2 y1 y2 _ HS.out.rb1 HS.out.rb2 HY.out).mono ?_
    rintro e u2 ⟨rfl, hb⟩
    replace HS := Lib.hid (HS.out.keep hb)
    clear hb
    clear l0 l1
    have r0 := (HS.out.res ⟨w.heap.size + 1 + 1, 0, none⟩ (by simp)).1
    have r1 := (HS.out.res ⟨w.heap.size + 1 + 1, 1, none⟩ (by simp)).1
    have f0 := (HS.out.res ⟨w.heap.size + 1 + 1, 0, none⟩ (by simp)).2
    have f1 := (HS.out.res ⟨w.heap.size + 1 + 1, 1, none⟩ (by simp)).2
    have HB := Lib.hid HS.out.below
    clear HS
    go_wp2_with fail
    refine bodyPost_ret (v := .tuple #[.agg #[.slice none 0 0, .slice none 0 0], .int .i64 1]) (by simp [results, Tryd.results88, go_sem, r0, r1]) rfl ⟨rfl, ?_⟩
    first | exact (HB.out.setCell (p := ⟨w.heap.size + 1 + 1, 0, none⟩) (by show _ ≤ w.heap.size + 1 + 1; omega) _).setCell (p := ⟨w.heap.size + 1 + 1, 1, none⟩) (by show _ ≤ w.heap.size + 1 + 1; omega) _ | exact HB.out
  · have HZ := Lib.hid hz
    clear h hz
    refine (rratValid_no a1 a2 c1 c2 z1 z2 _ HS.out.ra1 HS.out.ra2 HZ.out).mono ?_
    rintro e u1 ⟨rfl, hb⟩
    replace HS := Lib.hid (HS.out.keep hb)
    clear hb
    clear k0 k1
    have r0 := (HS.out.res ⟨w.heap.size + 1 + 1, 0, none⟩ (by simp)).1
    have r1 := (HS.out.res ⟨w.heap.size + 1 + 1, 1, none⟩ (by simp)).1
    have f0 := (HS.out.res ⟨w.heap.size + 1 + 1, 0, none⟩ (by simp)).2
    have f1 := (HS.out.res ⟨w.heap.size + 1 + 1, 1, none⟩ (by simp)).2
    have HB := Lib.hid HS.out.below
    clear HS
    go_wp2_with fail
    refine bodyPost_ret (v := .tuple #[.agg #[.slice none 0 0, .slice none 0 0], .int .i64 1]) (by simp [results, Tryd.results88, go_sem, r0, r1]) rfl ⟨rfl, ?_⟩
    first | exact (HB.out.setCell (p := ⟨w.heap.size + 1 + 1, 0, none⟩) (by show _ ≤ w.heap.size + 1 + 1; omega) _).setCell (p := ⟨w.heap.size + 1 + 1, 1, none⟩) (by show _ ≤ w.heap.size + 1 + 1; omega) _ | exact HB.out

set_option maxRecDepth 100000 in
set_option maxHeartbeats 1000000 in
theorem ratMul_bad (a1 a2 b1 b2 : Option Addr) (c1 c2 d1 d2 : Nat) (z1 z2 y1 y2 : List Int) (w : World) (h1 : Row w a1 z1 c1) (h2 : Row w a2 z2 c2) (h3 : Row w b1 y1 d1) (h4 : Row w b2 y2 d2) (h : ¬ (RVd z1 z2 ∧ RVd y1 y2)) :
    Calls Tryd.prog 57 #[.agg #[.slice a1 z1.length c1, .slice a2 z2.length c2], .agg #[.slice b1 y1.length d1, .slice b2 y2.length d2]] w fun e W' => e = .returned (.tuple #[.agg #[.slice none 0 0, .slice none 0 0], .int .i64 1]) ∧ Below w.heap.size w W' := by
  have HS := Lib.hid (QSt.ratio h1 h2 h3 h4)
  have k0 := HS.out.k0
  have k1 := HS.out.k1
  clear h1 h2 h3 h4
  go_enter Tryd.func57, Tryd.ntmps57
  go_wp2_with fail
  generalize ((w.alloc (.cells #[.slice a1 z1.length c1, .slice a2 z2.length c2] 58)).alloc (.cells #[.slice b1 y1.length d1, .slice b2 y2.length d2] 58)).alloc (.cells #[.slice none 0 0, .slice none 0 0] 58) = w0 at *
  by_cases hz : RVd z1 z2
  · have HY := Lib.hid (show ¬ RVd y1 y2 from fun hy => h ⟨hz, hy⟩)
    have HZ := Lib.hid hz
    clear h hz
    refine (ratValid_ok a1 a2 c1 c2 z1 z2 _ HS.out.ra1 HS.out.ra2 HZ.out).mono ?_
    rintro e u1 ⟨rfl, hb⟩
    replace HS := Lib.hid (HS.out.keep hb)
    clear hb
    clear k0 k1
    have l0 := HS.out.l0
    have l1 := HS.out.l1
    go_wp2_with fail
    refine (ratValid_no b1 b2 d1 d2 y1 y2 _ HS.out.rb1 HS.out.rb2 HY.out).mono ?_
    rintro e u2 ⟨rfl, hb⟩
    replace HS := Lib.hid (HS.out.keep hb)
    clear hb
    clear l0 l1
    have r0 := (HS.out.res ⟨w.heap.size + 1 + 1, 0, none⟩ (by simp)).1
    have r1 := (HS.out.res ⟨w.heap.size + 1 + 1, 1, none⟩ (by simp)).1
    have f0 := (HS.out.res ⟨w.heap.size + 1 + 1, 0, none⟩ (by simp)).2
    have f1 := (HS.out.res ⟨w.heap.size + 1 + 1, 1, none⟩ (by simp)).2
    have HB := Lib.hid HS.out.below
    clear HS
    go_wp2_with fail
    refine bodyPost_ret (v := .tuple #[.agg #[.slice none 0 0, .slice none 0 0], .int .i64 1]) (by simp [results, Tryd.results57, go_sem, r0, r1]) rfl ⟨rfl, ?_⟩
    first | exact (HB.out.setCell (p := ⟨w.heap.size + 1 + 1, 0, none⟩) (by show _ ≤ w.heap.size + 1 + 1; omega) _).setCell (p := ⟨w.heap.size + 1 + 1, 1, none⟩) (by show _ ≤ w.heap.size + 1 + 1; omega) _ | exact HB.out
  · have HZ := Lib.hid hz
    clear h hz
    refine (ratValid_no a1 a2 c1 c2 z1 z2 _ HS.out.ra1 HS.out.ra2 HZ.out).mono ?_
    rintro e u1 ⟨rfl, hb⟩
    replace HS := Lib.hid (HS.out.keep hb)
    clear hb
    clear k0 k1
    have r0 := (HS.out.res ⟨w.heap.size + 1 + 1, 0, none⟩ (by simp)).1
    have r1 := (HS.out.res ⟨w.heap.size + 1 + 1, 1, none⟩ (by simp)).1
    have f0 := (HS.out.res ⟨w.heap.size + 1 + 1, 0, none⟩ (by simp)).2
    have f1 := (HS.out.res ⟨w.heap.size + 1 + 1, 1, none⟩ (by simp)).2
    have HB := Lib.hid HS.out.below
    clear HS
    go_wp2_with fail
    refine bodyPost_ret (v := .tuple #[.agg #[.slice none 0 0, .slice none 0 0], .int .i64 1]) (by simp [results, Tryd.results57, go_sem, r0, r1]) rfl ⟨rfl, ?_⟩
    first | exact (HB.out.setCell (p := ⟨w.heap.size + 1 + 1, 0, none⟩) (by show _ ≤ w.heap.size + 1 + 1; omega) _).setCell (p := ⟨w.heap.size + 1 + 1, 1, none⟩) (by show _ ≤ w.heap.size + 1 + 1; omega) _ | exact HB.out

set_option maxRecDepth 100000 in
set_option maxHeartbeats 1000000 in
theorem ratDivide_bad (a1 a2 b1 b2 : Option Addr) (c1 c2 d1 d2 : Nat) (z1 z2 y1 y2 : List Int) (w : World) (h1 : Row w a1 z1 c1) (h2 : Row w a2 z2 c2) (h3 : Row w b1 y1 d1) (h4 : Row w b2 y2 d2) (h : ¬ (RVd z1 z2 ∧ RVd y1 y2)) :
    Calls Tryd.prog 60 #[.agg #[.slice a1 z1.length c1, .slice a2 z2.length c2], .agg #[.slice b1 y1.length d1, .slice b2 y2.length d2]] w fun e W' => e = .returned (.tuple #[.agg #[.slice none 0 0, .slice none 0 0], .int .i64 1]) ∧ Below w.heap.size w W' := by
  have HS := Lib.hid (QSt.ratio h1 h2 h3 h4)
  have k0 := HS.out.k0
  have k1 := HS.out.k1
  clear h1 h2 h3 h4
  go_enter Tryd.func60, Tryd.ntmps60
  go_wp2_with fail
  generalize ((w.alloc (.cells #[.slice a1 z1.length c1, .slice a2 z2.length c2] 58)).alloc (.cells #[.slice b1 y1.length d1, .slice b2 y2.length d2] 58)).alloc (.cells #[.slice none 0 0, .slice none 0 0] 58) = w0 at *
  by_cases hz : RVd z1 z2
  · have HY := Lib.hid (show ¬ RVd y1 y2 from fun hy => h ⟨hz, hy⟩)
    have HZ := Lib.hid hz
    clear h hz
    refine (ratValid_ok a1 a2 c1 c2 z1 z2 _ HS.out.ra1 HS.out.ra2 HZ.out).mono ?_
    rintro e u1 ⟨rfl, hb⟩
    replace HS := Lib.hid (HS.out.keep hb)
    clear hb
    clear k0 k1
    have l0 := HS.out.l0
    have l1 := HS.out.l1
    go_wp2_with fail
    refine (ratValid_no b1 b2 d1 d2 y1 y2 _ HS.out.rb1 HS.out.rb2 HY.out).mono ?_
    rintro e u2 ⟨rfl, hb⟩
    replace HS := Lib.hid (HS.out.keep hb)
    clear hb
    clear l0 l1
    have r0 := (HS.out.res ⟨w.heap.size + 1 + 1, 0, none⟩ (by simp)).1
    have r1 := (HS.out.res ⟨w.heap.size + 1 + 1, 1, none⟩ (by simp)).1
    have f0 := (HS.out.res ⟨w.heap.size + 1 + 1, 0, none⟩ (by simp)).2
    have f1 := (HS.out.res ⟨w.heap.size + 1 + 1, 1, none⟩ (by simp)).2
    have HB := Lib.hid HS.out.below
    clear HS
    go_wp2_with fail
    refine bodyPost_ret (v := .tuple #[.agg #[.slice none 0 0, .slice none 0 0], .int .i64 1]) (by simp [results, Tryd.results60, go_sem, r0, r1]) rfl ⟨rfl, ?_⟩
    first | exact (HB.out.setCell (p := ⟨w.heap.size + 1 + 1, 0, none⟩) (by show _ ≤ w.heap.size + 1 + 1; omega) _).setCell (p := ⟨w.heap.size + 1 + 1, 1, none⟩) (by show _ ≤ w.heap.size + 1 + 1; omega) _ | exact HB.out
  · have HZ := Lib.hid hz
    clear h hz
    refine (ratValid_no a1 a2 c1 c2 z1 z2 _ HS.out.ra1 HS.out.ra2 HZ.out).mono ?_
    rintro e u1 ⟨rfl, hb⟩
    replace HS := Lib.hid (HS.out.keep hb)
    clear hb
    clear k0 k1
    have r0 := (HS.out.res ⟨w.heap.size + 1 + 1, 0, none⟩ (by simp)).1
    have r1 := (HS.out.res ⟨w.heap.size + 1 + 1, 1, none⟩ (by simp)).1
    have f0 := (HS.out.res ⟨w.heap.size + 1 + 1, 0, none⟩ (by simp)).2
    have f1 := (HS.out.res ⟨w.heap.size + 1 + 1, 1, none⟩ (by simp)).2
    have HB := Lib.hid HS.out.below
    clear HS
    go_wp2_with fail
    refine bodyPost_ret (v := .tuple #[.agg #[.slice none 0 0, .slice none 0 0], .int .i64 1]) (by simp [results, Tryd.results60, go_sem, r0, r1]) rfl ⟨rfl, ?_⟩
    first | exact (HB.out.setCell (p := ⟨w.heap.size + 1 + 1, 0, none⟩) (by show _ ≤ w.heap.size + 1 + 1; omega) _).setCell (p := ⟨w.heap.size + 1 + 1, 1, none⟩) (by show _ ≤ w.heap.size + 1 + 1; omega) _ | exact HB.out

set_option maxRecDepth 100000 in
set_option maxHeartbeats 1000000 in
theorem rratCmp_bad (a1 a2 b1 b2 : Option Addr) (c1 c2 d1 d2 : Nat) (z1 z2 y1 y2 : List Int) (w : World) (h1 : Row w a1 z1 c1) (h2 : Row w a2 z2 c2) (h3 : Row w b1 y1 d1) (h4 : Row w b2 y2 d2) (h : ¬ (RVd z1 z2 ∧ RVd y1 y2)) :
    Calls Tryd.prog 91 #[.agg #[.slice a1 z1.length c1, .slice a2 z2.length c2], .agg #[.slice b1 y1.length d1, .slice b2 y2.length d2]] w fun e W' => e = .returned (.tuple #[.int .i64 0, .int .i64 1]) ∧ Below w.heap.size w W' := by
  have HS := Lib.hid (QSt.two h1 h2 h3 h4)
  have k0 := HS.out.k0
  have k1 := HS.out.k1
  clear h1 h2 h3 h4
  go_enter Tryd.func91, Tryd.ntmps91
  go_wp2_with fail
  generalize (w.alloc (.cells #[.slice a1 z1.length c1, .slice a2 z2.length c2] 58)).alloc (.cells #[.slice b1 y1.length d1, .slice b2 y2.length d2] 58) = w0 at *
  by_cases hz : RVd z1 z2
  · have HY := Lib.hid (show ¬ RVd y1 y2 from fun hy => h ⟨hz, hy⟩)
    have HZ := Lib.hid hz
    clear h hz
    refine (rratValid_yes a1 a2 c1 c2 z1 z2 _ HS.out.ra1 HS.out.ra2 HZ.out).mono ?_
    rintro e u1 ⟨rfl, hb⟩
    replace HS := Lib.hid (HS.out.keep hb)
    clear hb
    clear k0 k1
    have l0 := HS.out.l0
    have l1 := HS.out.l1
    go_wp2_with fail
    refine (rratValid_no b1 b2 d1 d2 y1 y2 _ HS.out.rb1 HS.out.rb2 HY.out).mono ?_
    rintro e u2 ⟨rfl, hb⟩
    replace HS := Lib.hid (HS.out.keep hb)
    clear hb
    clear l0 l1
    have HB := Lib.hid HS.out.below
    clear HS
    go_wp2_with fail
    go_ret2
    exact ⟨rfl, HB.out⟩
  · have HZ := Lib.hid hz
    clear h hz
    refine (rratValid_no a1 a2 c1 c2 z1 z2 _ HS.out.ra1 HS.out.ra2 HZ.out).mono ?_
    rintro e u1 ⟨rfl, hb⟩
    replace HS := Lib.hid (HS.out.keep hb)
    clear hb
    clear k0 k1
    have HB := Lib.hid HS.out.below
    clear HS
    go_wp2_with fail
    go_ret2
    exact ⟨rfl, HB.out⟩

theorem QSt.nats {w : World} {a1 a2 b1 b2 : Option Addr} {c1 c2 d1 d2 : Nat} {z1 z2 y1 y2 : List Int} (h1 : Row w a1 z1 c1) (h2 : Row w a2 z2 c2) (h3 : Row w b1 y1 d1) (h4 : Row w b2 y2 d2) : QSt w a1 a2 b1 b2 c1 c2 d1 d2 z1 z2 y1 y2 [⟨w.heap.size + 1 + 1 + 1, 0, none⟩, ⟨w.heap.size + 1 + 1, 0, none⟩] ((((w.alloc (.cells #[.slice a1 z1.length c1, .slice a2 z2.length c2] 58)).alloc (.cells #[.slice b1 y1.length d1, .slice b2 y2.length d2] 58)).alloc (.cells #[.slice none 0 0] 24)).alloc (.cells #[.slice none 0 0] 24)) := by
  have k := cell_of_new ((w.alloc (.cells #[.slice a1 z1.length c1, .slice a2 z2.length c2] 58)).alloc (.cells #[.slice b1 y1.length d1, .slice b2 y2.length d2] 58)) (.slice none 0 0) 24
  have l := cell_of_new (((w.alloc (.cells #[.slice a1 z1.length c1, .slice a2 z2.length c2] 58)).alloc (.cells #[.slice b1 y1.length d1, .slice b2 y2.length d2] 58)).alloc (.cells #[.slice none 0 0] 24)) (.slice none 0 0) 24
  simp only [World.size_alloc] at k l
  exact ((((QSt.two h1 h2 h3 h4).alloc _).more k.1 k.2).alloc _).more l.1 l.2

set_option maxRecDepth 100000 in
set_option maxHeartbeats 1000000 in
theorem ratCross_bad (a1 a2 b1 b2 : Option Addr) (c1 c2 d1 d2 : Nat) (z1 z2 y1 y2 : List Int) (w : World) (h1 : Row w a1 z1 c1) (h2 : Row w a2 z2 c2) (h3 : Row w b1 y1 d1) (h4 : Row w b2 y2 d2) (h : ¬ (RVd z1 z2 ∧ RVd y1 y2)) :
    Calls Tryd.prog 99 #[.agg #[.slice a1 z1.length c1, .slice a2 z2.length c2], .agg #[.slice b1 y1.length d1, .slice b2 y2.length d2]] w fun e W' => e = .returned (.tuple #[.agg #[.slice none 0 0], .agg #[.slice none 0 0], .int .i64 1]) ∧ Below w.heap.size w W' := by
  have HS := Lib.hid (QSt.nats h1 h2 h3 h4)
  have k0 := HS.out.k0
  have k1 := HS.out.k1
  clear h1 h2 h3 h4
  go_enter Tryd.func99, Tryd.ntmps99
  go_wp2_with fail
  generalize (((w.alloc (.cells #[.slice a1 z1.length c1, .slice a2 z2.length c2] 58)).alloc (.cells #[.slice b1 y1.length d1, .slice b2 y2.length d2] 58)).alloc (.cells #[.slice none 0 0] 24)).alloc (.cells #[.slice none 0 0] 24) = w0 at *
  by_cases hz : RVd z1 z2
  · have HY := Lib.hid (show ¬ RVd y1 y2 from fun hy => h ⟨hz, hy⟩)
    have HZ := Lib.hid hz
    clear h hz
    refine (ratValid_ok a1 a2 c1 c2 z1 z2 _ HS.out.ra1 HS.out.ra2 HZ.out).mono ?_
    rintro e u1 ⟨rfl, hb⟩
    replace HS := Lib.hid (HS.out.keep hb)
    clear hb
    clear k0 k1
    have l0 := HS.out.l0
    have l1 := HS.out.l1
    go_wp2_with fail
    refine (ratValid_no b1 b2 d1 d2 y1 y2 _ HS.out.rb1 HS.out.rb2 HY.out).mono ?_
    rintro e u2 ⟨rfl, hb⟩
    replace HS := Lib.hid (HS.out.keep hb)
    clear hb
    clear l0 l1
    have r0 := (HS.out.res ⟨w.heap.size + 1 + 1, 0, none⟩ (by simp)).1
    have r1 := (HS.out.res ⟨w.heap.size + 1 + 1 + 1, 0, none⟩ (by simp)).1
    have f0 := (HS.out.res ⟨w.heap.size + 1 + 1, 0, none⟩ (by simp)).2
    have f1 := (HS.out.res ⟨w.heap.size + 1 + 1 + 1, 0, none⟩ (by simp)).2
    have HB := Lib.hid HS.out.below
    clear HS
    go_wp2_with fail
    refine bodyPost_ret (v := .tuple #[.agg #[.slice none 0 0], .agg #[.slice none 0 0], .int .i64 1]) (by simp [results, Tryd.results99, go_sem, r0, r1]) rfl ⟨rfl, ?_⟩
    exact (HB.out.setCell (p := ⟨w.heap.size + 1 + 1, 0, none⟩) (by show _ ≤ w.heap.size + 1 + 1; omega) _).setCell (p := ⟨w.heap.size + 1 + 1 + 1, 0, none⟩) (by show _ ≤ w.heap.size + 1 + 1 + 1; omega) _
  · have HZ := Lib.hid hz
    clear h hz
    refine (ratValid_no a1 a2 c1 c2 z1 z2 _ HS.out.ra1 HS.out.ra2 HZ.out).mono ?_
    rintro e u1 ⟨rfl, hb⟩
    replace HS := Lib.hid (HS.out.keep hb)
    clear hb
    clear k0 k1
    have r0 := (HS.out.res ⟨w.heap.size + 1 + 1, 0, none⟩ (by simp)).1
    have r1 := (HS.out.res ⟨w.heap.size + 1 + 1 + 1, 0, none⟩ (by simp)).1
    have f0 := (HS.out.res ⟨w.heap.size + 1 + 1, 0, none⟩ (by simp)).2
    have f1 := (HS.out.res ⟨w.heap.size + 1 + 1 + 1, 0, none⟩ (by simp)).2
    have HB := Lib.hid HS.out.below
    clear HS
    go_wp2_with fail
    refine bodyPost_ret (v := .tuple #[.agg #[.slice none 0 0], .agg #[.slice none 0 0], .int .i64 1]) (by simp [results, Tryd.results99, go_sem, r0, r1]) rfl ⟨rfl, ?_⟩
    exact (HB.out.setCell (p := ⟨w.heap.size + 1 + 1, 0, none⟩) (by show _ ≤ w.heap.size + 1 + 1; omega) _).setCell (p := ⟨w.heap.size + 1 + 1 + 1, 0, none⟩) (by show _ ≤ w.heap.size + 1 + 1 + 1; omega) _

set_option maxRecDepth 100000 in
set_option maxHeartbeats 1000000 in
theorem ratCmp_bad (a1 a2 b1 b2 : Option Addr) (c1 c2 d1 d2 : Nat) (z1 z2 y1 y2 : List Int) (w : World) (h1 : Row w a1 z1 c1) (h2 : Row w a2 z2 c2) (h3 : Row w b1 y1 d1) (h4 : Row w b2 y2 d2) (h : ¬ (RVd z1 z2 ∧ RVd y1 y2)) :
    Calls Tryd.prog 61 #[.agg #[.slice a1 z1.length c1, .slice a2 z2.length c2], .agg #[.slice b1 y1.length d1, .slice b2 y2.length d2]] w fun e W' => e = .returned (.tuple #[.int .i64 0, .int .i64 1]) ∧ Below w.heap.size w W' := by
  have HS := Lib.hid (QSt.two h1 h2 h3 h4)
  have k0 := HS.out.k0
  have k1 := HS.out.k1
  have l0 := HS.out.l0
  have l1 := HS.out.l1
  clear h1 h2 h3 h4
  go_enter Tryd.func61, Tryd.ntmps61
  go_wp2_with fail
  generalize (w.alloc (.cells #[.slice a1 z1.length c1, .slice a2 z2.length c2] 58)).alloc (.cells #[.slice b1 y1.length d1, .slice b2 y2.length d2] 58) = w0 at *
  refine (ratCross_bad a1 a2 b1 b2 c1 c2 d1 d2 z1 z2 y1 y2 _ HS.out.ra1 HS.out.ra2 HS.out.rb1 HS.out.rb2 h).mono ?_
  rintro e u1 ⟨rfl, hb⟩
  replace HS := Lib.hid (HS.out.keep hb)
  clear hb k0 k1 l0 l1 h
  replace HS := Lib.hid ((HS.out.alloc (.cells #[.slice none 0 0] 24)).alloc (.cells #[.slice none 0 0] 24))
  have HB := Lib.hid HS.out.below
  clear HS
  go_wp2_with fail
  go_ret2
  exact ⟨rfl, HB.out⟩

set_option maxRecDepth 100000 in
set_option maxHeartbeats 1000000 in
theorem combine_bad (a1 a2 b1 b2 : Option Addr) (c1 c2 d1 d2 : Nat) (z1 z2 y1 y2 : List Int) (w : World) (f : FuncId) (h1 : Row w a1 z1 c1) (h2 : Row w a2 z2 c2) (h3 : Row w b1 y1 d1) (h4 : Row w b2 y2 d2) (h : ¬ (RVd z1 z2 ∧ RVd y1 y2)) :
    Calls Tryd.prog 96 #[.agg #[.slice a1 z1.length c1, .slice a2 z2.length c2], .agg #[.slice b1 y1.length d1, .slice b2 y2.length d2], .func (.func f) #[] #[]] w fun e W' => e = .returned (.tuple #[.agg #[.slice none 0 0, .slice none 0 0], .int .i64 1]) ∧ Below w.heap.size w W' := by
  have HS := Lib.hid (QSt.ratio h1 h2 h3 h4)
  have k0 := HS.out.k0
  have k1 := HS.out.k1
  have l0 := HS.out.l0
  have l1 := HS.out.l1
  clear h1 h2 h3 h4
  go_enter Tryd.func96, Tryd.ntmps96
  go_wp2_with fail
  generalize ((w.alloc (.cells #[.slice a1 z1.length c1, .slice a2 z2.length c2] 58)).alloc (.cells #[.slice b1 y1.length d1, .slice b2 y2.length d2] 58)).alloc (.cells #[.slice none 0 0, .slice none 0 0] 58) = w0 at *
  refine (ratCross_bad a1 a2 b1 b2 c1 c2 d1 d2 z1 z2 y1 y2 _ HS.out.ra1 HS.out.ra2 HS.out.rb1 HS.out.rb2 h).mono ?_
  rintro e u1 ⟨rfl, hb⟩
  replace HS := Lib.hid (HS.out.keep hb)
  clear hb k0 k1 l0 l1 h
  replace HS := Lib.hid ((HS.out.alloc (.cells #[.slice none 0 0] 24)).alloc (.cells #[.slice none 0 0] 24))
  have r0 := (HS.out.res ⟨w.heap.size + 1 + 1, 0, none⟩ (by simp)).1
  have r1 := (HS.out.res ⟨w.heap.size + 1 + 1, 1, none⟩ (by simp)).1
  have f0 := (HS.out.res ⟨w.heap.size + 1 + 1, 0, none⟩ (by simp)).2
  have f1 := (HS.out.res ⟨w.heap.size + 1 + 1, 1, none⟩ (by simp)).2
  have HB := Lib.hid HS.out.below
  clear HS
  go_wp2_with fail
  refine bodyPost_ret (v := .tuple #[.agg #[.slice none 0 0, .slice none 0 0], .int .i64 1]) (by simp [results, Tryd.results96, go_sem, r0, r1]) rfl ⟨rfl, ?_⟩
  exact (HB.out.setCell (p := ⟨w.heap.size + 1 + 1, 0, none⟩) (by show _ ≤ w.heap.size + 1 + 1; omega) _).setCell (p := ⟨w.heap.size + 1 + 1, 1, none⟩) (by show _ ≤ w.heap.size + 1 + 1; omega) _

set_option maxRecDepth 100000 in
set_option maxHeartbeats 1000000 in
theorem ratAdd_bad (a1 a2 b1 b2 : Option Addr) (c1 c2 d1 d2 : Nat) (z1 z2 y1 y2 : List Int) (w : World) (h1 : Row w a1 z1 c1) (h2 : Row w a2 z2 c2) (h3 : Row w b1 y1 d1) (h4 : Row w b2 y2 d2) (h : ¬ (RVd z1 z2 ∧ RVd y1 y2)) :
    Calls Tryd.prog 56 #[.agg #[.slice a1 z1.length c1, .slice a2 z2.length c2], .agg #[.slice b1 y1.length d1, .slice b2 y2.length d2]] w fun e W' => e = .returned (.tuple #[.agg #[.slice none 0 0, .slice none 0 0], .int .i64 1]) ∧ Below w.heap.size w W' := by
  have HS := Lib.hid (QSt.ratio h1 h2 h3 h4)
  have k0 := HS.out.k0
  have k1 := HS.out.k1
  have l0 := HS.out.l0
  have l1 := HS.out.l1
  clear h1 h2 h3 h4
  go_enter Tryd.func56, Tryd.ntmps56
  go_wp2_with fail
  generalize ((w.alloc (.cells #[.slice a1 z1.length c1, .slice a2 z2.length c2] 58)).alloc (.cells #[.slice b1 y1.length d1, .slice b2 y2.length d2] 58)).alloc (.cells #[.slice none 0 0, .slice none 0 0] 58) = w0 at *
  refine (combine_bad a1 a2 b1 b2 c1 c2 d1 d2 z1 z2 y1 y2 _ _ HS.out.ra1 HS.out.ra2 HS.out.rb1 HS.out.rb2 h).mono ?_
  rintro e u1 ⟨rfl, hb⟩
  replace HS := Lib.hid (HS.out.keep hb)
  clear hb k0 k1 l0 l1 h
  have r0 := (HS.out.res ⟨w.heap.size + 1 + 1, 0, none⟩ (by simp)).1
  have r1 := (HS.out.res ⟨w.heap.size + 1 + 1, 1, none⟩ (by simp)).1
  have f0 := (HS.out.res ⟨w.heap.size + 1 + 1, 0, none⟩ (by simp)).2
  have f1 := (HS.out.res ⟨w.heap.size + 1 + 1, 1, none⟩ (by simp)).2
  have HB := Lib.hid HS.out.below
  clear HS
  go_wp2_with fail
  refine bodyPost_ret (v := .tuple #[.agg #[.slice none 0 0, .slice none 0 0], .int .i64 1]) (by simp [results, Tryd.results56, go_sem, r0, r1]) rfl ⟨rfl, ?_⟩
  exact (HB.out.setCell (p := ⟨w.heap.size + 1 + 1, 0, none⟩) (by show _ ≤ w.heap.size + 1 + 1; omega) _).setCell (p := ⟨w.heap.size + 1 + 1, 1, none⟩) (by show _ ≤ w.heap.size + 1 + 1; omega) _

set_option maxRecDepth 100000 in
set_option maxHeartbeats 1000000 in
theorem ratSub_bad (a1 a2 b1 b2 : Option Addr) (c1 c2 d1 d2 : Nat) (z1 z2 y1 y2 : List Int) (w : World) (h1 : Row w a1 z1 c1) (h2 : Row w a2 z2 c2) (h3 : Row w b1 y1 d1) (h4 : Row w b2 y2 d2) (h : ¬ (RVd z1 z2 ∧ RVd y1 y2)) :
    Calls Tryd.prog 58 #[.agg #[.slice a1 z1.length c1, .slice a2 z2.length c2], .agg #[.slice b1 y1.length d1, .slice b2 y2.length d2]] w fun e W' => e = .returned (.tuple #[.agg #[.slice none 0 0, .slice none 0 0], .int .i64 1]) ∧ Below w.heap.size w W' := by
  have HS := Lib.hid (QSt.ratio h1 h2 h3 h4)
  have k0 := HS.out.k0
  have k1 := HS.out.k1
  have l0 := HS.out.l0
  have l1 := HS.out.l1
  clear h1 h2 h3 h4
  go_enter Tryd.func58, Tryd.ntmps58
  go_wp2_with fail
  generalize ((w.alloc (.cells #[.slice a1 z1.length c1, .slice a2 z2.length c2] 58)).alloc (.cells #[.slice b1 y1.length d1, .slice b2 y2.length d2] 58)).alloc (.cells #[.slice none 0 0, .slice none 0 0] 58) = w0 at *
  refine (combine_bad a1 a2 b1 b2 c1 c2 d1 d2 z1 z2 y1 y2 _ _ HS.out.ra1 HS.out.ra2 HS.out.rb1 HS.out.rb2 h).mono ?_
  rintro e u1 ⟨rfl, hb⟩
  replace HS := Lib.hid (HS.out.keep hb)
  clear hb k0 k1 l0 l1 h
  have r0 := (HS.out.res ⟨w.heap.size + 1 + 1, 0, none⟩ (by simp)).1
  have r1 := (HS.out.res ⟨w.heap.size + 1 + 1, 1, none⟩ (by simp)).1
  have f0 := (HS.out.res ⟨w.heap.size + 1 + 1, 0, none⟩ (by simp)).2
  have f1 := (HS.out.res ⟨w.heap.size + 1 + 1, 1, none⟩ (by simp)).2
  have HB := Lib.hid HS.out.below
  clear HS
  go_wp2_with fail
  refine bodyPost_ret (v := .tuple #[.agg #[.slice none 0 0, .slice none 0 0], .int .i64 1]) (by simp [results, Tryd.results58, go_sem, r0, r1]) rfl ⟨rfl, ?_⟩
  exact (HB.out.setCell (p := ⟨w.heap.size + 1 + 1, 0, none⟩) (by show _ ≤ w.heap.size + 1 + 1; omega) _).setCell (p := ⟨w.heap.size + 1 + 1, 1, none⟩) (by show _ ≤ w.heap.size + 1 + 1; omega) _

set_option maxRecDepth 100000 in
set_option maxHeartbeats 1000000 in
theorem rratFloor_bad (a1 a2 : Option Addr) (c1 c2 : Nat) (z1 z2 : List Int) (w : World) (h1 : Row w a1 z1 c1) (h2 : Row w a2 z2 c2) (h : ¬ RVd z1 z2) :
    Calls Tryd.prog 92 #[.agg #[.slice a1 z1.length c1, .slice a2 z2.length c2]] w fun e W' => e = .returned (.tuple #[.agg #[.slice none 0 0], .int .i64 1]) ∧ Below w.heap.size w W' := by
  obtain ⟨⟨k0, _⟩, k1, _⟩ := two_cells w (.slice a1 z1.length c1) (.slice a2 z2.length c2) 58
  have hb0 := (Below.refl _ w).alloc (Nat.le_refl _) (.cells #[.slice a1 z1.length c1, .slice a2 z2.length c2] 58)
  have hr := cell_of_new (w.alloc (.cells #[.slice a1 z1.length c1, .slice a2 z2.length c2] 58)) (.slice none 0 0) 24
  rw [World.size_alloc] at hr
  replace k0 := cell_later (.cells #[.slice none 0 0] 24) k0
  replace k1 := cell_later (.cells #[.slice none 0 0] 24) k1
  replace hb0 := hb0.alloc (by simp) (.cells #[.slice none 0 0] 24)
  have HR1 := Lib.hid (h1.below hb0)
  have HR2 := Lib.hid (h2.below hb0)
  have HBB := Lib.hid hb0
  clear h1 h2 hb0
  go_enter Tryd.func92, Tryd.ntmps92
  go_wp2_with fail
  generalize (w.alloc (.cells #[.slice a1 z1.length c1, .slice a2 z2.length c2] 58)).alloc (.cells #[.slice none 0 0] 24) = w0 at *
  refine (rratValid_no a1 a2 c1 c2 z1 z2 _ HR1.out HR2.out h).mono ?_
  rintro e u1 ⟨rfl, hb⟩
  have r0 := cell_below hb hr.1
  have f0 := frozen_below hb hr.1 hr.2
  clear hr
  replace HBB := Lib.hid (HBB.out.trans (hb.mono HBB.out.size))
  clear hb k0 k1 h
  go_wp2_with fail
  refine bodyPost_ret (v := .tuple #[.agg #[.slice none 0 0], .int .i64 1]) (by simp [results, Tryd.results92, go_sem, r0]) rfl ⟨rfl, HBB.out.setCell (p := ⟨w.heap.size + 1, 0, none⟩) (by show _ ≤ w.heap.size + 1; omega) _⟩

set_option maxRecDepth 100000 in
set_option maxHeartbeats 1000000 in
theorem rratPrint_bad (a1 a2 : Option Addr) (c1 c2 : Nat) (z1 z2 : List Int) (w : World) (h1 : Row w a1 z1 c1) (h2 : Row w a2 z2 c2) (h : ¬ RVd z1 z2) :
    Calls Tryd.prog 94 #[.agg #[.slice a1 z1.length c1, .slice a2 z2.length c2]] w fun e W' => e = .returned (.string ⟨#[]⟩) ∧ Below w.heap.size w W' := by
  obtain ⟨⟨k0, _⟩, k1, _⟩ := two_cells w (.slice a1 z1.length c1) (.slice a2 z2.length c2) 58
  have hb0 := (Below.refl _ w).alloc (Nat.le_refl _) (.cells #[.slice a1 z1.length c1, .slice a2 z2.length c2] 58)
  have HR1 := Lib.hid (h1.below hb0)
  have HR2 := Lib.hid (h2.below hb0)
  have HBB := Lib.hid hb0
  clear h1 h2 hb0
  go_enter Tryd.func94, Tryd.ntmps94
  go_wp2_with fail
  generalize w.alloc (.cells #[.slice a1 z1.length c1, .slice a2 z2.length c2] 58) = w0 at *
  refine (rratValid_no a1 a2 c1 c2 z1 z2 _ HR1.out HR2.out h).mono ?_
  rintro e u1 ⟨rfl, hb⟩
  replace HBB := Lib.hid (HBB.out.trans (hb.mono HBB.out.size))
  clear hb k0 k1 h
  go_wp2_with fail
  go_ret
  exact ⟨rfl, HBB.out⟩

set_option maxRecDepth 100000 in
set_option maxHeartbeats 1000000 in
theorem ratFloor_bad (a1 a2 : Option Addr) (c1 c2 : Nat) (z1 z2 : List Int) (w : World) (h1 : Row w a1 z1 c1) (h2 : Row w a2 z2 c2) (h : ¬ RVd z1 z2) :
    Calls Tryd.prog 62 #[.agg #[.slice a1 z1.length c1, .slice a2 z2.length c2]] w fun e W' => e = .returned (.tuple #[.agg #[.slice none 0 0], .int .i64 1]) ∧ Below w.heap.size w W' := by
  obtain ⟨⟨k0, _⟩, k1, _⟩ := two_cells w (.slice a1 z1.length c1) (.slice a2 z2.length c2) 58
  have hb0 := (Below.refl _ w).alloc (Nat.le_refl _) (.cells #[.slice a1 z1.length c1, .slice a2 z2.length c2] 58)
  have hr := cell_of_new (w.alloc (.cells #[.slice a1 z1.length c1, .slice a2 z2.length c2] 58)) (.slice none 0 0) 24
  rw [World.size_alloc] at hr
  replace k0 := cell_later (.cells #[.slice none 0 0] 24) k0
  replace k1 := cell_later (.cells #[.slice none 0 0] 24) k1
  replace hb0 := hb0.alloc (by simp) (.cells #[.slice none 0 0] 24)
  have HR1 := Lib.hid (h1.below hb0)
  have HR2 := Lib.hid (h2.below hb0)
  have HBB := Lib.hid hb0
  clear h1 h2 hb0
  go_enter Tryd.func62, Tryd.ntmps62
  go_wp2_with fail
  generalize (w.alloc (.cells #[.slice a1 z1.length c1, .slice a2 z2.length c2] 58)).alloc (.cells #[.slice none 0 0] 24) = w0 at *
  refine (ratValid_no a1 a2 c1 c2 z1 z2 _ HR1.out HR2.out h).mono ?_
  rintro e u1 ⟨rfl, hb⟩
  have r0 := cell_below hb hr.1
  have f0 := frozen_below hb hr.1 hr.2
  clear hr
  replace HBB := Lib.hid (HBB.out.trans (hb.mono HBB.out.size))
  clear hb k0 k1 h
  go_wp2_with fail
  refine bodyPost_ret (v := .tuple #[.agg #[.slice none 0 0], .int .i64 1]) (by simp [results, Tryd.results62, go_sem, r0]) rfl ⟨rfl, HBB.out.setCell (p := ⟨w.heap.size + 1, 0, none⟩) (by show _ ≤ w.heap.size + 1; omega) _⟩

set_option maxRecDepth 100000 in
set_option maxHeartbeats 1000000 in
theorem ratPrint_bad (a1 a2 : Option Addr) (c1 c2 : Nat) (z1 z2 : List Int) (w : World) (h1 : Row w a1 z1 c1) (h2 : Row w a2 z2 c2) (h : ¬ RVd z1 z2) :
    Calls Tryd.prog 86 #[.agg #[.slice a1 z1.length c1, .slice a2 z2.length c2]] w fun e W' => e = .returned (.string ⟨#[]⟩) ∧ Below w.heap.size w W' := by
  obtain ⟨⟨k0, _⟩, k1, _⟩ := two_cells w (.slice a1 z1.length c1) (.slice a2 z2.length c2) 58
  have hb0 := (Below.refl _ w).alloc (Nat.le_refl _) (.cells #[.slice a1 z1.length c1, .slice a2 z2.length c2] 58)
  have HR1 := Lib.hid (h1.below hb0)
  have HR2 := Lib.hid (h2.below hb0)
  have HBB := Lib.hid hb0
  clear h1 h2 hb0
  go_enter Tryd.func86, Tryd.ntmps86
  go_wp2_with fail
  generalize w.alloc (.cells #[.slice a1 z1.length c1, .slice a2 z2.length c2] 58) = w0 at *
  refine (ratValid_no a1 a2 c1 c2 z1 z2 _ HR1.out HR2.out h).mono ?_
  rintro e u1 ⟨rfl, hb⟩
  replace HBB := Lib.hid (HBB.out.trans (hb.mono HBB.out.size))
  clear hb k0 k1 h
  go_wp2_with fail
  go_ret
  exact ⟨rfl, HBB.out⟩

end Go.Proofs.YtfaggdjoogpmmaaDoor
