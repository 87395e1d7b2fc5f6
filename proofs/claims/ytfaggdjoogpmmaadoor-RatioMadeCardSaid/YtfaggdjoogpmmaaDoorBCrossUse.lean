/- The reference's Add, Sub, Floor of valid fractions whose products fit. -/
import Derived.Test.YtfaggdjoogpmmaaDoorBCross
import Derived.Test.YtfaggdjoogpmmaaDoorBRatBad
namespace Go.Proofs.YtfaggdjoogpmmaaDoor
open Go Go.RowKit Go.Shelf

set_option maxRecDepth 100000 in
set_option maxHeartbeats 2000000 in
theorem rratAdd_fit {u v : Value} {x y z t : Nat} {w : World} (hu : RatV w u x y) (hv : RatV w v z t) (hx : (M.dig x).length ≤ 200) (hy : (M.dig y).length ≤ 200) (hz : (M.dig z).length ≤ 200) (ht : (M.dig t).length ≤ 200) (hy0 : 0 < y) (ht0 : 0 < t) (hg1 : Nat.gcd x y = 1) (hg2 : Nat.gcd z t = 1) (h1 : (M.dig (x * t)).length ≤ 200) (h2 : (M.dig (z * y)).length ≤ 200) (h3 : (M.dig (y * t)).length ≤ 200) (h4 : (M.dig (x * t + z * y)).length ≤ 200) :
    Calls Tryd.prog 87 #[u, v] w fun e W' => (∃ r, e = .returned (.tuple #[r, .int .i64 0]) ∧ RatV W' r ((x * t + z * y) / Nat.gcd (x * t + z * y) (y * t)) (y * t / Nat.gcd (x * t + z * y) (y * t))) ∧ Below w.heap.size w W' := by
  have HPOS := Lib.hid (Nat.mul_pos hy0 ht0)
  have HL := Lib.hid h4
  obtain ⟨a, ca, b, cb, rfl, hA, hB⟩ := hu
  obtain ⟨c, cc, d, cd, rfl, hC, hD⟩ := hv
  have HS := Lib.hid (R2St.start hA hB hC hD)
  have HV1 := Lib.hid (RVd.of hx hy hy0 hg1)
  have HV2 := Lib.hid (RVd.of hz ht ht0 hg2)
  clear hA hB hC hD hg1 hg2
  go_enter Tryd.func87, Tryd.ntmps87
  have p0 := HS.out.p0
  have p1 := HS.out.p1
  go_wp2_with fail
  generalize (((w.alloc (.cells #[.slice a (M.dig x).length ca, .slice b (M.dig y).length cb] 58)).alloc (.cells #[.slice c (M.dig z).length cc, .slice d (M.dig t).length cd] 58)).alloc (.cells #[.slice none 0 0, .slice none 0 0] 58)) = w3 at *
  refine (rratValid_yes a b ca cb (M.dig x) (M.dig y) _ HS.out.ra HS.out.rb HV1.out).mono ?_
  rintro e w4 ⟨rfl, hb⟩
  replace HS := Lib.hid (HS.out.keep hb)
  clear hb p0 p1
  have q0 := HS.out.q0
  have q1 := HS.out.q1
  go_wp2_with fail
  refine (rratValid_yes c d cc cd (M.dig z) (M.dig t) _ HS.out.rc HS.out.rd HV2.out).mono ?_
  rintro e w5 ⟨rfl, hb⟩
  replace HS := Lib.hid (HS.out.keep hb)
  clear hb q0 q1
  have p0 := HS.out.p0
  have p1 := HS.out.p1
  have q0 := HS.out.q0
  have q1 := HS.out.q1
  go_wp2_with fail
  refine (rcross_fit (x := x) (y := y) (z := z) (t := t) ⟨a, ca, b, cb, rfl, HS.out.ra, HS.out.rb⟩ ⟨c, cc, d, cd, rfl, HS.out.rc, HS.out.rd⟩ hx hy hz ht h1 h2 h3).mono ?_
  rintro e w6 ⟨⟨s_P, c_P, s_Q, c_Q, s_R, c_R, rfl, hrP, hrQ, hrR⟩, hb⟩
  clear p0 p1 q0 q1
  replace HS := Lib.hid ((((HS.out.keep hb).alloc (.cells #[.slice s_P (M.dig (x * t)).length c_P] 24)).alloc (.cells #[.slice s_Q (M.dig (z * y)).length c_Q] 24)).alloc (.cells #[.slice s_R (M.dig (y * t)).length c_R] 24))
  have V_P := Lib.hid (((Var.new hrP).alloc (.cells #[.slice s_Q (M.dig (z * y)).length c_Q] 24)).alloc (.cells #[.slice s_R (M.dig (y * t)).length c_R] 24))
  have vq := (Var.new (hrQ.alloc (.cells #[.slice s_P (M.dig (x * t)).length c_P] 24))).alloc (.cells #[.slice s_R (M.dig (y * t)).length c_R] 24)
  have vr := Var.new ((hrR.alloc (.cells #[.slice s_P (M.dig (x * t)).length c_P] 24)).alloc (.cells #[.slice s_Q (M.dig (z * y)).length c_Q] 24))
  simp only [World.size_alloc] at vq vr
  have V_Q := Lib.hid vq
  have V_R := Lib.hid vr
  clear vq vr hrP hrQ hrR hb
  have e1 := V_P.out.cell
  have e2 := V_Q.out.cell
  go_wp2_with fail
  refine (show Calls Tryd.prog 27 _ _ _ from radd_num h1 h2 ⟨s_P, c_P, rfl, V_P.out.row⟩ ⟨s_Q, c_Q, rfl, V_Q.out.row⟩).mono ?_
  rintro e w7 ⟨hres, hb⟩
  obtain ⟨v, rfl, s_S, c_S, rfl, hr⟩ := hres.ok HL.out
  clear hres e1 e2
  replace HS := Lib.hid (HS.out.keep hb)
  replace V_P := Lib.hid (V_P.out.below hb)
  replace V_Q := Lib.hid (V_Q.out.below hb)
  replace V_R := Lib.hid (V_R.out.below hb)
  replace HS := Lib.hid (HS.out.alloc (.cells #[.slice s_S (M.dig (x * t + z * y)).length c_S] 24))
  replace V_R := Lib.hid (V_R.out.alloc (.cells #[.slice s_S (M.dig (x * t + z * y)).length c_S] 24))
  have V_S := Lib.hid (Var.new hr)
  clear hr hb V_P V_Q
  have e1 := V_S.out.cell
  have e2 := V_R.out.cell
  go_wp2_with fail
  refine (rmake_pos s_S s_R c_S c_R (x * t + z * y) (y * t) _ HPOS.out HL.out h3 V_S.out.row V_R.out.row).mono ?_
  rintro e w9 ⟨⟨v, rfl, hv⟩, hb⟩
  obtain ⟨a7, c7, b7, d7, rfl, hr1, hr2⟩ := hv.val
  replace HS := Lib.hid (HS.out.keep hb)
  have HR := Lib.hid (HS.out.done hr1 hr2)
  have r0 := HS.out.r0
  have r1 := HS.out.r1
  have f0 := HS.out.f0
  have f1 := HS.out.f1
  clear hv hr1 hr2 hb HS e1 e2
  go_wp2_with fail
  refine bodyPost_ret (v := .tuple #[.agg #[.slice a7 (M.dig ((x * t + z * y) / Nat.gcd (x * t + z * y) (y * t))).length c7, .slice b7 (M.dig ((y * t) / Nat.gcd (x * t + z * y) (y * t))).length d7], .int .i64 0]) (by simp [results, Tryd.results87, go_sem, r0, r1]) rfl ⟨⟨_, rfl, HR.out.1⟩, HR.out.2⟩

set_option maxRecDepth 100000 in
set_option maxHeartbeats 2000000 in
theorem rratSub_ge {u v : Value} {x y z t : Nat} {w : World} (hu : RatV w u x y) (hv : RatV w v z t) (hx : (M.dig x).length ≤ 200) (hy : (M.dig y).length ≤ 200) (hz : (M.dig z).length ≤ 200) (ht : (M.dig t).length ≤ 200) (hy0 : 0 < y) (ht0 : 0 < t) (hg1 : Nat.gcd x y = 1) (hg2 : Nat.gcd z t = 1) (h1 : (M.dig (x * t)).length ≤ 200) (h2 : (M.dig (z * y)).length ≤ 200) (h3 : (M.dig (y * t)).length ≤ 200) (hle : z * y ≤ x * t) :
    Calls Tryd.prog 88 #[u, v] w fun e W' => (∃ r, e = .returned (.tuple #[r, .int .i64 0]) ∧ RatV W' r ((x * t - z * y) / Nat.gcd (x * t - z * y) (y * t)) (y * t / Nat.gcd (x * t - z * y) (y * t))) ∧ Below w.heap.size w W' := by
  have HPOS := Lib.hid (Nat.mul_pos hy0 ht0)
  have HL := Lib.hid (show (M.dig (x * t - z * y)).length ≤ 200 from Nat.le_trans (M.dig_len_mono (Nat.sub_le _ _)) h1)
  obtain ⟨a, ca, b, cb, rfl, hA, hB⟩ := hu
  obtain ⟨c, cc, d, cd, rfl, hC, hD⟩ := hv
  have HS := Lib.hid (R2St.start hA hB hC hD)
  have HV1 := Lib.hid (RVd.of hx hy hy0 hg1)
  have HV2 := Lib.hid (RVd.of hz ht ht0 hg2)
  clear hA hB hC hD hg1 hg2
  go_enter Tryd.func88, Tryd.ntmps88
  have p0 := HS.out.p0
  have p1 := HS.out.p1
  go_wp2_with fail
  generalize (((w.alloc (.cells #[.slice a (M.dig x).length ca, .slice b (M.dig y).length cb] 58)).alloc (.cells #[.slice c (M.dig z).length cc, .slice d (M.dig t).length cd] 58)).alloc (.cells #[.slice none 0 0, .slice none 0 0] 58)) = w3 at *
  refine (rratValid_yes a b ca cb (M.dig x) (M.dig y) _ HS.out.ra HS.out.rb HV1.out).mono ?_
  rintro e w4 ⟨rfl, hb⟩
  replace HS := Lib.hid (HS.out.keep hb)
  clear hb p0 p1
  have q0 := HS.out.q0
  have q1 := HS.out.q1
  go_wp2_with fail
  refine (rratValid_yes c d cc cd (M.dig z) (M.dig t) _ HS.out.rc HS.out.rd HV2.out).mono ?_
  rintro e w5 ⟨rfl, hb⟩
  replace HS := Lib.hid (HS.out.keep hb)
  clear hb q0 q1
  have p0 := HS.out.p0
  have p1 := HS.out.p1
  have q0 := HS.out.q0
  have q1 := HS.out.q1
  go_wp2_with fail
  refine (rcross_fit (x := x) (y := y) (z := z) (t := t) ⟨a, ca, b, cb, rfl, HS.out.ra, HS.out.rb⟩ ⟨c, cc, d, cd, rfl, HS.out.rc, HS.out.rd⟩ hx hy hz ht h1 h2 h3).mono ?_
  rintro e w6 ⟨⟨s_P, c_P, s_Q, c_Q, s_R, c_R, rfl, hrP, hrQ, hrR⟩, hb⟩
  clear p0 p1 q0 q1
  replace HS := Lib.hid ((((HS.out.keep hb).alloc (.cells #[.slice s_P (M.dig (x * t)).length c_P] 24)).alloc (.cells #[.slice s_Q (M.dig (z * y)).length c_Q] 24)).alloc (.cells #[.slice s_R (M.dig (y * t)).length c_R] 24))
  have V_P := Lib.hid (((Var.new hrP).alloc (.cells #[.slice s_Q (M.dig (z * y)).length c_Q] 24)).alloc (.cells #[.slice s_R (M.dig (y * t)).length c_R] 24))
  have vq := (Var.new (hrQ.alloc (.cells #[.slice s_P (M.dig (x * t)).length c_P] 24))).alloc (.cells #[.slice s_R (M.dig (y * t)).length c_R] 24)
  have vr := Var.new ((hrR.alloc (.cells #[.slice s_P (M.dig (x * t)).length c_P] 24)).alloc (.cells #[.slice s_Q (M.dig (z * y)).length c_Q] 24))
  simp only [World.size_alloc] at vq vr
  have V_Q := Lib.hid vq
  have V_R := Lib.hid vr
  clear vq vr hrP hrQ hrR hb
  have e1 := V_P.out.cell
  have e2 := V_Q.out.cell
  go_wp2_with fail
  refine (rsub_ge s_P s_Q c_P c_Q (x * t) (z * y) _ h1 h2 V_P.out.row V_Q.out.row hle).mono ?_
  rintro e w7 ⟨hres, hb⟩
  obtain ⟨v, rfl, s_S, c_S, rfl, hr⟩ := hres.ok HL.out
  clear hres e1 e2
  replace HS := Lib.hid (HS.out.keep hb)
  replace V_P := Lib.hid (V_P.out.below hb)
  replace V_Q := Lib.hid (V_Q.out.below hb)
  replace V_R := Lib.hid (V_R.out.below hb)
  replace HS := Lib.hid (HS.out.alloc (.cells #[.slice s_S (M.dig (x * t - z * y)).length c_S] 24))
  replace V_R := Lib.hid (V_R.out.alloc (.cells #[.slice s_S (M.dig (x * t - z * y)).length c_S] 24))
  have V_S := Lib.hid (Var.new hr)
  clear hr hb V_P V_Q
  have e1 := V_S.out.cell
  have e2 := V_R.out.cell
  go_wp2_with fail
  refine (rmake_pos s_S s_R c_S c_R (x * t - z * y) (y * t) _ HPOS.out HL.out h3 V_S.out.row V_R.out.row).mono ?_
  rintro e w9 ⟨⟨v, rfl, hv⟩, hb⟩
  obtain ⟨a7, c7, b7, d7, rfl, hr1, hr2⟩ := hv.val
  replace HS := Lib.hid (HS.out.keep hb)
  have HR := Lib.hid (HS.out.done hr1 hr2)
  have r0 := HS.out.r0
  have r1 := HS.out.r1
  have f0 := HS.out.f0
  have f1 := HS.out.f1
  clear hv hr1 hr2 hb HS e1 e2
  go_wp2_with fail
  refine bodyPost_ret (v := .tuple #[.agg #[.slice a7 (M.dig ((x * t - z * y) / Nat.gcd (x * t - z * y) (y * t))).length c7, .slice b7 (M.dig ((y * t) / Nat.gcd (x * t - z * y) (y * t))).length d7], .int .i64 0]) (by simp [results, Tryd.results88, go_sem, r0, r1]) rfl ⟨⟨_, rfl, HR.out.1⟩, HR.out.2⟩

set_option maxRecDepth 100000 in
set_option maxHeartbeats 2000000 in
theorem rratSub_lt {u v : Value} {x y z t : Nat} {w : World} (hu : RatV w u x y) (hv : RatV w v z t) (hx : (M.dig x).length ≤ 200) (hy : (M.dig y).length ≤ 200) (hz : (M.dig z).length ≤ 200) (ht : (M.dig t).length ≤ 200) (hy0 : 0 < y) (ht0 : 0 < t) (hg1 : Nat.gcd x y = 1) (hg2 : Nat.gcd z t = 1) (h1 : (M.dig (x * t)).length ≤ 200) (h2 : (M.dig (z * y)).length ≤ 200) (h3 : (M.dig (y * t)).length ≤ 200) (hlt : x * t < z * y) :
    Calls Tryd.prog 88 #[u, v] w fun e W' => e = .returned (.tuple #[.agg #[.slice none 0 0, .slice none 0 0], .int .i64 5]) ∧ Below w.heap.size w W' := by
  obtain ⟨a, ca, b, cb, rfl, hA, hB⟩ := hu
  obtain ⟨c, cc, d, cd, rfl, hC, hD⟩ := hv
  have HS := Lib.hid (R2St.start hA hB hC hD)
  have HV1 := Lib.hid (RVd.of hx hy hy0 hg1)
  have HV2 := Lib.hid (RVd.of hz ht ht0 hg2)
  clear hA hB hC hD hg1 hg2
  go_enter Tryd.func88, Tryd.ntmps88
  have p0 := HS.out.p0
  have p1 := HS.out.p1
  go_wp2_with fail
  generalize (((w.alloc (.cells #[.slice a (M.dig x).length ca, .slice b (M.dig y).length cb] 58)).alloc (.cells #[.slice c (M.dig z).length cc, .slice d (M.dig t).length cd] 58)).alloc (.cells #[.slice none 0 0, .slice none 0 0] 58)) = w3 at *
  refine (rratValid_yes a b ca cb (M.dig x) (M.dig y) _ HS.out.ra HS.out.rb HV1.out).mono ?_
  rintro e w4 ⟨rfl, hb⟩
  replace HS := Lib.hid (HS.out.keep hb)
  clear hb p0 p1
  have q0 := HS.out.q0
  have q1 := HS.out.q1
  go_wp2_with fail
  refine (rratValid_yes c d cc cd (M.dig z) (M.dig t) _ HS.out.rc HS.out.rd HV2.out).mono ?_
  rintro e w5 ⟨rfl, hb⟩
  replace HS := Lib.hid (HS.out.keep hb)
  clear hb q0 q1
  have p0 := HS.out.p0
  have p1 := HS.out.p1
  have q0 := HS.out.q0
  have q1 := HS.out.q1
  go_wp2_with fail
  refine (rcross_fit (x := x) (y := y) (z := z) (t := t) ⟨a, ca, b, cb, rfl, HS.out.ra, HS.out.rb⟩ ⟨c, cc, d, cd, rfl, HS.out.rc, HS.out.rd⟩ hx hy hz ht h1 h2 h3).mono ?_
  rintro e w6 ⟨⟨s_P, c_P, s_Q, c_Q, s_R, c_R, rfl, hrP, hrQ, hrR⟩, hb⟩
  clear p0 p1 q0 q1
  replace HS := Lib.hid ((((HS.out.keep hb).alloc (.cells #[.slice s_P (M.dig (x * t)).length c_P] 24)).alloc (.cells #[.slice s_Q (M.dig (z * y)).length c_Q] 24)).alloc (.cells #[.slice s_R (M.dig (y * t)).length c_R] 24))
  have V_P := Lib.hid (((Var.new hrP).alloc (.cells #[.slice s_Q (M.dig (z * y)).length c_Q] 24)).alloc (.cells #[.slice s_R (M.dig (y * t)).length c_R] 24))
  have vq := (Var.new (hrQ.alloc (.cells #[.slice s_P (M.dig (x * t)).length c_P] 24))).alloc (.cells #[.slice s_R (M.dig (y * t)).length c_R] 24)
  have vr := Var.new ((hrR.alloc (.cells #[.slice s_P (M.dig (x * t)).length c_P] 24)).alloc (.cells #[.slice s_Q (M.dig (z * y)).length c_Q] 24))
  simp only [World.size_alloc] at vq vr
  have V_Q := Lib.hid vq
  have V_R := Lib.hid vr
  clear vq vr hrP hrQ hrR hb
  have e1 := V_P.out.cell
  have e2 := V_Q.out.cell
  go_wp2_with fail
  refine (rsub_lt s_P s_Q c_P c_Q (x * t) (z * y) _ h1 h2 V_P.out.row V_Q.out.row hlt).mono ?_
  rintro e w7 ⟨rfl, hb⟩
  clear e1 e2
  replace HS := Lib.hid ((HS.out.keep hb).alloc (.cells #[.slice none 0 0] 24))
  have r0 := HS.out.r0
  have r1 := HS.out.r1
  have f0 := HS.out.f0
  have f1 := HS.out.f1
  have HB := Lib.hid HS.out.below
  clear HS hb V_P V_Q V_R
  go_wp2_with fail
  refine bodyPost_ret (v := .tuple #[.agg #[.slice none 0 0, .slice none 0 0], .int .i64 5]) (by simp [results, Tryd.results88, go_sem, r0, r1]) rfl ⟨rfl, (HB.out.setCell (p := ⟨w.heap.size + 1 + 1, 0, none⟩) (by show _ ≤ w.heap.size + 1 + 1; omega) _).setCell (p := ⟨w.heap.size + 1 + 1, 1, none⟩) (by show _ ≤ w.heap.size + 1 + 1; omega) _⟩

set_option maxRecDepth 100000 in
set_option maxHeartbeats 2000000 in
theorem rratFloor_fit {u : Value} {x y : Nat} {w : World} (hu : RatV w u x y) (hx : (M.dig x).length ≤ 200) (hy : (M.dig y).length ≤ 200) (hy0 : 0 < y) (hg1 : Nat.gcd x y = 1) :
    Calls Tryd.prog 92 #[u] w fun e W' => (∃ v, e = .returned (.tuple #[v, .int .i64 0]) ∧ Num W' v (x / y)) ∧ Below w.heap.size w W' := by
  obtain ⟨a, ca, b, cb, rfl, hA, hB⟩ := hu
  obtain ⟨⟨k0, _⟩, k1, _⟩ := two_cells w (.slice a (M.dig x).length ca) (.slice b (M.dig y).length cb) 58
  have hb0 := ((Below.refl _ w).alloc (Nat.le_refl _) (.cells #[.slice a (M.dig x).length ca, .slice b (M.dig y).length cb] 58)).alloc (by simp) (.cells #[.slice none 0 0] 24)
  have hr := cell_of_new (w.alloc (.cells #[.slice a (M.dig x).length ca, .slice b (M.dig y).length cb] 58)) (.slice none 0 0) 24
  rw [World.size_alloc] at hr
  replace k0 := cell_later (.cells #[.slice none 0 0] 24) k0
  replace k1 := cell_later (.cells #[.slice none 0 0] 24) k1
  have HA := Lib.hid (hA.below hb0)
  have HB := Lib.hid (hB.below hb0)
  have HBB := Lib.hid hb0
  have HV := Lib.hid (RVd.of hx hy hy0 hg1)
  clear hA hB hb0 hg1
  go_enter Tryd.func92, Tryd.ntmps92
  go_wp2_with fail
  generalize (w.alloc (.cells #[.slice a (M.dig x).length ca, .slice b (M.dig y).length cb] 58)).alloc (.cells #[.slice none 0 0] 24) = w0 at *
  refine (rratValid_yes a b ca cb (M.dig x) (M.dig y) _ HA.out HB.out HV.out).mono ?_
  rintro e w1 ⟨rfl, hb⟩
  replace k0 := cell_below hb k0
  replace k1 := cell_below hb k1
  have r0 := cell_below hb hr.1
  have f0 := frozen_below hb hr.1 hr.2
  replace HA := Lib.hid (HA.out.below hb)
  replace HB := Lib.hid (HB.out.below hb)
  replace HBB := Lib.hid (HBB.out.trans (hb.mono HBB.out.size))
  clear hb hr
  go_wp2_with fail
  refine (rdiv_pos a b ca cb x y _ hy0 hx hy HA.out HB.out).mono ?_
  rintro e w2 ⟨⟨a1, d1, a2, d2, rfl, hr1, _, _, _⟩, hb⟩
  have hc := cell_later (.cells #[.slice a2 (M.dig (x % y)).length d2] 24) (cell_new w2 (.slice a1 (M.dig (x / y)).length d1) 24)
  have rb := cell_below hb r0
  have fb := frozen_below hb r0 f0
  have rc := cell_later (.cells #[.slice a1 (M.dig (x / y)).length d1] 24) rb
  have fc := frozen_later (.cells #[.slice a1 (M.dig (x / y)).length d1] 24) rb fb
  have r2 := cell_later (.cells #[.slice a2 (M.dig (x % y)).length d2] 24) rc
  have f2 := frozen_later (.cells #[.slice a2 (M.dig (x % y)).length d2] 24) rc fc
  have HR := Lib.hid (((hr1.alloc (.cells #[.slice a1 (M.dig (x / y)).length d1] 24)).alloc (.cells #[.slice a2 (M.dig (x % y)).length d2] 24)).storedAt r2 (.slice a1 (M.dig (x / y)).length d1))
  have hb2 := HBB.out.trans (hb.mono HBB.out.size)
  have HBZ := Lib.hid ((((hb2.alloc hb2.size (.cells #[.slice a1 (M.dig (x / y)).length d1] 24)).alloc (by have := hb2.size; simp; omega) (.cells #[.slice a2 (M.dig (x % y)).length d2] 24))).setCell (p := ⟨w.heap.size + 1, 0, none⟩) (by show _ ≤ w.heap.size + 1; omega) (.slice a1 (M.dig (x / y)).length d1))
  clear hr1 hb hb2 rb fb rc fc r0 f0 k0 k1 HA HB HBB
  go_wp2_with fail
  refine bodyPost_ret (v := .tuple #[.agg #[.slice a1 (M.dig (x / y)).length d1], .int .i64 0]) (by simp [results, Tryd.results92, go_sem, r2]) rfl ⟨⟨_, rfl, a1, d1, rfl, HR.out⟩, HBZ.out⟩
end Go.Proofs.YtfaggdjoogpmmaaDoor
