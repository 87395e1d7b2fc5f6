/- The walk of RatioLaws. -/
import Derived.Test.YtneimnacanhjmaaDoorB10
namespace Go.Proofs.YtneimnacanhjmaaDoor
open Go Go.RowKit Go.Shelf

/-- A sum is at least its second part. -/
theorem sum_ge {n m x y z t : Nat} (hm : 0 < m) (hy : 0 < y) (ht : 0 < t) (h : Q n m = Q x y + Q z t) : z * m ≤ n * t := by
  rw [← Q_add hy ht] at h
  have c := Q_cross hm (Nat.mul_pos hy ht) h
  have e : n * t * y = x * t * m + z * m * y := by
    rw [Nat.mul_assoc, Nat.mul_comm t y, c, Nat.add_mul, Nat.mul_right_comm z y m]
  have h2 : z * m * y ≤ n * t * y := by omega
  exact Nat.le_of_mul_le_mul_right h2 hy
theorem num_pos {x y : Nat} (h : 0 < x) (hy : 0 < y) : Q x y ≠ 0 := by
  have h1 := cast_ne h
  have h2 := cast_ne hy
  unfold Q
  grind

set_option maxRecDepth 100000 in
set_option maxHeartbeats 4000000 in
theorem rlaws_any (ta : Option Addr) (tc : Nat) (ts : List Int) (w : World) (hR : Row w ta ts tc) :
    Calls Tryd.prog 15 #[.slice ta ts.length tc] w fun e W' => e = .returned (.bool true) ∧ Below w.heap.size w W' := by
  have HR := Lib.hid hR
  have HLT := Lib.hid (fun W : World => light_any ta ts.length tc W)
  clear hR
  by_cases hl : (ts.length : Int) ≤ 400
  · go_enter Tryd.func15, Tryd.ntmps15
    go_wp2_with fail
    refine (HLT.out _).mono ?_
    rintro e w' ⟨rfl, rfl⟩
    rw [show decide ((ts.length : Int) ≤ 400) = true from decide_eq_true hl]
    go_wp2_with fail
    refine (roll_any ta tc ts _ HR.out (by omega)).mono ?_
    rintro e w1 ⟨rfl, hd, hb1⟩
    have HD := Lib.hid hd
    have HB1 := Lib.hid hb1
    have hs1 : w'.heap.size < w1.heap.size := hd.lt
    clear hd hb1 HR HLT
    go_wp2_with fail
    refine (some_any w1 w'.heap.size ta tc ts 0 HD.out).mono ?_
    rintro e w2 ⟨s_A, c_A, t_A, d_A, n_A, m_A, kA, rfl, hy_A, hg_A, hx_A, hl_A, hd2, hg2, _, _, hkA⟩
    have L_A := Lib.hid (show Lo n_A m_A 3 from ⟨hy_A, hg_A, hx_A, hl_A⟩)
    have HKA := Lib.hid hkA
    have HD2 := Lib.hid hd2
    have HB2 := Lib.hid (HB1.out.trans (below_of_dice hg2 (Nat.le_refl _) (Nat.le_of_lt hs1)))
    have hs2 := hd2.lt
    clear hd2 hg2 hy_A hg_A hx_A hl_A hkA HB1 HD
    go_wp2_with fail
    refine (some_any w2 w'.heap.size ta tc ts kA HD2.out).mono ?_
    rintro e w3 ⟨s_B, c_B, t_B, d_B, n_B, m_B, kB, rfl, hy_B, hg_B, hx_B, hl_B, hd3, hg3, _, _, hkB⟩
    have L_B := Lib.hid (show Lo n_B m_B 3 from ⟨hy_B, hg_B, hx_B, hl_B⟩)
    have HKB := Lib.hid hkB
    have HG3 := Lib.hid hg3
    have HD3 := Lib.hid hd3
    have HB3 := Lib.hid (HB2.out.trans (below_of_dice hg3 (Nat.le_refl _) (Nat.le_of_lt hs2)))
    have hs3 := hd3.lt
    clear hd3 hg3 hy_B hg_B hx_B hl_B hkB HB2 HD2
    go_wp2_with fail
    refine (some_any w3 w'.heap.size ta tc ts kB HD3.out).mono ?_
    rintro e w4 ⟨s_C, c_C, t_C, d_C, n_C, m_C, kC, rfl, hy_C, hg_C, hx_C, hl_C, _, hg4, hrs, hrt, _⟩
    have L_C := Lib.hid (show Lo n_C m_C 3 from ⟨hy_C, hg_C, hx_C, hl_C⟩)
    have hrA := HKA.out w4 (HG3.out.trans hg4)
    have hrB := HKB.out w4 hg4
    have V_A := Lib.hid (((RVar.new hrA.1 hrA.2).alloc (.cells #[.slice s_B (M.dig n_B).length c_B, .slice t_B (M.dig m_B).length d_B] 58)).alloc (.cells #[.slice s_C (M.dig n_C).length c_C, .slice t_C (M.dig m_C).length d_C] 58))
    have vb := (RVar.new (hrB.1.alloc (.cells #[.slice s_A (M.dig n_A).length c_A, .slice t_A (M.dig m_A).length d_A] 58)) (hrB.2.alloc (.cells #[.slice s_A (M.dig n_A).length c_A, .slice t_A (M.dig m_A).length d_A] 58))).alloc (.cells #[.slice s_C (M.dig n_C).length c_C, .slice t_C (M.dig m_C).length d_C] 58)
    have vc := RVar.new ((hrs.alloc (.cells #[.slice s_A (M.dig n_A).length c_A, .slice t_A (M.dig m_A).length d_A] 58)).alloc (.cells #[.slice s_B (M.dig n_B).length c_B, .slice t_B (M.dig m_B).length d_B] 58)) ((hrt.alloc (.cells #[.slice s_A (M.dig n_A).length c_A, .slice t_A (M.dig m_A).length d_A] 58)).alloc (.cells #[.slice s_B (M.dig n_B).length c_B, .slice t_B (M.dig m_B).length d_B] 58))
    simp only [World.size_alloc] at vb vc
    have V_B := Lib.hid vb
    have V_C := Lib.hid vc
    have hB4 := HB3.out.trans (below_of_dice hg4 (Nat.le_refl _) (Nat.le_of_lt hs3))
    have hB5 := hB4.alloc hB4.size (.cells #[.slice s_A (M.dig n_A).length c_A, .slice t_A (M.dig m_A).length d_A] 58)
    have hB6 := hB5.alloc hB5.size (.cells #[.slice s_B (M.dig n_B).length c_B, .slice t_B (M.dig m_B).length d_B] 58)
    have HB := Lib.hid (hB6.alloc hB6.size (.cells #[.slice s_C (M.dig n_C).length c_C, .slice t_C (M.dig m_C).length d_C] 58))
    clear hrs hrt hg4 hy_C hg_C hx_C hl_C HB3 HD3 HKA HKB HG3 hrA hrB vb vc hB4 hB5 hB6 hs1 hs2 hs3
    have e0_A := V_A.out.c0
    have e1_A := V_A.out.c1
    have e0_B := V_B.out.c0
    have e1_B := V_B.out.c1
    go_wp2_with fail
    refine (show Calls Tryd.prog 56 _ _ _ from qAdd (N := 7) V_A.out.val V_B.out.val L_A.out L_B.out (by decide) (by decide)).mono ?_
    rintro e u1 ⟨⟨s_S, c_S, t_S, d_S, n_S, m_S, rfl, hrs, hrt, hlo, hq⟩, hb⟩
    replace V_A := Lib.hid (V_A.out.below hb)
    replace V_B := Lib.hid (V_B.out.below hb)
    replace V_C := Lib.hid (V_C.out.below hb)
    replace HB := Lib.hid (HB.out.trans (hb.mono HB.out.size))
    clear hb e0_A e1_A e0_B e1_B
    replace V_A := Lib.hid (V_A.out.alloc (.cells #[.slice s_S (M.dig n_S).length c_S, .slice t_S (M.dig m_S).length d_S] 58))
    replace V_B := Lib.hid (V_B.out.alloc (.cells #[.slice s_S (M.dig n_S).length c_S, .slice t_S (M.dig m_S).length d_S] 58))
    replace V_C := Lib.hid (V_C.out.alloc (.cells #[.slice s_S (M.dig n_S).length c_S, .slice t_S (M.dig m_S).length d_S] 58))
    replace HB := Lib.hid (HB.out.alloc HB.out.size (.cells #[.slice s_S (M.dig n_S).length c_S, .slice t_S (M.dig m_S).length d_S] 58))
    have V_S := Lib.hid (RVar.new hrs hrt)
    have L_S := Lib.hid hlo
    have Q_S := Lib.hid (show Q n_S m_S = Q n_A m_A + Q n_B m_B from hq)
    clear hrs hrt hlo hq
    have e0_B := V_B.out.c0
    have e1_B := V_B.out.c1
    have e0_A := V_A.out.c0
    have e1_A := V_A.out.c1
    go_wp2_with fail
    refine (show Calls Tryd.prog 56 _ _ _ from qAdd (N := 7) V_B.out.val V_A.out.val L_B.out L_A.out (by decide) (by decide)).mono ?_
    rintro e u2 ⟨⟨s_W, c_W, t_W, d_W, n_W, m_W, rfl, hrs, hrt, hlo, hq⟩, hb⟩
    replace V_A := Lib.hid (V_A.out.below hb)
    replace V_B := Lib.hid (V_B.out.below hb)
    replace V_C := Lib.hid (V_C.out.below hb)
    replace V_S := Lib.hid (V_S.out.below hb)
    replace HB := Lib.hid (HB.out.trans (hb.mono HB.out.size))
    clear hb e0_B e1_B e0_A e1_A
    replace V_A := Lib.hid (V_A.out.alloc (.cells #[.slice s_W (M.dig n_W).length c_W, .slice t_W (M.dig m_W).length d_W] 58))
    replace V_B := Lib.hid (V_B.out.alloc (.cells #[.slice s_W (M.dig n_W).length c_W, .slice t_W (M.dig m_W).length d_W] 58))
    replace V_C := Lib.hid (V_C.out.alloc (.cells #[.slice s_W (M.dig n_W).length c_W, .slice t_W (M.dig m_W).length d_W] 58))
    replace V_S := Lib.hid (V_S.out.alloc (.cells #[.slice s_W (M.dig n_W).length c_W, .slice t_W (M.dig m_W).length d_W] 58))
    replace HB := Lib.hid (HB.out.alloc HB.out.size (.cells #[.slice s_W (M.dig n_W).length c_W, .slice t_W (M.dig m_W).length d_W] 58))
    have V_W := Lib.hid (RVar.new hrs hrt)
    have L_W := Lib.hid hlo
    have Q_W := Lib.hid (show Q n_W m_W = Q n_B m_B + Q n_A m_A from hq)
    clear hrs hrt hlo hq
    have e0_S := V_S.out.c0
    have e1_S := V_S.out.c1
    have e0_C := V_C.out.c0
    have e1_C := V_C.out.c1
    go_wp2_with fail
    refine (show Calls Tryd.prog 57 _ _ _ from qMul (N := 10) V_S.out.val V_C.out.val L_S.out L_C.out (by decide) (by decide)).mono ?_
    rintro e u3 ⟨⟨s_X, c_X, t_X, d_X, n_X, m_X, rfl, hrs, hrt, hlo, hq⟩, hb⟩
    replace V_A := Lib.hid (V_A.out.below hb)
    replace V_B := Lib.hid (V_B.out.below hb)
    replace V_C := Lib.hid (V_C.out.below hb)
    replace V_S := Lib.hid (V_S.out.below hb)
    replace V_W := Lib.hid (V_W.out.below hb)
    replace HB := Lib.hid (HB.out.trans (hb.mono HB.out.size))
    clear hb e0_S e1_S e0_C e1_C
    replace V_A := Lib.hid (V_A.out.alloc (.cells #[.slice s_X (M.dig n_X).length c_X, .slice t_X (M.dig m_X).length d_X] 58))
    replace V_B := Lib.hid (V_B.out.alloc (.cells #[.slice s_X (M.dig n_X).length c_X, .slice t_X (M.dig m_X).length d_X] 58))
    replace V_C := Lib.hid (V_C.out.alloc (.cells #[.slice s_X (M.dig n_X).length c_X, .slice t_X (M.dig m_X).length d_X] 58))
    replace V_S := Lib.hid (V_S.out.alloc (.cells #[.slice s_X (M.dig n_X).length c_X, .slice t_X (M.dig m_X).length d_X] 58))
    replace V_W := Lib.hid (V_W.out.alloc (.cells #[.slice s_X (M.dig n_X).length c_X, .slice t_X (M.dig m_X).length d_X] 58))
    replace HB := Lib.hid (HB.out.alloc HB.out.size (.cells #[.slice s_X (M.dig n_X).length c_X, .slice t_X (M.dig m_X).length d_X] 58))
    have V_X := Lib.hid (RVar.new hrs hrt)
    have L_X := Lib.hid hlo
    have Q_X := Lib.hid (show Q n_X m_X = Q n_S m_S * Q n_C m_C from hq)
    clear hrs hrt hlo hq
    have e0_A := V_A.out.c0
    have e1_A := V_A.out.c1
    have e0_C := V_C.out.c0
    have e1_C := V_C.out.c1
    go_wp2_with fail
    refine (show Calls Tryd.prog 57 _ _ _ from qMul (N := 6) V_A.out.val V_C.out.val L_A.out L_C.out (by decide) (by decide)).mono ?_
    rintro e u4 ⟨⟨s_Y, c_Y, t_Y, d_Y, n_Y, m_Y, rfl, hrs, hrt, hlo, hq⟩, hb⟩
    replace V_A := Lib.hid (V_A.out.below hb)
    replace V_B := Lib.hid (V_B.out.below hb)
    replace V_C := Lib.hid (V_C.out.below hb)
    replace V_S := Lib.hid (V_S.out.below hb)
    replace V_W := Lib.hid (V_W.out.below hb)
    replace V_X := Lib.hid (V_X.out.below hb)
    replace HB := Lib.hid (HB.out.trans (hb.mono HB.out.size))
    clear hb e0_A e1_A e0_C e1_C
    replace V_A := Lib.hid (V_A.out.alloc (.cells #[.slice s_Y (M.dig n_Y).length c_Y, .slice t_Y (M.dig m_Y).length d_Y] 58))
    replace V_B := Lib.hid (V_B.out.alloc (.cells #[.slice s_Y (M.dig n_Y).length c_Y, .slice t_Y (M.dig m_Y).length d_Y] 58))
    replace V_C := Lib.hid (V_C.out.alloc (.cells #[.slice s_Y (M.dig n_Y).length c_Y, .slice t_Y (M.dig m_Y).length d_Y] 58))
    replace V_S := Lib.hid (V_S.out.alloc (.cells #[.slice s_Y (M.dig n_Y).length c_Y, .slice t_Y (M.dig m_Y).length d_Y] 58))
    replace V_W := Lib.hid (V_W.out.alloc (.cells #[.slice s_Y (M.dig n_Y).length c_Y, .slice t_Y (M.dig m_Y).length d_Y] 58))
    replace V_X := Lib.hid (V_X.out.alloc (.cells #[.slice s_Y (M.dig n_Y).length c_Y, .slice t_Y (M.dig m_Y).length d_Y] 58))
    replace HB := Lib.hid (HB.out.alloc HB.out.size (.cells #[.slice s_Y (M.dig n_Y).length c_Y, .slice t_Y (M.dig m_Y).length d_Y] 58))
    have V_Y := Lib.hid (RVar.new hrs hrt)
    have L_Y := Lib.hid hlo
    have Q_Y := Lib.hid (show Q n_Y m_Y = Q n_A m_A * Q n_C m_C from hq)
    clear hrs hrt hlo hq
    have e0_B := V_B.out.c0
    have e1_B := V_B.out.c1
    have e0_C := V_C.out.c0
    have e1_C := V_C.out.c1
    go_wp2_with fail
    refine (show Calls Tryd.prog 57 _ _ _ from qMul (N := 6) V_B.out.val V_C.out.val L_B.out L_C.out (by decide) (by decide)).mono ?_
    rintro e u5 ⟨⟨s_Z, c_Z, t_Z, d_Z, n_Z, m_Z, rfl, hrs, hrt, hlo, hq⟩, hb⟩
    replace V_A := Lib.hid (V_A.out.below hb)
    replace V_B := Lib.hid (V_B.out.below hb)
    replace V_C := Lib.hid (V_C.out.below hb)
    replace V_S := Lib.hid (V_S.out.below hb)
    replace V_W := Lib.hid (V_W.out.below hb)
    replace V_X := Lib.hid (V_X.out.below hb)
    replace V_Y := Lib.hid (V_Y.out.below hb)
    replace HB := Lib.hid (HB.out.trans (hb.mono HB.out.size))
    clear hb e0_B e1_B e0_C e1_C
    replace V_A := Lib.hid (V_A.out.alloc (.cells #[.slice s_Z (M.dig n_Z).length c_Z, .slice t_Z (M.dig m_Z).length d_Z] 58))
    replace V_B := Lib.hid (V_B.out.alloc (.cells #[.slice s_Z (M.dig n_Z).length c_Z, .slice t_Z (M.dig m_Z).length d_Z] 58))
    replace V_C := Lib.hid (V_C.out.alloc (.cells #[.slice s_Z (M.dig n_Z).length c_Z, .slice t_Z (M.dig m_Z).length d_Z] 58))
    replace V_S := Lib.hid (V_S.out.alloc (.cells #[.slice s_Z (M.dig n_Z).length c_Z, .slice t_Z (M.dig m_Z).length d_Z] 58))
    replace V_W := Lib.hid (V_W.out.alloc (.cells #[.slice s_Z (M.dig n_Z).length c_Z, .slice t_Z (M.dig m_Z).length d_Z] 58))
    replace V_X := Lib.hid (V_X.out.alloc (.cells #[.slice s_Z (M.dig n_Z).length c_Z, .slice t_Z (M.dig m_Z).length d_Z] 58))
    replace V_Y := Lib.hid (V_Y.out.alloc (.cells #[.slice s_Z (M.dig n_Z).length c_Z, .slice t_Z (M.dig m_Z).length d_Z] 58))
    replace HB := Lib.hid (HB.out.alloc HB.out.size (.cells #[.slice s_Z (M.dig n_Z).length c_Z, .slice t_Z (M.dig m_Z).length d_Z] 58))
    have V_Z := Lib.hid (RVar.new hrs hrt)
    have L_Z := Lib.hid hlo
    have Q_Z := Lib.hid (show Q n_Z m_Z = Q n_B m_B * Q n_C m_C from hq)
    clear hrs hrt hlo hq
    have e0_Y := V_Y.out.c0
    have e1_Y := V_Y.out.c1
    have e0_Z := V_Z.out.c0
    have e1_Z := V_Z.out.c1
    go_wp2_with fail
    refine (show Calls Tryd.prog 56 _ _ _ from qAdd (N := 13) V_Y.out.val V_Z.out.val L_Y.out L_Z.out (by decide) (by decide)).mono ?_
    rintro e u6 ⟨⟨s_V, c_V, t_V, d_V, n_V, m_V, rfl, hrs, hrt, hlo, hq⟩, hb⟩
    replace V_A := Lib.hid (V_A.out.below hb)
    replace V_B := Lib.hid (V_B.out.below hb)
    replace V_C := Lib.hid (V_C.out.below hb)
    replace V_S := Lib.hid (V_S.out.below hb)
    replace V_W := Lib.hid (V_W.out.below hb)
    replace V_X := Lib.hid (V_X.out.below hb)
    replace V_Y := Lib.hid (V_Y.out.below hb)
    replace V_Z := Lib.hid (V_Z.out.below hb)
    replace HB := Lib.hid (HB.out.trans (hb.mono HB.out.size))
    clear hb e0_Y e1_Y e0_Z e1_Z
    replace V_A := Lib.hid (V_A.out.alloc (.cells #[.slice s_V (M.dig n_V).length c_V, .slice t_V (M.dig m_V).length d_V] 58))
    replace V_B := Lib.hid (V_B.out.alloc (.cells #[.slice s_V (M.dig n_V).length c_V, .slice t_V (M.dig m_V).length d_V] 58))
    replace V_C := Lib.hid (V_C.out.alloc (.cells #[.slice s_V (M.dig n_V).length c_V, .slice t_V (M.dig m_V).length d_V] 58))
    replace V_S := Lib.hid (V_S.out.alloc (.cells #[.slice s_V (M.dig n_V).length c_V, .slice t_V (M.dig m_V).length d_V] 58))
    replace V_W := Lib.hid (V_W.out.alloc (.cells #[.slice s_V (M.dig n_V).length c_V, .slice t_V (M.dig m_V).length d_V] 58))
    replace V_X := Lib.hid (V_X.out.alloc (.cells #[.slice s_V (M.dig n_V).length c_V, .slice t_V (M.dig m_V).length d_V] 58))
    replace V_Y := Lib.hid (V_Y.out.alloc (.cells #[.slice s_V (M.dig n_V).length c_V, .slice t_V (M.dig m_V).length d_V] 58))
    replace V_Z := Lib.hid (V_Z.out.alloc (.cells #[.slice s_V (M.dig n_V).length c_V, .slice t_V (M.dig m_V).length d_V] 58))
    replace HB := Lib.hid (HB.out.alloc HB.out.size (.cells #[.slice s_V (M.dig n_V).length c_V, .slice t_V (M.dig m_V).length d_V] 58))
    have V_V := Lib.hid (RVar.new hrs hrt)
    have L_V := Lib.hid hlo
    have Q_V := Lib.hid (show Q n_V m_V = Q n_Y m_Y + Q n_Z m_Z from hq)
    clear hrs hrt hlo hq
    go_wp2_with fail
    refine (show Calls Tryd.prog 47 _ _ _ from ratAwake_any _).mono ?_
    rintro e u7 ⟨rfl, hb⟩
    replace V_A := Lib.hid (V_A.out.below hb)
    replace V_B := Lib.hid (V_B.out.below hb)
    replace V_C := Lib.hid (V_C.out.below hb)
    replace V_S := Lib.hid (V_S.out.below hb)
    replace V_W := Lib.hid (V_W.out.below hb)
    replace V_X := Lib.hid (V_X.out.below hb)
    replace V_Y := Lib.hid (V_Y.out.below hb)
    replace V_Z := Lib.hid (V_Z.out.below hb)
    replace V_V := Lib.hid (V_V.out.below hb)
    replace HB := Lib.hid (HB.out.trans (hb.mono HB.out.size))
    clear hb
    have e0_S := V_S.out.c0
    have e1_S := V_S.out.c1
    have e0_W := V_W.out.c0
    have e1_W := V_W.out.c1
    go_wp2_with fail
    refine (show Calls Tryd.prog 53 _ _ _ from qSame V_S.out.val V_W.out.val L_S.out L_W.out (by rw [Q_S.out, Q_W.out]; grind)).mono ?_
    rintro e u8 ⟨rfl, hb⟩
    replace V_A := Lib.hid (V_A.out.below hb)
    replace V_B := Lib.hid (V_B.out.below hb)
    replace V_C := Lib.hid (V_C.out.below hb)
    replace V_S := Lib.hid (V_S.out.below hb)
    replace V_W := Lib.hid (V_W.out.below hb)
    replace V_X := Lib.hid (V_X.out.below hb)
    replace V_Y := Lib.hid (V_Y.out.below hb)
    replace V_Z := Lib.hid (V_Z.out.below hb)
    replace V_V := Lib.hid (V_V.out.below hb)
    replace HB := Lib.hid (HB.out.trans (hb.mono HB.out.size))
    clear hb e0_S e1_S e0_W e1_W
    have e0_X := V_X.out.c0
    have e1_X := V_X.out.c1
    have e0_V := V_V.out.c0
    have e1_V := V_V.out.c1
    go_wp2_with fail
    refine (show Calls Tryd.prog 53 _ _ _ from qSame V_X.out.val V_V.out.val L_X.out L_V.out (by rw [Q_X.out, Q_V.out, Q_Y.out, Q_Z.out, Q_S.out]; grind)).mono ?_
    rintro e u9 ⟨rfl, hb⟩
    replace V_A := Lib.hid (V_A.out.below hb)
    replace V_B := Lib.hid (V_B.out.below hb)
    replace V_C := Lib.hid (V_C.out.below hb)
    replace V_S := Lib.hid (V_S.out.below hb)
    replace V_W := Lib.hid (V_W.out.below hb)
    replace V_X := Lib.hid (V_X.out.below hb)
    replace V_Y := Lib.hid (V_Y.out.below hb)
    replace V_Z := Lib.hid (V_Z.out.below hb)
    replace V_V := Lib.hid (V_V.out.below hb)
    replace HB := Lib.hid (HB.out.trans (hb.mono HB.out.size))
    clear hb e0_X e1_X e0_V e1_V
    have e0_S := V_S.out.c0
    have e1_S := V_S.out.c1
    have e0_B := V_B.out.c0
    have e1_B := V_B.out.c1
    go_wp2_with fail
    refine (show Calls Tryd.prog 58 _ _ _ from qSub (N := 10) V_S.out.val V_B.out.val L_S.out L_B.out (by decide) (by decide) (sum_ge L_S.out.1 L_A.out.1 L_B.out.1 Q_S.out)).mono ?_
    rintro e u10 ⟨⟨s_U, c_U, t_U, d_U, n_U, m_U, rfl, hrs, hrt, hlo, hq⟩, hb⟩
    replace V_A := Lib.hid (V_A.out.below hb)
    replace V_B := Lib.hid (V_B.out.below hb)
    replace V_C := Lib.hid (V_C.out.below hb)
    replace V_S := Lib.hid (V_S.out.below hb)
    replace V_W := Lib.hid (V_W.out.below hb)
    replace V_X := Lib.hid (V_X.out.below hb)
    replace V_Y := Lib.hid (V_Y.out.below hb)
    replace V_Z := Lib.hid (V_Z.out.below hb)
    replace V_V := Lib.hid (V_V.out.below hb)
    replace HB := Lib.hid (HB.out.trans (hb.mono HB.out.size))
    clear hb e0_S e1_S e0_B e1_B
    replace V_A := Lib.hid (V_A.out.alloc (.cells #[.slice s_U (M.dig n_U).length c_U, .slice t_U (M.dig m_U).length d_U] 58))
    replace V_B := Lib.hid (V_B.out.alloc (.cells #[.slice s_U (M.dig n_U).length c_U, .slice t_U (M.dig m_U).length d_U] 58))
    replace V_C := Lib.hid (V_C.out.alloc (.cells #[.slice s_U (M.dig n_U).length c_U, .slice t_U (M.dig m_U).length d_U] 58))
    replace V_S := Lib.hid (V_S.out.alloc (.cells #[.slice s_U (M.dig n_U).length c_U, .slice t_U (M.dig m_U).length d_U] 58))
    replace V_W := Lib.hid (V_W.out.alloc (.cells #[.slice s_U (M.dig n_U).length c_U, .slice t_U (M.dig m_U).length d_U] 58))
    replace V_X := Lib.hid (V_X.out.alloc (.cells #[.slice s_U (M.dig n_U).length c_U, .slice t_U (M.dig m_U).length d_U] 58))
    replace V_Y := Lib.hid (V_Y.out.alloc (.cells #[.slice s_U (M.dig n_U).length c_U, .slice t_U (M.dig m_U).length d_U] 58))
    replace V_Z := Lib.hid (V_Z.out.alloc (.cells #[.slice s_U (M.dig n_U).length c_U, .slice t_U (M.dig m_U).length d_U] 58))
    replace V_V := Lib.hid (V_V.out.alloc (.cells #[.slice s_U (M.dig n_U).length c_U, .slice t_U (M.dig m_U).length d_U] 58))
    replace HB := Lib.hid (HB.out.alloc HB.out.size (.cells #[.slice s_U (M.dig n_U).length c_U, .slice t_U (M.dig m_U).length d_U] 58))
    have V_U := Lib.hid (RVar.new hrs hrt)
    have L_U := Lib.hid hlo
    have Q_U := Lib.hid (show Q n_U m_U + Q n_B m_B = Q n_S m_S from hq)
    clear hrs hrt hlo hq
    have e0_U := V_U.out.c0
    have e1_U := V_U.out.c1
    have e0_A := V_A.out.c0
    have e1_A := V_A.out.c1
    go_wp2_with fail
    refine (show Calls Tryd.prog 53 _ _ _ from qSame V_U.out.val V_A.out.val L_U.out L_A.out (by have h1 := Q_U.out; have h2 := Q_S.out; grind)).mono ?_
    rintro e u11 ⟨rfl, hb⟩
    replace V_A := Lib.hid (V_A.out.below hb)
    replace V_B := Lib.hid (V_B.out.below hb)
    replace V_C := Lib.hid (V_C.out.below hb)
    replace V_S := Lib.hid (V_S.out.below hb)
    replace V_W := Lib.hid (V_W.out.below hb)
    replace V_X := Lib.hid (V_X.out.below hb)
    replace V_Y := Lib.hid (V_Y.out.below hb)
    replace V_Z := Lib.hid (V_Z.out.below hb)
    replace V_V := Lib.hid (V_V.out.below hb)
    replace V_U := Lib.hid (V_U.out.below hb)
    replace HB := Lib.hid (HB.out.trans (hb.mono HB.out.size))
    clear hb e0_U e1_U e0_A e1_A
    have e0_S := V_S.out.c0
    have e1_S := V_S.out.c1
    go_wp2_with fail
    refine (show Calls Tryd.prog 59 _ _ _ from qValid V_S.out.val L_S.out (by decide)).mono ?_
    rintro e u12 ⟨rfl, hb⟩
    replace V_A := Lib.hid (V_A.out.below hb)
    replace V_B := Lib.hid (V_B.out.below hb)
    replace V_C := Lib.hid (V_C.out.below hb)
    replace V_S := Lib.hid (V_S.out.below hb)
    replace V_W := Lib.hid (V_W.out.below hb)
    replace V_X := Lib.hid (V_X.out.below hb)
    replace V_Y := Lib.hid (V_Y.out.below hb)
    replace V_Z := Lib.hid (V_Z.out.below hb)
    replace V_V := Lib.hid (V_V.out.below hb)
    replace V_U := Lib.hid (V_U.out.below hb)
    replace HB := Lib.hid (HB.out.trans (hb.mono HB.out.size))
    clear hb e0_S e1_S
    have e0_X := V_X.out.c0
    have e1_X := V_X.out.c1
    go_wp2_with fail
    refine (show Calls Tryd.prog 59 _ _ _ from qValid V_X.out.val L_X.out (by decide)).mono ?_
    rintro e u13 ⟨rfl, hb⟩
    replace V_A := Lib.hid (V_A.out.below hb)
    replace V_B := Lib.hid (V_B.out.below hb)
    replace V_C := Lib.hid (V_C.out.below hb)
    replace V_S := Lib.hid (V_S.out.below hb)
    replace V_W := Lib.hid (V_W.out.below hb)
    replace V_X := Lib.hid (V_X.out.below hb)
    replace V_Y := Lib.hid (V_Y.out.below hb)
    replace V_Z := Lib.hid (V_Z.out.below hb)
    replace V_V := Lib.hid (V_V.out.below hb)
    replace V_U := Lib.hid (V_U.out.below hb)
    replace HB := Lib.hid (HB.out.trans (hb.mono HB.out.size))
    clear hb e0_X e1_X
    by_cases hz : n_C = 0
    · have z : (((M.dig n_C).length : Int) == 0) = true := by rw [hz, M.dig_zero]; rfl
      clear hz
      have e0_C := V_C.out.c0
      have e1_C := V_C.out.c1
      go_wp2_with fail
      go_ret
      exact ⟨rfl, HB.out⟩
    · have hz0 : 0 < n_C := by omega
      have z : (((M.dig n_C).length : Int) == 0) = false := beq_eq_false_iff_ne.2 (by intro h; have := M.dig_nil.1 (List.length_eq_zero_iff.1 (by omega : (M.dig n_C).length = 0)); omega)
      clear hz
      have e0_Y := V_Y.out.c0
      have e1_Y := V_Y.out.c1
      have e0_C := V_C.out.c0
      have e1_C := V_C.out.c1
      go_wp2_with fail
      refine (show Calls Tryd.prog 60 _ _ _ from qDiv (N := 9) V_Y.out.val V_C.out.val L_Y.out L_C.out (by decide) (by decide) hz0).mono ?_
      rintro e u14 ⟨⟨s_T, c_T, t_T, d_T, n_T, m_T, rfl, hrs, hrt, hlo, hq⟩, hb⟩
      replace V_A := Lib.hid (V_A.out.below hb)
      replace V_B := Lib.hid (V_B.out.below hb)
      replace V_C := Lib.hid (V_C.out.below hb)
      replace V_S := Lib.hid (V_S.out.below hb)
      replace V_W := Lib.hid (V_W.out.below hb)
      replace V_X := Lib.hid (V_X.out.below hb)
      replace V_Y := Lib.hid (V_Y.out.below hb)
      replace V_Z := Lib.hid (V_Z.out.below hb)
      replace V_V := Lib.hid (V_V.out.below hb)
      replace V_U := Lib.hid (V_U.out.below hb)
      replace HB := Lib.hid (HB.out.trans (hb.mono HB.out.size))
      clear hb e0_Y e1_Y e0_C e1_C
      replace V_A := Lib.hid (V_A.out.alloc (.cells #[.slice s_T (M.dig n_T).length c_T, .slice t_T (M.dig m_T).length d_T] 58))
      replace V_B := Lib.hid (V_B.out.alloc (.cells #[.slice s_T (M.dig n_T).length c_T, .slice t_T (M.dig m_T).length d_T] 58))
      replace V_C := Lib.hid (V_C.out.alloc (.cells #[.slice s_T (M.dig n_T).length c_T, .slice t_T (M.dig m_T).length d_T] 58))
      replace V_S := Lib.hid (V_S.out.alloc (.cells #[.slice s_T (M.dig n_T).length c_T, .slice t_T (M.dig m_T).length d_T] 58))
      replace V_W := Lib.hid (V_W.out.alloc (.cells #[.slice s_T (M.dig n_T).length c_T, .slice t_T (M.dig m_T).length d_T] 58))
      replace V_X := Lib.hid (V_X.out.alloc (.cells #[.slice s_T (M.dig n_T).length c_T, .slice t_T (M.dig m_T).length d_T] 58))
      replace V_Y := Lib.hid (V_Y.out.alloc (.cells #[.slice s_T (M.dig n_T).length c_T, .slice t_T (M.dig m_T).length d_T] 58))
      replace V_Z := Lib.hid (V_Z.out.alloc (.cells #[.slice s_T (M.dig n_T).length c_T, .slice t_T (M.dig m_T).length d_T] 58))
      replace V_V := Lib.hid (V_V.out.alloc (.cells #[.slice s_T (M.dig n_T).length c_T, .slice t_T (M.dig m_T).length d_T] 58))
      replace V_U := Lib.hid (V_U.out.alloc (.cells #[.slice s_T (M.dig n_T).length c_T, .slice t_T (M.dig m_T).length d_T] 58))
      replace HB := Lib.hid (HB.out.alloc HB.out.size (.cells #[.slice s_T (M.dig n_T).length c_T, .slice t_T (M.dig m_T).length d_T] 58))
      have V_T := Lib.hid (RVar.new hrs hrt)
      have L_T := Lib.hid hlo
      have Q_T := Lib.hid (show Q n_T m_T * Q n_C m_C = Q n_Y m_Y from hq)
      clear hrs hrt hlo hq
      have e0_T := V_T.out.c0
      have e1_T := V_T.out.c1
      have e0_A := V_A.out.c0
      have e1_A := V_A.out.c1
      go_wp2_with fail
      refine (show Calls Tryd.prog 53 _ _ _ from qSame V_T.out.val V_A.out.val L_T.out L_A.out (by have h1 := Q_T.out; have h2 := Q_Y.out; have h3 := num_pos hz0 L_C.out.1; grind)).mono ?_
      rintro e u15 ⟨rfl, hb⟩
      replace V_A := Lib.hid (V_A.out.below hb)
      replace V_B := Lib.hid (V_B.out.below hb)
      replace V_C := Lib.hid (V_C.out.below hb)
      replace V_S := Lib.hid (V_S.out.below hb)
      replace V_W := Lib.hid (V_W.out.below hb)
      replace V_X := Lib.hid (V_X.out.below hb)
      replace V_Y := Lib.hid (V_Y.out.below hb)
      replace V_Z := Lib.hid (V_Z.out.below hb)
      replace V_V := Lib.hid (V_V.out.below hb)
      replace V_U := Lib.hid (V_U.out.below hb)
      replace V_T := Lib.hid (V_T.out.below hb)
      replace HB := Lib.hid (HB.out.trans (hb.mono HB.out.size))
      clear hb e0_T e1_T e0_A e1_A
      go_wp2_with fail
      go_ret
      exact ⟨rfl, HB.out⟩
  · go_enter Tryd.func15, Tryd.ntmps15
    go_wp2_with fail
    refine (HLT.out _).mono ?_
    rintro e w' ⟨rfl, rfl⟩
    rw [show decide ((ts.length : Int) ≤ 400) = false from decide_eq_false (by omega)]
    go_wp2_with fail
    refine (ratAwake_any _).mono ?_
    rintro e w1 ⟨rfl, hb⟩
    have HB := Lib.hid hb
    clear hb
    go_wp2_with fail
    go_ret
    exact ⟨rfl, HB.out⟩
end Go.Proofs.YtneimnacanhjmaaDoor
