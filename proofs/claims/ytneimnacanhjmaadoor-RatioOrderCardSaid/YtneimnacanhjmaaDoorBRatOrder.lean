/- The walk of RatioOrder. -/
import Derived.Test.YtneimnacanhjmaaDoorBRatQ2
namespace Go.Proofs.YtneimnacanhjmaaDoor
open Go Go.RowKit Go.Shelf

set_option maxRecDepth 100000 in
set_option maxHeartbeats 4000000 in
theorem rorder_any (ta : Option Addr) (tc : Nat) (ts : List Int) (w : World) (hR : Row w ta ts tc) :
    Calls Tryd.prog 16 #[.slice ta ts.length tc] w fun e W' => e = .returned (.bool true) ∧ Below w.heap.size w W' := by
  have HR := Lib.hid hR
  have HLT := Lib.hid (fun W : World => light_any ta ts.length tc W)
  clear hR
  by_cases hl : (ts.length : Int) ≤ 400
  · go_enter Tryd.func16, Tryd.ntmps16
    go_wp2_with fail
    refine (HLT.out _).mono ?_
    rintro e w' ⟨rfl, rfl⟩
    rw [show decide ((ts.length : Int) ≤ 400) = true from decide_eq_true hl]
    go_wp2_with fail
    refine (roll_any ta tc ts _ HR.out (by omega)).mono ?_
    rintro e w1 ⟨rfl, hd, hb1⟩
    have HD := Lib.hid hd
    have HB1 := Lib.hid hb1
    have hs1 : w'.heap.size < w1.heap.size := hd.lt
    clear hd hb1 HR HLT
    go_wp2_with fail
    refine (some_any w1 w'.heap.size ta tc ts 0 HD.out).mono ?_
    rintro e w2 ⟨s_A, c_A, t_A, d_A, n_A, m_A, kA, rfl, hy_A, hg_A, hx_A, hl_A, hd2, hg2, _, _, hkA⟩
    have L_A := Lib.hid (show Lo n_A m_A 3 from ⟨hy_A, hg_A, hx_A, hl_A⟩)
    have HKA := Lib.hid hkA
    have HD2 := Lib.hid hd2
    have HB2 := Lib.hid (HB1.out.trans (below_of_dice hg2 (Nat.le_refl _) (Nat.le_of_lt hs1)))
    have hs2 := hd2.lt
    clear hd2 hg2 hy_A hg_A hx_A hl_A hkA HB1 HD
    go_wp2_with fail
    refine (some_any w2 w'.heap.size ta tc ts kA HD2.out).mono ?_
    rintro e w3 ⟨s_B, c_B, t_B, d_B, n_B, m_B, kB, rfl, hy_B, hg_B, hx_B, hl_B, _, hg3, hrs, hrt, _⟩
    have L_B := Lib.hid (show Lo n_B m_B 3 from ⟨hy_B, hg_B, hx_B, hl_B⟩)
    have hrA := HKA.out w3 hg3
    have V_A := Lib.hid ((RVar.new hrA.1 hrA.2).alloc (.cells #[.slice s_B (M.dig n_B).length c_B, .slice t_B (M.dig m_B).length d_B] 58))
    have vb := RVar.new (hrs.alloc (.cells #[.slice s_A (M.dig n_A).length c_A, .slice t_A (M.dig m_A).length d_A] 58)) (hrt.alloc (.cells #[.slice s_A (M.dig n_A).length c_A, .slice t_A (M.dig m_A).length d_A] 58))
    rw [World.size_alloc] at vb
    have V_B := Lib.hid vb
    have HB3 := HB2.out.trans (below_of_dice hg3 (Nat.le_refl _) (Nat.le_of_lt hs2))
    have HB4 := HB3.alloc HB3.size (.cells #[.slice s_A (M.dig n_A).length c_A, .slice t_A (M.dig m_A).length d_A] 58)
    have HB := Lib.hid (HB4.alloc HB4.size (.cells #[.slice s_B (M.dig n_B).length c_B, .slice t_B (M.dig m_B).length d_B] 58))
    clear hrs hrt hg3 hy_B hg_B hx_B hl_B HB2 HD2 HKA hrA vb HB3 HB4 hs1 hs2
    by_cases hle : n_B * m_A ≤ n_A * m_B
    · have HL := Lib.hid hle
      clear hle
      have e0_A := V_A.out.c0
      have e1_A := V_A.out.c1
      have e0_B := V_B.out.c0
      have e1_B := V_B.out.c1
      go_wp2_with fail
      refine (show Calls Tryd.prog 61 _ _ _ from qCmp_ge V_A.out.val V_B.out.val L_A.out L_B.out (by decide) HL.out).mono ?_
      rintro e u1 ⟨⟨c1, hc1, rfl⟩, hb⟩
      have hd1 : decide (0 ≤ c1) = true := decide_eq_true hc1
      have hd2 : decide (c1 < 0) = false := decide_eq_false (by omega)
      replace V_A := Lib.hid (V_A.out.below hb)
      replace V_B := Lib.hid (V_B.out.below hb)
      replace HB := Lib.hid (HB.out.trans (hb.mono HB.out.size))
      clear hb e0_A e1_A e0_B e1_B
      have e0_A := V_A.out.c0
      have e1_A := V_A.out.c1
      have e0_B := V_B.out.c0
      have e1_B := V_B.out.c1
      go_wp2_with fail
      refine (show Calls Tryd.prog 58 _ _ _ from qSub (N := 6) V_A.out.val V_B.out.val L_A.out L_B.out (by decide) (by decide) HL.out).mono ?_
      rintro e u2 ⟨⟨s_D, c_D, t_D, d_D, n_D, m_D, rfl, hrs, hrt, hlo, hq⟩, hb⟩
      replace V_A := Lib.hid (V_A.out.below hb)
      replace V_B := Lib.hid (V_B.out.below hb)
      replace HB := Lib.hid (HB.out.trans (hb.mono HB.out.size))
      clear hb e0_A e1_A e0_B e1_B
      replace V_A := Lib.hid (V_A.out.alloc (.cells #[.slice s_D (M.dig n_D).length c_D, .slice t_D (M.dig m_D).length d_D] 58))
      replace V_B := Lib.hid (V_B.out.alloc (.cells #[.slice s_D (M.dig n_D).length c_D, .slice t_D (M.dig m_D).length d_D] 58))
      replace HB := Lib.hid (HB.out.alloc HB.out.size (.cells #[.slice s_D (M.dig n_D).length c_D, .slice t_D (M.dig m_D).length d_D] 58))
      have V_D := Lib.hid (RVar.new hrs hrt)
      have L_D := Lib.hid hlo
      have Q_D := Lib.hid (show Q n_D m_D + Q n_B m_B = Q n_A m_A from hq)
      clear hrs hrt hlo hq
      have e0_A := V_A.out.c0
      have e1_A := V_A.out.c1
      go_wp2_with fail
      refine (show Calls Tryd.prog 62 _ _ _ from qFloor V_A.out.val L_A.out (by decide)).mono ?_
      rintro e u3 ⟨⟨s_K, c_K, n_K, rfl, hr, hlk, hk1, hk2⟩, hb⟩
      have LK := Lib.hid hlk
      have K1 := Lib.hid hk1
      have K2 := Lib.hid hk2
      clear hlk hk1 hk2
      replace V_A := Lib.hid (V_A.out.below hb)
      replace V_B := Lib.hid (V_B.out.below hb)
      replace V_D := Lib.hid (V_D.out.below hb)
      replace HB := Lib.hid (HB.out.trans (hb.mono HB.out.size))
      clear hb e0_A e1_A
      replace V_A := Lib.hid (V_A.out.alloc (.cells #[.slice s_K (M.dig n_K).length c_K] 24))
      replace V_B := Lib.hid (V_B.out.alloc (.cells #[.slice s_K (M.dig n_K).length c_K] 24))
      replace V_D := Lib.hid (V_D.out.alloc (.cells #[.slice s_K (M.dig n_K).length c_K] 24))
      replace HB := Lib.hid (HB.out.alloc HB.out.size (.cells #[.slice s_K (M.dig n_K).length c_K] 24))
      have V_K := Lib.hid (Var.new hr)
      clear hr
      go_wp2_with fail
      refine (show Calls Tryd.prog 55 _ _ _ from qOf 1 _ (by decide)).mono ?_
      rintro e u4 ⟨⟨s_I, c_I, t_I, d_I, n_I, m_I, rfl, hrs, hrt, hlo, hq⟩, hb⟩
      replace V_A := Lib.hid (V_A.out.below hb)
      replace V_B := Lib.hid (V_B.out.below hb)
      replace V_D := Lib.hid (V_D.out.below hb)
      replace V_K := Lib.hid (V_K.out.below hb)
      replace HB := Lib.hid (HB.out.trans (hb.mono HB.out.size))
      clear hb
      replace V_A := Lib.hid (V_A.out.alloc (.cells #[.slice s_I (M.dig n_I).length c_I, .slice t_I (M.dig m_I).length d_I] 58))
      replace V_B := Lib.hid (V_B.out.alloc (.cells #[.slice s_I (M.dig n_I).length c_I, .slice t_I (M.dig m_I).length d_I] 58))
      replace V_D := Lib.hid (V_D.out.alloc (.cells #[.slice s_I (M.dig n_I).length c_I, .slice t_I (M.dig m_I).length d_I] 58))
      replace V_K := Lib.hid (V_K.out.alloc (.cells #[.slice s_I (M.dig n_I).length c_I, .slice t_I (M.dig m_I).length d_I] 58))
      replace HB := Lib.hid (HB.out.alloc HB.out.size (.cells #[.slice s_I (M.dig n_I).length c_I, .slice t_I (M.dig m_I).length d_I] 58))
      have V_I := Lib.hid (RVar.new hrs hrt)
      have L_I := Lib.hid hlo
      have Q_I := Lib.hid (show Q n_I m_I = Q 1 1 from hq)
      clear hrs hrt hlo hq
      obtain ⟨rfl, rfl⟩ := whole_one L_I.out Q_I.out
      have e0_K := V_K.out.cell
      have e0_I := V_I.out.c0
      have e1_I := V_I.out.c1
      go_wp2_with fail
      refine (show Calls Tryd.prog 51 _ _ _ from qMake (N := 3) V_K.out.row V_I.out.ra (by decide) LK.out (Nat.le_trans L_I.out.2.2.1 (by decide)) (by decide)).mono ?_
      rintro e u5 ⟨⟨s_W, c_W, t_W, d_W, n_W, m_W, rfl, hrs, hrt, hlo, hq⟩, hb⟩
      replace V_A := Lib.hid (V_A.out.below hb)
      replace V_B := Lib.hid (V_B.out.below hb)
      replace V_D := Lib.hid (V_D.out.below hb)
      replace V_K := Lib.hid (V_K.out.below hb)
      replace V_I := Lib.hid (V_I.out.below hb)
      replace HB := Lib.hid (HB.out.trans (hb.mono HB.out.size))
      clear hb e0_K e0_I e1_I
      replace V_A := Lib.hid (V_A.out.alloc (.cells #[.slice s_W (M.dig n_W).length c_W, .slice t_W (M.dig m_W).length d_W] 58))
      replace V_B := Lib.hid (V_B.out.alloc (.cells #[.slice s_W (M.dig n_W).length c_W, .slice t_W (M.dig m_W).length d_W] 58))
      replace V_D := Lib.hid (V_D.out.alloc (.cells #[.slice s_W (M.dig n_W).length c_W, .slice t_W (M.dig m_W).length d_W] 58))
      replace V_K := Lib.hid (V_K.out.alloc (.cells #[.slice s_W (M.dig n_W).length c_W, .slice t_W (M.dig m_W).length d_W] 58))
      replace V_I := Lib.hid (V_I.out.alloc (.cells #[.slice s_W (M.dig n_W).length c_W, .slice t_W (M.dig m_W).length d_W] 58))
      replace HB := Lib.hid (HB.out.alloc HB.out.size (.cells #[.slice s_W (M.dig n_W).length c_W, .slice t_W (M.dig m_W).length d_W] 58))
      have V_W := Lib.hid (RVar.new hrs hrt)
      have L_W := Lib.hid hlo
      have Q_W := Lib.hid (show Q n_W m_W = Q n_K 1 from hq)
      clear hrs hrt hlo hq
      have e0_A := V_A.out.c0
      have e1_A := V_A.out.c1
      have e0_W := V_W.out.c0
      have e1_W := V_W.out.c1
      go_wp2_with fail
      refine (show Calls Tryd.prog 58 _ _ _ from qSub (N := 6) V_A.out.val V_W.out.val L_A.out L_W.out (by decide) (by decide) (floor_le L_W.out Q_W.out K1.out)).mono ?_
      rintro e u6 ⟨⟨s_R, c_R, t_R, d_R, n_R, m_R, rfl, hrs, hrt, hlo, hq⟩, hb⟩
      replace V_A := Lib.hid (V_A.out.below hb)
      replace V_B := Lib.hid (V_B.out.below hb)
      replace V_D := Lib.hid (V_D.out.below hb)
      replace V_K := Lib.hid (V_K.out.below hb)
      replace V_I := Lib.hid (V_I.out.below hb)
      replace V_W := Lib.hid (V_W.out.below hb)
      replace HB := Lib.hid (HB.out.trans (hb.mono HB.out.size))
      clear hb e0_A e1_A e0_W e1_W
      replace V_A := Lib.hid (V_A.out.alloc (.cells #[.slice s_R (M.dig n_R).length c_R, .slice t_R (M.dig m_R).length d_R] 58))
      replace V_B := Lib.hid (V_B.out.alloc (.cells #[.slice s_R (M.dig n_R).length c_R, .slice t_R (M.dig m_R).length d_R] 58))
      replace V_D := Lib.hid (V_D.out.alloc (.cells #[.slice s_R (M.dig n_R).length c_R, .slice t_R (M.dig m_R).length d_R] 58))
      replace V_K := Lib.hid (V_K.out.alloc (.cells #[.slice s_R (M.dig n_R).length c_R, .slice t_R (M.dig m_R).length d_R] 58))
      replace V_I := Lib.hid (V_I.out.alloc (.cells #[.slice s_R (M.dig n_R).length c_R, .slice t_R (M.dig m_R).length d_R] 58))
      replace V_W := Lib.hid (V_W.out.alloc (.cells #[.slice s_R (M.dig n_R).length c_R, .slice t_R (M.dig m_R).length d_R] 58))
      replace HB := Lib.hid (HB.out.alloc HB.out.size (.cells #[.slice s_R (M.dig n_R).length c_R, .slice t_R (M.dig m_R).length d_R] 58))
      have V_R := Lib.hid (RVar.new hrs hrt)
      have L_R := Lib.hid hlo
      have Q_R := Lib.hid (show Q n_R m_R + Q n_W m_W = Q n_A m_A from hq)
      clear hrs hrt hlo hq
      have e0_R := V_R.out.c0
      have e1_R := V_R.out.c1
      have e0_I := V_I.out.c0
      have e1_I := V_I.out.c1
      go_wp2_with fail
      refine (show Calls Tryd.prog 61 _ _ _ from qCmp_lt V_R.out.val V_I.out.val L_R.out L_I.out (by decide) (by rw [Nat.mul_one, Nat.one_mul]; exact rest_lt L_R.out L_A.out Q_W.out Q_R.out K2.out)).mono ?_
      rintro e u7 ⟨⟨c2, hc2, rfl⟩, hb⟩
      replace V_A := Lib.hid (V_A.out.below hb)
      replace V_B := Lib.hid (V_B.out.below hb)
      replace V_D := Lib.hid (V_D.out.below hb)
      replace V_K := Lib.hid (V_K.out.below hb)
      replace V_I := Lib.hid (V_I.out.below hb)
      replace V_W := Lib.hid (V_W.out.below hb)
      replace V_R := Lib.hid (V_R.out.below hb)
      replace HB := Lib.hid (HB.out.trans (hb.mono HB.out.size))
      clear hb e0_R e1_R e0_I e1_I
      have e0_K := V_K.out.cell
      have e0_A := V_A.out.c0
      have e1_A := V_A.out.c1
      go_wp2_with fail
      refine (show Calls Tryd.prog 28 _ _ _ from qTimes V_K.out.row V_A.out.rb LK.out L_A.out.2.2.2 (by decide)).mono ?_
      rintro e u8 ⟨⟨s_S, c_S, n_S, rfl, hr, hn⟩, hb⟩
      have HN := Lib.hid hn
      clear hn
      replace V_A := Lib.hid (V_A.out.below hb)
      replace V_B := Lib.hid (V_B.out.below hb)
      replace V_D := Lib.hid (V_D.out.below hb)
      replace V_K := Lib.hid (V_K.out.below hb)
      replace V_I := Lib.hid (V_I.out.below hb)
      replace V_W := Lib.hid (V_W.out.below hb)
      replace V_R := Lib.hid (V_R.out.below hb)
      replace HB := Lib.hid (HB.out.trans (hb.mono HB.out.size))
      clear hb e0_K e0_A e1_A
      replace V_A := Lib.hid (V_A.out.alloc (.cells #[.slice s_S (M.dig n_S).length c_S] 24))
      replace V_B := Lib.hid (V_B.out.alloc (.cells #[.slice s_S (M.dig n_S).length c_S] 24))
      replace V_D := Lib.hid (V_D.out.alloc (.cells #[.slice s_S (M.dig n_S).length c_S] 24))
      replace V_K := Lib.hid (V_K.out.alloc (.cells #[.slice s_S (M.dig n_S).length c_S] 24))
      replace V_I := Lib.hid (V_I.out.alloc (.cells #[.slice s_S (M.dig n_S).length c_S] 24))
      replace V_W := Lib.hid (V_W.out.alloc (.cells #[.slice s_S (M.dig n_S).length c_S] 24))
      replace V_R := Lib.hid (V_R.out.alloc (.cells #[.slice s_S (M.dig n_S).length c_S] 24))
      replace HB := Lib.hid (HB.out.alloc HB.out.size (.cells #[.slice s_S (M.dig n_S).length c_S] 24))
      have V_S := Lib.hid (Var.new hr)
      clear hr
      go_wp2_with fail
      refine (show Calls Tryd.prog 47 _ _ _ from ratAwake_any _).mono ?_
      rintro e u9 ⟨rfl, hb⟩
      replace V_A := Lib.hid (V_A.out.below hb)
      replace V_B := Lib.hid (V_B.out.below hb)
      replace V_D := Lib.hid (V_D.out.below hb)
      replace V_K := Lib.hid (V_K.out.below hb)
      replace V_I := Lib.hid (V_I.out.below hb)
      replace V_W := Lib.hid (V_W.out.below hb)
      replace V_R := Lib.hid (V_R.out.below hb)
      replace V_S := Lib.hid (V_S.out.below hb)
      replace HB := Lib.hid (HB.out.trans (hb.mono HB.out.size))
      clear hb
      have e0_S := V_S.out.cell
      have e0_A := V_A.out.c0
      have e1_A := V_A.out.c1
      go_wp2_with fail
      refine (show Calls Tryd.prog 41 _ _ _ from qOrd_le V_S.out.row V_A.out.ra (by rw [HN.out]; exact K1.out)).mono ?_
      rintro e u10 ⟨⟨c3, hc3, rfl⟩, hb⟩
      replace V_A := Lib.hid (V_A.out.below hb)
      replace V_B := Lib.hid (V_B.out.below hb)
      replace V_D := Lib.hid (V_D.out.below hb)
      replace V_K := Lib.hid (V_K.out.below hb)
      replace V_I := Lib.hid (V_I.out.below hb)
      replace V_W := Lib.hid (V_W.out.below hb)
      replace V_R := Lib.hid (V_R.out.below hb)
      replace V_S := Lib.hid (V_S.out.below hb)
      replace HB := Lib.hid (HB.out.trans (hb.mono HB.out.size))
      clear hb e0_S e0_A e1_A
      go_wp2_with fail
      go_ret
      exact ⟨rfl, HB.out⟩
    · have HL := Lib.hid (show n_A * m_B < n_B * m_A by omega)
      clear hle
      have e0_A := V_A.out.c0
      have e1_A := V_A.out.c1
      have e0_B := V_B.out.c0
      have e1_B := V_B.out.c1
      go_wp2_with fail
      refine (show Calls Tryd.prog 61 _ _ _ from qCmp_lt V_A.out.val V_B.out.val L_A.out L_B.out (by decide) HL.out).mono ?_
      rintro e u1 ⟨⟨c1, hc1, rfl⟩, hb⟩
      have hd1 : decide (0 ≤ c1) = false := decide_eq_false (by omega)
      have hd2 : decide (c1 < 0) = true := decide_eq_true hc1
      replace V_A := Lib.hid (V_A.out.below hb)
      replace V_B := Lib.hid (V_B.out.below hb)
      replace HB := Lib.hid (HB.out.trans (hb.mono HB.out.size))
      clear hb e0_A e1_A e0_B e1_B
      have e0_A := V_A.out.c0
      have e1_A := V_A.out.c1
      have e0_B := V_B.out.c0
      have e1_B := V_B.out.c1
      go_wp2_with fail
      refine (show Calls Tryd.prog 58 _ _ _ from qSub_lt V_A.out.val V_B.out.val L_A.out L_B.out (by decide) HL.out).mono ?_
      rintro e u2 ⟨rfl, hb⟩
      replace V_A := Lib.hid (V_A.out.below hb)
      replace V_B := Lib.hid (V_B.out.below hb)
      replace HB := Lib.hid (HB.out.trans (hb.mono HB.out.size))
      clear hb e0_A e1_A e0_B e1_B
      replace V_A := Lib.hid (V_A.out.alloc (.cells #[.slice none 0 0, .slice none 0 0] 58))
      replace V_B := Lib.hid (V_B.out.alloc (.cells #[.slice none 0 0, .slice none 0 0] 58))
      replace HB := Lib.hid (HB.out.alloc HB.out.size (.cells #[.slice none 0 0, .slice none 0 0] 58))
      have e0_A := V_A.out.c0
      have e1_A := V_A.out.c1
      go_wp2_with fail
      refine (show Calls Tryd.prog 62 _ _ _ from qFloor V_A.out.val L_A.out (by decide)).mono ?_
      rintro e u3 ⟨⟨s_K, c_K, n_K, rfl, hr, hlk, hk1, hk2⟩, hb⟩
      have LK := Lib.hid hlk
      have K1 := Lib.hid hk1
      have K2 := Lib.hid hk2
      clear hlk hk1 hk2
      replace V_A := Lib.hid (V_A.out.below hb)
      replace V_B := Lib.hid (V_B.out.below hb)
      replace HB := Lib.hid (HB.out.trans (hb.mono HB.out.size))
      clear hb e0_A e1_A
      replace V_A := Lib.hid (V_A.out.alloc (.cells #[.slice s_K (M.dig n_K).length c_K] 24))
      replace V_B := Lib.hid (V_B.out.alloc (.cells #[.slice s_K (M.dig n_K).length c_K] 24))
      replace HB := Lib.hid (HB.out.alloc HB.out.size (.cells #[.slice s_K (M.dig n_K).length c_K] 24))
      have V_K := Lib.hid (Var.new hr)
      clear hr
      go_wp2_with fail
      refine (show Calls Tryd.prog 55 _ _ _ from qOf 1 _ (by decide)).mono ?_
      rintro e u4 ⟨⟨s_I, c_I, t_I, d_I, n_I, m_I, rfl, hrs, hrt, hlo, hq⟩, hb⟩
      replace V_A := Lib.hid (V_A.out.below hb)
      replace V_B := Lib.hid (V_B.out.below hb)
      replace V_K := Lib.hid (V_K.out.below hb)
      replace HB := Lib.hid (HB.out.trans (hb.mono HB.out.size))
      clear hb
      replace V_A := Lib.hid (V_A.out.alloc (.cells #[.slice s_I (M.dig n_I).length c_I, .slice t_I (M.dig m_I).length d_I] 58))
      replace V_B := Lib.hid (V_B.out.alloc (.cells #[.slice s_I (M.dig n_I).length c_I, .slice t_I (M.dig m_I).length d_I] 58))
      replace V_K := Lib.hid (V_K.out.alloc (.cells #[.slice s_I (M.dig n_I).length c_I, .slice t_I (M.dig m_I).length d_I] 58))
      replace HB := Lib.hid (HB.out.alloc HB.out.size (.cells #[.slice s_I (M.dig n_I).length c_I, .slice t_I (M.dig m_I).length d_I] 58))
      have V_I := Lib.hid (RVar.new hrs hrt)
      have L_I := Lib.hid hlo
      have Q_I := Lib.hid (show Q n_I m_I = Q 1 1 from hq)
      clear hrs hrt hlo hq
      obtain ⟨rfl, rfl⟩ := whole_one L_I.out Q_I.out
      have e0_K := V_K.out.cell
      have e0_I := V_I.out.c0
      have e1_I := V_I.out.c1
      go_wp2_with fail
      refine (show Calls Tryd.prog 51 _ _ _ from qMake (N := 3) V_K.out.row V_I.out.ra (by decide) LK.out (Nat.le_trans L_I.out.2.2.1 (by decide)) (by decide)).mono ?_
      rintro e u5 ⟨⟨s_W, c_W, t_W, d_W, n_W, m_W, rfl, hrs, hrt, hlo, hq⟩, hb⟩
      replace V_A := Lib.hid (V_A.out.below hb)
      replace V_B := Lib.hid (V_B.out.below hb)
      replace V_K := Lib.hid (V_K.out.below hb)
      replace V_I := Lib.hid (V_I.out.below hb)
      replace HB := Lib.hid (HB.out.trans (hb.mono HB.out.size))
      clear hb e0_K e0_I e1_I
      replace V_A := Lib.hid (V_A.out.alloc (.cells #[.slice s_W (M.dig n_W).length c_W, .slice t_W (M.dig m_W).length d_W] 58))
      replace V_B := Lib.hid (V_B.out.alloc (.cells #[.slice s_W (M.dig n_W).length c_W, .slice t_W (M.dig m_W).length d_W] 58))
      replace V_K := Lib.hid (V_K.out.alloc (.cells #[.slice s_W (M.dig n_W).length c_W, .slice t_W (M.dig m_W).length d_W] 58))
      replace V_I := Lib.hid (V_I.out.alloc (.cells #[.slice s_W (M.dig n_W).length c_W, .slice t_W (M.dig m_W).length d_W] 58))
      replace HB := Lib.hid (HB.out.alloc HB.out.size (.cells #[.slice s_W (M.dig n_W).length c_W, .slice t_W (M.dig m_W).length d_W] 58))
      have V_W := Lib.hid (RVar.new hrs hrt)
      have L_W := Lib.hid hlo
      have Q_W := Lib.hid (show Q n_W m_W = Q n_K 1 from hq)
      clear hrs hrt hlo hq
      have e0_A := V_A.out.c0
      have e1_A := V_A.out.c1
      have e0_W := V_W.out.c0
      have e1_W := V_W.out.c1
      go_wp2_with fail
      refine (show Calls Tryd.prog 58 _ _ _ from qSub (N := 6) V_A.out.val V_W.out.val L_A.out L_W.out (by decide) (by decide) (floor_le L_W.out Q_W.out K1.out)).mono ?_
      rintro e u6 ⟨⟨s_R, c_R, t_R, d_R, n_R, m_R, rfl, hrs, hrt, hlo, hq⟩, hb⟩
      replace V_A := Lib.hid (V_A.out.below hb)
      replace V_B := Lib.hid (V_B.out.below hb)
      replace V_K := Lib.hid (V_K.out.below hb)
      replace V_I := Lib.hid (V_I.out.below hb)
      replace V_W := Lib.hid (V_W.out.below hb)
      replace HB := Lib.hid (HB.out.trans (hb.mono HB.out.size))
      clear hb e0_A e1_A e0_W e1_W
      replace V_A := Lib.hid (V_A.out.alloc (.cells #[.slice s_R (M.dig n_R).length c_R, .slice t_R (M.dig m_R).length d_R] 58))
      replace V_B := Lib.hid (V_B.out.alloc (.cells #[.slice s_R (M.dig n_R).length c_R, .slice t_R (M.dig m_R).length d_R] 58))
      replace V_K := Lib.hid (V_K.out.alloc (.cells #[.slice s_R (M.dig n_R).length c_R, .slice t_R (M.dig m_R).length d_R] 58))
      replace V_I := Lib.hid (V_I.out.alloc (.cells #[.slice s_R (M.dig n_R).length c_R, .slice t_R (M.dig m_R).length d_R] 58))
      replace V_W := Lib.hid (V_W.out.alloc (.cells #[.slice s_R (M.dig n_R).length c_R, .slice t_R (M.dig m_R).length d_R] 58))
      replace HB := Lib.hid (HB.out.alloc HB.out.size (.cells #[.slice s_R (M.dig n_R).length c_R, .slice t_R (M.dig m_R).length d_R] 58))
      have V_R := Lib.hid (RVar.new hrs hrt)
      have L_R := Lib.hid hlo
      have Q_R := Lib.hid (show Q n_R m_R + Q n_W m_W = Q n_A m_A from hq)
      clear hrs hrt hlo hq
      have e0_R := V_R.out.c0
      have e1_R := V_R.out.c1
      have e0_I := V_I.out.c0
      have e1_I := V_I.out.c1
      go_wp2_with fail
      refine (show Calls Tryd.prog 61 _ _ _ from qCmp_lt V_R.out.val V_I.out.val L_R.out L_I.out (by decide) (by rw [Nat.mul_one, Nat.one_mul]; exact rest_lt L_R.out L_A.out Q_W.out Q_R.out K2.out)).mono ?_
      rintro e u7 ⟨⟨c2, hc2, rfl⟩, hb⟩
      replace V_A := Lib.hid (V_A.out.below hb)
      replace V_B := Lib.hid (V_B.out.below hb)
      replace V_K := Lib.hid (V_K.out.below hb)
      replace V_I := Lib.hid (V_I.out.below hb)
      replace V_W := Lib.hid (V_W.out.below hb)
      replace V_R := Lib.hid (V_R.out.below hb)
      replace HB := Lib.hid (HB.out.trans (hb.mono HB.out.size))
      clear hb e0_R e1_R e0_I e1_I
      have e0_K := V_K.out.cell
      have e0_A := V_A.out.c0
      have e1_A := V_A.out.c1
      go_wp2_with fail
      refine (show Calls Tryd.prog 28 _ _ _ from qTimes V_K.out.row V_A.out.rb LK.out L_A.out.2.2.2 (by decide)).mono ?_
      rintro e u8 ⟨⟨s_S, c_S, n_S, rfl, hr, hn⟩, hb⟩
      have HN := Lib.hid hn
      clear hn
      replace V_A := Lib.hid (V_A.out.below hb)
      replace V_B := Lib.hid (V_B.out.below hb)
      replace V_K := Lib.hid (V_K.out.below hb)
      replace V_I := Lib.hid (V_I.out.below hb)
      replace V_W := Lib.hid (V_W.out.below hb)
      replace V_R := Lib.hid (V_R.out.below hb)
      replace HB := Lib.hid (HB.out.trans (hb.mono HB.out.size))
      clear hb e0_K e0_A e1_A
      replace V_A := Lib.hid (V_A.out.alloc (.cells #[.slice s_S (M.dig n_S).length c_S] 24))
      replace V_B := Lib.hid (V_B.out.alloc (.cells #[.slice s_S (M.dig n_S).length c_S] 24))
      replace V_K := Lib.hid (V_K.out.alloc (.cells #[.slice s_S (M.dig n_S).length c_S] 24))
      replace V_I := Lib.hid (V_I.out.alloc (.cells #[.slice s_S (M.dig n_S).length c_S] 24))
      replace V_W := Lib.hid (V_W.out.alloc (.cells #[.slice s_S (M.dig n_S).length c_S] 24))
      replace V_R := Lib.hid (V_R.out.alloc (.cells #[.slice s_S (M.dig n_S).length c_S] 24))
      replace HB := Lib.hid (HB.out.alloc HB.out.size (.cells #[.slice s_S (M.dig n_S).length c_S] 24))
      have V_S := Lib.hid (Var.new hr)
      clear hr
      go_wp2_with fail
      refine (show Calls Tryd.prog 47 _ _ _ from ratAwake_any _).mono ?_
      rintro e u9 ⟨rfl, hb⟩
      replace V_A := Lib.hid (V_A.out.below hb)
      replace V_B := Lib.hid (V_B.out.below hb)
      replace V_K := Lib.hid (V_K.out.below hb)
      replace V_I := Lib.hid (V_I.out.below hb)
      replace V_W := Lib.hid (V_W.out.below hb)
      replace V_R := Lib.hid (V_R.out.below hb)
      replace V_S := Lib.hid (V_S.out.below hb)
      replace HB := Lib.hid (HB.out.trans (hb.mono HB.out.size))
      clear hb
      have e0_S := V_S.out.cell
      have e0_A := V_A.out.c0
      have e1_A := V_A.out.c1
      go_wp2_with fail
      refine (show Calls Tryd.prog 41 _ _ _ from qOrd_le V_S.out.row V_A.out.ra (by rw [HN.out]; exact K1.out)).mono ?_
      rintro e u10 ⟨⟨c3, hc3, rfl⟩, hb⟩
      replace V_A := Lib.hid (V_A.out.below hb)
      replace V_B := Lib.hid (V_B.out.below hb)
      replace V_K := Lib.hid (V_K.out.below hb)
      replace V_I := Lib.hid (V_I.out.below hb)
      replace V_W := Lib.hid (V_W.out.below hb)
      replace V_R := Lib.hid (V_R.out.below hb)
      replace V_S := Lib.hid (V_S.out.below hb)
      replace HB := Lib.hid (HB.out.trans (hb.mono HB.out.size))
      clear hb e0_S e0_A e1_A
      go_wp2_with fail
      go_ret
      exact ⟨rfl, HB.out⟩
  · go_enter Tryd.func16, Tryd.ntmps16
    go_wp2_with fail
    refine (HLT.out _).mono ?_
    rintro e w' ⟨rfl, rfl⟩
    rw [show decide ((ts.length : Int) ≤ 400) = false from decide_eq_false (by omega)]
    go_wp2_with fail
    refine (ratAwake_any _).mono ?_
    rintro e w1 ⟨rfl, hb⟩
    have HB := Lib.hid hb
    clear hb
    go_wp2_with fail
    go_ret
    exact ⟨rfl, HB.out⟩
end Go.Proofs.YtneimnacanhjmaaDoor
