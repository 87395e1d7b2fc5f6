/- The walk of RatioTurns. -/
import Derived.Test.YtneimnacanhjmaaDoorB10
namespace Go.Proofs.YtneimnacanhjmaaDoor
open Go Go.RowKit Go.Shelf

theorem Q_pos {n m x y : Nat} (hm : 0 < m) (hy : 0 < y) (hx : 0 < x) (h : Q n m = Q x y) : 0 < n := by
  have e := Q_cross hm hy h
  rcases Nat.eq_zero_or_pos n with h0 | h0
  · subst h0
    rw [Nat.zero_mul] at e
    have := Nat.mul_pos hx hm
    omega
  · exact h0
theorem Q_int (n : Nat) : Q n 1 = (n : Rat) := by unfold Q; grind
theorem turns_half {a h t s : Rat} (h1 : h * t = a) (h2 : t = Q 2 1) (h3 : s = h + h) : s = a := by
  rw [Q_int] at h2
  grind
theorem same_eq {a b : Option Addr} {ca cb x y : Nat} {w : World} (h : x = y) (ha : Row w a (M.dig x) ca) (hb : Row w b (M.dig y) cb) :
    Calls Tryd.prog 30 #[.agg #[.slice a (M.dig x).length ca], .agg #[.slice b (M.dig y).length cb]] w fun e W' => e = .returned (.bool true) ∧ Below w.heap.size w W' := by
  subst h; exact same_any a b _ ca cb w ha hb
theorem turned {n m x y L K : Nat} (hx : Lo n m L) (ha : Lo x y K) (h : Q n m * Q x y = Q 1 1) : n = y ∧ m = x := by
  have e := (Q_mul (x := n) (z := x) hx.1 ha.1).trans h
  have c := Q_cross (Nat.mul_pos hx.1 ha.1) (by decide) e
  exact low_inj hx.2.1 (by rw [Nat.gcd_comm]; exact ha.2.1) hx.1 (by rw [Nat.mul_one, Nat.one_mul] at c; rw [c, Nat.mul_comm])

set_option maxRecDepth 100000 in
set_option maxHeartbeats 4000000 in
theorem turns_any (ta : Option Addr) (tc : Nat) (ts : List Int) (w : World) (hR : Row w ta ts tc) :
    Calls Tryd.prog 17 #[.slice ta ts.length tc] w fun e W' => e = .returned (.bool true) ∧ Below w.heap.size w W' := by
  have HR := Lib.hid hR
  have HLT := Lib.hid (fun W : World => light_any ta ts.length tc W)
  clear hR
  by_cases hl : (ts.length : Int) ≤ 400
  · go_enter Tryd.func17, Tryd.ntmps17
    go_wp2_with fail
    refine (HLT.out _).mono ?_
    rintro e w' ⟨rfl, rfl⟩
    rw [show decide ((ts.length : Int) ≤ 400) = true from decide_eq_true hl]
    go_wp2_with fail
    refine (roll_any ta tc ts _ HR.out (by omega)).mono ?_
    rintro e w1 ⟨rfl, hd, hb1⟩
    have HD := Lib.hid hd
    have HB1 := Lib.hid hb1
    have hs1 : w'.heap.size < w1.heap.size := hd.lt
    clear hd hb1 HR HLT
    go_wp2_with fail
    refine (some_any w1 w'.heap.size ta tc ts 0 HD.out).mono ?_
    rintro e w2 ⟨s_A, c_A, t_A, d_A, n_A, m_A, kA, rfl, hy_A, hg_A, hx_A, hl_A, _, hg2, hrs, hrt, _⟩
    have HB := Lib.hid ((HB1.out.trans (below_of_dice hg2 (Nat.le_refl _) (Nat.le_of_lt hs1))).alloc (by have := HB1.out.size; have := hg2.size; omega) (.cells #[.slice s_A (M.dig n_A).length c_A, .slice t_A (M.dig m_A).length d_A] 58))
    have V_A := Lib.hid (RVar.new hrs hrt)
    have L_A := Lib.hid (show Lo n_A m_A 3 from ⟨hy_A, hg_A, hx_A, hl_A⟩)
    clear hrs hrt hg2 hy_A hg_A hx_A hl_A HB1 HD hs1
    go_wp2_with fail
    refine (show Calls Tryd.prog 55 _ _ _ from qOf 1 _ (by decide)).mono ?_
    rintro e u1 ⟨⟨s_I, c_I, t_I, d_I, n_I, m_I, rfl, hrs, hrt, hlo, hq⟩, hb⟩
    replace V_A := Lib.hid (V_A.out.below hb)
    replace HB := Lib.hid (HB.out.trans (hb.mono HB.out.size))
    clear hb
    replace V_A := Lib.hid (V_A.out.alloc (.cells #[.slice s_I (M.dig n_I).length c_I, .slice t_I (M.dig m_I).length d_I] 58))
    replace HB := Lib.hid (HB.out.alloc HB.out.size (.cells #[.slice s_I (M.dig n_I).length c_I, .slice t_I (M.dig m_I).length d_I] 58))
    have V_I := Lib.hid (RVar.new hrs hrt)
    have L_I := Lib.hid hlo
    have Q_I := Lib.hid (show Q n_I m_I = Q 1 1 from hq)
    clear hrs hrt hlo hq
    go_wp2_with fail
    refine (show Calls Tryd.prog 55 _ _ _ from qOf 2 _ (by decide)).mono ?_
    rintro e u2 ⟨⟨s_T, c_T, t_T, d_T, n_T, m_T, rfl, hrs, hrt, hlo, hq⟩, hb⟩
    replace V_A := Lib.hid (V_A.out.below hb)
    replace V_I := Lib.hid (V_I.out.below hb)
    replace HB := Lib.hid (HB.out.trans (hb.mono HB.out.size))
    clear hb
    replace V_A := Lib.hid (V_A.out.alloc (.cells #[.slice s_T (M.dig n_T).length c_T, .slice t_T (M.dig m_T).length d_T] 58))
    replace V_I := Lib.hid (V_I.out.alloc (.cells #[.slice s_T (M.dig n_T).length c_T, .slice t_T (M.dig m_T).length d_T] 58))
    replace HB := Lib.hid (HB.out.alloc HB.out.size (.cells #[.slice s_T (M.dig n_T).length c_T, .slice t_T (M.dig m_T).length d_T] 58))
    have V_T := Lib.hid (RVar.new hrs hrt)
    have L_T := Lib.hid hlo
    have Q_T := Lib.hid (show Q n_T m_T = Q 2 1 from hq)
    clear hrs hrt hlo hq
    have e0_A := V_A.out.c0
    have e1_A := V_A.out.c1
    have e0_T := V_T.out.c0
    have e1_T := V_T.out.c1
    go_wp2_with fail
    refine (show Calls Tryd.prog 60 _ _ _ from qDiv (N := 4) V_A.out.val V_T.out.val L_A.out L_T.out (by decide) (by decide) (Q_pos L_T.out.1 (by decide) (by decide) Q_T.out)).mono ?_
    rintro e u3 ⟨⟨s_H, c_H, t_H, d_H, n_H, m_H, rfl, hrs, hrt, hlo, hq⟩, hb⟩
    replace V_A := Lib.hid (V_A.out.below hb)
    replace V_I := Lib.hid (V_I.out.below hb)
    replace V_T := Lib.hid (V_T.out.below hb)
    replace HB := Lib.hid (HB.out.trans (hb.mono HB.out.size))
    clear hb e0_A e1_A e0_T e1_T
    replace V_A := Lib.hid (V_A.out.alloc (.cells #[.slice s_H (M.dig n_H).length c_H, .slice t_H (M.dig m_H).length d_H] 58))
    replace V_I := Lib.hid (V_I.out.alloc (.cells #[.slice s_H (M.dig n_H).length c_H, .slice t_H (M.dig m_H).length d_H] 58))
    replace V_T := Lib.hid (V_T.out.alloc (.cells #[.slice s_H (M.dig n_H).length c_H, .slice t_H (M.dig m_H).length d_H] 58))
    replace HB := Lib.hid (HB.out.alloc HB.out.size (.cells #[.slice s_H (M.dig n_H).length c_H, .slice t_H (M.dig m_H).length d_H] 58))
    have V_H := Lib.hid (RVar.new hrs hrt)
    have L_H := Lib.hid hlo
    have Q_H := Lib.hid (show Q n_H m_H * Q n_T m_T = Q n_A m_A from hq)
    clear hrs hrt hlo hq
    have e0_H := V_H.out.c0
    have e1_H := V_H.out.c1
    go_wp2_with fail
    refine (show Calls Tryd.prog 56 _ _ _ from qAdd (N := 9) V_H.out.val V_H.out.val L_H.out L_H.out (by decide) (by decide)).mono ?_
    rintro e u4 ⟨⟨s_S, c_S, t_S, d_S, n_S, m_S, rfl, hrs, hrt, hlo, hq⟩, hb⟩
    replace V_A := Lib.hid (V_A.out.below hb)
    replace V_I := Lib.hid (V_I.out.below hb)
    replace V_T := Lib.hid (V_T.out.below hb)
    replace V_H := Lib.hid (V_H.out.below hb)
    replace HB := Lib.hid (HB.out.trans (hb.mono HB.out.size))
    clear hb e0_H e1_H
    replace V_A := Lib.hid (V_A.out.alloc (.cells #[.slice s_S (M.dig n_S).length c_S, .slice t_S (M.dig m_S).length d_S] 58))
    replace V_I := Lib.hid (V_I.out.alloc (.cells #[.slice s_S (M.dig n_S).length c_S, .slice t_S (M.dig m_S).length d_S] 58))
    replace V_T := Lib.hid (V_T.out.alloc (.cells #[.slice s_S (M.dig n_S).length c_S, .slice t_S (M.dig m_S).length d_S] 58))
    replace V_H := Lib.hid (V_H.out.alloc (.cells #[.slice s_S (M.dig n_S).length c_S, .slice t_S (M.dig m_S).length d_S] 58))
    replace HB := Lib.hid (HB.out.alloc HB.out.size (.cells #[.slice s_S (M.dig n_S).length c_S, .slice t_S (M.dig m_S).length d_S] 58))
    have V_S := Lib.hid (RVar.new hrs hrt)
    have L_S := Lib.hid hlo
    have Q_S := Lib.hid (show Q n_S m_S = Q n_H m_H + Q n_H m_H from hq)
    clear hrs hrt hlo hq
    go_wp2_with fail
    refine (show Calls Tryd.prog 47 _ _ _ from ratAwake_any _).mono ?_
    rintro e u5 ⟨rfl, hb⟩
    replace V_A := Lib.hid (V_A.out.below hb)
    replace V_I := Lib.hid (V_I.out.below hb)
    replace V_T := Lib.hid (V_T.out.below hb)
    replace V_H := Lib.hid (V_H.out.below hb)
    replace V_S := Lib.hid (V_S.out.below hb)
    replace HB := Lib.hid (HB.out.trans (hb.mono HB.out.size))
    clear hb
    have e0_S := V_S.out.c0
    have e1_S := V_S.out.c1
    have e0_A := V_A.out.c0
    have e1_A := V_A.out.c1
    go_wp2_with fail
    refine (show Calls Tryd.prog 53 _ _ _ from qSame V_S.out.val V_A.out.val L_S.out L_A.out (turns_half Q_H.out Q_T.out Q_S.out)).mono ?_
    rintro e u6 ⟨rfl, hb⟩
    replace V_A := Lib.hid (V_A.out.below hb)
    replace V_I := Lib.hid (V_I.out.below hb)
    replace V_T := Lib.hid (V_T.out.below hb)
    replace V_H := Lib.hid (V_H.out.below hb)
    replace V_S := Lib.hid (V_S.out.below hb)
    replace HB := Lib.hid (HB.out.trans (hb.mono HB.out.size))
    clear hb e0_S e1_S e0_A e1_A
    by_cases hz : n_A = 0
    · have Z := Lib.hid (show (((M.dig n_A).length : Int) == 0) = true by rw [hz, M.dig_zero]; rfl)
      have HZ := Lib.hid hz
      clear hz
      have e0_I := V_I.out.c0
      have e1_I := V_I.out.c1
      have e0_A := V_A.out.c0
      have e1_A := V_A.out.c1
      go_wp2_with fail
      refine (show Calls Tryd.prog 60 _ _ _ from qDiv_zero V_I.out.val V_A.out.val L_I.out L_A.out (by decide) (by decide) HZ.out).mono ?_
      rintro e u7 ⟨rfl, hb⟩
      replace V_A := Lib.hid (V_A.out.below hb)
      replace V_I := Lib.hid (V_I.out.below hb)
      replace V_T := Lib.hid (V_T.out.below hb)
      replace V_H := Lib.hid (V_H.out.below hb)
      replace V_S := Lib.hid (V_S.out.below hb)
      replace HB := Lib.hid (HB.out.trans (hb.mono HB.out.size))
      clear hb e0_I e1_I e0_A e1_A
      replace V_A := Lib.hid (V_A.out.alloc (.cells #[.slice none 0 0, .slice none 0 0] 58))
      replace V_I := Lib.hid (V_I.out.alloc (.cells #[.slice none 0 0, .slice none 0 0] 58))
      replace V_T := Lib.hid (V_T.out.alloc (.cells #[.slice none 0 0, .slice none 0 0] 58))
      replace V_H := Lib.hid (V_H.out.alloc (.cells #[.slice none 0 0, .slice none 0 0] 58))
      replace V_S := Lib.hid (V_S.out.alloc (.cells #[.slice none 0 0, .slice none 0 0] 58))
      replace HB := Lib.hid (HB.out.alloc HB.out.size (.cells #[.slice none 0 0, .slice none 0 0] 58))
      have e0_A := V_A.out.c0
      have e1_A := V_A.out.c1
      have z := Z.out
      go_wp2_with fail
      go_ret
      exact ⟨rfl, HB.out⟩
    · have hz0 : 0 < n_A := by omega
      have Z := Lib.hid (show (((M.dig n_A).length : Int) == 0) = false from beq_eq_false_iff_ne.2 (by intro h; have := M.dig_nil.1 (List.length_eq_zero_iff.1 (by omega : (M.dig n_A).length = 0)); omega))
      clear hz
      have e0_I := V_I.out.c0
      have e1_I := V_I.out.c1
      have e0_A := V_A.out.c0
      have e1_A := V_A.out.c1
      go_wp2_with fail
      refine (show Calls Tryd.prog 60 _ _ _ from qDiv (N := 4) V_I.out.val V_A.out.val L_I.out L_A.out (by decide) (by decide) hz0).mono ?_
      rintro e u7 ⟨⟨s_X, c_X, t_X, d_X, n_X, m_X, rfl, hrs, hrt, hlo, hq⟩, hb⟩
      replace V_A := Lib.hid (V_A.out.below hb)
      replace V_I := Lib.hid (V_I.out.below hb)
      replace V_T := Lib.hid (V_T.out.below hb)
      replace V_H := Lib.hid (V_H.out.below hb)
      replace V_S := Lib.hid (V_S.out.below hb)
      replace HB := Lib.hid (HB.out.trans (hb.mono HB.out.size))
      clear hb e0_I e1_I e0_A e1_A
      replace V_A := Lib.hid (V_A.out.alloc (.cells #[.slice s_X (M.dig n_X).length c_X, .slice t_X (M.dig m_X).length d_X] 58))
      replace V_I := Lib.hid (V_I.out.alloc (.cells #[.slice s_X (M.dig n_X).length c_X, .slice t_X (M.dig m_X).length d_X] 58))
      replace V_T := Lib.hid (V_T.out.alloc (.cells #[.slice s_X (M.dig n_X).length c_X, .slice t_X (M.dig m_X).length d_X] 58))
      replace V_H := Lib.hid (V_H.out.alloc (.cells #[.slice s_X (M.dig n_X).length c_X, .slice t_X (M.dig m_X).length d_X] 58))
      replace V_S := Lib.hid (V_S.out.alloc (.cells #[.slice s_X (M.dig n_X).length c_X, .slice t_X (M.dig m_X).length d_X] 58))
      replace HB := Lib.hid (HB.out.alloc HB.out.size (.cells #[.slice s_X (M.dig n_X).length c_X, .slice t_X (M.dig m_X).length d_X] 58))
      have V_X := Lib.hid (RVar.new hrs hrt)
      have L_X := Lib.hid hlo
      have Q_X := Lib.hid (show Q n_X m_X * Q n_A m_A = Q n_I m_I from hq)
      clear hrs hrt hlo hq
      have e0_A := V_A.out.c0
      have e1_A := V_A.out.c1
      have e0_X := V_X.out.c0
      have e1_X := V_X.out.c1
      have z := Z.out
      go_wp2_with fail
      refine (show Calls Tryd.prog 57 _ _ _ from qMul (N := 7) V_A.out.val V_X.out.val L_A.out L_X.out (by decide) (by decide)).mono ?_
      rintro e u8 ⟨⟨s_Y, c_Y, t_Y, d_Y, n_Y, m_Y, rfl, hrs, hrt, hlo, hq⟩, hb⟩
      replace V_A := Lib.hid (V_A.out.below hb)
      replace V_I := Lib.hid (V_I.out.below hb)
      replace V_T := Lib.hid (V_T.out.below hb)
      replace V_H := Lib.hid (V_H.out.below hb)
      replace V_S := Lib.hid (V_S.out.below hb)
      replace V_X := Lib.hid (V_X.out.below hb)
      replace HB := Lib.hid (HB.out.trans (hb.mono HB.out.size))
      clear hb e0_A e1_A e0_X e1_X z
      replace V_A := Lib.hid (V_A.out.alloc (.cells #[.slice s_Y (M.dig n_Y).length c_Y, .slice t_Y (M.dig m_Y).length d_Y] 58))
      replace V_I := Lib.hid (V_I.out.alloc (.cells #[.slice s_Y (M.dig n_Y).length c_Y, .slice t_Y (M.dig m_Y).length d_Y] 58))
      replace V_T := Lib.hid (V_T.out.alloc (.cells #[.slice s_Y (M.dig n_Y).length c_Y, .slice t_Y (M.dig m_Y).length d_Y] 58))
      replace V_H := Lib.hid (V_H.out.alloc (.cells #[.slice s_Y (M.dig n_Y).length c_Y, .slice t_Y (M.dig m_Y).length d_Y] 58))
      replace V_S := Lib.hid (V_S.out.alloc (.cells #[.slice s_Y (M.dig n_Y).length c_Y, .slice t_Y (M.dig m_Y).length d_Y] 58))
      replace V_X := Lib.hid (V_X.out.alloc (.cells #[.slice s_Y (M.dig n_Y).length c_Y, .slice t_Y (M.dig m_Y).length d_Y] 58))
      replace HB := Lib.hid (HB.out.alloc HB.out.size (.cells #[.slice s_Y (M.dig n_Y).length c_Y, .slice t_Y (M.dig m_Y).length d_Y] 58))
      have V_Y := Lib.hid (RVar.new hrs hrt)
      have L_Y := Lib.hid hlo
      have Q_Y := Lib.hid (show Q n_Y m_Y = Q n_A m_A * Q n_X m_X from hq)
      clear hrs hrt hlo hq
      have e0_Y := V_Y.out.c0
      have e1_Y := V_Y.out.c1
      have e0_I := V_I.out.c0
      have e1_I := V_I.out.c1
      go_wp2_with fail
      refine (show Calls Tryd.prog 53 _ _ _ from qSame V_Y.out.val V_I.out.val L_Y.out L_I.out (by rw [Q_Y.out, ← Q_X.out]; grind)).mono ?_
      rintro e u9 ⟨rfl, hb⟩
      replace V_A := Lib.hid (V_A.out.below hb)
      replace V_I := Lib.hid (V_I.out.below hb)
      replace V_T := Lib.hid (V_T.out.below hb)
      replace V_H := Lib.hid (V_H.out.below hb)
      replace V_S := Lib.hid (V_S.out.below hb)
      replace V_X := Lib.hid (V_X.out.below hb)
      replace V_Y := Lib.hid (V_Y.out.below hb)
      replace HB := Lib.hid (HB.out.trans (hb.mono HB.out.size))
      clear hb e0_Y e1_Y e0_I e1_I
      have HT := Lib.hid (turned L_X.out L_A.out (Q_X.out.trans Q_I.out))
      have e0_X := V_X.out.c0
      have e1_X := V_X.out.c1
      have e0_A := V_A.out.c0
      have e1_A := V_A.out.c1
      go_wp2_with fail
      refine (show Calls Tryd.prog 30 _ _ _ from same_eq HT.out.1 V_X.out.ra V_A.out.rb).mono ?_
      rintro e u10 ⟨rfl, hb⟩
      replace V_A := Lib.hid (V_A.out.below hb)
      replace V_I := Lib.hid (V_I.out.below hb)
      replace V_T := Lib.hid (V_T.out.below hb)
      replace V_H := Lib.hid (V_H.out.below hb)
      replace V_S := Lib.hid (V_S.out.below hb)
      replace V_X := Lib.hid (V_X.out.below hb)
      replace V_Y := Lib.hid (V_Y.out.below hb)
      replace HB := Lib.hid (HB.out.trans (hb.mono HB.out.size))
      clear hb e0_X e1_X e0_A e1_A
      have e0_X := V_X.out.c0
      have e1_X := V_X.out.c1
      have e0_A := V_A.out.c0
      have e1_A := V_A.out.c1
      go_wp2_with fail
      refine (show Calls Tryd.prog 30 _ _ _ from same_eq HT.out.2 V_X.out.rb V_A.out.ra).mono ?_
      rintro e u11 ⟨rfl, hb⟩
      replace V_A := Lib.hid (V_A.out.below hb)
      replace V_I := Lib.hid (V_I.out.below hb)
      replace V_T := Lib.hid (V_T.out.below hb)
      replace V_H := Lib.hid (V_H.out.below hb)
      replace V_S := Lib.hid (V_S.out.below hb)
      replace V_X := Lib.hid (V_X.out.below hb)
      replace V_Y := Lib.hid (V_Y.out.below hb)
      replace HB := Lib.hid (HB.out.trans (hb.mono HB.out.size))
      clear hb e0_X e1_X e0_A e1_A
      go_wp2_with fail
      go_ret
      exact ⟨rfl, HB.out⟩
  · go_enter Tryd.func17, Tryd.ntmps17
    go_wp2_with fail
    refine (HLT.out _).mono ?_
    rintro e w' ⟨rfl, rfl⟩
    rw [show decide ((ts.length : Int) ≤ 400) = false from decide_eq_false (by omega)]
    go_wp2_with fail
    refine (ratAwake_any _).mono ?_
    rintro e w1 ⟨rfl, hb⟩
    have HB := Lib.hid hb
    clear hb
    go_wp2_with fail
    go_ret
    exact ⟨rfl, HB.out⟩
end Go.Proofs.YtneimnacanhjmaaDoor
