/- register.check, bits, shape. -/
import Derived.Test.YtememimblalkfaaRgBox
import Derived.Test.YtememimblalkfaaPValid
import Derived.Test.YtememimblalkfaaPReg
namespace Go.Proofs.Ytememimblalkfaa.RG
open Go Go.RowKit Go.Shelf
open G P
theorem beyond_any (v : Int) (w : World) :
    Calls Try.prog 17 #[.int .i64 v] w fun e W => e = .returned (.bool (decide (v < 0 ∨ 1048576 < v))) ∧ w = W := by
  by_cases h : v < 0
  · rw [decide_eq_true (.inl h)]
    go_enter Try.func17, Try.ntmps17
    go_wp2_with fail
    go_ret
    exact ⟨rfl, rfl⟩
  · rw [show decide (v < 0 ∨ 1048576 < v) = decide (1048576 < v) by simp [h]]
    go_enter Try.func17, Try.ntmps17
    go_wp2_with fail
    go_ret
    exact ⟨rfl, rfl⟩
/-- What check says. -/
def chkE (x : Nat → Int) (m n : Int) (lo hi : Int) : Int :=
  if okB x = false then 1 else if 12 < m ∨ ¬ m = n then 7 else if lo < 0 ∨ 1048576 < lo then 2 else if hi < 0 ∨ 1048576 < hi then 2 else 0
set_option maxRecDepth 100000 in
set_option maxHeartbeats 1000000 in
theorem check_any (x : Nat → Int) (a : Option Addr) (n c : Nat) (lo hi m : Int) (w : World) :
    Calls Try.prog 14 #[.agg #[.int .i64 (x 0), .int .i64 (x 1), .int .i64 (x 2), .int .i64 (x 3), .int .i64 (x 4), .int .i64 (x 5), .slice a n c, .int .i64 lo, .int .i64 hi], .int .i64 m] w fun e W => e = .returned (.int .i64 (chkE x m n lo hi)) ∧ Below w.heap.size w W := by
  have hm := Mp.new w x (.slice a n c) lo hi
  obtain ⟨c0, c1, c2, c3, c4, c5, c6, c7, c8⟩ := hm.all
  have HV := Lib.hid (fun W => valid_any x W)
  have HB := Lib.hid (fun v W => beyond_any v W)
  have HB0 := Lib.hid ((Below.refl _ w).alloc (Nat.le_refl _) (.cells #[.int .i64 (x 0), .int .i64 (x 1), .int .i64 (x 2), .int .i64 (x 3), .int .i64 (x 4), .int .i64 (x 5), .slice a n c, .int .i64 lo, .int .i64 hi] 31))
  have HM := Lib.hid hm
  clear hm
  cases hk : okB x with
  | false =>
    have HE := Lib.hid (show chkE x m n lo hi = 1 by unfold chkE; rw [if_pos hk])
    rw [hk] at HV
    clear hk
    go_enter Try.func14, Try.ntmps14
    go_wp2_with fail
    refine (HV.out _).mono ?_
    rintro e w1 ⟨rfl, hb1⟩
    have HB1 := Lib.hid (HB0.out.trans (hb1.mono HB0.out.size))
    clear hb1
    go_wp2_with fail
    go_ret
    exact ⟨ret_int HE.out.symm, HB1.out⟩
  | true =>
    have HK := Lib.hid hk
    rw [hk] at HV
    clear hk
    go_enter Try.func14, Try.ntmps14
    go_wp2_with fail
    refine (HV.out _).mono ?_
    rintro e w1 ⟨rfl, hb1⟩
    have HB1 := Lib.hid (HB0.out.trans (hb1.mono HB0.out.size))
    have HM1 := Lib.hid (HM.out.below hb1)
    clear c0 c1 c2 c3 c4 c5 c6 c7 c8 hb1 HM
    obtain ⟨c0, c1, c2, c3, c4, c5, c6, c7, c8⟩ := HM1.out.all
    by_cases h1 : 12 < m
    · have HE := Lib.hid (show chkE x m n lo hi = 7 by unfold chkE; rw [if_neg (by rw [HK.out]; simp), if_pos (.inl h1)])
      go_wp2_with fail
      go_ret
      exact ⟨ret_int HE.out.symm, HB1.out⟩
    · by_cases h2 : m = (n : Int)
      · have hq : (m != (n : Int)) = false := by rw [h2]; simp
        by_cases h3 : lo < 0 ∨ 1048576 < lo
        · have HE := Lib.hid (show chkE x m n lo hi = 2 by unfold chkE; rw [if_neg (by rw [HK.out]; simp), if_neg (by omega), if_pos h3])
          have hc := HB.out lo w1
          rw [decide_eq_true h3] at hc
          have HC := Lib.hid hc
          clear hc h3 h2
          go_wp2_with fail
          refine HC.out.mono ?_
          rintro e w2 ⟨rfl, rfl⟩
          go_wp2_with fail
          go_ret
          exact ⟨ret_int HE.out.symm, HB1.out⟩
        · have hc := HB.out lo w1
          rw [decide_eq_false h3] at hc
          have HC := Lib.hid hc
          have hd := HB.out hi w1
          have HE := Lib.hid (show chkE x m n lo hi = if hi < 0 ∨ 1048576 < hi then 2 else 0 by unfold chkE; rw [if_neg (by rw [HK.out]; simp), if_neg (by omega), if_neg h3])
          clear hc h3 h2
          by_cases h4 : hi < 0 ∨ 1048576 < hi
          · rw [decide_eq_true h4] at hd
            rw [if_pos h4] at HE
            have HD := Lib.hid hd
            clear hd h4
            go_wp2_with fail
            refine HC.out.mono ?_
            rintro e w2 ⟨rfl, rfl⟩
            go_wp2_with fail
            refine HD.out.mono ?_
            rintro e w2 ⟨rfl, rfl⟩
            go_wp2_with fail
            go_ret
            exact ⟨ret_int HE.out.symm, HB1.out⟩
          · rw [decide_eq_false h4] at hd
            rw [if_neg h4] at HE
            have HD := Lib.hid hd
            clear hd h4
            go_wp2_with fail
            refine HC.out.mono ?_
            rintro e w2 ⟨rfl, rfl⟩
            go_wp2_with fail
            refine HD.out.mono ?_
            rintro e w2 ⟨rfl, rfl⟩
            go_wp2_with fail
            go_ret
            exact ⟨ret_int HE.out.symm, HB1.out⟩
      · have hq : (m != (n : Int)) = true := by simpa using h2
        have HE := Lib.hid (show chkE x m n lo hi = 7 by unfold chkE; rw [if_neg (by rw [HK.out]; simp), if_pos (.inr h2)])
        clear h2
        go_wp2_with fail
        go_ret
        exact ⟨ret_int HE.out.symm, HB1.out⟩
theorem chk_enc (x : Nat → Int) (n : Nat) (lo hi : Int) : chkE x n n lo hi = encE x n lo hi := by
  unfold chkE encE
  by_cases h1 : okB x = false
  · rw [if_pos h1, if_pos h1]
  · rw [if_neg h1, if_neg h1]
    by_cases h2 : 12 < n
    · rw [if_pos (.inl (by omega)), if_pos h2]
    · rw [if_neg (by omega), if_neg h2]
      by_cases h3 : lo < 0 ∨ 1048576 < lo
      · rw [if_pos h3, if_pos (by omega)]
      · rw [if_neg h3]
        by_cases h4 : hi < 0 ∨ 1048576 < hi
        · rw [if_pos h4, if_pos (by omega)]
        · rw [if_neg h4, if_neg (by omega)]
end Go.Proofs.Ytememimblalkfaa.RG
