/- register.check, bits, shape. -/
import Derived.Test.YtjemijjhplajaaaRgBox
import Derived.Test.YtjemijjhplajaaaPValid
import Derived.Test.YtjemijjhplajaaaPReg
namespace Go.Proofs.Ytjemijjhplajaaa.RG
open Go Go.RowKit Go.Shelf
open G P
theorem beyond_any (v : Int) (w : World) :
    Calls Try.prog 24 #[.int .i64 v] w fun e W => e = .returned (.bool (decide (v < 0 ∨ 1048576 < v))) ∧ w = W := by
  by_cases h : v < 0
  · rw [decide_eq_true (.inl h)]
    go_enter Try.func24, Try.ntmps24
    go_wp2_with fail
    go_ret
    exact ⟨rfl, rfl⟩
  · rw [show decide (v < 0 ∨ 1048576 < v) = decide (1048576 < v) by simp [h]]
    go_enter Try.func24, Try.ntmps24
    go_wp2_with fail
    go_ret
    exact ⟨rfl, rfl⟩
/-- What check says. -/
def chkE (x : Nat → Int) (m n : Int) (lo hi : Int) : Int :=
  if okB x = false then 1 else if 12 < m ∨ ¬ m = n then 7 else if lo < 0 ∨ 1048576 < lo then 2 else if hi < 0 ∨ 1048576 < hi then 2 else 0
set_option maxRecDepth 100000 in
set_option maxHeartbeats 1000000 in
theorem check_any (x : Nat → Int) (a : Option Addr) (n c : Nat) (lo hi m : Int) (w : World) :
    Calls Try.prog 18 #[.agg #[.int .i64 (x 0), .int .i64 (x 1), .int .i64 (x 2), .int .i64 (x 3), .int .i64 (x 4), .int .i64 (x 5), .slice a n c, .int .i64 lo, .int .i64 hi], .int .i64 m] w fun e W => e = .returned (.int .i64 (chkE x m n lo hi)) ∧ Below w.heap.size w W := by
  have hm := Mp.new w x (.slice a n c) lo hi
  obtain ⟨c0, c1, c2, c3, c4, c5, c6, c7, c8⟩ := hm.all
  have HV := Lib.hid (fun W => valid_any x W)
  have HB := Lib.hid (fun v W => beyond_any v W)
  have HB0 := Lib.hid ((Below.refl _ w).alloc (Nat.le_refl _) (.cells #[.int .i64 (x 0), .int .i64 (x 1), .int .i64 (x 2), .int .i64 (x 3), .int .i64 (x 4), .int .i64 (x 5), .slice a n c, .int .i64 lo, .int .i64 hi] 31))
  have HM := Lib.hid hm
  clear hm
  cases hk : okB x with
  | false =>
    have HE := Lib.hid (show chkE x m n lo hi = 1 by unfold chkE; rw [if_pos hk])
    rw [hk] at HV
    clear hk
    go_enter Try.func18, Try.ntmps18
    go_wp2_with fail
    refine (HV.out _).mono ?_
    rintro e w1 ⟨rfl, hb1⟩
    have HB1 := Lib.hid (HB0.out.trans (hb1.mono HB0.out.size))
    clear hb1
    go_wp2_with fail
    go_ret
    exact ⟨ret_int HE.out.symm, HB1.out⟩
  | true =>
    have HK := Lib.hid hk
    rw [hk] at HV
    clear hk
    go_enter Try.func18, Try.ntmps18
    go_wp2_with fail
    refine (HV.out _).mono ?_
    rintro e w1 ⟨rfl, hb1⟩
    have HB1 := Lib.hid (HB0.out.trans (hb1.mono HB0.out.size))
    have HM1 := Lib.hid (HM.out.below hb1)
    clear c0 c1 c2 c3 c4 c5 c6 c7 c8 hb1 HM
    obtain ⟨c0, c1, c2, c3, c4, c5, c6, c7, c8⟩ := HM1.out.all
    by_cases h1 : 12 < m
    · have HE := Lib.hid (show chkE x m n lo hi = 7 by unfold chkE; rw [if_neg (by rw [HK.out]; simp), if_pos (.inl h1)])
      go_wp2_with fail
      go_ret
      exact ⟨ret_int HE.out.symm, HB1.out⟩
    · by_cases h2 : m = (n : Int)
      · have hq : (m != (n : Int)) = false := by rw [h2]; simp
        by_cases h3 : lo < 0 ∨ 1048576 < lo
        · have HE := Lib.hid (show chkE x m n lo hi = 2 by unfold chkE; rw [if_neg (by rw [HK.out]; simp), if_neg (by omega), if_pos h3])
          have hc := HB.out lo w1
          rw [decide_eq_true h3] at hc
          have HC := Lib.hid hc
          clear hc h3 h2
          go_wp2_with fail
          refine HC.out.mono ?_
          rintro e w2 ⟨rfl, rfl⟩
          go_wp2_with fail
          go_ret
          exact ⟨ret_int HE.out.symm, HB1.out⟩
        · have hc := HB.out lo w1
          rw [decide_eq_false h3] at hc
          have HC := Lib.hid hc
          have hd := HB.out hi w1
          have HE := Lib.hid (show chkE x m n lo hi = if hi < 0 ∨ 1048576 < hi then 2 else 0 by unfold chkE; rw [if_neg (by rw [HK.out]; simp), if_neg (by omega), if_neg h3])
          clear hc h3 h2
          by_cases h4 : hi < 0 ∨ 1048576 < hi
          · rw [decide_eq_true h4] at hd
            rw [if_pos h4] at HE
            have HD := Lib.hid hd
            clear hd h4
            go_wp2_with fail
            refine HC.out.mono ?_
            rintro e w2 ⟨rfl, rfl⟩
            go_wp2_with fail
            refine HD.out.mono ?_
            rintro e w2 ⟨rfl, rfl⟩
            go_wp2_with fail
            go_ret
            exact ⟨ret_int HE.out.symm, HB1.out⟩
          · rw [decide_eq_false h4] at hd
            rw [if_neg h4] at HE
            have HD := Lib.hid hd
            clear hd h4
            go_wp2_with fail
            refine HC.out.mono ?_
            rintro e w2 ⟨rfl, rfl⟩
            go_wp2_with fail
            refine HD.out.mono ?_
            rintro e w2 ⟨rfl, rfl⟩
            go_wp2_with fail
            go_ret
            exact ⟨ret_int HE.out.symm, HB1.out⟩
      · have hq : (m != (n : Int)) = true := by simpa using h2
        have HE := Lib.hid (show chkE x m n lo hi = 7 by unfold chkE; rw [if_neg (by rw [HK.out]; simp), if_pos (.inr h2)])
        clear h2
        go_wp2_with fail
        go_ret
        exact ⟨ret_int HE.out.symm, HB1.out⟩
theorem chk_enc (x : Nat → Int) (n : Nat) (lo hi : Int) : chkE x n n lo hi = encE x n lo hi := by
  unfold chkE encE
  by_cases h1 : okB x = false
  · rw [if_pos h1, if_pos h1]
  · rw [if_neg h1, if_neg h1]
    by_cases h2 : 12 < n
    · rw [if_pos (.inl (by omega)), if_pos h2]
    · rw [if_neg (by omega), if_neg h2]
      by_cases h3 : lo < 0 ∨ 1048576 < lo
      · rw [if_pos h3, if_pos (by omega)]
      · rw [if_neg h3]
        by_cases h4 : hi < 0 ∨ 1048576 < hi
        · rw [if_pos h4, if_pos (by omega)]
        · rw [if_neg h4, if_neg (by omega)]
/-- **register.bits** -/
theorem bits_any' (r : V) (s n t : Nat) (hs : s + n = t) (ht : t ≤ 64) (hn : n < 63) (w : World) :
    Calls Try.prog 22 #[.int .u64 (r.toNat : Int), .int .i64 (s : Int), .int .i64 (t : Int)] w fun e W => e = .returned (.int .i64 (fld r s n : Int)) ∧ ∃ k, W = w.drewN k := by
  have hw : wrap64 ((t : Int) - (s : Int)) = (n : Int) := by unfold wrap64; omega
  have h63 : (2 : Nat) ^ n ≤ 2 ^ 62 := Nat.pow_le_pow_right (by decide) (by omega)
  have h62 : (2 : Nat) ^ 62 = 4611686018427387904 := by decide
  have hp : 0 < 2 ^ n := Nat.pow_pos (by decide)
  have hw2 : IntKind.u64.wrap (2 ^ n) = ((2 ^ n : Nat) : Int) := by
    rw [show (2 : Int) ^ n = ((2 ^ n : Nat) : Int) by rw [Int.natCast_pow]; rfl]
    exact u64_wrap _ (by omega)
  have hw3 : IntKind.u64.wrap (((2 ^ n : Nat) : Int) - 1) = ((2 ^ n - 1 : Nat) : Int) := by
    rw [show ((2 ^ n : Nat) : Int) - 1 = ((2 ^ n - 1 : Nat) : Int) by omega]
    exact u64_wrap _ (by omega)
  have hf := fld_and r s n (by omega) (by omega)
  have hfl := fld_lt r s n
  have hw4 : wrap64 (fld r s n : Int) = (fld r s n : Int) := by unfold wrap64; omega
  have hmin : min s 64 = s := by omega
  have HF := Lib.hid (And.intro hw2 (And.intro hw3 (And.intro hf (And.intro hw4 hmin))))
  clear hf hfl hw2 hw3 hw4 hp h63 h62 hmin
  go_enter Try.func22, Try.ntmps22
  go_wp2_with fail
  go_quiet (fail)
  go_wp2_with fail
  go_ret
  refine ⟨ret_int ?_, nq, rfl⟩
  show wrap64 (bits BinOp.and IntKind.u64 ((r.toNat : Int) / 2 ^ s) (IntKind.u64.wrap (IntKind.u64.wrap (2 ^ (t - s)) - 1))) = _
  rw [show t - s = n by omega, HF.out.1, HF.out.2.1, HF.out.2.2.1]
  exact HF.out.2.2.2.1
theorem width_any (r : V) (p : Nat) (k : Nat) (hk : k < 6) (w : World) (hc : w.cell? ⟨p, 0, none⟩ = some (.int .u64 (r.toNat : Int))) :
    Calls Try.prog 27 #[.int .i64 (k : Int), .pointer (some ⟨p, 0, none⟩)] w fun e W => e = .returned (.int .i64 (fld r (4 * k) 4 : Int)) ∧ ∃ m, W = w.drewN m := by
  have HB := Lib.hid (fun W => bits_any' r (4 * k) 4 (4 * k + 4) rfl (by omega) (by decide) W)
  have e1 : ((4 * k : Nat) : Int) = (k : Int) * 4 := by omega
  have e2 : ((4 * k + 4 : Nat) : Int) = ((k : Int) + 1) * 4 := by omega
  rw [e1, e2] at HB
  clear e1 e2
  go_enter Try.func27, Try.ntmps27
  go_wp2_with fail
  refine (HB.out _).mono ?_
  rintro e w1 ⟨rfl, m, rfl⟩
  go_wp2_with fail
  go_ret
  exact ⟨rfl, m, rfl⟩
set_option maxRecDepth 100000 in
set_option maxHeartbeats 1000000 in
theorem shape_of (r : V) (w : World) :
    Calls Try.prog 20 #[.int .u64 (r.toNat : Int)] w fun e W => e = .returned (.agg #[.int .i64 (fld r (4 * 0) 4 : Int), .int .i64 (fld r (4 * 1) 4 : Int), .int .i64 (fld r (4 * 2) 4 : Int), .int .i64 (fld r (4 * 3) 4 : Int), .int .i64 (fld r (4 * 4) 4 : Int), .int .i64 (fld r (4 * 5) 4 : Int)]) ∧ Below w.heap.size w W := by
  have hc := G.cell_later (.cells #[.int .i64 0, .int .i64 0, .int .i64 0, .int .i64 0, .int .i64 0, .int .i64 0] 28) (G.cell_new w (.int .u64 (r.toNat : Int)) 40)
  have hs := Six.new (w.alloc (.cells #[.int .u64 (r.toNat : Int)] 40)) 28 (fun _ => 0)
  have hb := ((Below.refl _ w).alloc (Nat.le_refl _) (.cells #[.int .u64 (r.toNat : Int)] 40)).alloc (by simp) (.cells #[.int .i64 0, .int .i64 0, .int .i64 0, .int .i64 0, .int .i64 0, .int .i64 0] 28)
  rw [World.size_alloc] at hs
  obtain ⟨w2, hw2⟩ : ∃ w2, (w.alloc (.cells #[.int .u64 (r.toNat : Int)] 40)).alloc (.cells #[.int .i64 0, .int .i64 0, .int .i64 0, .int .i64 0, .int .i64 0, .int .i64 0] 28) = w2 := ⟨_, rfl⟩
  rw [hw2] at hc hs hb
  obtain ⟨p, hp⟩ : ∃ p, w.heap.size = p := ⟨_, rfl⟩
  rw [hp] at hc hs hb
  have HW0 := Lib.hid (show Calls Try.prog 27 #[.int .i64 0, .pointer (some ⟨p, 0, none⟩)] w2 fun e W => e = .returned (.int .i64 (fld r (4 * 0) 4 : Int)) ∧ ∃ m, W = w2.drewN m from width_any r p 0 (by decide) w2 hc)
  have HW := Lib.hid (fun k (hk : k < 6) m => (width_any r p k hk (w2.drewN m) hc).mono (fun e W h => And.intro h.1 (h.2.elim fun m' h' => (⟨m + m', by rw [h', World.drewN_drewN]⟩ : ∃ m, W = w2.drewN m))))
  have HS := Lib.hid hs
  have HB := Lib.hid hb
  obtain ⟨f0, f1, f2, f3, f4, f5⟩ := hs.frees
  obtain ⟨q0, q1, q2, q3, q4, q5⟩ := hs.all
  clear hs hb hc
  go_enter Try.func20, Try.ntmps20
  go_wp2_with fail
  refine HW0.out.mono ?_
  rintro e w3 ⟨rfl, m0, rfl⟩
  go_wp2_with fail
  refine (HW.out 1 (by decide) m0).mono ?_
  rintro e w3 ⟨rfl, m1, rfl⟩
  go_wp2_with fail
  refine (HW.out 2 (by decide) m1).mono ?_
  rintro e w3 ⟨rfl, m2, rfl⟩
  go_wp2_with fail
  refine (HW.out 3 (by decide) m2).mono ?_
  rintro e w3 ⟨rfl, m3, rfl⟩
  go_wp2_with fail
  refine (HW.out 4 (by decide) m3).mono ?_
  rintro e w3 ⟨rfl, m4, rfl⟩
  go_wp2_with fail
  refine (HW.out 5 (by decide) m4).mono ?_
  rintro e w3 ⟨rfl, m5, rfl⟩
  go_wp2_with fail
  obtain ⟨hp0, hp1, hp2, hp3, hp4, hp5⟩ := (put6_six (HS.out.drewN m5) (fun k => (fld r (4 * k) 4 : Int))).all
  have hfin := put6_below (belowN HB.out m5) (show p ≤ p + 1 by omega) (fun k => (fld r (4 * k) 4 : Int))
  unfold put6 at hp0 hp1 hp2 hp3 hp4 hp5 hfin
  exact bodyPost_ret (v := .agg #[.int .i64 (fld r (4 * 0) 4 : Int), .int .i64 (fld r (4 * 1) 4 : Int), .int .i64 (fld r (4 * 2) 4 : Int), .int .i64 (fld r (4 * 3) 4 : Int), .int .i64 (fld r (4 * 4) 4 : Int), .int .i64 (fld r (4 * 5) 4 : Int)]) (by simp [results, Try.results20, go_sem, hp0, hp1, hp2, hp3, hp4, hp5]) rfl ⟨rfl, by rw [hp]; exact hfin⟩
end Go.Proofs.Ytjemijjhplajaaa.RG
