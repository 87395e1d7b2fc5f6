/- ref05.Beyond, Valid, Parity, Apply. -/
import Derived.Test.YtodiokladojnjaaBSame
namespace Go.Proofs.Ytodiokladojnjaa.B
open Go Go.RowKit Go.Shelf
open BM (bt xs)

theorem fit_64 (v : V) {n : Nat} (h : 64 ≤ n) : fitB v n = true := (fitB_iff _ _).2 (fun k hk => BM.bt_ge _ (by omega))
theorem shr_nz (v : V) (n : Nat) : ((v.toNat : Int) / 2 ^ n != 0) = !fitB v n := by
  by_cases h : n ≤ 64
  · have := fit_V v n
    rw [Nat.min_eq_left h] at this
    rw [← this]; rfl
  · rw [fit_64 v (by omega)]
    have e : ((v.toNat : Int) / 2 ^ n) = ((v.toNat / 2 ^ n : Nat) : Int) := by rw [Int.natCast_ediv, Int.natCast_pow]; rfl
    rw [e, Nat.div_eq_of_lt (Nat.lt_of_lt_of_le v.lt (Nat.pow_le_pow_right (n := 2) (by decide) (show 64 ≤ n by omega)))]
    rfl
theorem beyond_any (v : V) (n : Nat) (w : World) :
    Calls Try.prog 36 #[.int .u64 (v.toNat : Int), .int .i64 (n : Int)] w fun e w' => e = .returned (.bool (!fitB v n)) ∧ w' = w := by
  by_cases h : n < 64
  · have hq := shr_nz v n
    have HQ := Lib.hid hq
    clear hq
    go_enter Try.func36, Try.ntmps36
    go_wp2_with fail
    go_ret
    refine ⟨ret_bool ?_, rfl⟩
    first | exact HQ.out | (rw [← HQ.out]; rfl) | (have := HQ.out; simpa using this)
  · rw [fit_64 v (by omega)]
    go_enter Try.func36, Try.ntmps36
    go_wp2_with fail
    go_ret
    exact ⟨rfl, rfl⟩

/-- The lowest bit. -/
theorem low_bit (n : Nat) : 0 < n → ∃ t q, n = 2 ^ t + 2 ^ (t + 1) * q := by
  induction n using Nat.strongRecOn with
  | ind n ih =>
    intro hn
    by_cases ho : n % 2 = 1
    · exact ⟨0, n / 2, by rw [Nat.pow_zero]; show n = 1 + 2 * (n / 2); omega⟩
    · obtain ⟨t, q, e⟩ := ih (n / 2) (by omega) (by omega)
      refine ⟨t + 1, q, ?_⟩
      rw [Nat.pow_succ 2 (t + 1), Nat.pow_succ 2 t] at *
      have : n = 2 * (n / 2) := by omega
      rw [this, e, Nat.mul_add, Nat.mul_comm 2 (2 ^ t), ← Nat.mul_assoc, Nat.mul_comm 2 (2 ^ t * 2)]
theorem par_clear (v : V) (h : 0 < v.toNat) : ∃ y : V, bits BinOp.and IntKind.u64 (v.toNat : Int) ((v.toNat : Int) - 1) = (y.toNat : Int) ∧ par y = !par v ∧ y.toNat < v.toNat := by
  obtain ⟨t, q, e⟩ := low_bit v.toNat h
  have hv := v.lt
  have hp : 0 < 2 ^ t := Nat.pow_pos (by decide)
  have e1 : v.toNat - 1 = (2 ^ t - 1) + 2 ^ (t + 1) * q := by omega
  have hs : 2 ^ (t + 1) = 2 * 2 ^ t := by rw [Nat.pow_succ, Nat.mul_comm]
  have ha : v.toNat &&& (v.toNat - 1) = 2 ^ (t + 1) * q := by
    rw [e1]
    conv => lhs; lhs; rw [e]
    rw [and_split (t + 1) (2 ^ t) q (2 ^ t - 1) q (by omega) (by omega), Nat.and_two_pow_sub_one_eq_mod, Nat.mod_self, Nat.and_self, Nat.zero_add]
  have ht : t < 64 := by
    rcases Nat.lt_or_ge t 64 with h | h
    · exact h
    · have : 2 ^ 64 ≤ 2 ^ t := Nat.pow_le_pow_right (by decide) h
      omega
  refine ⟨BitVec.ofNat 64 (v.toNat &&& (v.toNat - 1)), ?_, ?_, ?_⟩
  · rw [show ((v.toNat : Int) - 1) = ((v.toNat - 1 : Nat) : Int) by omega, and_u64 _ _ hv (by omega), BitVec.toNat_ofNat, Nat.mod_eq_of_lt (Nat.lt_of_le_of_lt Nat.and_le_left hv)]
  · have hb : ∀ k, k < 64 → bt v k = (bt (BitVec.ofNat 64 (v.toNat &&& (v.toNat - 1))) k ^^ decide (k = t)) := fun k _ => by
      rw [← BM.bt_nat, ← BM.bt_nat, BitVec.toNat_ofNat, Nat.mod_eq_of_lt (Nat.lt_of_le_of_lt Nat.and_le_left hv), ha]
      conv => lhs; rw [e, Nat.add_comm]
      rw [Nat.testBit_two_pow_mul_add _ (by omega)]
      have hz := Nat.testBit_two_pow_mul_add q (i := t + 1) (b := 0) (by omega) k
      rw [Nat.add_zero] at hz
      rw [hz]
      by_cases hk : k < t + 1
      · rw [if_pos hk, if_pos hk, Nat.testBit_two_pow, Nat.zero_testBit, Bool.false_xor]
        by_cases e3 : k = t
        · subst e3; rfl
        · rw [decide_eq_false e3, decide_eq_false (fun e4 => e3 e4.symm)]
      · rw [if_neg hk, if_neg hk, decide_eq_false (show ¬ k = t by omega), Bool.xor_false]
    have hx : par v = (par (BitVec.ofNat 64 (v.toNat &&& (v.toNat - 1))) ^^ true) := by
      unfold par
      rw [BM.xs_congr hb, BM.xs_xor, BM.xs_one (n := 64) (k := t) (f := fun k => decide (k = t)) ht (fun i _ hne => decide_eq_false hne), decide_eq_true rfl]
    rw [hx]
    cases par (BitVec.ofNat 64 (v.toNat &&& (v.toNat - 1))) <;> rfl
  · rw [BitVec.toNat_ofNat, Nat.mod_eq_of_lt (Nat.lt_of_le_of_lt Nat.and_le_left hv), ha]
    omega
theorem par_zero : par 0 = false := BM.xs_false (fun i _ => BM.bt_zero i)
set_option maxRecDepth 100000 in
theorem rparity_any (v : V) (w : World) :
    Calls Try.prog 33 #[.int .u64 (v.toNat : Int)] w fun e w' => e = .returned (.int .u64 ((b1 (par v)).toNat : Int)) ∧ w' = w := by
  go_enter Try.func33, Try.ntmps33
  go_wp2_with fail
  go_loopw [0, 3] (fun x p wr => ∃ (y : V) (t : Bool), x = .int .u64 (y.toNat : Int) ∧ p = .int .u64 ((b1 t).toNat : Int) ∧ par v = (t ^^ par y) ∧ wr = w) (fun x _ _ => (intOf x).toNat)
  case atStart => exact ⟨v, false, rfl, rfl, by rw [Bool.false_xor], rfl⟩
  case round =>
    obtain ⟨y, t, rfl, rfl, hp, rfl⟩ := hrel
    have HP := Lib.hid hp
    clear hp
    by_cases h0 : 0 < y.toNat
    · obtain ⟨z, hz, hpz, hlt⟩ := par_clear y h0
      have hne : ((y.toNat : Int) != 0) = true := bne_iff_ne.2 (by omega)
      have hx := xor_V (b1 t) 1
      rw [show ((1 : V).toNat : Int) = 1 from rfl] at hx
      have hbx : b1 t ^^^ 1 = b1 (!t) := by cases t <;> rfl
      rw [hbx] at hx
      have HPZ := Lib.hid hpz
      clear hpz hbx
      go_wp2_with fail
      go_roundw
      case rel => exact ⟨z, !t, rfl, rfl, by rw [HP.out, HPZ.out]; cases t <;> cases par y <;> rfl, by first | rfl | trivial⟩
      case measure => simp [intOf]; omega
    · have hz : y = 0 := BitVec.eq_of_toNat_eq (by show y.toNat = 0; omega)
      have hne : ((y.toNat : Int) != 0) = false := by rw [hz]; rfl
      have hpt : par v = t := by rw [HP.out, hz, par_zero, Bool.xor_false]
      have HPT := Lib.hid hpt
      clear hz hpt h0
      go_wp2_with fail
      go_ret
      exact ⟨by rw [HPT.out]; rfl, rfl⟩

set_option maxRecDepth 100000 in
set_option maxHeartbeats 1000000 in
/-- **ref05.Valid** -/
theorem rvalid_any (C : Int) (a : Option Addr) (cap : Nat) (R : List V) (w : World) (hR : Row w a R cap) :
    Calls Try.prog 40 #[.agg #[.int .i64 C, .slice a R.length cap]] w fun e W' => e = .returned (.bool (validB C R)) ∧ Below w.heap.size w W' := by
  have hroom := hR.room
  have hmost := hR.most
  have hbx := MBox.new w C a R.length cap 49
  have hr1 := hR.alloc (.cells #[.int .i64 C, .slice a R.length cap] 49)
  have hb1 := (Below.refl w.heap.size w).alloc (Nat.le_refl _) (.cells #[.int .i64 C, .slice a R.length cap] 49)
  obtain ⟨w1, hw1⟩ : ∃ w1, w.alloc (.cells #[.int .i64 C, .slice a R.length cap] 49) = w1 := ⟨_, rfl⟩
  rw [hw1] at hbx hr1 hb1
  have a0 := hbx.c0
  have a1 := hbx.c1
  have HBX := Lib.hid hbx
  have HR := Lib.hid hr1
  have HB := Lib.hid hb1
  clear hR hbx hr1 hb1
  by_cases h1 : 1 ≤ C
  · by_cases h2 : C ≤ 64
    · by_cases h3 : 1 ≤ R.length
      · by_cases h4 : R.length ≤ 64
        · obtain ⟨D, rfl⟩ : ∃ D : Nat, C = (D : Int) := ⟨C.toNat, by omega⟩
          have e0 : validB D R = fitsL R D := by
            unfold validB
            rw [(sideB_iff _).2 ⟨h1, h2⟩, (sideB_iff _).2 ⟨by omega, by omega⟩, Int.toNat_natCast]; rfl
          rw [e0]
          clear e0
          go_enter Try.func40, Try.ntmps40
          go_wp2_with fail
          go_loopw [3] (fun i wr => ∃ k : Nat, i = .int .i64 (k : Int) ∧ k ≤ R.length ∧ Hid (∀ j, j < k → fitB (el R j) D = true) ∧ Dr w1 wr) (fun i _ => R.length - (intOf i).toNat)
          case atStart => exact ⟨0, rfl, Nat.zero_le _, Lib.hid (fun j hj => absurd hj (Nat.not_lt_zero j)), Dr.refl _⟩
          case round =>
            clear a0 a1
            obtain ⟨k, rfl, hk, hA, hd⟩ := hrel
            have hbx := HBX.out.below hd.below
            have a0 := hbx.c0
            have a1 := hbx.c1
            have HD := Lib.hid hd
            by_cases hlt : k < R.length
            · obtain ⟨b, off, rfl, hcell⟩ := (HR.out.below hd.below).elV k hlt
              have hf := fun W => beyond_any (el R k) D W
              cases hq : fitB (el R k) D with
              | true =>
                rw [hq] at hf
                have HF := Lib.hid hf
                have HQ := Lib.hid hq
                clear hf hq hd hbx
                go_wp2_with fail
                go_quiet ((go_at_call 36; exact Calls.quiet_of_same (HF.out _)))
                go_wp2_with fail
                go_roundw
                case rel =>
                  refine ⟨k + 1, by go_num, by omega, Lib.hid (fun j hj => ?_), HD.out.drewN _⟩
                  by_cases e : j = k
                  · subst e; exact HQ.out
                  · exact hA.out j (by omega)
                case measure => simp [intOf]; omega
              | false =>
                rw [hq] at hf
                have HF := Lib.hid hf
                have HE := Lib.hid (fitsL_no hlt hq)
                clear hf hq hd hbx
                go_wp2_with fail
                go_quiet ((go_at_call 36; exact Calls.quiet_of_same (HF.out _)))
                go_wp2_with fail
                go_ret
                exact ⟨ret_bool HE.out.symm, HB.out.trans ((HD.out.drewN _).below.mono HB.out.size)⟩
            · have HE := Lib.hid (fitsL_yes (fun j hj => hA.out j (show j < k by omega)) : fitsL R D = true)
              clear hd hbx
              go_wp2_with fail
              go_ret
              exact ⟨ret_bool HE.out.symm, HB.out.trans (HD.out.below.mono HB.out.size)⟩
        · have HE := Lib.hid (show validB C R = false by
            have : sideB (R.length : Int) = false := by
              cases hs : sideB (R.length : Int) with
              | false => rfl
              | true => have := (sideB_iff _).1 hs; omega
            unfold validB; rw [this, Bool.false_and, Bool.and_false])
          go_enter Try.func40, Try.ntmps40
          go_wp2_with fail
          go_ret
          exact ⟨ret_bool HE.out.symm, HB.out⟩
      · have HE := Lib.hid (show validB C R = false by
          have : sideB (R.length : Int) = false := by
            cases hs : sideB (R.length : Int) with
            | false => rfl
            | true => have := (sideB_iff _).1 hs; omega
          unfold validB; rw [this, Bool.false_and, Bool.and_false])
        go_enter Try.func40, Try.ntmps40
        go_wp2_with fail
        go_ret
        exact ⟨ret_bool HE.out.symm, HB.out⟩
    · have HE := Lib.hid (show validB C R = false by
        have : sideB C = false := by
          cases hs : sideB C with
          | false => rfl
          | true => have := (sideB_iff _).1 hs; omega
        unfold validB; rw [this, Bool.false_and])
      go_enter Try.func40, Try.ntmps40
      go_wp2_with fail
      go_ret
      exact ⟨ret_bool HE.out.symm, HB.out⟩
  · have HE := Lib.hid (show validB C R = false by
      have : sideB C = false := by
        cases hs : sideB C with
        | false => rfl
        | true => have := (sideB_iff _).1 hs; omega
      unfold validB; rw [this, Bool.false_and])
    go_enter Try.func40, Try.ntmps40
    go_wp2_with fail
    go_ret
    exact ⟨ret_bool HE.out.symm, HB.out⟩
end Go.Proofs.Ytodiokladojnjaa.B
