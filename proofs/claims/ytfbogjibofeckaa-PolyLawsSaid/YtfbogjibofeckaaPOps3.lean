/- The reference's field and made.Mod, as poly's statements call them. -/
import Derived.Test.YtfbogjibofeckaaPOps
namespace Go.Proofs.Ytfbogjibofeckaa
open Go Go.RowKit Go.Shelf

theorem xor_i64 (a b : Nat) (ha : a < 65536) (hb : b < 65536) : bits BinOp.xor IntKind.i64 (a : Int) (b : Int) = ((a ^^^ b : Nat) : Int) := by
  show IntKind.i64.wrap ((BitVec.ofInt 64 a ^^^ BitVec.ofInt 64 b).toNat : Int) = _
  rw [BitVec.toNat_xor, BitVec.ofInt_natCast, BitVec.ofInt_natCast, BitVec.toNat_ofNat, BitVec.toNat_ofNat, Nat.mod_eq_of_lt (by omega), Nat.mod_eq_of_lt (by omega)]
  have : a ^^^ b < 65536 := Nat.xor_lt_two_pow (n := 16) ha hb
  have e : IntKind.i64.wrap ((a ^^^ b : Nat) : Int) = (((a ^^^ b : Nat) : Int) + 9223372036854775808) % 18446744073709551616 - 9223372036854775808 := IntKind.wrap_i64 _
  rw [e]
  omega
theorem dbl_hi : ∀ x : Fin 256, 128 ≤ x.val → (x.val * 2) ^^^ 285 = FM.dbl x.val := by decide +kernel
theorem dbl_lo : ∀ x : Fin 256, x.val < 128 → x.val * 2 = FM.dbl x.val := by decide +kernel
theorem rmulTo_lt {a b : Nat} (ha : a < 256) : ∀ k, FM.rmulTo a b k < 256
  | 0 => by simp [FM.rmulTo]
  | k + 1 => FM.xor_lt (rmulTo_lt ha k) (FM.bitOf_lt (FM.dblN_lt ha k))
theorem rx_hi (a k : Nat) (ha : a < 256) (h : 256 ≤ (FM.dblN k a : Int) * 2) : bits BinOp.xor IntKind.i64 ((FM.dblN k a : Int) * 2) 285 = (FM.dblN (k + 1) a : Int) := by
  have hl := FM.dblN_lt ha k
  have := dbl_hi ⟨_, hl⟩ (by simp only; omega)
  have e := xor_i64 (FM.dblN k a * 2) 285 (by omega) (by decide)
  rw [show ((FM.dblN k a * 2 : Nat) : Int) = (FM.dblN k a : Int) * 2 by omega] at e
  simp only at this
  rw [this] at e
  exact e
theorem rx_lo (a k : Nat) (ha : a < 256) (h : (FM.dblN k a : Int) * 2 < 256) : (FM.dblN k a : Int) * 2 = (FM.dblN (k + 1) a : Int) := by
  have := dbl_lo ⟨_, FM.dblN_lt ha k⟩ (by simp only; omega)
  simp only at this
  show _ = (FM.dbl (FM.dblN k a) : Int)
  rw [← this]; omega
theorem rv_bit (b k : Nat) (hb : b < 256) : bits BinOp.and IntKind.u8 ((b : Int) / 2 ^ k) 1 = ((b / 2 ^ k % 2 : Nat) : Int) := by
  have hd : b / 2 ^ k ≤ b := Nat.div_le_self _ _
  rw [show (b : Int) / 2 ^ k = ((b / 2 ^ k : Nat) : Int) by rw [Int.natCast_ediv, Int.natCast_pow]; rfl, mask_u8 _ (by omega)]
theorem rv_one (a b k : Nat) (ha : a < 256) (h : b / 2 ^ k % 2 = 1) : bits BinOp.xor IntKind.i64 (FM.rmulTo a b k : Int) (FM.dblN k a : Int) = (FM.rmulTo a b (k + 1) : Int) := by
  have h1 := rmulTo_lt (b := b) ha k
  have h2 := FM.dblN_lt ha k
  rw [xor_i64 _ _ (by omega) (by omega)]
  have e : FM.bitOf b k (FM.dblN k a) = FM.dblN k a := by unfold FM.bitOf; rw [Nat.testBit_eq_decide_div_mod_eq, h]; simp
  show _ = ((FM.rmulTo a b k ^^^ FM.bitOf b k (FM.dblN k a) : Nat) : Int)
  rw [e]
theorem rv_zero (a b k : Nat) (h : b / 2 ^ k % 2 ≠ 1) : (FM.rmulTo a b k : Int) = (FM.rmulTo a b (k + 1) : Int) := by
  have e : FM.bitOf b k (FM.dblN k a) = 0 := by unfold FM.bitOf; rw [Nat.testBit_eq_decide_div_mod_eq]; simp [h]
  show _ = ((FM.rmulTo a b k ^^^ FM.bitOf b k (FM.dblN k a) : Nat) : Int)
  rw [e, Nat.xor_zero]
theorem npow_step (a k : Nat) (ha : a < 256) (h0 : a ≠ 0) : FM.mul (FM.pw a k) a = FM.pw a (k + 1) := by
  show FM.mul (FM.E (FM.lg a * k)) a = FM.E (FM.lg a * (k + 1))
  conv => lhs; arg 2; rw [← FM.E_lg ha h0]
  rw [FM.E_mul, Nat.mul_succ]
theorem pw_zero (a : Nat) : FM.pw a 0 = 1 := rfl
theorem dblN_zero (a : Nat) : FM.dblN 0 a = a := rfl
theorem rmulTo_zero (a b : Nat) : FM.rmulTo a b 0 = 0 := rfl
attribute [local irreducible] FM.mul FM.pw FM.dblN FM.rmulTo FM.E FM.lg
set_option maxRecDepth 100000 in
theorem rmul_any (a b : Nat) (ha : a < 256) (hb : b < 256) (w : World) :
    Calls Try.prog 38 #[.int .u8 (a : Int), .int .u8 (b : Int)] w fun e w' => e = .returned (.int .u8 (FM.mul a b : Int)) ∧ w = w' := by
  have hl8 := FM.mul_lt (b := b) ha
  obtain ⟨R, hR⟩ : ∃ R, R = FM.mul a b := ⟨_, rfl⟩
  rw [← hR] at hl8 ⊢
  rw [← FM.rmul_eq ha hb] at hR
  have HR := Lib.hid hR
  clear hR
  go_enter Try.func38, Try.ntmps38
  go_wp2_with fail
  go_loop [5, 6, 7] (fun v x i => ∃ k : Nat, k ≤ 8 ∧ i = .int .i64 (k : Int) ∧ x = .int .i64 (FM.dblN k a : Int) ∧ v = .int .i64 (FM.rmulTo a b k : Int)) (fun _ _ i => 8 - (intOf i).toNat)
  case atStart => exact ⟨0, Nat.zero_le _, rfl, by rw [dblN_zero], by rw [rmulTo_zero]; rfl⟩
  case round =>
    obtain ⟨k, hk, rfl, rfl, rfl⟩ := hrel
    have hl := FM.dblN_lt ha k
    by_cases hlt : k < 8
    · have hbit := rv_bit b k hb
      by_cases h1 : b / 2 ^ k % 2 = 1
      · have HV := Lib.hid (rv_one a b k ha h1)
        have ht : (bits BinOp.and IntKind.u8 ((b : Int) / 2 ^ k) 1 == 1) = true := by rw [hbit, h1]; rfl
        clear hbit h1
        go_wp2_with fail
        · have HX := rx_hi a k ha (by assumption)
          go_round
          case rel => exact ⟨k + 1, by omega, by go_num, by rw [HX], by rw [HV.out]⟩
          case measure => simp [intOf]; omega
        · have HX := rx_lo a k ha (by assumption)
          go_round
          case rel => exact ⟨k + 1, by omega, by go_num, by rw [HX], by rw [HV.out]⟩
          case measure => simp [intOf]; omega
      · have HV := Lib.hid (rv_zero a b k h1)
        have ht : (bits BinOp.and IntKind.u8 ((b : Int) / 2 ^ k) 1 == 1) = false := by
          rw [hbit]
          have : b / 2 ^ k % 2 = 0 := by omega
          rw [this]; rfl
        clear hbit h1
        go_wp2_with fail
        · have HX := rx_hi a k ha (by assumption)
          go_round
          case rel => exact ⟨k + 1, by omega, by go_num, by rw [HX], by rw [← HV.out]⟩
          case measure => simp [intOf]; omega
        · have HX := rx_lo a k ha (by assumption)
          go_round
          case rel => exact ⟨k + 1, by omega, by go_num, by rw [HX], by rw [← HV.out]⟩
          case measure => simp [intOf]; omega
    · obtain rfl : k = 8 := by omega
      go_wp2_with fail
      go_ret
      rw [HR.out]
      rw [HR.out] at hl8
      exact ⟨ret_int (by omega), rfl⟩

set_option maxRecDepth 100000 in
theorem rinverse_any (a : Nat) (ha : a < 256) (w : World) :
    Calls Try.prog 49 #[.int .u8 (a : Int)] w fun e w' => e = .returned (.tuple #[.int .u8 (FM.invV a : Int), .int .i64 (FM.errZ a)]) ∧ w = w' := by
  by_cases h0 : a = 0
  · subst h0
    go_enter Try.func49, Try.ntmps49
    go_wp2
    go_ret2
    exact ⟨rfl, rfl⟩
  · have ht : ((a : Int) == 0) = false := by simp; omega
    have hi : FM.invV a = FM.pw a 254 := by unfold FM.invV; rw [if_neg h0]
    obtain ⟨R, hR⟩ : ∃ R, R = FM.pw a 254 := ⟨_, rfl⟩
    rw [hi, invE_zero h0, ← hR]
    have HR := Lib.hid hR
    clear hi hR
    go_enter Try.func49, Try.ntmps49
    go_wp2_with fail
    go_loop [4, 5] (fun v i => ∃ k : Nat, k ≤ 254 ∧ i = .int .i64 (k : Int) ∧ v = .int .u8 (FM.pw a k : Int)) (fun _ i => 254 - (intOf i).toNat)
    case atStart => exact ⟨0, Nat.zero_le _, rfl, by rw [pw_zero]; rfl⟩
    case round =>
      obtain ⟨k, hk, rfl, rfl⟩ := hrel
      have hl := FM.pw_lt a k
      have HS := Lib.hid (npow_step a k ha h0)
      by_cases hlt : k < 254
      · go_wp2_with (go_at_call 38; refine (rmul_any _ _ hl ha _).mono ?_; rintro e w1 ⟨rfl, rfl⟩)
        go_round
        case rel => exact ⟨k + 1, by omega, by go_num, by rw [HS.out]⟩
        case measure => simp [intOf]; omega
      · obtain rfl : k = 254 := by omega
        go_wp2_with fail
        go_ret2
        rw [HR.out]
        exact ⟨rfl, rfl⟩
theorem rdivide_any (a b : Nat) (ha : a < 256) (hb : b < 256) (w : World) :
    Calls Try.prog 43 #[.int .u8 (a : Int), .int .u8 (b : Int)] w fun e w' => e = .returned (.tuple #[.int .u8 (FM.divV a b : Int), .int .i64 (FM.errZ b)]) ∧ w = w' := by
  have hI := rinverse_any b hb
  have hl := FM.invV_lt b
  by_cases h0 : b = 0
  · subst h0
    have HI := Lib.hid hI
    clear hI
    go_enter Try.func43, Try.ntmps43
    go_wp2_with (go_at_call 49; refine (HI.out _).mono ?_; rintro e w1 ⟨rfl, rfl⟩)
    go_ret2
    exact ⟨rfl, rfl⟩
  · have hv : FM.divV a b = FM.mul a (FM.invV b) := by unfold FM.divV; rw [if_neg h0]
    have he := invE_zero h0
    rw [hv]
    rw [he] at hI ⊢
    have HI := Lib.hid hI
    clear hI he hv h0
    go_enter Try.func43, Try.ntmps43
    go_wp2_with (first | (go_at_call 49; refine (HI.out _).mono ?_; rintro e w1 ⟨rfl, rfl⟩) | (go_at_call 38; refine (rmul_any _ _ ha hl _).mono ?_; rintro e w2 ⟨rfl, rfl⟩))
    go_ret2
    exact ⟨rfl, rfl⟩

theorem mod_any (n m : Int) (hm : 1 ≤ m) (hm2 : m ≤ 1000000) (w : World) :
    Calls Try.prog 44 #[.int .i64 n, .int .i64 m] w fun e w' => e = .returned (.int .i64 (n % m)) ∧ w = w' := by
  have hs : n.tmod m < 0 → n.tmod m + m = n % m ∧ -1000000 < n.tmod m := by
    intro h
    rcases Int.le_total 0 n with hn | hn
    · rw [Int.tmod_eq_emod_of_nonneg hn] at h
      have := Int.emod_nonneg n (by omega : m ≠ 0)
      omega
    · have e := Int.neg_tmod (a := -n) (b := m)
      rw [Int.neg_neg, Int.tmod_eq_emod_of_nonneg (by omega : 0 ≤ -n)] at e
      have h1 := Int.emod_lt_of_pos (-n) (by omega : 0 < m)
      have h2 := Int.emod_nonneg (-n) (by omega : m ≠ 0)
      refine ⟨?_, by omega⟩
      have h3 : n % m = (n.tmod m + m) % m := by
        rw [e, Int.add_emod_right]
        have h4 : (-((-n) % m)) % m = (-(-n)) % m := by
          have := Int.emod_add_mul_ediv (-n) m
          have h5 : -((-n) % m) = -(-n) + m * ((-n) / m) := by omega
          rw [h5, Int.add_mul_emod_self_left]
        rw [h4, Int.neg_neg]
      rw [h3, Int.emod_eq_of_lt (by omega) (by omega)]
  have hp : ¬ n.tmod m < 0 → n.tmod m = n % m := by
    intro h
    rcases Int.le_total 0 n with hn | hn
    · exact Int.tmod_eq_emod_of_nonneg hn
    · have e := Int.neg_tmod (a := -n) (b := m)
      rw [Int.neg_neg, Int.tmod_eq_emod_of_nonneg (by omega : 0 ≤ -n)] at e
      have h2 := Int.emod_nonneg (-n) (by omega : m ≠ 0)
      have h0 : (-n) % m = 0 := by omega
      have h6 : m ∣ -n := Int.dvd_of_emod_eq_zero h0
      rw [e, h0, Int.emod_eq_zero_of_dvd (Int.dvd_neg.1 h6)]; rfl
  have hm0 : ¬ m < 1 := by omega
  have hz : m ≠ 0 := by omega
  by_cases h : n.tmod m < 0
  · have hb := (hs h).2
    have HR := Lib.hid (hs h).1
    clear hs hp
    go_enter Try.func44, Try.ntmps44
    go_wp2_with fail
    go_ret
    exact ⟨ret_int HR.out, rfl⟩
  · have HR := Lib.hid (hp h)
    have h' : 0 ≤ n.tmod m := by omega
    clear hs hp
    go_enter Try.func44, Try.ntmps44
    go_wp2_with fail
    go_ret
    exact ⟨ret_int HR.out, rfl⟩
end Go.Proofs.Ytfbogjibofeckaa
