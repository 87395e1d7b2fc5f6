/- field.Log and the reference's functions. -/
import Derived.Test.YtjnkigbcpofcmaaOps2
namespace Go.Proofs.Ytjnkigbcpofcmaa
open Go Go.RowKit Go.Shelf

theorem log_any (a : Nat) (ha : a < 256) (w : World) :
    Calls Try.prog 13 #[.int .u8 (a : Int)] w fun e w' => e = .returned (.tuple #[.int .i64 (FM.logV a : Int), .int .i64 (FM.errZ a)]) ∧ Dr w w' := by
  by_cases h0 : a = 0
  · subst h0
    go_enter Try.func13, Try.ntmps13
    go_wp2
    go_ret2
    exact ⟨rfl, Dr.refl _⟩
  · have ht : ((a : Int) == 0) = false := by simp; omega
    have hv : FM.logV a = FM.lg a := by unfold FM.logV; rw [if_neg h0]
    rw [hv, invE_zero h0]
    obtain ⟨m, hm⟩ : ∃ m, m = FM.lg a := ⟨_, rfl⟩
    have hlt := FM.lg_lt ha h0
    have hE := FM.E_lg ha h0
    rw [← hm] at hlt hE ⊢
    have HE := Lib.hid hE
    clear hv hm hE h0
    go_enter Try.func13, Try.ntmps13
    go_wp2_with fail
    go_loop [4, 5] (fun c x => ∃ k : Nat, k ≤ m ∧ c = .int .i64 (k : Int) ∧ x = .int .u8 (FM.E k : Int)) (fun c _ => m - (intOf c).toNat)
    case atStart => exact ⟨0, Nat.zero_le _, rfl, rfl⟩
    case round =>
      obtain ⟨k, hk, rfl, rfl⟩ := hrel
      have hl := FM.E_lt k
      by_cases hlt2 : k = m
      · subst hlt2
        have ht : ((FM.E k : Int) != (a : Int)) = false := by rw [HE.out]; simp
        go_wp2_with fail
        go_ret2
        exact ⟨rfl, Dr.refl _⟩
      · have ht : ((FM.E k : Int) != (a : Int)) = true := by
          rw [← HE.out]; simp only [bne_iff_ne, ne_eq]
          intro h
          have := FM.E_inj (Int.ofNat_inj.1 h)
          omega
        have hkm : k < m := by omega
        clear hlt2
        go_wp2_with (go_at_call 23; refine (double_any _ hl _).mono ?_; rintro e w1 ⟨rfl, rfl⟩)
        go_round
        case rel => exact ⟨k + 1, by omega, by go_num, rfl⟩
        case measure => simp [intOf]; omega

theorem xor_i64 (a b : Nat) (ha : a < 65536) (hb : b < 65536) : bits BinOp.xor IntKind.i64 (a : Int) (b : Int) = ((a ^^^ b : Nat) : Int) := by
  show IntKind.i64.wrap ((BitVec.ofInt 64 a ^^^ BitVec.ofInt 64 b).toNat : Int) = _
  rw [BitVec.toNat_xor, BitVec.ofInt_natCast, BitVec.ofInt_natCast, BitVec.toNat_ofNat, BitVec.toNat_ofNat, Nat.mod_eq_of_lt (by omega), Nat.mod_eq_of_lt (by omega)]
  have : a ^^^ b < 65536 := Nat.xor_lt_two_pow (n := 16) ha hb
  have e : IntKind.i64.wrap ((a ^^^ b : Nat) : Int) = (((a ^^^ b : Nat) : Int) + 9223372036854775808) % 18446744073709551616 - 9223372036854775808 := IntKind.wrap_i64 _
  rw [e]
  omega
theorem dbl_hi : ∀ x : Fin 256, 128 ≤ x.val → (x.val * 2) ^^^ 285 = FM.dbl x.val := by decide +kernel
theorem dbl_lo : ∀ x : Fin 256, x.val < 128 → x.val * 2 = FM.dbl x.val := by decide +kernel
theorem rmulTo_lt {a b : Nat} (ha : a < 256) : ∀ k, FM.rmulTo a b k < 256
  | 0 => by simp [FM.rmulTo]
  | k + 1 => FM.xor_lt (rmulTo_lt ha k) (FM.bitOf_lt (FM.dblN_lt ha k))
theorem rx_hi (a k : Nat) (ha : a < 256) (h : 256 ≤ (FM.dblN k a : Int) * 2) : bits BinOp.xor IntKind.i64 ((FM.dblN k a : Int) * 2) 285 = (FM.dblN (k + 1) a : Int) := by
  have hl := FM.dblN_lt ha k
  have := dbl_hi ⟨_, hl⟩ (by simp only; omega)
  have e := xor_i64 (FM.dblN k a * 2) 285 (by omega) (by decide)
  rw [show ((FM.dblN k a * 2 : Nat) : Int) = (FM.dblN k a : Int) * 2 by omega] at e
  simp only at this
  rw [this] at e
  exact e
theorem rx_lo (a k : Nat) (ha : a < 256) (h : (FM.dblN k a : Int) * 2 < 256) : (FM.dblN k a : Int) * 2 = (FM.dblN (k + 1) a : Int) := by
  have := dbl_lo ⟨_, FM.dblN_lt ha k⟩ (by simp only; omega)
  simp only at this
  show _ = (FM.dbl (FM.dblN k a) : Int)
  rw [← this]; omega
theorem rv_bit (b k : Nat) (hb : b < 256) : bits BinOp.and IntKind.u8 ((b : Int) / 2 ^ k) 1 = ((b / 2 ^ k % 2 : Nat) : Int) := by
  have hd : b / 2 ^ k ≤ b := Nat.div_le_self _ _
  rw [show (b : Int) / 2 ^ k = ((b / 2 ^ k : Nat) : Int) by rw [Int.natCast_ediv, Int.natCast_pow]; rfl, mask_u8 _ (by omega)]
theorem rv_one (a b k : Nat) (ha : a < 256) (h : b / 2 ^ k % 2 = 1) : bits BinOp.xor IntKind.i64 (FM.rmulTo a b k : Int) (FM.dblN k a : Int) = (FM.rmulTo a b (k + 1) : Int) := by
  have h1 := rmulTo_lt (b := b) ha k
  have h2 := FM.dblN_lt ha k
  rw [xor_i64 _ _ (by omega) (by omega)]
  have e : FM.bitOf b k (FM.dblN k a) = FM.dblN k a := by unfold FM.bitOf; rw [Nat.testBit_eq_decide_div_mod_eq, h]; simp
  show _ = ((FM.rmulTo a b k ^^^ FM.bitOf b k (FM.dblN k a) : Nat) : Int)
  rw [e]
theorem rv_zero (a b k : Nat) (h : b / 2 ^ k % 2 ≠ 1) : (FM.rmulTo a b k : Int) = (FM.rmulTo a b (k + 1) : Int) := by
  have e : FM.bitOf b k (FM.dblN k a) = 0 := by unfold FM.bitOf; rw [Nat.testBit_eq_decide_div_mod_eq]; simp [h]
  show _ = ((FM.rmulTo a b k ^^^ FM.bitOf b k (FM.dblN k a) : Nat) : Int)
  rw [e, Nat.xor_zero]
theorem npow_step (a k : Nat) (ha : a < 256) (h0 : a ≠ 0) : FM.mul (FM.pw a k) a = FM.pw a (k + 1) := by
  show FM.mul (FM.E (FM.lg a * k)) a = FM.E (FM.lg a * (k + 1))
  conv => lhs; arg 2; rw [← FM.E_lg ha h0]
  rw [FM.E_mul, Nat.mul_succ]
theorem pw_zero (a : Nat) : FM.pw a 0 = 1 := rfl
theorem dblN_zero (a : Nat) : FM.dblN 0 a = a := rfl
theorem rmulTo_zero (a b : Nat) : FM.rmulTo a b 0 = 0 := rfl
attribute [local irreducible] FM.mul FM.pw FM.dblN FM.rmulTo FM.E FM.lg
set_option maxRecDepth 100000 in
theorem rmul_any (a b : Nat) (ha : a < 256) (hb : b < 256) (w : World) :
    Calls Try.prog 17 #[.int .u8 (a : Int), .int .u8 (b : Int)] w fun e w' => e = .returned (.int .u8 (FM.mul a b : Int)) ∧ w = w' := by
  have hl8 := FM.mul_lt (b := b) ha
  obtain ⟨R, hR⟩ : ∃ R, R = FM.mul a b := ⟨_, rfl⟩
  rw [← hR] at hl8 ⊢
  rw [← FM.rmul_eq ha hb] at hR
  have HR := Lib.hid hR
  clear hR
  go_enter Try.func17, Try.ntmps17
  go_wp2_with fail
  go_loop [5, 6, 7] (fun v x i => ∃ k : Nat, k ≤ 8 ∧ i = .int .i64 (k : Int) ∧ x = .int .i64 (FM.dblN k a : Int) ∧ v = .int .i64 (FM.rmulTo a b k : Int)) (fun _ _ i => 8 - (intOf i).toNat)
  case atStart => exact ⟨0, Nat.zero_le _, rfl, by rw [dblN_zero], by rw [rmulTo_zero]; rfl⟩
  case round =>
    obtain ⟨k, hk, rfl, rfl, rfl⟩ := hrel
    have hl := FM.dblN_lt ha k
    by_cases hlt : k < 8
    · have hbit := rv_bit b k hb
      by_cases h1 : b / 2 ^ k % 2 = 1
      · have HV := Lib.hid (rv_one a b k ha h1)
        have ht : (bits BinOp.and IntKind.u8 ((b : Int) / 2 ^ k) 1 == 1) = true := by rw [hbit, h1]; rfl
        clear hbit h1
        go_wp2_with fail
        · have HX := rx_hi a k ha (by assumption)
          go_round
          case rel => exact ⟨k + 1, by omega, by go_num, by rw [HX], by rw [HV.out]⟩
          case measure => simp [intOf]; omega
        · have HX := rx_lo a k ha (by assumption)
          go_round
          case rel => exact ⟨k + 1, by omega, by go_num, by rw [HX], by rw [HV.out]⟩
          case measure => simp [intOf]; omega
      · have HV := Lib.hid (rv_zero a b k h1)
        have ht : (bits BinOp.and IntKind.u8 ((b : Int) / 2 ^ k) 1 == 1) = false := by
          rw [hbit]
          have : b / 2 ^ k % 2 = 0 := by omega
          rw [this]; rfl
        clear hbit h1
        go_wp2_with fail
        · have HX := rx_hi a k ha (by assumption)
          go_round
          case rel => exact ⟨k + 1, by omega, by go_num, by rw [HX], by rw [← HV.out]⟩
          case measure => simp [intOf]; omega
        · have HX := rx_lo a k ha (by assumption)
          go_round
          case rel => exact ⟨k + 1, by omega, by go_num, by rw [HX], by rw [← HV.out]⟩
          case measure => simp [intOf]; omega
    · obtain rfl : k = 8 := by omega
      go_wp2_with fail
      go_ret
      rw [HR.out]
      rw [HR.out] at hl8
      exact ⟨ret_int (by omega), rfl⟩

set_option maxRecDepth 100000 in
theorem rinverse_any (a : Nat) (ha : a < 256) (w : World) :
    Calls Try.prog 8 #[.int .u8 (a : Int)] w fun e w' => e = .returned (.tuple #[.int .u8 (FM.invV a : Int), .int .i64 (FM.errZ a)]) ∧ w = w' := by
  by_cases h0 : a = 0
  · subst h0
    go_enter Try.func8, Try.ntmps8
    go_wp2
    go_ret2
    exact ⟨rfl, rfl⟩
  · have ht : ((a : Int) == 0) = false := by simp; omega
    have hi : FM.invV a = FM.pw a 254 := by unfold FM.invV; rw [if_neg h0]
    obtain ⟨R, hR⟩ : ∃ R, R = FM.pw a 254 := ⟨_, rfl⟩
    rw [hi, invE_zero h0, ← hR]
    have HR := Lib.hid hR
    clear hi hR
    go_enter Try.func8, Try.ntmps8
    go_wp2_with fail
    go_loop [4, 5] (fun v i => ∃ k : Nat, k ≤ 254 ∧ i = .int .i64 (k : Int) ∧ v = .int .u8 (FM.pw a k : Int)) (fun _ i => 254 - (intOf i).toNat)
    case atStart => exact ⟨0, Nat.zero_le _, rfl, by rw [pw_zero]; rfl⟩
    case round =>
      obtain ⟨k, hk, rfl, rfl⟩ := hrel
      have hl := FM.pw_lt a k
      have HS := Lib.hid (npow_step a k ha h0)
      by_cases hlt : k < 254
      · go_wp2_with (go_at_call 17; refine (rmul_any _ _ hl ha _).mono ?_; rintro e w1 ⟨rfl, rfl⟩)
        go_round
        case rel => exact ⟨k + 1, by omega, by go_num, by rw [HS.out]⟩
        case measure => simp [intOf]; omega
      · obtain rfl : k = 254 := by omega
        go_wp2_with fail
        go_ret2
        rw [HR.out]
        exact ⟨rfl, rfl⟩
theorem rdivide_any (a b : Nat) (ha : a < 256) (hb : b < 256) (w : World) :
    Calls Try.prog 10 #[.int .u8 (a : Int), .int .u8 (b : Int)] w fun e w' => e = .returned (.tuple #[.int .u8 (FM.divV a b : Int), .int .i64 (FM.errZ b)]) ∧ w = w' := by
  have hI := rinverse_any b hb
  have hl := FM.invV_lt b
  by_cases h0 : b = 0
  · subst h0
    have HI := Lib.hid hI
    clear hI
    go_enter Try.func10, Try.ntmps10
    go_wp2_with (go_at_call 8; refine (HI.out _).mono ?_; rintro e w1 ⟨rfl, rfl⟩)
    go_ret2
    exact ⟨rfl, rfl⟩
  · have hv : FM.divV a b = FM.mul a (FM.invV b) := by unfold FM.divV; rw [if_neg h0]
    have he := invE_zero h0
    rw [hv]
    rw [he] at hI ⊢
    have HI := Lib.hid hI
    clear hI he hv h0
    go_enter Try.func10, Try.ntmps10
    go_wp2_with (first | (go_at_call 8; refine (HI.out _).mono ?_; rintro e w1 ⟨rfl, rfl⟩) | (go_at_call 17; refine (rmul_any _ _ ha hl _).mono ?_; rintro e w2 ⟨rfl, rfl⟩))
    go_ret2
    exact ⟨rfl, rfl⟩

theorem pw_split (a n k : Nat) (ha : a < 256) (h0 : a ≠ 0) (h : k < n) : FM.mul (FM.pw a (n - (k + 1))) a = FM.pw a (n - k) := by
  rw [npow_step a _ ha h0, show n - (k + 1) + 1 = n - k by omega]
theorem powV_zero (n : Int) : FM.powV 0 n = if n = 0 then 1 else 0 := by unfold FM.powV; rw [if_pos rfl]
theorem powE_zero (n : Int) : FM.powE 0 n = if n < 0 then 4 else 0 := by unfold FM.powE; rw [if_pos rfl]
theorem tmod_cyc (n : Int) (h : ¬ n.tmod 255 < 0) : n.tmod 255 = (FM.cyc n : Int) := by
  rw [FM.cyc_int]
  rcases Int.le_total 0 n with hn | hn
  · rw [Int.tmod_eq_emod_of_nonneg hn]
  · have := Int.neg_tmod (a := -n) (b := 255)
    rw [Int.neg_neg, Int.tmod_eq_emod_of_nonneg (by omega : 0 ≤ -n)] at this
    omega
theorem tmod_cyc' (n : Int) (h : n.tmod 255 < 0) : n.tmod 255 + 255 = (FM.cyc n : Int) ∧ -255 < n.tmod 255 := by
  rw [FM.cyc_int]
  rcases Int.le_total 0 n with hn | hn
  · rw [Int.tmod_eq_emod_of_nonneg hn] at h; omega
  · have := Int.neg_tmod (a := -n) (b := 255)
    rw [Int.neg_neg, Int.tmod_eq_emod_of_nonneg (by omega : 0 ≤ -n)] at this
    omega
set_option maxRecDepth 100000 in
theorem rpow_any (a : Nat) (n : Int) (ha : a < 256) (w : World) :
    Calls Try.prog 12 #[.int .u8 (a : Int), .int .i64 n] w fun e w' => e = .returned (.tuple #[.int .u8 (FM.powV a n : Int), .int .i64 (FM.powE a n)]) ∧ w = w' := by
  by_cases h0 : a = 0
  · subst h0
    rw [powV_zero, powE_zero]
    by_cases hn : n < 0
    · rw [if_neg (by omega), if_pos hn]
      go_enter Try.func12, Try.ntmps12
      go_wp2
      go_ret2
      exact ⟨rfl, rfl⟩
    · rw [if_neg hn]
      by_cases hz : n = 0
      · subst hz
        go_enter Try.func12, Try.ntmps12
        go_wp2
        go_ret2
        exact ⟨rfl, rfl⟩
      · rw [if_neg hz]
        have ht : (n == 0) = false := by simpa using hz
        go_enter Try.func12, Try.ntmps12
        go_wp2
        go_ret2
        exact ⟨rfl, rfl⟩
  · have ht : ((a : Int) == 0) = false := by simp; omega
    have hv : FM.powV a n = FM.pw a (FM.cyc n) := by unfold FM.powV; rw [if_neg h0]
    have he : FM.powE a n = 0 := by unfold FM.powE; rw [if_neg h0]
    rw [hv, he]
    clear hv he
    have hc := FM.cyc_lt n
    have h0' := Lib.hid h0
    clear h0
    by_cases hs : n.tmod 255 < 0
    · have hT := (tmod_cyc' n hs).1
      have hb := (tmod_cyc' n hs).2
      generalize FM.cyc n = c at hT hc ⊢
      have HT := Lib.hid hT
      clear hT
      go_enter Try.func12, Try.ntmps12
      go_wp2_with fail
      rw [HT.out]
      go_loop [1, 6] (fun n v => ∃ k : Nat, k ≤ c ∧ n = .int .i64 (k : Int) ∧ v = .int .u8 (FM.pw a (c - k) : Int)) (fun n _ => (intOf n).toNat)
      case atStart => exact ⟨c, Nat.le_refl _, rfl, by rw [Nat.sub_self, pw_zero]; rfl⟩
      case round =>
        obtain ⟨k, hk, rfl, rfl⟩ := hrel
        have hl := FM.pw_lt a (c - k)
        rcases Nat.eq_zero_or_pos k with hz | hz
        · subst hz
          go_wp2_with fail
          go_ret2
          exact ⟨rfl, rfl⟩
        · obtain ⟨j, rfl⟩ : ∃ j, k = j + 1 := ⟨k - 1, by omega⟩
          have HS := Lib.hid (pw_split a c j ha h0'.out (by omega))
          go_wp2_with (go_at_call 17; refine (rmul_any _ _ hl ha _).mono ?_; rintro e w1 ⟨rfl, rfl⟩)
          go_round
          case rel => exact ⟨j, by omega, by go_num, by rw [HS.out]⟩
          case measure => simp [intOf]
    · have hT := tmod_cyc n hs
      generalize FM.cyc n = c at hT hc ⊢
      have HT := Lib.hid hT
      clear hT
      have hs' : 0 ≤ n.tmod 255 := by omega
      go_enter Try.func12, Try.ntmps12
      go_wp2_with fail
      rw [HT.out]
      go_loop [1, 6] (fun n v => ∃ k : Nat, k ≤ c ∧ n = .int .i64 (k : Int) ∧ v = .int .u8 (FM.pw a (c - k) : Int)) (fun n _ => (intOf n).toNat)
      case atStart => exact ⟨c, Nat.le_refl _, rfl, by rw [Nat.sub_self, pw_zero]; rfl⟩
      case round =>
        obtain ⟨k, hk, rfl, rfl⟩ := hrel
        have hl := FM.pw_lt a (c - k)
        rcases Nat.eq_zero_or_pos k with hz | hz
        · subst hz
          go_wp2_with fail
          go_ret2
          exact ⟨rfl, rfl⟩
        · obtain ⟨j, rfl⟩ : ∃ j, k = j + 1 := ⟨k - 1, by omega⟩
          have HS := Lib.hid (pw_split a c j ha h0'.out (by omega))
          go_wp2_with (go_at_call 17; refine (rmul_any _ _ hl ha _).mono ?_; rintro e w1 ⟨rfl, rfl⟩)
          go_round
          case rel => exact ⟨j, by omega, by go_num, by rw [HS.out]⟩
          case measure => simp [intOf]
theorem powV_two (n : Int) : FM.powV 2 n = FM.E (FM.cyc n) := by
  unfold FM.powV
  rw [if_neg (by decide)]
  show FM.pw 2 _ = _
  unfold FM.pw
  rw [FM.lg_two, Nat.one_mul]
theorem rexp_any (n : Int) (w : World) :
    Calls Try.prog 19 #[.int .i64 n] w fun e w' => e = .returned (.int .u8 (FM.E (FM.cyc n) : Int)) ∧ w = w' := by
  have hp := rpow_any 2 n (by decide)
  rw [powV_two] at hp
  have HP := Lib.hid hp
  clear hp
  go_enter Try.func19, Try.ntmps19
  go_wp2_with (go_at_call 12; refine (HP.out _).mono ?_; rintro e w1 ⟨rfl, rfl⟩)
  go_ret
  exact ⟨rfl, rfl⟩

theorem E_zero : FM.E 0 = 1 := by decide +kernel
theorem E_next (k : Nat) : FM.mul (FM.E k) 2 = FM.E (k + 1) := by
  have := FM.E_mul k 1
  have e : FM.E 1 = 2 := by decide +kernel
  rwa [e] at this
set_option maxRecDepth 100000 in
theorem rlog_any (a : Nat) (ha : a < 256) (w : World) :
    Calls Try.prog 14 #[.int .u8 (a : Int)] w fun e w' => e = .returned (.tuple #[.int .i64 (FM.logV a : Int), .int .i64 (FM.errZ a)]) ∧ w = w' := by
  by_cases h0 : a = 0
  · subst h0
    show Calls _ _ #[.int .u8 0] w _
    go_enter Try.func14, Try.ntmps14
    go_wp2_with fail
    go_loop [4, 5] (fun v i => ∃ k : Nat, k ≤ 255 ∧ i = .int .i64 (k : Int) ∧ v = .int .u8 (FM.E k : Int)) (fun _ i => 255 - (intOf i).toNat)
    case atStart => exact ⟨0, Nat.zero_le _, rfl, by rw [E_zero]; rfl⟩
    case round =>
      obtain ⟨k, hk, rfl, rfl⟩ := hrel
      have hl := FM.E_lt k
      have hne := FM.E_ne k
      have ht : ((FM.E k : Int) == 0) = false := by simp; omega
      have HS := Lib.hid (E_next k)
      clear hne
      by_cases hlt : k < 255
      · go_wp2_with (go_at_call 17; refine (rmul_any _ 2 hl (by decide) _).mono ?_; rintro e w1 ⟨rfl, rfl⟩)
        go_round
        case rel => exact ⟨k + 1, by omega, by go_num, by rw [HS.out]⟩
        case measure => simp [intOf]; omega
      · go_wp2_with fail
        go_ret2
        exact ⟨rfl, rfl⟩
  · have hv : FM.logV a = FM.lg a := by unfold FM.logV; rw [if_neg h0]
    rw [hv, invE_zero h0]
    obtain ⟨m, hm⟩ : ∃ m, m = FM.lg a := ⟨_, rfl⟩
    have hm255 := FM.lg_lt ha h0
    have hE := FM.E_lg ha h0
    rw [← hm] at hm255 hE ⊢
    have HE := Lib.hid hE
    clear hv hm hE h0
    go_enter Try.func14, Try.ntmps14
    go_wp2_with fail
    go_loop [4, 5] (fun v i => ∃ k : Nat, k ≤ m ∧ i = .int .i64 (k : Int) ∧ v = .int .u8 (FM.E k : Int)) (fun _ i => m - (intOf i).toNat)
    case atStart => exact ⟨0, Nat.zero_le _, rfl, by rw [E_zero]; rfl⟩
    case round =>
      obtain ⟨k, hk, rfl, rfl⟩ := hrel
      have hl := FM.E_lt k
      have HS := Lib.hid (E_next k)
      by_cases hlt2 : k = m
      · subst hlt2
        have ht : ((FM.E k : Int) == (a : Int)) = true := by rw [HE.out]; simp
        go_wp2_with fail
        go_ret2
        exact ⟨rfl, rfl⟩
      · have ht : ((FM.E k : Int) == (a : Int)) = false := by
          rw [← HE.out]; simp only [beq_eq_false_iff_ne, ne_eq]
          intro h
          have := FM.E_inj (Int.ofNat_inj.1 h)
          omega
        have hkm : k < m := by omega
        clear hlt2
        go_wp2_with (go_at_call 17; refine (rmul_any _ 2 hl (by decide) _).mono ?_; rintro e w1 ⟨rfl, rfl⟩)
        go_round
        case rel => exact ⟨k + 1, by omega, by go_num, by rw [HS.out]⟩
        case measure => simp [intOf]; omega
theorem mod_any (n m : Int) (hm : 1 ≤ m) (hm2 : m ≤ 1000000) (w : World) :
    Calls Try.prog 20 #[.int .i64 n, .int .i64 m] w fun e w' => e = .returned (.int .i64 (n % m)) ∧ w = w' := by
  have hs : n.tmod m < 0 → n.tmod m + m = n % m ∧ -1000000 < n.tmod m := by
    intro h
    rcases Int.le_total 0 n with hn | hn
    · rw [Int.tmod_eq_emod_of_nonneg hn] at h
      have := Int.emod_nonneg n (by omega : m ≠ 0)
      omega
    · have e := Int.neg_tmod (a := -n) (b := m)
      rw [Int.neg_neg, Int.tmod_eq_emod_of_nonneg (by omega : 0 ≤ -n)] at e
      have h1 := Int.emod_lt_of_pos (-n) (by omega : 0 < m)
      have h2 := Int.emod_nonneg (-n) (by omega : m ≠ 0)
      refine ⟨?_, by omega⟩
      have h3 : n % m = (n.tmod m + m) % m := by
        rw [e, Int.add_emod_right]
        have h4 : (-((-n) % m)) % m = (-(-n)) % m := by
          have := Int.emod_add_mul_ediv (-n) m
          have h5 : -((-n) % m) = -(-n) + m * ((-n) / m) := by omega
          rw [h5, Int.add_mul_emod_self_left]
        rw [h4, Int.neg_neg]
      rw [h3, Int.emod_eq_of_lt (by omega) (by omega)]
  have hp : ¬ n.tmod m < 0 → n.tmod m = n % m := by
    intro h
    rcases Int.le_total 0 n with hn | hn
    · exact Int.tmod_eq_emod_of_nonneg hn
    · have e := Int.neg_tmod (a := -n) (b := m)
      rw [Int.neg_neg, Int.tmod_eq_emod_of_nonneg (by omega : 0 ≤ -n)] at e
      have h2 := Int.emod_nonneg (-n) (by omega : m ≠ 0)
      have h0 : (-n) % m = 0 := by omega
      have h6 : m ∣ -n := Int.dvd_of_emod_eq_zero h0
      rw [e, h0, Int.emod_eq_zero_of_dvd (Int.dvd_neg.1 h6)]; rfl
  have hm0 : ¬ m < 1 := by omega
  have hz : m ≠ 0 := by omega
  by_cases h : n.tmod m < 0
  · have hb := (hs h).2
    have HR := Lib.hid (hs h).1
    clear hs hp
    go_enter Try.func20, Try.ntmps20
    go_wp2_with fail
    go_ret
    exact ⟨ret_int HR.out, rfl⟩
  · have HR := Lib.hid (hp h)
    have h' : 0 ≤ n.tmod m := by omega
    clear hs hp
    go_enter Try.func20, Try.ntmps20
    go_wp2_with fail
    go_ret
    exact ⟨ret_int HR.out, rfl⟩
theorem mul_wake : FM.mul 2 128 = 29 := by decide +kernel
theorem exp_wake : FM.E (FM.cyc 8) = 29 := by decide +kernel
theorem awake_yes (w : World) : Calls Try.prog 15 #[] w fun e w' => e = .returned (.bool true) ∧ Dr w w' := by
  have hm := mul_any 2 128 (by decide) (by decide)
  rw [mul_wake] at hm
  have he := exp_any 8 (by decide) (by decide)
  rw [exp_wake] at he
  have HM := Lib.hid hm
  have HE := Lib.hid he
  clear hm he
  go_enter Try.func15, Try.ntmps15
  go_wp2_with (first | (go_at_call 16; refine (HM.out _).mono ?_; rintro e w1 ⟨rfl, hd1⟩) | (go_at_call 18; refine (HE.out _).mono ?_; rintro e w2 ⟨rfl, hd2⟩))
  go_ret
  exact ⟨rfl, hd1.trans hd2⟩
end Go.Proofs.Ytjnkigbcpofcmaa
