/- field's powers and logarithms. -/
import Derived.Test.YtjnkigbcpofcmaaOps
namespace Go.Proofs.Ytjnkigbcpofcmaa
open Go Go.RowKit Go.Shelf

theorem lt_bitLen (n : Nat) (h : n < 2 ^ 64) : n < 2 ^ Lib.bitLen n := by
  induction n using Nat.strongRecOn with
  | ind n ih =>
    by_cases e : n = 0
    · subst e; decide
    · rw [Lib.bitLen_half n e h, Nat.add_comm, Nat.pow_succ]
      have := ih (n / 2) (by omega) (by omega)
      omega
theorem mask1 (x : Int) : bits BinOp.and IntKind.i64 x 1 = x % 2 := by
  show IntKind.i64.wrap ((BitVec.ofInt 64 x &&& BitVec.ofInt 64 1).toNat : Int) = _
  have h1 : ((BitVec.ofInt 64 x).toNat : Int) = x % 18446744073709551616 := by
    rw [BitVec.toNat_ofInt]
    have : 0 ≤ x % ((2 ^ 64 : Nat) : Int) := Int.emod_nonneg _ (by decide)
    rw [Int.toNat_of_nonneg this]; rfl
  have h2 : (BitVec.ofInt 64 1).toNat = 2 ^ 1 - 1 := by decide
  rw [BitVec.toNat_and, h2, Nat.and_two_pow_sub_one_eq_mod, IntKind.wrap_i64]
  omega
attribute [local go_sem] mask1

theorem power_E (i n : Nat) (hn : n < 9223372036854775808) (w : World) :
    Calls Try.prog 21 #[.int .u8 (FM.E i : Int), .int .i64 (n : Int)] w fun e w' => e = .returned (.int .u8 (FM.E (i * n) : Int)) ∧ Dr w w' := by
  have HL := Lib.hid (lt_bitLen n (by omega))
  have hlen := bitsLen_any (n : Int)
  rw [Int.toNat_natCast] at hlen
  have HLL := Lib.hid (Lib.bitLen_le n 64 (by omega) (by omega))
  generalize Lib.bitLen n = L at *
  have HLEN := Lib.hid hlen
  clear hlen
  go_enter Try.func21, Try.ntmps21
  go_wp2_with (go_at_call 24; refine (HLEN.out _ (by omega) (by omega)).mono ?_; rintro e w' ⟨rfl, rfl⟩)
  go_loopw [0, 5, 10] (fun a r c wr => ∃ k : Nat, k ≤ L ∧ c = .int .i64 (k : Int) ∧ a = .int .u8 (FM.E (i * 2 ^ k) : Int) ∧ r = .int .u8 (FM.E (i * (n % 2 ^ k)) : Int) ∧ Dr w' wr) (fun _ _ c _ => L - (intOf c).toNat)
  case atStart => exact ⟨0, Nat.zero_le _, rfl, by rw [Nat.pow_zero, Nat.mul_one], by rw [Nat.pow_zero, Nat.mod_one, Nat.mul_zero]; rfl, Dr.refl _⟩
  case round =>
    obtain ⟨k, hk, rfl, rfl, rfl, hd⟩ := hrel
    by_cases hlt : k < L
    · have hk64 : k < 64 := by have := HLL.out; omega
      have e1 := FM.E_lt (i * 2 ^ k)
      have e2 := FM.E_lt (i * (n % 2 ^ k))
      have hT : ((n : Int) / 2 ^ k % 2) = ((n / 2 ^ k % 2 : Nat) : Int) := by rw [Int.natCast_emod, Int.natCast_ediv, Int.natCast_pow]; rfl
      by_cases hb : n / 2 ^ k % 2 = 1
      · have HS := Lib.hid (FM.pow_step1 i n k hb)
        have HQ := Lib.hid (FM.pow_sq i k)
        have hT1 : ((n : Int) / 2 ^ k % 2 == 1) = true := by rw [hT, hb]; rfl
        clear hT hb
        go_wp2_with (go_at_call 16; refine (mul_any _ _ (by assumption) (by assumption) _).mono ?_; rintro e w1 ⟨rfl, hd1⟩)
        rename_i w1' hd1'
        go_roundw
        case rel => exact ⟨k + 1, by omega, by go_num, u8_int (by rw [HQ.out]), u8_int (by rw [HS.out]), (hd.trans hd1').trans hd1⟩
        case measure => simp [intOf]; omega
      · have HS := Lib.hid (FM.pow_step0 i n k hb)
        have HQ := Lib.hid (FM.pow_sq i k)
        have hT1 : ((n : Int) / 2 ^ k % 2 == 1) = false := by rw [hT]; simp; omega
        clear hT hb
        go_wp2_with (go_at_call 16; refine (mul_any _ _ (by assumption) (by assumption) _).mono ?_; rintro e w1 ⟨rfl, hd1⟩)
        go_roundw
        case rel => exact ⟨k + 1, by omega, by go_num, u8_int (by rw [HQ.out]), u8_int (by rw [HS.out]), hd.trans hd1⟩
        case measure => simp [intOf]; omega
    · go_wp2_with fail
      go_ret
      obtain rfl : k = L := by omega
      exact ⟨ret_int (by rw [Nat.mod_eq_of_lt HL.out]), hd⟩

/-- The powers of an element that is not 0. -/
theorem power_any (a n : Nat) (ha : a < 256) (h0 : a ≠ 0) (hn : n < 9223372036854775808) (w : World) :
    Calls Try.prog 21 #[.int .u8 (a : Int), .int .i64 (n : Int)] w fun e w' => e = .returned (.int .u8 (FM.pw a n : Int)) ∧ Dr w w' := by
  have := power_E (FM.lg a) n hn w
  rwa [FM.E_lg ha h0] at this
theorem ret_pair {k l : IntKind} {a b c d : Int} (h : a = b) (g : c = d) : Ending.returned (.tuple #[.int k a, .int l c]) = .returned (.tuple #[.int k b, .int l d]) := by rw [h, g]
theorem inverse_any (a : Nat) (ha : a < 256) (w : World) :
    Calls Try.prog 7 #[.int .u8 (a : Int)] w fun e w' => e = .returned (.tuple #[.int .u8 (FM.invV a : Int), .int .i64 (FM.errZ a)]) ∧ Dr w w' := by
  by_cases h0 : a = 0
  · subst h0
    go_enter Try.func7, Try.ntmps7
    go_wp2
    go_ret2
    exact ⟨rfl, Dr.refl _⟩
  · have ht : ((a : Int) == 0) = false := by simp; omega
    have hp := power_any a 254 ha h0 (by decide)
    have hi : FM.invV a = FM.pw a 254 := by unfold FM.invV; rw [if_neg h0]
    have he : FM.errZ a = 0 := by unfold FM.errZ; rw [if_neg h0]
    rw [hi, he]
    have HP := Lib.hid hp
    clear hp hi he h0
    go_enter Try.func7, Try.ntmps7
    go_wp2_with (go_at_call 21; refine (HP.out _).mono ?_; rintro e w1 ⟨rfl, hd⟩)
    go_ret2
    exact ⟨rfl, hd⟩
theorem invE_zero {a : Nat} (h : a ≠ 0) : FM.errZ a = 0 := by unfold FM.errZ; rw [if_neg h]
theorem divide_any (a b : Nat) (ha : a < 256) (hb : b < 256) (w : World) :
    Calls Try.prog 9 #[.int .u8 (a : Int), .int .u8 (b : Int)] w fun e w' => e = .returned (.tuple #[.int .u8 (FM.divV a b : Int), .int .i64 (FM.errZ b)]) ∧ Dr w w' := by
  have hI := inverse_any b hb
  have hl := FM.invV_lt b
  by_cases h0 : b = 0
  · subst h0
    have HI := Lib.hid hI
    clear hI
    go_enter Try.func9, Try.ntmps9
    go_wp2_with (go_at_call 7; refine (HI.out _).mono ?_; rintro e w1 ⟨rfl, hd⟩)
    go_ret2
    exact ⟨rfl, hd⟩
  · have hv : FM.divV a b = FM.mul a (FM.invV b) := by unfold FM.divV; rw [if_neg h0]
    have he := invE_zero h0
    rw [hv]
    rw [he] at hI ⊢
    have HI := Lib.hid hI
    clear hI he hv h0
    go_enter Try.func9, Try.ntmps9
    go_wp2_with (first | (go_at_call 7; refine (HI.out _).mono ?_; rintro e w1 ⟨rfl, hd⟩) | (go_at_call 16; refine (mul_any _ _ ha hl _).mono ?_; rintro e w2 ⟨rfl, hd2⟩))
    go_ret2
    exact ⟨rfl, hd.trans hd2⟩
theorem pow_any (a : Nat) (n : Int) (ha : a < 256) (hn0 : -9223372036854775808 ≤ n) (hn1 : n ≤ 9223372036854775807) (w : World) :
    Calls Try.prog 11 #[.int .u8 (a : Int), .int .i64 n] w fun e w' => e = .returned (.tuple #[.int .u8 (FM.powV a n : Int), .int .i64 (FM.powE a n)]) ∧ Dr w w' := by
  by_cases h0 : a = 0
  · subst h0
    unfold FM.powV FM.powE
    rw [if_pos rfl, if_pos rfl]
    by_cases hn : n < 0
    · rw [if_neg (by omega), if_pos hn]
      go_enter Try.func11, Try.ntmps11
      go_wp2
      go_ret2
      exact ⟨rfl, Dr.refl _⟩
    · rw [if_neg hn]
      by_cases hz : n = 0
      · subst hz
        go_enter Try.func11, Try.ntmps11
        go_wp2
        go_ret2
        exact ⟨rfl, Dr.refl _⟩
      · rw [if_neg hz]
        have ht : (n == 0) = false := by simpa using hz
        go_enter Try.func11, Try.ntmps11
        go_wp2
        go_ret2
        exact ⟨rfl, Dr.refl _⟩
  · have ht : ((a : Int) != 0) = true := by simp; omega
    have hp := power_any a (FM.cyc n) ha h0 (by have := FM.cyc_lt n; omega)
    have hv : FM.powV a n = FM.pw a (FM.cyc n) := by unfold FM.powV; rw [if_neg h0]
    have he : FM.powE a n = 0 := by unfold FM.powE; rw [if_neg h0]
    rw [hv, he]
    have HP := Lib.hid hp
    clear hp hv he h0
    go_enter Try.func11, Try.ntmps11
    go_wp2_with (first | (go_at_call 22; refine (cycle_any _ hn0 hn1 _).mono ?_; rintro e w1 ⟨rfl, rfl⟩) | (go_at_call 21; refine (HP.out _).mono ?_; rintro e w2 ⟨rfl, hd⟩))
    go_ret2
    exact ⟨rfl, hd⟩
theorem exp_any (n : Int) (hn0 : -9223372036854775808 ≤ n) (hn1 : n ≤ 9223372036854775807) (w : World) :
    Calls Try.prog 18 #[.int .i64 n] w fun e w' => e = .returned (.int .u8 (FM.E (FM.cyc n) : Int)) ∧ Dr w w' := by
  have hp := power_E 1 (FM.cyc n) (by have := FM.cyc_lt n; omega)
  rw [Nat.one_mul] at hp
  have HP := Lib.hid hp
  clear hp
  go_enter Try.func18, Try.ntmps18
  go_wp2_with (first | (go_at_call 22; refine (cycle_any _ hn0 hn1 _).mono ?_; rintro e w1 ⟨rfl, rfl⟩) | (go_at_call 21; refine (HP.out _).mono ?_; rintro e w2 ⟨rfl, hd⟩))
  go_ret
  exact ⟨rfl, hd⟩
end Go.Proofs.Ytjnkigbcpofcmaa
