/- field's functions that poly calls. -/
import Derived.Lib.Hide
import Derived.WalkKit
import Derived.LoopTactic
import Derived.BigQuiet
import Derived.IntWalk
import Derived.Deep.QuietTactic
import Derived.Laws.Bits64
import Derived.Test.YtfbogjibofeckaaPMath
import Derived.Test.YtfbogjibofeckaaShelf
namespace Go.Proofs.Ytfbogjibofeckaa
open Go Go.RowKit Go.Shelf

theorem ret_int {k : IntKind} {a b : Int} (h : a = b) : Ending.returned (.int k a) = .returned (.int k b) := by rw [h]
theorem u8_int {a b : Int} (h : a = b) : Value.int .u8 a = .int .u8 b := by rw [h]
theorem xor_u8 (a b : Nat) (ha : a < 256) (hb : b < 256) : bits BinOp.xor IntKind.u8 (a : Int) (b : Int) = ((a ^^^ b : Nat) : Int) := by
  show IntKind.u8.wrap ((BitVec.ofInt 8 a ^^^ BitVec.ofInt 8 b).toNat : Int) = _
  rw [BitVec.toNat_xor, BitVec.ofInt_natCast, BitVec.ofInt_natCast, BitVec.toNat_ofNat, BitVec.toNat_ofNat, Nat.mod_eq_of_lt ha, Nat.mod_eq_of_lt hb]
  have := FM.xor_lt ha hb
  have e : IntKind.u8.wrap ((a ^^^ b : Nat) : Int) = ((a ^^^ b : Nat) : Int) % 256 := by simp [IntKind.wrap, IntKind.bits, IntKind.signed]
  rw [e]
  omega
theorem dbl_bits (a : Nat) (ha : a < 256) : bits BinOp.xor IntKind.u8 ((a : Int) * 2 % 256) ((a : Int) / 128 * 29) = (FM.dbl a : Int) := by
  rw [show ((a : Int) * 2 % 256) = ((a * 2 % 256 : Nat) : Int) by omega, show ((a : Int) / 128 * 29) = ((a / 128 * 29 : Nat) : Int) by omega, xor_u8 _ _ (by omega) (by omega)]
  rfl

theorem double_any (a : Nat) (ha : a < 256) (w : World) :
    Calls Try.prog 53 #[.int .u8 (a : Int)] w fun e w' => e = .returned (.int .u8 (FM.dbl a : Int)) ∧ w = w' := by
  go_enter Try.func53, Try.ntmps53
  go_wp2
  go_ret
  exact ⟨ret_int (dbl_bits a ha), rfl⟩
/-- w' is w but for drawn answers. -/
def Dr (w w' : World) : Prop := ∃ m, w' = w.drewN m
theorem Dr.refl (w : World) : Dr w w := ⟨0, rfl⟩
theorem Dr.drewN {w w1 : World} (h : Dr w w1) (n : Nat) : Dr w (w1.drewN n) := by
  obtain ⟨m, rfl⟩ := h; exact ⟨m + n, by rw [World.drewN_drewN]⟩
theorem Dr.trans {w w1 w2 : World} (h : Dr w w1) (h2 : Dr w1 w2) : Dr w w2 := by
  obtain ⟨n, rfl⟩ := h2; exact h.drewN n

theorem mask_u8 (x : Nat) (hx : x < 256) : bits BinOp.and IntKind.u8 (x : Int) 1 = ((x % 2 : Nat) : Int) := by
  have h : ∀ n : Fin 256, bits BinOp.and IntKind.u8 (n.val : Int) 1 = ((n.val % 2 : Nat) : Int) := by decide +kernel
  exact h ⟨x, hx⟩
theorem mul_step (a b k : Nat) (ha : a < 256) (hb : b < 256) : bits BinOp.xor IntKind.u8 (FM.dbl (FM.mulTo a b k) : Int) ((a : Int) * bits BinOp.and IntKind.u8 ((b : Int) / 2 ^ (7 - k)) 1 % 256) = (FM.mulTo a b (k + 1) : Int) := by
  have hd : b / 2 ^ (7 - k) ≤ b := Nat.div_le_self _ _
  rw [show (b : Int) / 2 ^ (7 - k) = ((b / 2 ^ (7 - k) : Nat) : Int) by rw [Int.natCast_ediv, Int.natCast_pow]; rfl, mask_u8 _ (by omega)]
  have e : ((a : Int) * ((b / 2 ^ (7 - k) % 2 : Nat) : Int) % 256) = ((FM.bitOf b (7 - k) a : Nat) : Int) := by
    unfold FM.bitOf
    rw [Nat.testBit_eq_decide_div_mod_eq]
    by_cases h : b / 2 ^ (7 - k) % 2 = 1
    · rw [h]; simp; omega
    · rw [show b / 2 ^ (7 - k) % 2 = 0 by omega]; simp
  rw [e, xor_u8 _ _ (FM.dbl_lt (FM.mulTo_lt ha k)) (FM.bitOf_lt ha)]
  rfl
theorem mul_any (a b : Nat) (ha : a < 256) (hb : b < 256) (w : World) :
    Calls Try.prog 46 #[.int .u8 (a : Int), .int .u8 (b : Int)] w fun e w' => e = .returned (.int .u8 (FM.mul a b : Int)) ∧ Dr w w' := by
  go_enter Try.func46, Try.ntmps46
  go_wp2
  go_loopw [5, 7] (fun p i wr => ∃ k : Nat, k ≤ 8 ∧ i = .int .i64 (k : Int) ∧ p = .int .u8 (FM.mulTo a b k : Int) ∧ Dr w wr) (fun _ i _ => 8 - (intOf i).toNat)
  case atStart => exact ⟨0, Nat.zero_le _, rfl, rfl, Dr.refl _⟩
  case round =>
    obtain ⟨k, hk, rfl, rfl, hd⟩ := hrel
    have hl := FM.mulTo_lt (b := b) ha k
    by_cases hlt : k < 8
    · go_wp2
      go_quiet ((go_at_call 53; refine Calls.quiet_of_same ((double_any _ hl _).mono fun _ _ h => ⟨h.1, h.2.symm⟩)))
      go_wp2
      go_roundw
      case rel => exact ⟨k + 1, by omega, by go_num, u8_int (mul_step a b k ha hb), hd.drewN _⟩
      case measure => simp [intOf]; omega
    · go_wp2
      go_ret
      exact ⟨ret_int (by rw [show k = 8 by omega]; rfl), hd⟩
theorem lt_bitLen (n : Nat) (h : n < 2 ^ 64) : n < 2 ^ Lib.bitLen n := by
  induction n using Nat.strongRecOn with
  | ind n ih =>
    by_cases e : n = 0
    · subst e; decide
    · rw [Lib.bitLen_half n e h, Nat.add_comm, Nat.pow_succ]
      have := ih (n / 2) (by omega) (by omega)
      omega
theorem mask1 (x : Int) : bits BinOp.and IntKind.i64 x 1 = x % 2 := by
  show IntKind.i64.wrap ((BitVec.ofInt 64 x &&& BitVec.ofInt 64 1).toNat : Int) = _
  have h1 : ((BitVec.ofInt 64 x).toNat : Int) = x % 18446744073709551616 := by
    rw [BitVec.toNat_ofInt]
    have : 0 ≤ x % ((2 ^ 64 : Nat) : Int) := Int.emod_nonneg _ (by decide)
    rw [Int.toNat_of_nonneg this]; rfl
  have h2 : (BitVec.ofInt 64 1).toNat = 2 ^ 1 - 1 := by decide
  rw [BitVec.toNat_and, h2, Nat.and_two_pow_sub_one_eq_mod, IntKind.wrap_i64]
  omega
attribute [local go_sem] mask1

theorem power_E (i n : Nat) (hn : n < 9223372036854775808) (w : World) :
    Calls Try.prog 54 #[.int .u8 (FM.E i : Int), .int .i64 (n : Int)] w fun e w' => e = .returned (.int .u8 (FM.E (i * n) : Int)) ∧ Dr w w' := by
  have HL := Lib.hid (lt_bitLen n (by omega))
  have hlen := bitsLen_any (n : Int)
  rw [Int.toNat_natCast] at hlen
  have HLL := Lib.hid (Lib.bitLen_le n 64 (by omega) (by omega))
  generalize Lib.bitLen n = L at *
  have HLEN := Lib.hid hlen
  clear hlen
  go_enter Try.func54, Try.ntmps54
  go_wp2_with (go_at_call 55; refine (HLEN.out _ (by omega) (by omega)).mono ?_; rintro e w' ⟨rfl, rfl⟩)
  go_loopw [0, 5, 10] (fun a r c wr => ∃ k : Nat, k ≤ L ∧ c = .int .i64 (k : Int) ∧ a = .int .u8 (FM.E (i * 2 ^ k) : Int) ∧ r = .int .u8 (FM.E (i * (n % 2 ^ k)) : Int) ∧ Dr w' wr) (fun _ _ c _ => L - (intOf c).toNat)
  case atStart => exact ⟨0, Nat.zero_le _, rfl, by rw [Nat.pow_zero, Nat.mul_one], by rw [Nat.pow_zero, Nat.mod_one, Nat.mul_zero]; rfl, Dr.refl _⟩
  case round =>
    obtain ⟨k, hk, rfl, rfl, rfl, hd⟩ := hrel
    by_cases hlt : k < L
    · have hk64 : k < 64 := by have := HLL.out; omega
      have e1 := FM.E_lt (i * 2 ^ k)
      have e2 := FM.E_lt (i * (n % 2 ^ k))
      have hT : ((n : Int) / 2 ^ k % 2) = ((n / 2 ^ k % 2 : Nat) : Int) := by rw [Int.natCast_emod, Int.natCast_ediv, Int.natCast_pow]; rfl
      by_cases hb : n / 2 ^ k % 2 = 1
      · have HS := Lib.hid (FM.pow_step1 i n k hb)
        have HQ := Lib.hid (FM.pow_sq i k)
        have hT1 : ((n : Int) / 2 ^ k % 2 == 1) = true := by rw [hT, hb]; rfl
        clear hT hb
        go_wp2_with (go_at_call 46; refine (mul_any _ _ (by assumption) (by assumption) _).mono ?_; rintro e w1 ⟨rfl, hd1⟩)
        rename_i w1' hd1'
        go_roundw
        case rel => exact ⟨k + 1, by omega, by go_num, u8_int (by rw [HQ.out]), u8_int (by rw [HS.out]), (hd.trans hd1').trans hd1⟩
        case measure => simp [intOf]; omega
      · have HS := Lib.hid (FM.pow_step0 i n k hb)
        have HQ := Lib.hid (FM.pow_sq i k)
        have hT1 : ((n : Int) / 2 ^ k % 2 == 1) = false := by rw [hT]; simp; omega
        clear hT hb
        go_wp2_with (go_at_call 46; refine (mul_any _ _ (by assumption) (by assumption) _).mono ?_; rintro e w1 ⟨rfl, hd1⟩)
        go_roundw
        case rel => exact ⟨k + 1, by omega, by go_num, u8_int (by rw [HQ.out]), u8_int (by rw [HS.out]), hd.trans hd1⟩
        case measure => simp [intOf]; omega
    · go_wp2_with fail
      go_ret
      obtain rfl : k = L := by omega
      exact ⟨ret_int (by rw [Nat.mod_eq_of_lt HL.out]), hd⟩

/-- The powers of an element that is not 0. -/
theorem power_any (a n : Nat) (ha : a < 256) (h0 : a ≠ 0) (hn : n < 9223372036854775808) (w : World) :
    Calls Try.prog 54 #[.int .u8 (a : Int), .int .i64 (n : Int)] w fun e w' => e = .returned (.int .u8 (FM.pw a n : Int)) ∧ Dr w w' := by
  have := power_E (FM.lg a) n hn w
  rwa [FM.E_lg ha h0] at this
theorem ret_pair {k l : IntKind} {a b c d : Int} (h : a = b) (g : c = d) : Ending.returned (.tuple #[.int k a, .int l c]) = .returned (.tuple #[.int k b, .int l d]) := by rw [h, g]
theorem inverse_any (a : Nat) (ha : a < 256) (w : World) :
    Calls Try.prog 51 #[.int .u8 (a : Int)] w fun e w' => e = .returned (.tuple #[.int .u8 (FM.invV a : Int), .int .i64 (FM.errZ a)]) ∧ Dr w w' := by
  by_cases h0 : a = 0
  · subst h0
    go_enter Try.func51, Try.ntmps51
    go_wp2
    go_ret2
    exact ⟨rfl, Dr.refl _⟩
  · have ht : ((a : Int) == 0) = false := by simp; omega
    have hp := power_any a 254 ha h0 (by decide)
    have hi : FM.invV a = FM.pw a 254 := by unfold FM.invV; rw [if_neg h0]
    have he : FM.errZ a = 0 := by unfold FM.errZ; rw [if_neg h0]
    rw [hi, he]
    have HP := Lib.hid hp
    clear hp hi he h0
    go_enter Try.func51, Try.ntmps51
    go_wp2_with (go_at_call 54; refine (HP.out _).mono ?_; rintro e w1 ⟨rfl, hd⟩)
    go_ret2
    exact ⟨rfl, hd⟩
theorem invE_zero {a : Nat} (h : a ≠ 0) : FM.errZ a = 0 := by unfold FM.errZ; rw [if_neg h]
theorem divide_any (a b : Nat) (ha : a < 256) (hb : b < 256) (w : World) :
    Calls Try.prog 39 #[.int .u8 (a : Int), .int .u8 (b : Int)] w fun e w' => e = .returned (.tuple #[.int .u8 (FM.divV a b : Int), .int .i64 (FM.errZ b)]) ∧ Dr w w' := by
  have hI := inverse_any b hb
  have hl := FM.invV_lt b
  by_cases h0 : b = 0
  · subst h0
    have HI := Lib.hid hI
    clear hI
    go_enter Try.func39, Try.ntmps39
    go_wp2_with (go_at_call 51; refine (HI.out _).mono ?_; rintro e w1 ⟨rfl, hd⟩)
    go_ret2
    exact ⟨rfl, hd⟩
  · have hv : FM.divV a b = FM.mul a (FM.invV b) := by unfold FM.divV; rw [if_neg h0]
    have he := invE_zero h0
    rw [hv]
    rw [he] at hI ⊢
    have HI := Lib.hid hI
    clear hI he hv h0
    go_enter Try.func39, Try.ntmps39
    go_wp2_with (first | (go_at_call 51; refine (HI.out _).mono ?_; rintro e w1 ⟨rfl, hd⟩) | (go_at_call 46; refine (mul_any _ _ ha hl _).mono ?_; rintro e w2 ⟨rfl, hd2⟩))
    go_ret2
    exact ⟨rfl, hd.trans hd2⟩
end Go.Proofs.Ytfbogjibofeckaa
