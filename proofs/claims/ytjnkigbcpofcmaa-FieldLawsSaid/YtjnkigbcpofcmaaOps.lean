/- field's functions. -/
import Derived.Lib.Hide
import Derived.WalkKit
import Derived.LoopTactic
import Derived.BigQuiet
import Derived.IntWalk
import Derived.Deep.QuietTactic
import Derived.Laws.Bits64
import Derived.Test.YtjnkigbcpofcmaaFMath
import Derived.Test.YtjnkigbcpofcmaaShelf
namespace Go.Proofs.Ytjnkigbcpofcmaa
open Go Go.RowKit Go.Shelf

theorem ret_int {k : IntKind} {a b : Int} (h : a = b) : Ending.returned (.int k a) = .returned (.int k b) := by rw [h]
theorem u8_int {a b : Int} (h : a = b) : Value.int .u8 a = .int .u8 b := by rw [h]
theorem xor_u8 (a b : Nat) (ha : a < 256) (hb : b < 256) : bits BinOp.xor IntKind.u8 (a : Int) (b : Int) = ((a ^^^ b : Nat) : Int) := by
  show IntKind.u8.wrap ((BitVec.ofInt 8 a ^^^ BitVec.ofInt 8 b).toNat : Int) = _
  rw [BitVec.toNat_xor, BitVec.ofInt_natCast, BitVec.ofInt_natCast, BitVec.toNat_ofNat, BitVec.toNat_ofNat, Nat.mod_eq_of_lt ha, Nat.mod_eq_of_lt hb]
  have := FM.xor_lt ha hb
  have e : IntKind.u8.wrap ((a ^^^ b : Nat) : Int) = ((a ^^^ b : Nat) : Int) % 256 := by simp [IntKind.wrap, IntKind.bits, IntKind.signed]
  rw [e]
  omega
theorem dbl_bits (a : Nat) (ha : a < 256) : bits BinOp.xor IntKind.u8 ((a : Int) * 2 % 256) ((a : Int) / 128 * 29) = (FM.dbl a : Int) := by
  rw [show ((a : Int) * 2 % 256) = ((a * 2 % 256 : Nat) : Int) by omega, show ((a : Int) / 128 * 29) = ((a / 128 * 29 : Nat) : Int) by omega, xor_u8 _ _ (by omega) (by omega)]
  rfl

theorem double_any (a : Nat) (ha : a < 256) (w : World) :
    Calls Try.prog 23 #[.int .u8 (a : Int)] w fun e w' => e = .returned (.int .u8 (FM.dbl a : Int)) ∧ w = w' := by
  go_enter Try.func23, Try.ntmps23
  go_wp2
  go_ret
  exact ⟨ret_int (dbl_bits a ha), rfl⟩
theorem cyc_wrap (n : Int) (h0 : -9223372036854775808 ≤ n) (h1 : n ≤ 9223372036854775807) : (wrap64 (n.tmod 255 + 255)).tmod 255 = (FM.cyc n : Int) := by
  rw [FM.cyc_int]
  have hw : wrap64 (n.tmod 255 + 255) = n.tmod 255 + 255 := by
    rcases Int.le_total 0 n with h | h
    · rw [Int.tmod_eq_emod_of_nonneg h]; unfold wrap64; omega
    · have := Int.neg_tmod (a := -n) (b := 255)
      rw [Int.neg_neg, Int.tmod_eq_emod_of_nonneg (by omega : 0 ≤ -n)] at this
      rw [this]; unfold wrap64; omega
  rw [hw]
  rcases Int.le_total 0 n with h | h
  · rw [Int.tmod_eq_emod_of_nonneg h, Int.tmod_eq_emod_of_nonneg (by omega)]; omega
  · have := Int.neg_tmod (a := -n) (b := 255)
    rw [Int.neg_neg, Int.tmod_eq_emod_of_nonneg (by omega : 0 ≤ -n)] at this
    rw [this, Int.tmod_eq_emod_of_nonneg (by omega)]; omega
theorem cycle_any (n : Int) (h0 : -9223372036854775808 ≤ n) (h1 : n ≤ 9223372036854775807) (w : World) :
    Calls Try.prog 22 #[.int .i64 n] w fun e w' => e = .returned (.int .i64 (FM.cyc n : Int)) ∧ w = w' := by
  go_enter Try.func22, Try.ntmps22
  go_wp2
  go_ret
  exact ⟨ret_int (cyc_wrap n h0 h1), rfl⟩

/-- w' is w but for drawn answers. -/
def Dr (w w' : World) : Prop := ∃ m, w' = w.drewN m
theorem Dr.refl (w : World) : Dr w w := ⟨0, rfl⟩
theorem Dr.drewN {w w1 : World} (h : Dr w w1) (n : Nat) : Dr w (w1.drewN n) := by
  obtain ⟨m, rfl⟩ := h; exact ⟨m + n, by rw [World.drewN_drewN]⟩
theorem Dr.trans {w w1 w2 : World} (h : Dr w w1) (h2 : Dr w1 w2) : Dr w w2 := by
  obtain ⟨n, rfl⟩ := h2; exact h.drewN n

theorem mask_u8 (x : Nat) (hx : x < 256) : bits BinOp.and IntKind.u8 (x : Int) 1 = ((x % 2 : Nat) : Int) := by
  have h : ∀ n : Fin 256, bits BinOp.and IntKind.u8 (n.val : Int) 1 = ((n.val % 2 : Nat) : Int) := by decide +kernel
  exact h ⟨x, hx⟩
theorem mul_step (a b k : Nat) (ha : a < 256) (hb : b < 256) : bits BinOp.xor IntKind.u8 (FM.dbl (FM.mulTo a b k) : Int) ((a : Int) * bits BinOp.and IntKind.u8 ((b : Int) / 2 ^ (7 - k)) 1 % 256) = (FM.mulTo a b (k + 1) : Int) := by
  have hd : b / 2 ^ (7 - k) ≤ b := Nat.div_le_self _ _
  rw [show (b : Int) / 2 ^ (7 - k) = ((b / 2 ^ (7 - k) : Nat) : Int) by rw [Int.natCast_ediv, Int.natCast_pow]; rfl, mask_u8 _ (by omega)]
  have e : ((a : Int) * ((b / 2 ^ (7 - k) % 2 : Nat) : Int) % 256) = ((FM.bitOf b (7 - k) a : Nat) : Int) := by
    unfold FM.bitOf
    rw [Nat.testBit_eq_decide_div_mod_eq]
    by_cases h : b / 2 ^ (7 - k) % 2 = 1
    · rw [h]; simp; omega
    · rw [show b / 2 ^ (7 - k) % 2 = 0 by omega]; simp
  rw [e, xor_u8 _ _ (FM.dbl_lt (FM.mulTo_lt ha k)) (FM.bitOf_lt ha)]
  rfl
theorem mul_any (a b : Nat) (ha : a < 256) (hb : b < 256) (w : World) :
    Calls Try.prog 16 #[.int .u8 (a : Int), .int .u8 (b : Int)] w fun e w' => e = .returned (.int .u8 (FM.mul a b : Int)) ∧ Dr w w' := by
  go_enter Try.func16, Try.ntmps16
  go_wp2
  go_loopw [5, 7] (fun p i wr => ∃ k : Nat, k ≤ 8 ∧ i = .int .i64 (k : Int) ∧ p = .int .u8 (FM.mulTo a b k : Int) ∧ Dr w wr) (fun _ i _ => 8 - (intOf i).toNat)
  case atStart => exact ⟨0, Nat.zero_le _, rfl, rfl, Dr.refl _⟩
  case round =>
    obtain ⟨k, hk, rfl, rfl, hd⟩ := hrel
    have hl := FM.mulTo_lt (b := b) ha k
    by_cases hlt : k < 8
    · go_wp2
      go_quiet ((go_at_call 23; refine Calls.quiet_of_same ((double_any _ hl _).mono fun _ _ h => ⟨h.1, h.2.symm⟩)))
      go_wp2
      go_roundw
      case rel => exact ⟨k + 1, by omega, by go_num, u8_int (mul_step a b k ha hb), hd.drewN _⟩
      case measure => simp [intOf]; omega
    · go_wp2
      go_ret
      exact ⟨ret_int (by rw [show k = 8 by omega]; rfl), hd⟩
end Go.Proofs.Ytjnkigbcpofcmaa
