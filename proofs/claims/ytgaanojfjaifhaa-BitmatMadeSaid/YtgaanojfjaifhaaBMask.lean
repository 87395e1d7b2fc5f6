/- v &^ mask, one of numbers. -/
import Derived.Test.YtgaanojfjaifhaaBAwake
namespace Go.Proofs.Ytgaanojfjaifhaa.B
open Go Go.RowKit Go.Shelf
open BM (bt)

/-- 2 to the power of k, less 1. -/
theorem mask_int (k : Nat) (hk : k < 64) : IntKind.u64.wrap (IntKind.u64.wrap (2 ^ k) - 1) = ((2 ^ k - 1 : Nat) : Int) := by
  have h1 : 2 ^ k < 18446744073709551616 := Nat.pow_lt_pow_right (a := 2) (by decide) (show k < 64 from hk)
  have h2 : 0 < 2 ^ k := Nat.pow_pos (by decide)
  rw [show ((2 : Int) ^ k) = ((2 ^ k : Nat) : Int) by rw [Int.natCast_pow]; rfl, u64_wrap _ h1, show (((2 ^ k : Nat) : Int) - 1) = ((2 ^ k - 1 : Nat) : Int) by omega, u64_wrap _ (by omega)]
theorem masked (v : V) (k : Nat) (hk : k < 64) : ∃ y : V, bits BinOp.and IntKind.u64 (v.toNat : Int) (IntKind.u64.wrap (IntKind.u64.wrap (2 ^ k) - 1)) = (y.toNat : Int) ∧ fitB y k = true := by
  have h1 : 2 ^ k < 18446744073709551616 := Nat.pow_lt_pow_right (a := 2) (by decide) (show k < 64 from hk)
  rw [mask_int k hk]
  refine ⟨v &&& BitVec.ofNat 64 (2 ^ k - 1), ?_, ?_⟩
  · rw [and_u64 _ _ v.lt (by omega), BitVec.toNat_and, BitVec.toNat_ofNat, Nat.mod_eq_of_lt (show 2 ^ k - 1 < 2 ^ 64 by omega)]
  · rw [fitB_iff]
    intro j hj
    rw [← BM.bt_nat, BitVec.toNat_and, BitVec.toNat_ofNat, Nat.mod_eq_of_lt (show 2 ^ k - 1 < 2 ^ 64 by omega), Nat.and_two_pow_sub_one_eq_mod, Nat.testBit_mod_two_pow, decide_eq_false (by omega), Bool.false_and]
end Go.Proofs.Ytgaanojfjaifhaa.B
