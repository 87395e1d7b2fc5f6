/- How many limbs sums and products have. -/
import Derived.Test.YtamniclnhenmgaaDoorMath
namespace Go.Proofs.YtamniclnhenmgaaDoor.M
theorem dig_len_add {x y k : Nat} (hx : (dig x).length ≤ k) (hy : (dig y).length ≤ k) : (dig (x + y)).length ≤ k + 1 := by
  rw [dig_len_le] at *
  rw [Nat.pow_succ]; omega
theorem dig_len_mul {x y j k : Nat} (hx : (dig x).length ≤ j) (hy : (dig y).length ≤ k) : (dig (x * y)).length ≤ j + k := by
  rw [dig_len_le] at *
  rw [Nat.pow_add]
  exact Nat.mul_lt_mul_of_lt_of_le hx (Nat.le_of_lt hy) (Nat.pow_pos (by decide))
theorem dig_len_mono {x y : Nat} (h : x ≤ y) : (dig x).length ≤ (dig y).length := dig_len_le.2 (Nat.lt_of_le_of_lt h (dig_len_le.1 (Nat.le_refl _)))
end Go.Proofs.YtamniclnhenmgaaDoor.M
