/- The guess over limbs, and what is left behind it. -/
import Derived.Test.YtamniclnhenmgaaDoorDivMath
namespace Go.Proofs.YtamniclnhenmgaaDoor.M

theorem val_three (ps : List Int) (n : Nat) (h : ps.length = n + 2 + 1) : val ps = (el ps (n + 2) * 281474976710656 + el ps (n + 1) * 16777216 + el ps n) * 16777216 ^ n + val (ps.take n) := by
  have h1 := val_take_succ ps n (by omega)
  have h2 := val_take_succ ps (n + 1) (by omega)
  have h3 := val_take_succ ps (n + 2) (by omega)
  rw [List.take_of_length_le (by omega)] at h3
  have q2 : (16777216 : Int) ^ (n + 2) = 16777216 ^ n * 281474976710656 := by rw [Int.pow_succ, Int.pow_succ, Int.mul_assoc]; rfl
  have q1 : (16777216 : Int) ^ (n + 1) = 16777216 ^ n * 16777216 := Int.pow_succ ..
  rw [h3, h2, h1, q2, q1]
  clear h1 h2 h3 q1 q2 h
  generalize (16777216 : Int) ^ n = K
  generalize el ps n = a
  generalize el ps (n + 1) = b
  generalize el ps (n + 2) = c
  grind
theorem val_two (ds : List Int) (n : Nat) (h : ds.length = n + 2) : val ds = (el ds (n + 1) * 16777216 + el ds n) * 16777216 ^ n + val (ds.take n) := by
  have h1 := val_take_succ ds n (by omega)
  have h2 := val_take_succ ds (n + 1) (by omega)
  rw [List.take_of_length_le (by omega)] at h2
  have q1 : (16777216 : Int) ^ (n + 1) = 16777216 ^ n * 16777216 := Int.pow_succ ..
  rw [h2, h1, q1]
  clear h1 h2 q1 h
  generalize (16777216 : Int) ^ n = K
  generalize el ds n = a
  generalize el ds (n + 1) = b
  grind

theorem val_pos_top {ds : List Int} {n : Nat} (hl : ds.length = n + 2) (hd : Lim ds) (htop : 8388608 ≤ el ds (n + 1)) : 0 < val ds := by
  have h := val_two ds n hl
  have h1 := val_nonneg (hd.take n)
  have h2 := hd.get n
  have h3 := pow_pos n
  have := Int.mul_pos (show 0 < el ds (n + 1) * 16777216 + el ds n by omega) h3
  omega

theorem guess_int {ps ds : List Int} {n : Nat} (hlp : ps.length = n + 2 + 1) (hld : ds.length = n + 2) (hp : Lim ps) (hd : Lim ds) (htop : 8388608 ≤ el ds (n + 1)) (hlt : val ps < val ds * 16777216) :
    val ps / val ds ≤ min ((el ps (n + 2) * 281474976710656 + el ps (n + 1) * 16777216 + el ps n) / (el ds (n + 1) * 16777216 + el ds n)) 16777215 ∧
    min ((el ps (n + 2) * 281474976710656 + el ps (n + 1) * 16777216 + el ps n) / (el ds (n + 1) * 16777216 + el ds n)) 16777215 ≤ val ps / val ds + 1 ∧
    0 ≤ min ((el ps (n + 2) * 281474976710656 + el ps (n + 1) * 16777216 + el ps n) / (el ds (n + 1) * 16777216 + el ds n)) 16777215 := by
  have b2 := hp.get (n + 2)
  have b1 := hp.get (n + 1)
  have b0 := hp.get n
  have f1 := hd.get (n + 1)
  have f0 := hd.get n
  have e1 := val_three ps n hlp
  have e2 := val_two ds n hld
  have l1 := val_lt (hp.take n)
  have l2 := val_lt (hd.take n)
  have m1 := val_nonneg (hp.take n)
  have m2 := val_nonneg (hd.take n)
  have n1 := val_nonneg hp
  have n2 := val_nonneg hd
  rw [List.length_take, Nat.min_eq_left (by omega)] at l1 l2
  generalize hP3 : el ps (n + 2) * 281474976710656 + el ps (n + 1) * 16777216 + el ps n = P3 at *
  generalize hD2 : el ds (n + 1) * 16777216 + el ds n = D2 at *
  generalize val (ps.take n) = p at *
  generalize val (ds.take n) = d at *
  generalize val ps = P at *
  generalize val ds = D at *
  obtain ⟨P3', rfl⟩ := Int.eq_ofNat_of_zero_le (show 0 ≤ P3 by omega)
  obtain ⟨D2', rfl⟩ := Int.eq_ofNat_of_zero_le (show 0 ≤ D2 by omega)
  obtain ⟨p', rfl⟩ := Int.eq_ofNat_of_zero_le m1
  obtain ⟨d', rfl⟩ := Int.eq_ofNat_of_zero_le m2
  obtain ⟨P', rfl⟩ := Int.eq_ofNat_of_zero_le n1
  obtain ⟨D', rfl⟩ := Int.eq_ofNat_of_zero_le n2
  rw [← pow_cast] at e1 e2 l1 l2
  have k := guess_ok (P := P') (D := D') (K := 16777216 ^ n) (P3 := P3') (D2 := D2') (p := p') (d := d') (Nat.pow_pos (by decide)) (by exact_mod_cast e1) (by exact_mod_cast l1) (by exact_mod_cast e2) (by exact_mod_cast l2) (by omega) (by omega)
  rw [← Int.natCast_ediv, ← Int.natCast_ediv]
  revert k
  generalize P3' / D2' = x
  generalize P' / D' = y
  intro k
  omega

/-- What is left when the quotient, or one more, was taken out. -/
theorem take_zero {P D q : Int} (hD : 0 < D) (h : q = P / D) : 0 ≤ P + -q * D ∧ P + -q * D < D ∧ P + -q * D = P % D := by
  have h1 := Int.mul_ediv_add_emod P D
  have h2 := Int.emod_nonneg P (show D ≠ 0 by omega)
  have h3 := Int.emod_lt_of_pos P hD
  have h4 : -q * D = -(D * (P / D)) := by rw [h, Int.neg_mul, Int.mul_comm]
  omega
theorem take_one {P D q : Int} (hD : 0 < D) (h : q = P / D + 1) : P + -q * D < 0 ∧ -D ≤ P + -q * D ∧ P + -q * D + D = P % D := by
  have h1 := Int.mul_ediv_add_emod P D
  have h2 := Int.emod_nonneg P (show D ≠ 0 by omega)
  have h3 := Int.emod_lt_of_pos P hD
  have h4 : -q * D = -(D * (P / D)) - D := by rw [h, Int.neg_mul, Int.add_mul, Int.mul_comm (P / D)]; omega
  omega
end Go.Proofs.YtamniclnhenmgaaDoor.M
