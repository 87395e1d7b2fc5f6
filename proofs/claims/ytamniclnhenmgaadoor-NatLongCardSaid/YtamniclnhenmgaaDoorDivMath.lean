/- The arithmetic of a division by limbs: adding a multiple of the divisor, the guess of three limbs by two. -/
import Derived.Test.YtamniclnhenmgaaDoorMath
namespace Go.Proofs.YtamniclnhenmgaaDoor.M

/-- One step of adding t times the divisor. -/
theorem addT_step {P V c z t y A B : Int} (h : V + P * c = A + t * B) :
    (V + P * ((c + (z + t * y)) % 16777216)) + P * 16777216 * ((c + (z + t * y)) / 16777216) = (A + P * z) + t * (B + P * y) := by
  have h1 := pow_split P (c + (z + t * y))
  have h2 : P * (c + (z + t * y)) = P * c + P * z + t * (P * y) := by grind
  have h3 : t * (B + P * y) = t * B + t * (P * y) := Int.mul_add ..
  omega

/-- The product in a step, and what is carried on. -/
theorem addT_prod {t y : Int} (hy : 0 ≤ y ∧ y < 16777216) (ht : -16777216 < t ∧ t ≤ 1) : -281474943156225 ≤ t * y ∧ t * y ≤ 16777215 := by
  rcases Int.lt_or_le 0 t with h | h
  · obtain rfl : t = 1 := by omega
    omega
  · have h1 := (mul_bound (a := -t) (b := y) (by omega) hy)
    have h2 : -t * y = -(t * y) := Int.neg_mul ..
    omega
theorem addT_carry {c z p : Int} (hc : -16777216 ≤ c ∧ c ≤ 16777216) (hz : 0 ≤ z ∧ z < 16777216) (hp : -281474943156225 ≤ p ∧ p ≤ 16777215) :
    -16777216 ≤ (c + (z + p)) / 16777216 ∧ (c + (z + p)) / 16777216 ≤ 16777216 := by omega

/-- The highest limb of a part that is less than the divisor, or negative. -/
theorem top_zero {ps : List Int} {n : Nat} (hl : ps.length = n + 1) (hlim : Lim (ps.take n)) (h0 : 0 ≤ val ps) (h1 : val ps < 16777216 ^ n) : el ps n = 0 := by
  have h2 := val_take_succ ps n (by omega)
  rw [List.take_of_length_le (by omega)] at h2
  have h3 := val_lt hlim
  have h4 := val_nonneg hlim
  rw [List.length_take, Nat.min_eq_left (by omega)] at h3
  have hp := pow_pos n
  rcases Int.lt_trichotomy (el ps n) 0 with h | h | h
  · have : 16777216 ^ n * el ps n ≤ (16777216 : Int) ^ n * -1 := Int.mul_le_mul_of_nonneg_left (by omega) (by omega)
    omega
  · exact h
  · have : (16777216 : Int) ^ n * 1 ≤ 16777216 ^ n * el ps n := Int.mul_le_mul_of_nonneg_left (by omega) (by omega)
    omega
theorem top_neg {ps : List Int} {n : Nat} (hl : ps.length = n + 1) (hlim : Lim (ps.take n)) (h0 : val ps < 0) (h1 : -16777216 ^ n ≤ val ps) : el ps n = -1 := by
  have h2 := val_take_succ ps n (by omega)
  rw [List.take_of_length_le (by omega)] at h2
  have h3 := val_lt hlim
  have h4 := val_nonneg hlim
  rw [List.length_take, Nat.min_eq_left (by omega)] at h3
  have hp := pow_pos n
  rcases Int.lt_trichotomy (el ps n) (-1) with h | h | h
  · have : 16777216 ^ n * el ps n ≤ (16777216 : Int) ^ n * -2 := Int.mul_le_mul_of_nonneg_left (by omega) (by omega)
    omega
  · exact h
  · have : (16777216 : Int) ^ n * 0 ≤ 16777216 ^ n * el ps n := Int.mul_le_mul_of_nonneg_left (by omega) (by omega)
    omega
theorem lim_of_top {ps : List Int} {n : Nat} (hl : ps.length = n + 1) (hlim : Lim (ps.take n)) (h : el ps n = 0) : Lim ps := by
  refine lim_of_get fun i hi => ?_
  by_cases e : i = n
  · subst e; omega
  · have := hlim.get i
    rwa [el_take (by omega)] at this

/-- The guess of three limbs by two is the quotient, or one more. -/
theorem guess_ok {P D K P3 D2 p d : Nat} (hK : 0 < K) (hP : P = P3 * K + p) (hp : p < K) (hD : D = D2 * K + d) (hd : d < K) (h2 : 16777216 ≤ D2) (hlt : P < D * 16777216) :
    P / D ≤ min (P3 / D2) 16777215 ∧ min (P3 / D2) 16777215 ≤ P / D + 1 := by
  have hD0 : 0 < D := by
    have : 0 < D2 * K := Nat.mul_pos (by omega) hK
    omega
  have hq : P / D * D ≤ P := Nat.div_mul_le_self P D
  constructor
  · refine Nat.le_min.2 ⟨?_, ?_⟩
    · rw [Nat.le_div_iff_mul_le (by omega)]
      have h3 : P / D * D2 * K ≤ P / D * D := by
        rw [Nat.mul_assoc]; exact Nat.mul_le_mul_left _ (by omega)
      have h4 : P / D * D2 * K < (P3 + 1) * K := by rw [Nat.succ_mul]; omega
      exact Nat.le_of_lt_succ (Nat.lt_of_mul_lt_mul_right h4)
    · have : P / D < 16777216 := (Nat.div_lt_iff_lt_mul hD0).2 (by rwa [Nat.mul_comm] at hlt)
      omega
  · generalize hg : min (P3 / D2) 16777215 = g
    have g1 : g ≤ P3 / D2 := by omega
    have g2 : g ≤ 16777215 := by omega
    match g, g1, g2 with
    | 0, _, _ => exact Nat.zero_le _
    | s + 1, g1, g2 =>
      refine Nat.succ_le_succ ((Nat.le_div_iff_mul_le hD0).2 ?_)
      have h5 : (s + 1) * D2 ≤ P3 := (Nat.le_div_iff_mul_le (by omega)).1 g1
      have h6 : (s + 1) * D2 * K ≤ P3 * K := Nat.mul_le_mul_right _ h5
      have h7 : s * d ≤ D2 * K := Nat.le_trans (Nat.mul_le_mul (by omega : s ≤ D2) (Nat.le_of_lt hd)) (Nat.le_refl _)
      have h8 : s * D = s * D2 * K + s * d := by rw [hD, Nat.mul_add, Nat.mul_assoc]
      have h9 : (s + 1) * D2 * K = s * D2 * K + D2 * K := by rw [Nat.succ_mul, Nat.add_mul]
      omega

/-- Div64's step: q is not less than the quotient; if its test says that it is too great, one less still isn't. -/
theorem div_ge {U Y q : Nat} (hY : 0 < Y) (h : U < q * Y) : U / Y ≤ q - 1 := by
  have : U / Y < q := (Nat.div_lt_iff_lt_mul hY).2 h
  omega
theorem div_eq {U Y q : Nat} (hY : 0 < Y) (hq : U / Y ≤ q) (h : q * Y ≤ U) : U / Y = q :=
  Nat.le_antisymm hq ((Nat.le_div_iff_mul_le hY).2 h)

/-- The value of the limbs from place i on. -/
theorem val_split (zs : List Int) (i : Nat) : val zs = val (zs.take i) + 16777216 ^ (min i zs.length) * val (zs.drop i) := by
  have := val_append (zs.take i) (zs.drop i)
  rwa [List.take_append_drop, List.length_take] at this
end Go.Proofs.YtamniclnhenmgaaDoor.M
