/- The arithmetic of long division. -/
import Derived.Test.YtamniclnhenmgaaDoorTakeMath
import Derived.Lib.ItoaNum
import Derived.Lib.BitFns
namespace Go.Proofs.YtamniclnhenmgaaDoor.M

theorem norm_factor (y l : Nat) (h : Lib.bitLen y = l) (h0 : 0 < y) (h1 : y < 16777216) :
    1 ≤ l ∧ l ≤ 24 ∧ 0 < 2 ^ (24 - l) ∧ 2 ^ (24 - l) < 16777216 ∧ 8388608 ≤ y * 2 ^ (24 - l) ∧ (y + 1) * 2 ^ (24 - l) ≤ 16777216 := by
  obtain ⟨b1, b2, b3⟩ := Lib.bitLenAux_bounds 64 y (by omega) (by omega)
  change 1 ≤ Lib.bitLen y at b1
  change 2 ^ (Lib.bitLen y - 1) ≤ y at b2
  change y < 2 ^ Lib.bitLen y at b3
  rw [h] at b1 b2 b3
  have hl : l ≤ 24 := by
    have : l - 1 < 24 := (Nat.pow_lt_pow_iff_right (a := 2) (by decide)).1 (Nat.lt_of_le_of_lt b2 (by omega : y < 2 ^ 24))
    omega
  have e1 : 2 ^ l * 2 ^ (24 - l) = 16777216 := by rw [← Nat.pow_add, show l + (24 - l) = 24 by omega]
  have e2 : 2 ^ (l - 1) * 2 ^ (24 - l) = 8388608 := by rw [← Nat.pow_add, show l - 1 + (24 - l) = 23 by omega]
  refine ⟨b1, hl, Nat.pow_pos (by decide), ?_, ?_, ?_⟩
  · exact Nat.lt_of_le_of_lt (Nat.pow_le_pow_right (by decide) (by omega : 24 - l ≤ 23)) (by decide)
  · rw [← e2]; exact Nat.mul_le_mul_right _ b2
  · rw [← e1]; exact Nat.mul_le_mul_right _ b3

/-- The value of limbs with a given highest one. -/
theorem val_top {ys : List Int} {k : Nat} (hl : ys.length = k + 1) (hy : Lim ys) : el ys k * 16777216 ^ k ≤ val ys ∧ val ys < (el ys k + 1) * 16777216 ^ k := by
  have h1 := val_take_succ ys k (by omega)
  rw [List.take_of_length_le (by omega)] at h1
  have h2 := val_lt (hy.take k)
  have h3 := val_nonneg (hy.take k)
  rw [List.length_take, Nat.min_eq_left (by omega)] at h2
  rw [Int.add_mul, Int.mul_comm (el ys k)]
  omega

/-- Scaled by the factor, the divisor keeps its length and has its highest bit. -/
theorem scaled_divisor {ys ds : List Int} {n F : Nat} (hl : ys.length = n + 2) (hy : Lim ys) (hd : Lim ds) (hv : val ds = val ys * F) (h8 : 8388608 ≤ el ys (n + 1) * F) (h16 : (el ys (n + 1) + 1) * F ≤ 16777216)
    (hlen : ds.length = ys.length ∨ ds.length = ys.length + 1 ∧ 0 < el ds ys.length) : ds.length = n + 2 ∧ 8388608 ≤ el ds (n + 1) := by
  obtain ⟨t1, t2⟩ := val_top (k := n + 1) hl hy
  have hK := pow_pos (n + 1)
  have hF : (0 : Int) ≤ F := by omega
  have u1 : val ds < 16777216 * 16777216 ^ (n + 1) := by
    rcases Nat.eq_zero_or_pos F with rfl | hF0
    · omega
    · have a1 : val ys * F < (el ys (n + 1) + 1) * 16777216 ^ (n + 1) * F := Int.mul_lt_mul_of_pos_right t2 (by omega)
      have a2 : (el ys (n + 1) + 1) * 16777216 ^ (n + 1) * F = (el ys (n + 1) + 1) * F * 16777216 ^ (n + 1) := by rw [Int.mul_right_comm]
      have a3 : (el ys (n + 1) + 1) * F * 16777216 ^ (n + 1) ≤ 16777216 * 16777216 ^ (n + 1) := Int.mul_le_mul_of_nonneg_right h16 (by omega)
      omega
  have u2 : 8388608 * 16777216 ^ (n + 1) ≤ val ds := by
    have a1 : el ys (n + 1) * 16777216 ^ (n + 1) * F ≤ val ys * F := Int.mul_le_mul_of_nonneg_right t1 hF
    have a2 : el ys (n + 1) * 16777216 ^ (n + 1) * F = el ys (n + 1) * F * 16777216 ^ (n + 1) := by rw [Int.mul_right_comm]
    have a3 : 8388608 * 16777216 ^ (n + 1) ≤ el ys (n + 1) * F * 16777216 ^ (n + 1) := Int.mul_le_mul_of_nonneg_right h8 (by omega)
    omega
  have hlen2 : ds.length = n + 2 := by
    rcases hlen with h | ⟨h, h0⟩
    · omega
    · exfalso
      rw [hl] at h h0
      have t3 := (val_top (k := n + 2) h hd).1
      have : 1 * 16777216 ^ (n + 2) ≤ el ds (n + 2) * 16777216 ^ (n + 2) := Int.mul_le_mul_of_nonneg_right (by omega) (Int.le_of_lt (pow_pos _))
      have e : (16777216 : Int) ^ (n + 2) = 16777216 * 16777216 ^ (n + 1) := by rw [Int.pow_succ, Int.mul_comm]
      omega
  refine ⟨hlen2, ?_⟩
  have t4 := (val_top (k := n + 1) hlen2 hd).2
  have : 8388608 * 16777216 ^ (n + 1) < (el ds (n + 1) + 1) * 16777216 ^ (n + 1) := by omega
  have := Int.lt_of_mul_lt_mul_right this (by omega)
  omega

/-- What is left above the first place to be taken: less than the divisor. -/
theorem start_lt {xs ys rs ds : List Int} {n m F : Nat} (hla : xs.length = n + 2 + m) (hlb : ys.length = n + 2) (hx : Lim xs) (hy : Lim ys) (hr : Lim rs) (htop : 0 < el ys (n + 1)) (hF : 0 < F)
    (hvr : val rs = val xs * F) (hvd : val ds = val ys * F) (hlr : m + 1 ≤ rs.length) : val (rs.drop (m + 1)) < val ds := by
  have h1 := val_split rs (m + 1)
  rw [Nat.min_eq_left hlr] at h1
  have h2 := val_nonneg (hr.take (m + 1))
  have h3 := val_lt hx
  rw [hla] at h3
  have h4 := (val_top (k := n + 1) hlb hy).1
  have hK := pow_pos (n + 1)
  have h5 : 1 * 16777216 ^ (n + 1) ≤ el ys (n + 1) * 16777216 ^ (n + 1) := Int.mul_le_mul_of_nonneg_right (by omega) (by omega)
  have e : (16777216 : Int) ^ (n + 2 + m) = 16777216 ^ (m + 1) * 16777216 ^ (n + 1) := by rw [← Int.pow_add]; congr 1; omega
  rw [e] at h3
  have hM := pow_pos (m + 1)
  have h6 : val xs * F < 16777216 ^ (m + 1) * 16777216 ^ (n + 1) * F := Int.mul_lt_mul_of_pos_right h3 (by omega)
  have h7 : (16777216 : Int) ^ (m + 1) * 16777216 ^ (n + 1) * F ≤ 16777216 ^ (m + 1) * val ds := by
    rw [hvd, Int.mul_assoc]
    refine Int.mul_le_mul_of_nonneg_left ?_ (by omega)
    exact Int.mul_le_mul_of_nonneg_right (by omega) (by omega)
  have h8 : 16777216 ^ (m + 1) * val (rs.drop (m + 1)) < 16777216 ^ (m + 1) * val ds := by omega
  exact Int.lt_of_mul_lt_mul_left h8 (by omega)

theorem val_drop_succ (rs : List Int) (k : Nat) (hk : k < rs.length) : val (rs.drop k) = el rs k + 16777216 * val (rs.drop (k + 1)) := by
  rw [drop_el rs k hk, val]

/-- The part from which a place is taken, and the limbs above it. -/
theorem part_lt {rs : List Int} {k n : Nat} {D : Int} (hr : Lim rs) (hk : k + (n + 2 + 1) ≤ rs.length) (hD : D ≤ 16777216 ^ (n + 2)) (h : val (rs.drop (k + 1)) < D) :
    val (rs.drop (k + (n + 2 + 1))) = 0 ∧ val ((rs.drop k).take (n + 2 + 1)) = val (rs.drop k) ∧ val (rs.drop k) < D * 16777216 := by
  have h1 := val_append ((rs.drop (k + 1)).take (n + 2)) ((rs.drop (k + 1)).drop (n + 2))
  rw [List.take_append_drop, List.drop_drop, List.length_take, List.length_drop, Nat.min_eq_left (by omega), show k + 1 + (n + 2) = k + (n + 2 + 1) by omega] at h1
  have h2 := val_nonneg ((hr.drop (k + 1)).take (n + 2))
  have h3 := val_nonneg (hr.drop (k + (n + 2 + 1)))
  have hP := pow_pos (n + 2)
  have h0 : val (rs.drop (k + (n + 2 + 1))) = 0 := by
    rcases Int.lt_or_eq_of_le h3 with h4 | h4
    · have : 16777216 ^ (n + 2) * 1 ≤ (16777216 : Int) ^ (n + 2) * val (rs.drop (k + (n + 2 + 1))) := Int.mul_le_mul_of_nonneg_left (by omega) (by omega)
      omega
    · exact h4.symm
  have h5 := val_append ((rs.drop k).take (n + 2 + 1)) ((rs.drop k).drop (n + 2 + 1))
  rw [List.take_append_drop, List.drop_drop, h0, Int.mul_zero, Int.add_zero] at h5
  have h6 := val_drop_succ rs k (by omega)
  have h7 := hr.get k
  exact ⟨h0, h5.symm, by omega⟩

theorem split3 (rs : List Int) (k n : Nat) : rs.take k ++ (rs.drop k).take n ++ rs.drop (k + n) = rs := by
  rw [List.append_assoc, ← List.drop_drop, List.take_append_drop, List.take_append_drop]

/-- One place of the quotient. -/
theorem long_step {rs qs ts : List Int} {k n : Nat} {D A : Int} (hk : k + (n + 2 + 1) ≤ rs.length) (hq : k < qs.length) (hts : ts.length = n + 2 + 1) (hD : 0 < D)
    (h0 : val (rs.drop (k + (n + 2 + 1))) = 0) (hp : val ((rs.drop k).take (n + 2 + 1)) = val (rs.drop k)) (hv : val ts = val ((rs.drop k).take (n + 2 + 1)) % D)
    (hA : A = val rs + D * 16777216 ^ (k + 1) * val (qs.drop (k + 1))) :
    A = val (rs.take k ++ ts ++ rs.drop (k + (n + 2 + 1))) + D * 16777216 ^ k * val ((qs.set k (val ((rs.drop k).take (n + 2 + 1)) / D)).drop k) ∧
    val ((rs.take k ++ ts ++ rs.drop (k + (n + 2 + 1))).drop k) < D := by
  have lk : (rs.take k).length = k := by rw [List.length_take]; omega
  have e1 : val (rs.take k ++ ts ++ rs.drop (k + (n + 2 + 1))) = val (rs.take k) + 16777216 ^ k * val ts := by
    rw [val_append, val_append, h0, Int.mul_zero, Int.add_zero, lk]
  have e2 := val_split rs k
  rw [Nat.min_eq_left (by omega), ← hp] at e2
  have e3 : val ((rs.take k ++ ts ++ rs.drop (k + (n + 2 + 1))).drop k) = val ts := by
    rw [List.append_assoc, List.drop_left' lk, val_append, h0, Int.mul_zero, Int.add_zero]
  have e4 : val ((qs.set k (val ((rs.drop k).take (n + 2 + 1)) / D)).drop k) = val ((rs.drop k).take (n + 2 + 1)) / D + 16777216 * val (qs.drop (k + 1)) := by
    rw [val_drop_succ _ k (by rw [List.length_set]; exact hq), el_set _ _ _ _ hq, if_pos rfl, List.drop_set_of_lt (by omega)]
  have e5 := Int.mul_ediv_add_emod (val ((rs.drop k).take (n + 2 + 1))) D
  rw [← hv] at e5
  refine ⟨?_, by rw [e3, hv]; exact Int.emod_lt_of_pos _ hD⟩
  rw [hA, e1, e2, e4, Int.pow_succ]
  generalize val ((rs.drop k).take (n + 2 + 1)) / D = q at *
  rw [← e5]
  generalize (16777216 : Int) ^ k = P
  generalize val (qs.drop (k + 1)) = Q
  generalize val ts = T
  generalize val (rs.take k) = U
  clear hA e1 e2 e3 e4 e5 hv hp h0
  grind

theorem long_end {xs ys rs qs : List Int} {F : Nat} (hF : 0 < F) (hr : Lim rs) (hA : val xs * F = val rs + val ys * F * val qs) (hlt : val rs < val ys * F) : val qs = val xs / val ys ∧ val (shr (F : Int) rs).2 = val xs % val ys := by
  have hF2 : (0 : Int) < F := by omega
  have h0 := val_nonneg hr
  have hY : 0 < val ys * F := by omega
  have hy : 0 < val ys := by
    rcases Int.lt_or_le 0 (val ys) with h | h
    · exact h
    · have := Int.mul_nonpos_of_nonpos_of_nonneg h (Int.le_of_lt hF2); omega
  have h1 := (Int.ediv_emod_unique (a := val xs * F) (r := val rs) (q := val qs) hY).2 ⟨by rw [hA], h0, hlt⟩
  have h2 : val xs * F / (val ys * F) = val xs / val ys := Int.mul_ediv_mul_of_pos_left _ _ hF2
  have h3 := shr_val (F : Int) rs
  have h4 := shr_rest (F : Int) hF2 rs
  refine ⟨by rw [← h2]; exact h1.1.symm, ?_⟩
  have h5 := (Int.ediv_emod_unique (a := val rs) (r := (shr (F : Int) rs).1) (q := val (shr (F : Int) rs).2) hF2).2 ⟨by rw [Int.mul_comm]; omega, h4.1, h4.2⟩
  rw [← h5.1, ← h1.2, Int.mul_comm (val xs), Int.mul_comm (val ys), Int.mul_emod_mul_of_pos _ _ hF2, Int.mul_ediv_cancel_left _ (by omega)]
end Go.Proofs.YtamniclnhenmgaaDoor.M
