/- What ChanceBalls says, as mathematics. -/
import Derived.Test.YtbhfhekjcnnfeaaDoorB12
namespace Go.Proofs.YtbhfhekjcnnfeaaDoor
open Go Go.RowKit Go.Shelf

namespace C
def nearLF (n C v g o m : Nat) : List Nat := [wordsF n C v, chF v g, (if v < g then 0 else chF (v - g) o), 254 ^ o, chF (n - v) m, 255 ^ m]
def nearF (n C w g o m : Nat) : Nat := if w + g < m + 1 ∨ n + m < w + g then 0 else prd (nearLF n C (w + g - m) g o m) 6
theorem nearL_F (n C v g o m : Nat) : nearL n C v g o m = nearLF n C v g o m := by
  unfold nearL nearLF
  rw [words_F, chI_F, chI_F]
  by_cases h : v < g
  · rw [if_pos (show (v : Int) - (g : Int) < 0 by omega), if_pos h, chI_F]
  · rw [if_neg (show ¬ (v : Int) - (g : Int) < 0 by omega), if_neg h, show ((v : Int) - (g : Int)).toNat = v - g by omega, chI_F]
theorem near_F (n C w g o m : Nat) : nearN n C w g o m = nearF n C w g o m := by unfold nearN nearF; rw [nearL_F]
def wrongF (n C w F : Nat) : Nat := sm (fun g => sm (fun o => sm (fun m => nearF n C w g o m) (F - g - o + 1)) (F - g + 1)) (F + 1)
theorem wrong_F (n C w F : Nat) : wrongN n C w F = wrongF n C w F := by
  unfold wrongN wrongF
  congr 1
  funext g
  unfold f1
  congr 1
  funext o
  unfold f2
  congr 1
  funext m
  exact near_F n C w g o m
/-- The balls round the code words do not meet. -/
theorem balls_all1 : ∀ D, D < 4 → ∀ C, C < 5 → ∀ F, F < 3 → (F ≤ (C + 1) / 2 → sm (fun w => wrongF (D + 1 + (C + 1)) (C + 1) w F) (D + 1 + (C + 1) + 1) = (256 ^ (D + 1) - 1) * sm (errF (D + 1 + (C + 1))) (F + 1)) := by decide +kernel
theorem balls_all2 : ∀ D, D < 5 → ∀ C, C < 6 → ∀ F, F < 3 → (256 ^ D - 1) * sm (errF (D + C)) (F + 1) < 2 ^ 200 := by decide +kernel
theorem sm_mono {f : Nat → Nat} {k K : Nat} (h : k ≤ K) : sm f k ≤ sm f K := by
  induction K with
  | zero => rw [show k = 0 by omega]; exact Nat.le_refl _
  | succ K ih =>
    by_cases e : k = K + 1
    · rw [e]; exact Nat.le_refl _
    · exact Nat.le_trans (ih (by omega)) (Nat.le_add_right _ _)
theorem term_le_sm {f : Nat → Nat} {k K : Nat} (h : k < K) : f k ≤ sm f K := Nat.le_trans (Nat.le_add_left _ _) (sm_mono (f := f) (k := k + 1) h)
/-- The sums of the loop. -/
def wsum (n C F k : Nat) : Nat := sm (fun w => wrongN n C w F) k
def bsum (n F k : Nat) : Nat := sm (errN n) (min k (F + 1))
theorem wsum_succ (n C F k : Nat) : wsum n C F (k + 1) = wsum n C F k + wrongN n C k F := rfl
theorem bsum_yes {n F k : Nat} (h : k ≤ F) : bsum n F (k + 1) = bsum n F k + errN n k := by
  unfold bsum
  rw [Nat.min_eq_left (by omega), Nat.min_eq_left (by omega)]; rfl
theorem bsum_no {n F k : Nat} (h : ¬ k ≤ F) : bsum n F (k + 1) = bsum n F k := by
  unfold bsum
  rw [Nat.min_eq_right (by omega), Nat.min_eq_right (by omega)]
structure BOk (D C F : Nat) : Prop where
  d1 : 1 ≤ D
  d2 : D ≤ 4
  c1 : 1 ≤ C
  c2 : C ≤ 5
  f2 : F ≤ C / 2
theorem balls_eq {D C F : Nat} (h : BOk D C F) : wsum (D + C) C F (D + C + 1) = (256 ^ D - 1) * bsum (D + C) F (D + C + 1) ∧ wsum (D + C) C F (D + C + 1) < 2 ^ 200 := by
  obtain ⟨h1, h2, h3, h4, h5⟩ := h
  have h6 := balls_all2 D (by omega) C (by omega) F (by omega)
  obtain ⟨d, rfl⟩ : ∃ d, D = d + 1 := ⟨D - 1, by omega⟩
  obtain ⟨c, rfl⟩ : ∃ c, C = c + 1 := ⟨C - 1, by omega⟩
  have this := And.intro (balls_all1 d (by omega) c (by omega) F (by omega) h5) h6
  have e1 : wsum (d + 1 + (c + 1)) (c + 1) F (d + 1 + (c + 1) + 1) = sm (fun w => wrongF (d + 1 + (c + 1)) (c + 1) w F) (d + 1 + (c + 1) + 1) := by
    unfold wsum
    congr 1
    funext w
    exact wrong_F _ _ _ _
  have e2 : bsum (d + 1 + (c + 1)) F (d + 1 + (c + 1) + 1) = sm (errF (d + 1 + (c + 1))) (F + 1) := by
    unfold bsum
    rw [Nat.min_eq_right (by omega)]
    congr 1
    funext w
    exact err_F _ _
  rw [e1, e2, this.1]
  exact ⟨rfl, this.2⟩
theorem wsum_lt {D C F k : Nat} (h : BOk D C F) (hk : k ≤ D + C + 1) : wsum (D + C) C F k < 2 ^ 200 := Nat.lt_of_le_of_lt (sm_mono hk) (balls_eq h).2
theorem wrong_lt {D C F k : Nat} (h : BOk D C F) (hk : k ≤ D + C) : wrongN (D + C) C k F < 2 ^ 200 := Nat.lt_of_le_of_lt (term_le_sm (f := fun w => wrongN (D + C) C w F) (k := k) (K := D + C + 1) (by omega)) (balls_eq h).2
theorem len100 {x : Nat} (h : x < 2 ^ 200) : (M.dig x).length ≤ 100 := len_pow h (by omega)
theorem errN_lt {n k : Nat} (hn : n ≤ 9) (hk : k ≤ n) : errN n k < 2 ^ 200 := Nat.lt_of_le_of_lt (errN_le n k) (Nat.pow_lt_pow_right (by omega) (by omega))
theorem sm16 {f : Nat → Nat} {e k : Nat} (hk : k ≤ 16) (h : ∀ z, z < k → f z ≤ 2 ^ e) : sm f k ≤ 2 ^ (e + 4) := by
  rw [Nat.pow_add, Nat.mul_comm]
  exact sm_le k hk h
theorem bsum_lt {n F k : Nat} (hn : n ≤ 9) (hF : F ≤ 4) (_ : F ≤ n) : bsum n F k < 2 ^ 200 :=
  Nat.lt_of_le_of_lt (sm16 (e := 90) (by omega) (fun z hz => Nat.le_trans (errN_le n z) (Nat.pow_le_pow_right (by omega) (by omega)))) (Nat.pow_lt_pow_right (by omega) (by omega))
end C
end Go.Proofs.YtbhfhekjcnnfeaaDoor
