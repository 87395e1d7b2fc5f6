/- What ChanceFewer says, as mathematics. -/
import Derived.Test.YtknjoajeilgieaaDoorB10
namespace Go.Proofs.YtknjoajeilgieaaDoor
open Go Go.RowKit Go.Shelf

namespace C
theorem each_small : ∀ C, C < 9 → ∀ v, v < 9 → 1 ≤ v → v ≤ C → eachF C v = 0 := by decide +kernel
theorem words_few {n C v : Nat} (hC : C ≤ 8) (h1 : 1 ≤ v) (h2 : v ≤ C) : wordsN n C v = 0 := by
  unfold wordsN
  rw [each_F, each_small C (by omega) v (by omega) h1 h2, Nat.mul_zero]
theorem prd_zero {x : Nat} (xs : List Nat) (h : nth xs 0 = 0) : ∀ k, prd xs (k + 1) = 0
  | 0 => by rw [prd, h, Nat.mul_zero]
  | k + 1 => by rw [prd, prd_zero (x := x) xs h k, Nat.zero_mul]
theorem near_few {n C w g o m F : Nat} (hC : C ≤ 8) (hg : g ≤ F) (h : w + F ≤ C) : nearN n C w g o m = 0 := by
  unfold nearN
  split
  · rfl
  · exact prd_zero (x := 0) (nearL n C (w + g - m) g o m) (show wordsN n C (w + g - m) = 0 from words_few hC (by omega) (by omega)) 5
theorem sm_zero {f : Nat → Nat} : ∀ k, (∀ z, z < k → f z = 0) → sm f k = 0
  | 0, _ => rfl
  | k + 1, h => by rw [sm_succ, sm_zero k (fun z hz => h z (by omega)), h k (Nat.lt_succ_self k)]
/-- Errors of few bytes never pass. -/
theorem wrong_few {n C w F : Nat} (hC : C ≤ 8) (h : w + F ≤ C) : wrongN n C w F = 0 :=
  sm_zero _ (fun g hg => sm_zero _ (fun o _ => sm_zero _ (fun m _ => near_few (F := F) hC (by omega) h)))
theorem le_sm {f : Nat → Nat} {k : Nat} (h : 0 < k) : f 0 ≤ sm f k := by
  induction k with
  | zero => omega
  | succ k ih =>
    rw [sm_succ]
    by_cases e : k = 0
    · subst e; omega
    · have := ih (by omega); omega
/-- With more corrections no fewer errors pass. -/
theorem words_le_wrong {n C w F : Nat} (h1 : 1 ≤ w) (h2 : w ≤ n) : wordsN n C w ≤ wrongN n C w F := by
  rw [← near_zero n C w h1 h2]
  exact Nat.le_trans (le_sm (f := f3 n C w 0 0) (k := F - 0 - 0 + 1) (Nat.succ_pos _)) (Nat.le_trans (le_sm (f := f2 n C w F 0) (k := F - 0 + 1) (Nat.succ_pos _)) (le_sm (f := f1 n C w F) (k := F + 1) (Nat.succ_pos _)))
theorem b4096 {x B : Nat} (h : x ≤ 16 * (16 * (16 * 2 ^ B))) : x ≤ 2 ^ (B + 12) := by
  rw [Nat.pow_add, show (2 : Nat) ^ 12 = 4096 from rfl]
  generalize (2 : Nat) ^ B = X at *
  omega
theorem wrong_len {n C w F : Nat} (hn : n ≤ 40) (hF : F ≤ 4) : (M.dig (wrongN n C w F)).length ≤ 200 :=
  bits_len (b4096 (s1_le (C := C) (w := w) hn hF (Nat.le_refl (F + 1)))) (by have := EB_eq; omega)
end C
end Go.Proofs.YtknjoajeilgieaaDoor
