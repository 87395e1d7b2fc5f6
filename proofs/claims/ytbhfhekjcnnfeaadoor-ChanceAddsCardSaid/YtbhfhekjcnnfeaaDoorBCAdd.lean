/- What ChanceAdds says, as mathematics: by the kernel, code by code. -/
import Derived.Test.YtbhfhekjcnnfeaaDoorBCBall
namespace Go.Proofs.YtbhfhekjcnnfeaaDoor
open Go Go.RowKit Go.Shelf

namespace C
theorem errs_all : ∀ n, n < 41 → sm (errF n) (n + 1) = 256 ^ n := by decide +kernel
theorem words_all : ∀ C, C < 9 → 1 ≤ C → ∀ D, D < 33 → sm (wordsF (D + C) C) (D + C + 1) = 256 ^ D := by decide +kernel
theorem errs_sum {n : Nat} (hn : n ≤ 40) : sm (errN n) (n + 1) = 256 ^ n := by
  rw [show errN n = errF n from funext (err_F n)]
  exact errs_all n (by omega)
theorem words_sum {D C F : Nat} (h : Ok D C F) : sm (wordsN (D + C) C) (D + C + 1) = 256 ^ D := by
  rw [show wordsN (D + C) C = wordsF (D + C) C from funext (words_F _ _)]
  exact words_all C (by have := h.c2; omega) h.c1 D (by have := h.d2; omega)
theorem len256 {x m : Nat} (hm : m ≤ 40) (h : x ≤ 256 ^ m) : (M.dig x).length ≤ 100 := by
  refine len_pow (e := 8 * m + 1) (Nat.lt_of_le_of_lt h ?_) (by omega)
  rw [pow256]
  exact Nat.pow_lt_pow_right (by omega) (Nat.lt_succ_self _)
end C
end Go.Proofs.YtbhfhekjcnnfeaaDoor
