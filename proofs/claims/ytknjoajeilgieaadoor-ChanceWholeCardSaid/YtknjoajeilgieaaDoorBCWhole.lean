/- What ChanceWhole says, as mathematics: by the kernel. -/
import Derived.Test.YtknjoajeilgieaaDoorBCBall
namespace Go.Proofs.YtknjoajeilgieaaDoor
open Go Go.RowKit Go.Shelf

namespace C
def wbF (k : Nat) : Nat := bwF k + ((k + 1) * bwF (k + 1) + (72 - k + 1) * (if k = 0 then 0 else bwF (k - 1)))
theorem whole : sm wbF 73 = 73 * (2 ^ 64 - 1) := by decide +kernel
theorem wb_F (k : Nat) : wbN k = wbF k := by
  unfold wbN wbF
  rw [bwN_F, show (k : Int) + 1 = ((k + 1 : Nat) : Int) from rfl, bwN_F]
  by_cases h : k = 0
  · subst h
    rw [if_pos rfl]
    rfl
  · rw [if_neg h, show (k : Int) - 1 = ((k - 1 : Nat) : Int) by omega, bwN_F]
theorem whole_eq : sm wbN 73 = 73 * (2 ^ 64 - 1) := by rw [show wbN = wbF from funext wb_F]; exact whole
theorem whole_lt {k : Nat} (hk : k ≤ 73) : sm wbN k < 2 ^ 200 := Nat.lt_of_le_of_lt (sm_mono hk) (by rw [whole_eq]; decide)
theorem wb_lt {k : Nat} (hk : k ≤ 72) : wbN k < 2 ^ 200 := Nat.lt_of_le_of_lt (term_le_sm (f := wbN) (K := 73) (by omega)) (by rw [whole_eq]; decide)
end C
end Go.Proofs.YtknjoajeilgieaaDoor
