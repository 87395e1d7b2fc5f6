/- WrongBits' numbers, reckoned fast. -/
import Derived.Test.YtbhfhekjcnnfeaaDoorBCBall
namespace Go.Proofs.YtbhfhekjcnnfeaaDoor
open Go Go.RowKit Go.Shelf

namespace C
def wbF (k : Nat) : Nat := bwF k + ((k + 1) * bwF (k + 1) + (72 - k + 1) * (if k = 0 then 0 else bwF (k - 1)))
theorem wb_F (k : Nat) : wbN k = wbF k := by
  unfold wbN wbF
  rw [bwN_F, show (k : Int) + 1 = ((k + 1 : Nat) : Int) from rfl, bwN_F]
  by_cases h : k = 0
  · subst h
    rw [if_pos rfl]
    rfl
  · rw [if_neg h, show (k : Int) - 1 = ((k - 1 : Nat) : Int) by omega, bwN_F]
end C
end Go.Proofs.YtbhfhekjcnnfeaaDoor
