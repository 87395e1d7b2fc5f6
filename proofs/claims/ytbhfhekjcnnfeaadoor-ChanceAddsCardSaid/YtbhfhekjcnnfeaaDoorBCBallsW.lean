/- ChanceBalls: the walk. -/
import Derived.Test.YtbhfhekjcnnfeaaDoorBCBall
import Derived.Test.YtbhfhekjcnnfeaaDoorBCFewerW
import Derived.Test.YtbhfhekjcnnfeaaDoorB12
import Derived.Test.YtbhfhekjcnnfeaaDoorBRefSub
import Derived.Test.YtbhfhekjcnnfeaaDoorBRefSum
namespace Go.Proofs.YtbhfhekjcnnfeaaDoor
open Go Go.RowKit Go.Shelf

namespace C
open G (Box IRow Dice)
theorem fit_num {x : Nat} {e : Ending} {W : World} (h : NatRes x e W) (hl : (M.dig x).length ≤ 200) : ∃ a c, e = .returned (.tuple #[.agg #[.slice a (M.dig x).length c], .int .i64 0]) ∧ Row W a (M.dig x) c := by
  obtain ⟨v, rfl, a, c, rfl, hr⟩ := h.ok hl
  exact ⟨a, c, rfl, hr⟩
theorem of_num (N : Nat) (W : World) (hN : N ≤ 9223372036854775807) : Calls Tryd.prog 9 #[.int .i64 (N : Int)] W fun e W' => NumE N e W' ∧ Below W.heap.size W W' :=
  (rof_any N W hN).mono fun e W' ⟨v, h1, ⟨a, c, hv, hr⟩, h3⟩ => ⟨⟨a, c, by rw [h1, hv], hr⟩, h3⟩
end C
end Go.Proofs.YtbhfhekjcnnfeaaDoor
