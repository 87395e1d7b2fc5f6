/- Two places compared. -/
import Derived.Test.YtdgkdoccllolpaaDoorPSix
import Derived.Test.YtdgkdoccllolpaaDoorPMath
namespace Go.Proofs.YtdgkdoccllolpaaDoor.P
open Go Go.RowKit Go.Shelf
open G
theorem eql_no {y z : Nat → Int} (h : ¬ ∀ j, j < 6 → y j = z j) (w : World) :
    (binOp .eql 24 (.agg #[.int .i64 (y 0), .int .i64 (y 1), .int .i64 (y 2), .int .i64 (y 3), .int .i64 (y 4), .int .i64 (y 5)]) (.agg #[.int .i64 (z 0), .int .i64 (z 1), .int .i64 (z 2), .int .i64 (z 3), .int .i64 (z 4), .int .i64 (z 5)])).run Tryd.prog w = .ok (.bool false) w := by
  have h6 : ¬ (y 0 = z 0 ∧ y 1 = z 1 ∧ y 2 = z 2 ∧ y 3 = z 3 ∧ y 4 = z 4 ∧ y 5 = z 5) := by
    rintro ⟨g0, g1, g2, g3, g4, g5⟩
    refine h (fun j hj => ?_)
    obtain rfl | rfl | rfl | rfl | rfl | rfl : j = 0 ∨ j = 1 ∨ j = 2 ∨ j = 3 ∨ j = 4 ∨ j = 5 := by omega
    all_goals assumption
  go_simp
  exact fun g0 g1 g2 g3 g4 g5 => h6 ⟨g0, g1, g2, g3, g4, g5⟩
end Go.Proofs.YtdgkdoccllolpaaDoor.P
