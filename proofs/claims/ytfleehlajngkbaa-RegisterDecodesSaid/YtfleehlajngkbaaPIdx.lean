/- An element of an array of six. -/
import Derived.Test.YtfleehlajngkbaaPMath
namespace Go.Proofs.Ytfleehlajngkbaa.P
open Go Go.RowKit Go.Shelf
open G
theorem ret_bool {a b : Bool} (h : a = b) : Ending.returned (.bool a) = .returned (.bool b) := by rw [h]
theorem index_num (x : Nat → Int) (k : Nat) (hk : k < 6) (w : World) :
    Sem.run Try.prog (Instr.index 63 (.agg #[.int .i64 (x 0), .int .i64 (x 1), .int .i64 (x 2), .int .i64 (x 3), .int .i64 (x 4), .int .i64 (x 5)]) (.int .i64 (k : Int))) w = .ok (.int .i64 (x k)) w := by
  obtain rfl | rfl | rfl | rfl | rfl | rfl : k = 0 ∨ k = 1 ∨ k = 2 ∨ k = 3 ∨ k = 4 ∨ k = 5 := by omega
  all_goals rfl
end Go.Proofs.Ytfleehlajngkbaa.P
