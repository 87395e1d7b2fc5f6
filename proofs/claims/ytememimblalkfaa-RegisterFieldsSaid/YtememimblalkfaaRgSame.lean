/- register.Same, ref11.Same. -/
import Derived.Test.YtememimblalkfaaRgCat
import Derived.Test.YtememimblalkfaaRgBox
namespace Go.Proofs.Ytememimblalkfaa.RG
open Go Go.RowKit Go.Shelf
open G P
theorem eql_shape (x y : Nat → Int) (w : World) :
    (binOp .eql 28 (.agg #[.int .i64 (x 0), .int .i64 (x 1), .int .i64 (x 2), .int .i64 (x 3), .int .i64 (x 4), .int .i64 (x 5)]) (.agg #[.int .i64 (y 0), .int .i64 (y 1), .int .i64 (y 2), .int .i64 (y 3), .int .i64 (y 4), .int .i64 (y 5)])).run Try.prog w = .ok (.bool (eqX x y)) w := by
  unfold eqX
  go_simp
  by_cases g0 : x 0 = y 0
  · by_cases g1 : x 1 = y 1
    · by_cases g2 : x 2 = y 2
      · by_cases g3 : x 3 = y 3
        · by_cases g4 : x 4 = y 4
          · by_cases g5 : x 5 = y 5
            · simp [g0, g1, g2, g3, g4, g5]
            · simp [g0, g1, g2, g3, g4, g5]
          · simp [g0, g1, g2, g3, g4]
        · simp [g0, g1, g2, g3]
      · simp [g0, g1, g2]
    · simp [g0, g1]
  · simp [g0]
end Go.Proofs.Ytememimblalkfaa.RG
