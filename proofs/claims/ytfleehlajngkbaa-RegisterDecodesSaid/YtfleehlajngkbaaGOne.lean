/- Dice.One. -/
import Derived.Test.YtfleehlajngkbaaGDice
namespace Go.Proofs.Ytfleehlajngkbaa.G
open Go Go.RowKit Go.Shelf

end Go.Proofs.Ytfleehlajngkbaa.G
