/- Dice.One. -/
import Derived.Test.YtememimblalkfaaGDice
namespace Go.Proofs.Ytememimblalkfaa.G
open Go Go.RowKit Go.Shelf

end Go.Proofs.Ytememimblalkfaa.G
