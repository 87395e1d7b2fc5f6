/- Dice.One. -/
import Derived.Test.YtjemijjhplajaaaGDice
namespace Go.Proofs.Ytjemijjhplajaaa.G
open Go Go.RowKit Go.Shelf

end Go.Proofs.Ytjemijjhplajaaa.G
