/- part.Size. -/
import Derived.Test.YteeabopejhhciaaPValid
import Derived.Test.YteeabopejhhciaaPSix
namespace Go.Proofs.Yteeabopejhhciaa.P
open Go Go.RowKit Go.Shelf
open G
end Go.Proofs.Yteeabopejhhciaa.P
