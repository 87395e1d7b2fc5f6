/- part.Size. -/
import Derived.Test.YtememimblalkfaaPValid
import Derived.Test.YtememimblalkfaaPSix
namespace Go.Proofs.Ytememimblalkfaa.P
open Go Go.RowKit Go.Shelf
open G
end Go.Proofs.Ytememimblalkfaa.P
