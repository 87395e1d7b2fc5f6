/- The reference: Valid, Bits, Size. -/
import Derived.Test.YtememimblalkfaaPSize
namespace Go.Proofs.Ytememimblalkfaa.P
open Go Go.RowKit Go.Shelf
open G
end Go.Proofs.Ytememimblalkfaa.P
