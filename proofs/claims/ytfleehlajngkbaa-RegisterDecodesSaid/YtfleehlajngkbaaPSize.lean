/- part.Size. -/
import Derived.Test.YtfleehlajngkbaaPValid
import Derived.Test.YtfleehlajngkbaaPSix
namespace Go.Proofs.Ytfleehlajngkbaa.P
open Go Go.RowKit Go.Shelf
open G
end Go.Proofs.Ytfleehlajngkbaa.P
