/- The reference: Valid, Bits, Size. -/
import Derived.Test.YtjemijjhplajaaaPSize
namespace Go.Proofs.Ytjemijjhplajaaa.P
open Go Go.RowKit Go.Shelf
open G
end Go.Proofs.Ytjemijjhplajaaa.P
