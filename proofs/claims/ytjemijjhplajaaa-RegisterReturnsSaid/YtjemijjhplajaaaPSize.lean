/- part.Size. -/
import Derived.Test.YtjemijjhplajaaaPValid
import Derived.Test.YtjemijjhplajaaaPSix
namespace Go.Proofs.Ytjemijjhplajaaa.P
open Go Go.RowKit Go.Shelf
open G
end Go.Proofs.Ytjemijjhplajaaa.P
