/- ref05.Solve. -/
import Derived.Test.YtodiokladojnjaaBRef6
namespace Go.Proofs.Ytodiokladojnjaa.B
open Go Go.RowKit Go.Shelf
open BM (bt St)

end Go.Proofs.Ytodiokladojnjaa.B
