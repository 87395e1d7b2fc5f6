/- A start that fits: the table part.named in its block. -/
import Derived.Test.YtdgkdoccllolpaaDoorCards
import Derived.Test.YtdgkdoccllolpaaDoorTie
import Derived.WalkKit
import Derived.ProofKit
import Derived.OpenShut
import Derived.Deep.DeepHandedRow
namespace Go.Proofs.YtdgkdoccllolpaaDoor
open Go Go.ChangeShapes Go.WideShapes Go.ChangeAt Go.RowKit
def namedBits : List Nat := [0, 0, 0, 0, 0, 0, 1, 1, 1, 1, 1, 1, 1, 1, 1, 1, 1, 0, 1, 1, 1, 1, 0, 1, 1, 1, 1, 1, 0, 0, 1, 1, 1, 0, 0, 0, 1, 1, 0, 0, 0, 0]
def layNamed : Obj → Obj
  | .cells _ t frozen => .cells (namedBits.map fun n => Value.bool (n == 1)).toArray t frozen
  | o => o
/-- A world for the start: the settled one, the table in its block. -/
noncomputable def startWorld (os : Os) (blocks : Array Obj) : World :=
  { World.holding Tryd.prog os ⟨blocks, #[], []⟩ with heap := (World.holding Tryd.prog os ⟨blocks, #[], []⟩).heap.modify 0 layNamed }
end Go.Proofs.YtdgkdoccllolpaaDoor
