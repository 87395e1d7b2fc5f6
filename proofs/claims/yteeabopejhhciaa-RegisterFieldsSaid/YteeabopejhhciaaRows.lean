/-
  No cell of these rows narrows 'for every input' (looked for: loops, veiled, ifaces, maps, wideKeys, modest, calm, conditions, laid).
  DERIVED. THE GIVEN ROWS OF THIS SEAT. 4 by the template 'for every input the law returns true; each argument reads behind the call as it read before'; 0 by the template 'total and deterministic' (their statements: YteeabopejhhciaaTotals.lean).
  GIVEN WITH THE SEED: the statements are not yours to turn. If you find one false, say at which input.
  Laid BY PROGRAM, IN A SANDBOX (cutbox-rows.mjs): the forced cells as the released guide's own fill.sh prints them over the translation cd20f0cd96f3ff04… (all of the seat's roots in one cut). By AI agents, Wed Nov 11 2026. No macro, syntax, notation, axiom, sorry.
-/
import Derived.Test.YteeabopejhhciaaChecked
import GoSem.Claim
import GoSem.ClaimJoined
import GoSem.ClaimMapViews
import Derived.JoinedTies
import Derived.KernelRfl
namespace Go.Proofs.Yteeabopejhhciaa
/- THE CELL 'sum', in the pinned program and in every row, IS THE sha256 OF THE DUMP (.gsa) THAT YteeabopejhhciaaProg.lean LOADS. Nothing in Lean hashes anything: it is a label: what it is worth is what the hold of that sum in a sandbox is worth. -/
noncomputable def Try.pinned : Pinned := { name := "yteeabopejhhciaa", sum := "cd20f0cd96f3ff04a3ee9025638e54a1679fc438ec9a1d913499d137599f397f", checked := Try.checked }
namespace Rows
def none {H : Type} : Left H := { results := [], args := [] }

/-- 'memfaultlaw11.RegisterEncodes': WHATEVER THE INPUT: true; the input reads as it did. -/
def registerEncodesSpec : ChangeSpec := { name := "registerEncodes", fn := fun _ => fun
  | [d1, d2] => { results := [.lit (.bool true)], args := [d1, d2] }
  | _ => none }
def registerEncodesRow : OpenClaim := { program := "yteeabopejhhciaa", sum := "cd20f0cd96f3ff04a3ee9025638e54a1679fc438ec9a1d913499d137599f397f", func := "memfault/memfaultlaw11.RegisterEncodes", spec := "registerEncodes", unfollowed := true, recurses := true, apart := false }
def RegisterEncodesSaid : Prop := registerEncodesRow.holds Try.pinned (OpenSpec.ofChange registerEncodesSpec)

/-- ITS FALSE NEIGHBOUR: 'it returns false'. Refute it at one input. -/
def registerEncodesWrong : ChangeSpec := { name := "registerEncodes", fn := fun _ => fun
  | [d1, d2] => { results := [.lit (.bool false)], args := [d1, d2] }
  | _ => none }
def RegisterEncodesWrongFalsely : Prop := registerEncodesRow.holds Try.pinned (OpenSpec.ofChange registerEncodesWrong)

/-- 'memfaultlaw11.RegisterDecodes': WHATEVER THE INPUT: true; the input reads as it did. -/
def registerDecodesSpec : ChangeSpec := { name := "registerDecodes", fn := fun _ => fun
  | [d1, d2, d3] => { results := [.lit (.bool true)], args := [d1, d2, d3] }
  | _ => none }
def registerDecodesRow : OpenClaim := { program := "yteeabopejhhciaa", sum := "cd20f0cd96f3ff04a3ee9025638e54a1679fc438ec9a1d913499d137599f397f", func := "memfault/memfaultlaw11.RegisterDecodes", spec := "registerDecodes", unfollowed := true, recurses := true, apart := false }
def RegisterDecodesSaid : Prop := registerDecodesRow.holds Try.pinned (OpenSpec.ofChange registerDecodesSpec)

/-- ITS FALSE NEIGHBOUR: 'it returns false'. Refute it at one input. -/
def registerDecodesWrong : ChangeSpec := { name := "registerDecodes", fn := fun _ => fun
  | [d1, d2, d3] => { results := [.lit (.bool false)], args := [d1, d2, d3] }
  | _ => none }
def RegisterDecodesWrongFalsely : Prop := registerDecodesRow.holds Try.pinned (OpenSpec.ofChange registerDecodesWrong)

/-- 'memfaultlaw11.RegisterReturns': WHATEVER THE INPUT: true; the input reads as it did. -/
def registerReturnsSpec : ChangeSpec := { name := "registerReturns", fn := fun _ => fun
  | [d1, d2] => { results := [.lit (.bool true)], args := [d1, d2] }
  | _ => none }
def registerReturnsRow : OpenClaim := { program := "yteeabopejhhciaa", sum := "cd20f0cd96f3ff04a3ee9025638e54a1679fc438ec9a1d913499d137599f397f", func := "memfault/memfaultlaw11.RegisterReturns", spec := "registerReturns", unfollowed := true, recurses := true, apart := false }
def RegisterReturnsSaid : Prop := registerReturnsRow.holds Try.pinned (OpenSpec.ofChange registerReturnsSpec)

/-- ITS FALSE NEIGHBOUR: 'it returns false'. Refute it at one input. -/
def registerReturnsWrong : ChangeSpec := { name := "registerReturns", fn := fun _ => fun
  | [d1, d2] => { results := [.lit (.bool false)], args := [d1, d2] }
  | _ => none }
def RegisterReturnsWrongFalsely : Prop := registerReturnsRow.holds Try.pinned (OpenSpec.ofChange registerReturnsWrong)

/-- 'memfaultlaw11.RegisterFields': WHATEVER THE INPUT: true; the input reads as it did. -/
def registerFieldsSpec : ChangeSpec := { name := "registerFields", fn := fun _ => fun
  | [d] => { results := [.lit (.bool true)], args := [d] }
  | _ => none }
def registerFieldsRow : OpenClaim := { program := "yteeabopejhhciaa", sum := "cd20f0cd96f3ff04a3ee9025638e54a1679fc438ec9a1d913499d137599f397f", func := "memfault/memfaultlaw11.RegisterFields", spec := "registerFields", unfollowed := true, recurses := true, apart := false }
def RegisterFieldsSaid : Prop := registerFieldsRow.holds Try.pinned (OpenSpec.ofChange registerFieldsSpec)

/-- ITS FALSE NEIGHBOUR: 'it returns false'. Refute it at one input. -/
def registerFieldsWrong : ChangeSpec := { name := "registerFields", fn := fun _ => fun
  | [d] => { results := [.lit (.bool false)], args := [d] }
  | _ => none }
def RegisterFieldsWrongFalsely : Prop := registerFieldsRow.holds Try.pinned (OpenSpec.ofChange registerFieldsWrong)

/- THE SECOND FORM. 'bulk': how many values and letters a reading holds, each counted each time it is reached (what is shared counts as often as it is met; a slice's spare places count too). A statement '..UptoSaid' is the law's where the arguments, and the package variables that the reading takes, are together of bulk at most 1048576: NARROWER than '..Said'. Prove '..Said' where nothing that the law and all that it calls make is longer than what came in: it says more and counts as full. Else prove '..UptoSaid'. A law counts once. -/
mutual
def uptoBulk {H : Type} : DataW H → Nat
  | .lit (.string bytes) => bytes.length + 1
  | .lit _ => 1
  | .nil => 1
  | .ptr d => uptoBulk d + 1
  | .slice elems spare => uptoBulkAll elems + uptoBulkAll spare + 1
  | .agg parts => uptoBulkAll parts + 1
  | .iface _ d => uptoBulk d + 1
  | .map entries => uptoBulkEntries entries + 1
  | .held _ => 1
def uptoBulkAll {H : Type} : List (DataW H) → Nat
  | [] => 0
  | d :: r => uptoBulk d + uptoBulkAll r
def uptoBulkEntries {H : Type} : List (Lit × DataW H) → Nat
  | [] => 0
  | x :: r => uptoBulkEntry x + uptoBulkEntries r
def uptoBulkEntry {H : Type} : Lit × DataW H → Nat
  | (.string bytes, d) => bytes.length + uptoBulk d + 1
  | (_, d) => uptoBulk d + 1
 end
def uptoSmall : (H : Type) → List (DataW H) → Bool := fun _ ds => decide (uptoBulkAll ds ≤ 1048576)
def OpenSpec.upto (s : _root_.Go.ChangeSpec) : _root_.Go.OpenSpec := { _root_.Go.OpenSpec.ofChange s with cond := some uptoSmall }

/-- 'memfaultlaw11.RegisterEncodes', WHERE WHAT IT READS IS OF BULK AT MOST 1048576: true; the input reads as it did. -/
def registerEncodesUptoRow : OpenClaim := { program := "yteeabopejhhciaa", sum := "cd20f0cd96f3ff04a3ee9025638e54a1679fc438ec9a1d913499d137599f397f", func := "memfault/memfaultlaw11.RegisterEncodes", spec := "registerEncodes", unfollowed := true, recurses := true, apart := false, narrowed := true }
def RegisterEncodesUptoSaid : Prop := registerEncodesUptoRow.holds Try.pinned (OpenSpec.upto registerEncodesSpec)

/-- 'memfaultlaw11.RegisterDecodes', WHERE WHAT IT READS IS OF BULK AT MOST 1048576: true; the input reads as it did. -/
def registerDecodesUptoRow : OpenClaim := { program := "yteeabopejhhciaa", sum := "cd20f0cd96f3ff04a3ee9025638e54a1679fc438ec9a1d913499d137599f397f", func := "memfault/memfaultlaw11.RegisterDecodes", spec := "registerDecodes", unfollowed := true, recurses := true, apart := false, narrowed := true }
def RegisterDecodesUptoSaid : Prop := registerDecodesUptoRow.holds Try.pinned (OpenSpec.upto registerDecodesSpec)

/-- 'memfaultlaw11.RegisterReturns', WHERE WHAT IT READS IS OF BULK AT MOST 1048576: true; the input reads as it did. -/
def registerReturnsUptoRow : OpenClaim := { program := "yteeabopejhhciaa", sum := "cd20f0cd96f3ff04a3ee9025638e54a1679fc438ec9a1d913499d137599f397f", func := "memfault/memfaultlaw11.RegisterReturns", spec := "registerReturns", unfollowed := true, recurses := true, apart := false, narrowed := true }
def RegisterReturnsUptoSaid : Prop := registerReturnsUptoRow.holds Try.pinned (OpenSpec.upto registerReturnsSpec)

/-- 'memfaultlaw11.RegisterFields', WHERE WHAT IT READS IS OF BULK AT MOST 1048576: true; the input reads as it did. -/
def registerFieldsUptoRow : OpenClaim := { program := "yteeabopejhhciaa", sum := "cd20f0cd96f3ff04a3ee9025638e54a1679fc438ec9a1d913499d137599f397f", func := "memfault/memfaultlaw11.RegisterFields", spec := "registerFields", unfollowed := true, recurses := true, apart := false, narrowed := true }
def RegisterFieldsUptoSaid : Prop := registerFieldsUptoRow.holds Try.pinned (OpenSpec.upto registerFieldsSpec)

end Rows
end Go.Proofs.Yteeabopejhhciaa
