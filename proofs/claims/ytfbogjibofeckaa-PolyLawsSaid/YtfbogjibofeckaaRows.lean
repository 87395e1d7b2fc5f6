/-
  No cell of these rows narrows 'for every input' (looked for: loops, veiled, ifaces, maps, wideKeys, modest, calm, conditions, laid).
  DERIVED. THE GIVEN ROWS OF THIS SEAT. 6 by the template 'for every input the law returns true; each argument reads behind the call as it read before'; 0 by the template 'total and deterministic' (their statements: YtfbogjibofeckaaTotals.lean).
  GIVEN WITH THE SEED: the statements are not yours to turn. If you find one false, say at which input.
  Laid BY PROGRAM, IN A SANDBOX (cutbox-rows.mjs): the forced cells as the released guide's own fill.sh prints them over the translation 52d2181d873f2586… (all of the seat's roots in one cut). By AI agents, Wed Nov 11 2026. No macro, syntax, notation, axiom, sorry.
-/
import Derived.Test.YtfbogjibofeckaaChecked
import GoSem.Claim
import GoSem.ClaimJoined
import GoSem.ClaimMapViews
import Derived.JoinedTies
import Derived.KernelRfl
namespace Go.Proofs.Ytfbogjibofeckaa
/- THE CELL 'sum', in the pinned program and in every row, IS THE sha256 OF THE DUMP (.gsa) THAT YtfbogjibofeckaaProg.lean LOADS. Nothing in Lean hashes anything: it is a label: what it is worth is what the hold of that sum in a sandbox is worth. -/
noncomputable def Try.pinned : Pinned := { name := "ytfbogjibofeckaa", sum := "52d2181d873f2586b5f343461baf6c83d785d44a7fbdecf2648eda11412c9275", checked := Try.checked }
namespace Rows
def none {H : Type} : Left H := { results := [], args := [] }

/-- 'memfaultlaw04.PolyRaw': WHATEVER THE INPUT: true; the input reads as it did. -/
def polyRawSpec : ChangeSpec := { name := "polyRaw", fn := fun _ => fun
  | [d1, d2, d3] => { results := [.lit (.bool true)], args := [d1, d2, d3] }
  | _ => none }
def polyRawRow : OpenClaim := { program := "ytfbogjibofeckaa", sum := "52d2181d873f2586b5f343461baf6c83d785d44a7fbdecf2648eda11412c9275", func := "memfault/memfaultlaw04.PolyRaw", spec := "polyRaw", unfollowed := true, recurses := true, apart := false }
def PolyRawSaid : Prop := polyRawRow.holds Try.pinned (OpenSpec.ofChange polyRawSpec)

/-- ITS FALSE NEIGHBOUR: 'it returns false'. Refute it at one input. -/
def polyRawWrong : ChangeSpec := { name := "polyRaw", fn := fun _ => fun
  | [d1, d2, d3] => { results := [.lit (.bool false)], args := [d1, d2, d3] }
  | _ => none }
def PolyRawWrongFalsely : Prop := polyRawRow.holds Try.pinned (OpenSpec.ofChange polyRawWrong)

/-- 'memfaultlaw04.PolyMade': WHATEVER THE INPUT: true; the input reads as it did. -/
def polyMadeSpec : ChangeSpec := { name := "polyMade", fn := fun _ => fun
  | [d1, d2] => { results := [.lit (.bool true)], args := [d1, d2] }
  | _ => none }
def polyMadeRow : OpenClaim := { program := "ytfbogjibofeckaa", sum := "52d2181d873f2586b5f343461baf6c83d785d44a7fbdecf2648eda11412c9275", func := "memfault/memfaultlaw04.PolyMade", spec := "polyMade", unfollowed := true, recurses := true, apart := false }
def PolyMadeSaid : Prop := polyMadeRow.holds Try.pinned (OpenSpec.ofChange polyMadeSpec)

/-- ITS FALSE NEIGHBOUR: 'it returns false'. Refute it at one input. -/
def polyMadeWrong : ChangeSpec := { name := "polyMade", fn := fun _ => fun
  | [d1, d2] => { results := [.lit (.bool false)], args := [d1, d2] }
  | _ => none }
def PolyMadeWrongFalsely : Prop := polyMadeRow.holds Try.pinned (OpenSpec.ofChange polyMadeWrong)

/-- 'memfaultlaw04.PolyThrough': WHATEVER THE INPUT: true; the input reads as it did. -/
def polyThroughSpec : ChangeSpec := { name := "polyThrough", fn := fun _ => fun
  | [d1, d2, d3] => { results := [.lit (.bool true)], args := [d1, d2, d3] }
  | _ => none }
def polyThroughRow : OpenClaim := { program := "ytfbogjibofeckaa", sum := "52d2181d873f2586b5f343461baf6c83d785d44a7fbdecf2648eda11412c9275", func := "memfault/memfaultlaw04.PolyThrough", spec := "polyThrough", unfollowed := true, recurses := true, apart := false }
def PolyThroughSaid : Prop := polyThroughRow.holds Try.pinned (OpenSpec.ofChange polyThroughSpec)

/-- ITS FALSE NEIGHBOUR: 'it returns false'. Refute it at one input. -/
def polyThroughWrong : ChangeSpec := { name := "polyThrough", fn := fun _ => fun
  | [d1, d2, d3] => { results := [.lit (.bool false)], args := [d1, d2, d3] }
  | _ => none }
def PolyThroughWrongFalsely : Prop := polyThroughRow.holds Try.pinned (OpenSpec.ofChange polyThroughWrong)

/-- 'memfaultlaw04.PolyDivides': WHATEVER THE INPUT: true; the input reads as it did. -/
def polyDividesSpec : ChangeSpec := { name := "polyDivides", fn := fun _ => fun
  | [d1, d2] => { results := [.lit (.bool true)], args := [d1, d2] }
  | _ => none }
def polyDividesRow : OpenClaim := { program := "ytfbogjibofeckaa", sum := "52d2181d873f2586b5f343461baf6c83d785d44a7fbdecf2648eda11412c9275", func := "memfault/memfaultlaw04.PolyDivides", spec := "polyDivides", unfollowed := true, recurses := true, apart := false }
def PolyDividesSaid : Prop := polyDividesRow.holds Try.pinned (OpenSpec.ofChange polyDividesSpec)

/-- ITS FALSE NEIGHBOUR: 'it returns false'. Refute it at one input. -/
def polyDividesWrong : ChangeSpec := { name := "polyDivides", fn := fun _ => fun
  | [d1, d2] => { results := [.lit (.bool false)], args := [d1, d2] }
  | _ => none }
def PolyDividesWrongFalsely : Prop := polyDividesRow.holds Try.pinned (OpenSpec.ofChange polyDividesWrong)

/-- 'memfaultlaw04.PolyRoots': WHATEVER THE INPUT: true; the input reads as it did. -/
def polyRootsSpec : ChangeSpec := { name := "polyRoots", fn := fun _ => fun
  | [d] => { results := [.lit (.bool true)], args := [d] }
  | _ => none }
def polyRootsRow : OpenClaim := { program := "ytfbogjibofeckaa", sum := "52d2181d873f2586b5f343461baf6c83d785d44a7fbdecf2648eda11412c9275", func := "memfault/memfaultlaw04.PolyRoots", spec := "polyRoots", unfollowed := true, recurses := true, apart := false }
def PolyRootsSaid : Prop := polyRootsRow.holds Try.pinned (OpenSpec.ofChange polyRootsSpec)

/-- ITS FALSE NEIGHBOUR: 'it returns false'. Refute it at one input. -/
def polyRootsWrong : ChangeSpec := { name := "polyRoots", fn := fun _ => fun
  | [d] => { results := [.lit (.bool false)], args := [d] }
  | _ => none }
def PolyRootsWrongFalsely : Prop := polyRootsRow.holds Try.pinned (OpenSpec.ofChange polyRootsWrong)

/-- 'memfaultlaw04.PolyLaws': WHATEVER THE INPUT: true; the input reads as it did. -/
def polyLawsSpec : ChangeSpec := { name := "polyLaws", fn := fun _ => fun
  | [d1, d2] => { results := [.lit (.bool true)], args := [d1, d2] }
  | _ => none }
def polyLawsRow : OpenClaim := { program := "ytfbogjibofeckaa", sum := "52d2181d873f2586b5f343461baf6c83d785d44a7fbdecf2648eda11412c9275", func := "memfault/memfaultlaw04.PolyLaws", spec := "polyLaws", unfollowed := true, recurses := true, apart := false }
def PolyLawsSaid : Prop := polyLawsRow.holds Try.pinned (OpenSpec.ofChange polyLawsSpec)

/-- ITS FALSE NEIGHBOUR: 'it returns false'. Refute it at one input. -/
def polyLawsWrong : ChangeSpec := { name := "polyLaws", fn := fun _ => fun
  | [d1, d2] => { results := [.lit (.bool false)], args := [d1, d2] }
  | _ => none }
def PolyLawsWrongFalsely : Prop := polyLawsRow.holds Try.pinned (OpenSpec.ofChange polyLawsWrong)

/- THE SECOND FORM. 'bulk': how many values and letters a reading holds, each counted each time it is reached (what is shared counts as often as it is met; a slice's spare places count too). A statement '..UptoSaid' is the law's where the arguments, and the package variables that the reading takes, are together of bulk at most 1048576: NARROWER than '..Said'. Prove '..Said' where nothing that the law and all that it calls make is longer than what came in: it says more and counts as full. Else prove '..UptoSaid'. A law counts once. -/
mutual
def uptoBulk {H : Type} : DataW H → Nat
  | .lit (.string bytes) => bytes.length + 1
  | .lit _ => 1
  | .nil => 1
  | .ptr d => uptoBulk d + 1
  | .slice elems spare => uptoBulkAll elems + uptoBulkAll spare + 1
  | .agg parts => uptoBulkAll parts + 1
  | .iface _ d => uptoBulk d + 1
  | .map entries => uptoBulkEntries entries + 1
  | .held _ => 1
def uptoBulkAll {H : Type} : List (DataW H) → Nat
  | [] => 0
  | d :: r => uptoBulk d + uptoBulkAll r
def uptoBulkEntries {H : Type} : List (Lit × DataW H) → Nat
  | [] => 0
  | x :: r => uptoBulkEntry x + uptoBulkEntries r
def uptoBulkEntry {H : Type} : Lit × DataW H → Nat
  | (.string bytes, d) => bytes.length + uptoBulk d + 1
  | (_, d) => uptoBulk d + 1
 end
def uptoSmall : (H : Type) → List (DataW H) → Bool := fun _ ds => decide (uptoBulkAll ds ≤ 1048576)
def OpenSpec.upto (s : _root_.Go.ChangeSpec) : _root_.Go.OpenSpec := { _root_.Go.OpenSpec.ofChange s with cond := some uptoSmall }

/-- 'memfaultlaw04.PolyRaw', WHERE WHAT IT READS IS OF BULK AT MOST 1048576: true; the input reads as it did. -/
def polyRawUptoRow : OpenClaim := { program := "ytfbogjibofeckaa", sum := "52d2181d873f2586b5f343461baf6c83d785d44a7fbdecf2648eda11412c9275", func := "memfault/memfaultlaw04.PolyRaw", spec := "polyRaw", unfollowed := true, recurses := true, apart := false, narrowed := true }
def PolyRawUptoSaid : Prop := polyRawUptoRow.holds Try.pinned (OpenSpec.upto polyRawSpec)

/-- 'memfaultlaw04.PolyMade', WHERE WHAT IT READS IS OF BULK AT MOST 1048576: true; the input reads as it did. -/
def polyMadeUptoRow : OpenClaim := { program := "ytfbogjibofeckaa", sum := "52d2181d873f2586b5f343461baf6c83d785d44a7fbdecf2648eda11412c9275", func := "memfault/memfaultlaw04.PolyMade", spec := "polyMade", unfollowed := true, recurses := true, apart := false, narrowed := true }
def PolyMadeUptoSaid : Prop := polyMadeUptoRow.holds Try.pinned (OpenSpec.upto polyMadeSpec)

/-- 'memfaultlaw04.PolyThrough', WHERE WHAT IT READS IS OF BULK AT MOST 1048576: true; the input reads as it did. -/
def polyThroughUptoRow : OpenClaim := { program := "ytfbogjibofeckaa", sum := "52d2181d873f2586b5f343461baf6c83d785d44a7fbdecf2648eda11412c9275", func := "memfault/memfaultlaw04.PolyThrough", spec := "polyThrough", unfollowed := true, recurses := true, apart := false, narrowed := true }
def PolyThroughUptoSaid : Prop := polyThroughUptoRow.holds Try.pinned (OpenSpec.upto polyThroughSpec)

/-- 'memfaultlaw04.PolyDivides', WHERE WHAT IT READS IS OF BULK AT MOST 1048576: true; the input reads as it did. -/
def polyDividesUptoRow : OpenClaim := { program := "ytfbogjibofeckaa", sum := "52d2181d873f2586b5f343461baf6c83d785d44a7fbdecf2648eda11412c9275", func := "memfault/memfaultlaw04.PolyDivides", spec := "polyDivides", unfollowed := true, recurses := true, apart := false, narrowed := true }
def PolyDividesUptoSaid : Prop := polyDividesUptoRow.holds Try.pinned (OpenSpec.upto polyDividesSpec)

/-- 'memfaultlaw04.PolyRoots', WHERE WHAT IT READS IS OF BULK AT MOST 1048576: true; the input reads as it did. -/
def polyRootsUptoRow : OpenClaim := { program := "ytfbogjibofeckaa", sum := "52d2181d873f2586b5f343461baf6c83d785d44a7fbdecf2648eda11412c9275", func := "memfault/memfaultlaw04.PolyRoots", spec := "polyRoots", unfollowed := true, recurses := true, apart := false, narrowed := true }
def PolyRootsUptoSaid : Prop := polyRootsUptoRow.holds Try.pinned (OpenSpec.upto polyRootsSpec)

/-- 'memfaultlaw04.PolyLaws', WHERE WHAT IT READS IS OF BULK AT MOST 1048576: true; the input reads as it did. -/
def polyLawsUptoRow : OpenClaim := { program := "ytfbogjibofeckaa", sum := "52d2181d873f2586b5f343461baf6c83d785d44a7fbdecf2648eda11412c9275", func := "memfault/memfaultlaw04.PolyLaws", spec := "polyLaws", unfollowed := true, recurses := true, apart := false, narrowed := true }
def PolyLawsUptoSaid : Prop := polyLawsUptoRow.holds Try.pinned (OpenSpec.upto polyLawsSpec)

end Rows
end Go.Proofs.Ytfbogjibofeckaa
