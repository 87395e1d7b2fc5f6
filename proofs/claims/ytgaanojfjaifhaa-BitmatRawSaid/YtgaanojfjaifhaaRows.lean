/-
  No cell of these rows narrows 'for every input' (looked for: loops, veiled, ifaces, maps, wideKeys, modest, calm, conditions, laid).
  DERIVED. THE GIVEN ROWS OF THIS SEAT. 2 by the template 'for every input the law returns true; each argument reads behind the call as it read before'; 0 by the template 'total and deterministic' (their statements: YtgaanojfjaifhaaTotals.lean).
  GIVEN WITH THE SEED: the statements are not yours to turn. If you find one false, say at which input.
  Laid BY PROGRAM, IN A SANDBOX (cutbox-rows.mjs): the forced cells as the released guide's own fill.sh prints them over the translation 7712f62257f1f7d5… (all of the seat's roots in one cut). By AI agents, Wed Nov 11 2026. No macro, syntax, notation, axiom, sorry.
-/
import Derived.Test.YtgaanojfjaifhaaChecked
import GoSem.Claim
import GoSem.ClaimJoined
import GoSem.ClaimMapViews
import Derived.JoinedTies
import Derived.KernelRfl
namespace Go.Proofs.Ytgaanojfjaifhaa
/- THE CELL 'sum', in the pinned program and in every row, IS THE sha256 OF THE DUMP (.gsa) THAT YtgaanojfjaifhaaProg.lean LOADS. Nothing in Lean hashes anything: it is a label: what it is worth is what the hold of that sum in a sandbox is worth. -/
noncomputable def Try.pinned : Pinned := { name := "ytgaanojfjaifhaa", sum := "7712f62257f1f7d588a1cff8a161e8504337eba3d752646d822c887a37832967", checked := Try.checked }
namespace Rows
def none {H : Type} : Left H := { results := [], args := [] }

/-- 'memfaultlaw05.BitmatRaw': WHATEVER THE INPUT: true; the input reads as it did. -/
def bitmatRawSpec : ChangeSpec := { name := "bitmatRaw", fn := fun _ => fun
  | [d1, d2, d3] => { results := [.lit (.bool true)], args := [d1, d2, d3] }
  | _ => none }
def bitmatRawRow : OpenClaim := { program := "ytgaanojfjaifhaa", sum := "7712f62257f1f7d588a1cff8a161e8504337eba3d752646d822c887a37832967", func := "memfault/memfaultlaw05.BitmatRaw", spec := "bitmatRaw", unfollowed := true, recurses := true, apart := false }
def BitmatRawSaid : Prop := bitmatRawRow.holds Try.pinned (OpenSpec.ofChange bitmatRawSpec)

/-- ITS FALSE NEIGHBOUR: 'it returns false'. Refute it at one input. -/
def bitmatRawWrong : ChangeSpec := { name := "bitmatRaw", fn := fun _ => fun
  | [d1, d2, d3] => { results := [.lit (.bool false)], args := [d1, d2, d3] }
  | _ => none }
def BitmatRawWrongFalsely : Prop := bitmatRawRow.holds Try.pinned (OpenSpec.ofChange bitmatRawWrong)

/-- 'memfaultlaw05.BitmatMade': WHATEVER THE INPUT: true; the input reads as it did. -/
def bitmatMadeSpec : ChangeSpec := { name := "bitmatMade", fn := fun _ => fun
  | [d1, d2] => { results := [.lit (.bool true)], args := [d1, d2] }
  | _ => none }
def bitmatMadeRow : OpenClaim := { program := "ytgaanojfjaifhaa", sum := "7712f62257f1f7d588a1cff8a161e8504337eba3d752646d822c887a37832967", func := "memfault/memfaultlaw05.BitmatMade", spec := "bitmatMade", unfollowed := true, recurses := true, apart := false }
def BitmatMadeSaid : Prop := bitmatMadeRow.holds Try.pinned (OpenSpec.ofChange bitmatMadeSpec)

/-- ITS FALSE NEIGHBOUR: 'it returns false'. Refute it at one input. -/
def bitmatMadeWrong : ChangeSpec := { name := "bitmatMade", fn := fun _ => fun
  | [d1, d2] => { results := [.lit (.bool false)], args := [d1, d2] }
  | _ => none }
def BitmatMadeWrongFalsely : Prop := bitmatMadeRow.holds Try.pinned (OpenSpec.ofChange bitmatMadeWrong)

/- THE SECOND FORM. 'bulk': how many values and letters a reading holds, each counted each time it is reached (what is shared counts as often as it is met; a slice's spare places count too). A statement '..UptoSaid' is the law's where the arguments, and the package variables that the reading takes, are together of bulk at most 1048576: NARROWER than '..Said'. Prove '..Said' where nothing that the law and all that it calls make is longer than what came in: it says more and counts as full. Else prove '..UptoSaid'. A law counts once. -/
mutual
def uptoBulk {H : Type} : DataW H → Nat
  | .lit (.string bytes) => bytes.length + 1
  | .lit _ => 1
  | .nil => 1
  | .ptr d => uptoBulk d + 1
  | .slice elems spare => uptoBulkAll elems + uptoBulkAll spare + 1
  | .agg parts => uptoBulkAll parts + 1
  | .iface _ d => uptoBulk d + 1
  | .map entries => uptoBulkEntries entries + 1
  | .held _ => 1
def uptoBulkAll {H : Type} : List (DataW H) → Nat
  | [] => 0
  | d :: r => uptoBulk d + uptoBulkAll r
def uptoBulkEntries {H : Type} : List (Lit × DataW H) → Nat
  | [] => 0
  | x :: r => uptoBulkEntry x + uptoBulkEntries r
def uptoBulkEntry {H : Type} : Lit × DataW H → Nat
  | (.string bytes, d) => bytes.length + uptoBulk d + 1
  | (_, d) => uptoBulk d + 1
 end
def uptoSmall : (H : Type) → List (DataW H) → Bool := fun _ ds => decide (uptoBulkAll ds ≤ 1048576)
def OpenSpec.upto (s : _root_.Go.ChangeSpec) : _root_.Go.OpenSpec := { _root_.Go.OpenSpec.ofChange s with cond := some uptoSmall }

/-- 'memfaultlaw05.BitmatRaw', WHERE WHAT IT READS IS OF BULK AT MOST 1048576: true; the input reads as it did. -/
def bitmatRawUptoRow : OpenClaim := { program := "ytgaanojfjaifhaa", sum := "7712f62257f1f7d588a1cff8a161e8504337eba3d752646d822c887a37832967", func := "memfault/memfaultlaw05.BitmatRaw", spec := "bitmatRaw", unfollowed := true, recurses := true, apart := false, narrowed := true }
def BitmatRawUptoSaid : Prop := bitmatRawUptoRow.holds Try.pinned (OpenSpec.upto bitmatRawSpec)

/-- 'memfaultlaw05.BitmatMade', WHERE WHAT IT READS IS OF BULK AT MOST 1048576: true; the input reads as it did. -/
def bitmatMadeUptoRow : OpenClaim := { program := "ytgaanojfjaifhaa", sum := "7712f62257f1f7d588a1cff8a161e8504337eba3d752646d822c887a37832967", func := "memfault/memfaultlaw05.BitmatMade", spec := "bitmatMade", unfollowed := true, recurses := true, apart := false, narrowed := true }
def BitmatMadeUptoSaid : Prop := bitmatMadeUptoRow.holds Try.pinned (OpenSpec.upto bitmatMadeSpec)

end Rows
end Go.Proofs.Ytgaanojfjaifhaa
