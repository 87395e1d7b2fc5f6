/-
  No cell of these rows narrows 'for every input' (looked for: loops, veiled, ifaces, maps, wideKeys, modest, calm, conditions, laid).
  DERIVED. THE GIVEN ROWS OF THIS SEAT. 4 by the template 'for every input the law returns true; each argument reads behind the call as it read before'; 0 by the template 'total and deterministic' (their statements: YtdafapionedooaaTotals.lean).
  GIVEN WITH THE SEED: the statements are not yours to turn. If you find one false, say at which input.
  Laid BY PROGRAM, IN A SANDBOX (cutbox-rows.mjs): the forced cells as the released guide's own fill.sh prints them over the translation a880b76715823303… (all of the seat's roots in one cut). By AI agents, Wed Nov 11 2026. No macro, syntax, notation, axiom, sorry.
-/
import Derived.Test.YtdafapionedooaaChecked
import GoSem.Claim
import GoSem.ClaimJoined
import GoSem.ClaimMapViews
import Derived.JoinedTies
import Derived.KernelRfl
namespace Go.Proofs.Ytdafapionedooaa
/- THE CELL 'sum', in the pinned program and in every row, IS THE sha256 OF THE DUMP (.gsa) THAT YtdafapionedooaaProg.lean LOADS. Nothing in Lean hashes anything: it is a label: what it is worth is what the hold of that sum in a sandbox is worth. -/
noncomputable def Try.pinned : Pinned := { name := "ytdafapionedooaa", sum := "a880b767158233030970adc028c3e616012a5a7f59c2b56ec1453cf61c2ee63f", checked := Try.checked }
namespace Rows
def none {H : Type} : Left H := { results := [], args := [] }

/-- 'memfaultlaw06.HammingExact': WHATEVER THE INPUT: true; the input reads as it did. -/
def hammingExactSpec : ChangeSpec := { name := "hammingExact", fn := fun _ => fun
  | [d1, d2, d3] => { results := [.lit (.bool true)], args := [d1, d2, d3] }
  | _ => none }
def hammingExactRow : OpenClaim := { program := "ytdafapionedooaa", sum := "a880b767158233030970adc028c3e616012a5a7f59c2b56ec1453cf61c2ee63f", func := "memfault/memfaultlaw06.HammingExact", spec := "hammingExact", apart := false }
def HammingExactSaid : Prop := hammingExactRow.holds Try.pinned (OpenSpec.ofChange hammingExactSpec)

/-- ITS FALSE NEIGHBOUR: 'it returns false'. Refute it at one input. -/
def hammingExactWrong : ChangeSpec := { name := "hammingExact", fn := fun _ => fun
  | [d1, d2, d3] => { results := [.lit (.bool false)], args := [d1, d2, d3] }
  | _ => none }
def HammingExactWrongFalsely : Prop := hammingExactRow.holds Try.pinned (OpenSpec.ofChange hammingExactWrong)

/-- 'memfaultlaw06.HammingFixes': WHATEVER THE INPUT: true; the input reads as it did. -/
def hammingFixesSpec : ChangeSpec := { name := "hammingFixes", fn := fun _ => fun
  | [d1, d2, d3] => { results := [.lit (.bool true)], args := [d1, d2, d3] }
  | _ => none }
def hammingFixesRow : OpenClaim := { program := "ytdafapionedooaa", sum := "a880b767158233030970adc028c3e616012a5a7f59c2b56ec1453cf61c2ee63f", func := "memfault/memfaultlaw06.HammingFixes", spec := "hammingFixes", apart := false }
def HammingFixesSaid : Prop := hammingFixesRow.holds Try.pinned (OpenSpec.ofChange hammingFixesSpec)

/-- ITS FALSE NEIGHBOUR: 'it returns false'. Refute it at one input. -/
def hammingFixesWrong : ChangeSpec := { name := "hammingFixes", fn := fun _ => fun
  | [d1, d2, d3] => { results := [.lit (.bool false)], args := [d1, d2, d3] }
  | _ => none }
def HammingFixesWrongFalsely : Prop := hammingFixesRow.holds Try.pinned (OpenSpec.ofChange hammingFixesWrong)

/-- 'memfaultlaw06.HammingColumns': WHATEVER THE INPUT: true; the input reads as it did. -/
def hammingColumnsSpec : ChangeSpec := { name := "hammingColumns", fn := fun _ => fun
  | [d1, d2, d3] => { results := [.lit (.bool true)], args := [d1, d2, d3] }
  | _ => none }
def hammingColumnsRow : OpenClaim := { program := "ytdafapionedooaa", sum := "a880b767158233030970adc028c3e616012a5a7f59c2b56ec1453cf61c2ee63f", func := "memfault/memfaultlaw06.HammingColumns", spec := "hammingColumns", apart := false }
def HammingColumnsSaid : Prop := hammingColumnsRow.holds Try.pinned (OpenSpec.ofChange hammingColumnsSpec)

/-- ITS FALSE NEIGHBOUR: 'it returns false'. Refute it at one input. -/
def hammingColumnsWrong : ChangeSpec := { name := "hammingColumns", fn := fun _ => fun
  | [d1, d2, d3] => { results := [.lit (.bool false)], args := [d1, d2, d3] }
  | _ => none }
def HammingColumnsWrongFalsely : Prop := hammingColumnsRow.holds Try.pinned (OpenSpec.ofChange hammingColumnsWrong)

/-- 'memfaultlaw06.HammingWords': WHATEVER THE INPUT: true; the input reads as it did. -/
def hammingWordsSpec : ChangeSpec := { name := "hammingWords", fn := fun _ => fun
  | [d] => { results := [.lit (.bool true)], args := [d] }
  | _ => none }
def hammingWordsRow : OpenClaim := { program := "ytdafapionedooaa", sum := "a880b767158233030970adc028c3e616012a5a7f59c2b56ec1453cf61c2ee63f", func := "memfault/memfaultlaw06.HammingWords", spec := "hammingWords", apart := false }
def HammingWordsSaid : Prop := hammingWordsRow.holds Try.pinned (OpenSpec.ofChange hammingWordsSpec)

/-- ITS FALSE NEIGHBOUR: 'it returns false'. Refute it at one input. -/
def hammingWordsWrong : ChangeSpec := { name := "hammingWords", fn := fun _ => fun
  | [d] => { results := [.lit (.bool false)], args := [d] }
  | _ => none }
def HammingWordsWrongFalsely : Prop := hammingWordsRow.holds Try.pinned (OpenSpec.ofChange hammingWordsWrong)

/- THE SECOND FORM. 'bulk': how many values and letters a reading holds, each counted each time it is reached (what is shared counts as often as it is met; a slice's spare places count too). A statement '..UptoSaid' is the law's where the arguments, and the package variables that the reading takes, are together of bulk at most 1048576: NARROWER than '..Said'. Prove '..Said' where nothing that the law and all that it calls make is longer than what came in: it says more and counts as full. Else prove '..UptoSaid'. A law counts once. -/
mutual
def uptoBulk {H : Type} : DataW H → Nat
  | .lit (.string bytes) => bytes.length + 1
  | .lit _ => 1
  | .nil => 1
  | .ptr d => uptoBulk d + 1
  | .slice elems spare => uptoBulkAll elems + uptoBulkAll spare + 1
  | .agg parts => uptoBulkAll parts + 1
  | .iface _ d => uptoBulk d + 1
  | .map entries => uptoBulkEntries entries + 1
  | .held _ => 1
def uptoBulkAll {H : Type} : List (DataW H) → Nat
  | [] => 0
  | d :: r => uptoBulk d + uptoBulkAll r
def uptoBulkEntries {H : Type} : List (Lit × DataW H) → Nat
  | [] => 0
  | x :: r => uptoBulkEntry x + uptoBulkEntries r
def uptoBulkEntry {H : Type} : Lit × DataW H → Nat
  | (.string bytes, d) => bytes.length + uptoBulk d + 1
  | (_, d) => uptoBulk d + 1
 end
def uptoSmall : (H : Type) → List (DataW H) → Bool := fun _ ds => decide (uptoBulkAll ds ≤ 1048576)
def OpenSpec.upto (s : _root_.Go.ChangeSpec) : _root_.Go.OpenSpec := { _root_.Go.OpenSpec.ofChange s with cond := some uptoSmall }

/-- 'memfaultlaw06.HammingExact', WHERE WHAT IT READS IS OF BULK AT MOST 1048576: true; the input reads as it did. -/
def hammingExactUptoRow : OpenClaim := { program := "ytdafapionedooaa", sum := "a880b767158233030970adc028c3e616012a5a7f59c2b56ec1453cf61c2ee63f", func := "memfault/memfaultlaw06.HammingExact", spec := "hammingExact", apart := false, narrowed := true }
def HammingExactUptoSaid : Prop := hammingExactUptoRow.holds Try.pinned (OpenSpec.upto hammingExactSpec)

/-- 'memfaultlaw06.HammingFixes', WHERE WHAT IT READS IS OF BULK AT MOST 1048576: true; the input reads as it did. -/
def hammingFixesUptoRow : OpenClaim := { program := "ytdafapionedooaa", sum := "a880b767158233030970adc028c3e616012a5a7f59c2b56ec1453cf61c2ee63f", func := "memfault/memfaultlaw06.HammingFixes", spec := "hammingFixes", apart := false, narrowed := true }
def HammingFixesUptoSaid : Prop := hammingFixesUptoRow.holds Try.pinned (OpenSpec.upto hammingFixesSpec)

/-- 'memfaultlaw06.HammingColumns', WHERE WHAT IT READS IS OF BULK AT MOST 1048576: true; the input reads as it did. -/
def hammingColumnsUptoRow : OpenClaim := { program := "ytdafapionedooaa", sum := "a880b767158233030970adc028c3e616012a5a7f59c2b56ec1453cf61c2ee63f", func := "memfault/memfaultlaw06.HammingColumns", spec := "hammingColumns", apart := false, narrowed := true }
def HammingColumnsUptoSaid : Prop := hammingColumnsUptoRow.holds Try.pinned (OpenSpec.upto hammingColumnsSpec)

/-- 'memfaultlaw06.HammingWords', WHERE WHAT IT READS IS OF BULK AT MOST 1048576: true; the input reads as it did. -/
def hammingWordsUptoRow : OpenClaim := { program := "ytdafapionedooaa", sum := "a880b767158233030970adc028c3e616012a5a7f59c2b56ec1453cf61c2ee63f", func := "memfault/memfaultlaw06.HammingWords", spec := "hammingWords", apart := false, narrowed := true }
def HammingWordsUptoSaid : Prop := hammingWordsUptoRow.holds Try.pinned (OpenSpec.upto hammingWordsSpec)

end Rows
end Go.Proofs.Ytdafapionedooaa
