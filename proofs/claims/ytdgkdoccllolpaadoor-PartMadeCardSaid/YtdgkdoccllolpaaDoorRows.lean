/-
  NARROWER THAN 'FOR EVERY INPUT', by the rows' own cells (each row's printed sentence says how): PartRaw: laid · PartMade: laid · PartReturns: laid · PartFaults: laid · PartDivides: laid.
  DERIVED. THE GIVEN ROWS OF THIS SEAT. 5 by the template 'for every input the law returns true; each argument reads behind the call as it read before'; 0 by the template 'total and deterministic' (their statements: YtdgkdoccllolpaaDoorTotals.lean).
  GIVEN WITH THE SEED: the statements are not yours to turn. If you find one false, say at which input.
  Laid BY PROGRAM, IN A SANDBOX (cutbox-rows.mjs): the forced cells as the released guide's own fill.sh prints them over the translation f6cf8ba84d31a57b… (all of the seat's roots in one cut). By AI agents, Wed Nov 11 2026. No macro, syntax, notation, axiom, sorry.
-/
import Derived.Test.YtdgkdoccllolpaaDoorChecked
import GoSem.Claim
import GoSem.ClaimJoined
import GoSem.ClaimMapViews
import Derived.JoinedTies
import Derived.KernelRfl
namespace Go.Proofs.YtdgkdoccllolpaaDoor
/- THE CELL 'sum', in the pinned program and in every row, IS THE sha256 OF THE DUMP (.gsa) THAT YtdgkdoccllolpaaDoorProg.lean LOADS. Nothing in Lean hashes anything: it is a label: what it is worth is what the hold of that sum in a sandbox is worth. -/
noncomputable def Tryd.pinned : Pinned := { name := "ytdgkdoccllolpaadoor", sum := "f6cf8ba84d31a57b46b326f7bae7ccfca845e1c1b0ec1b9987e1ba8c8e019190", checked := Tryd.checked }
namespace Rows
def none {H : Type} : Left H := { results := [], args := [] }

/- WHAT THE LISTED PACKAGE-LEVEL VARIABLES READ AS WHEN THE CALL BEGINS. Each datum BY PROGRAM (the guide's laid-datum.mjs) off the statement by which the dump's own 'gosem.cut.vars' lays the variable. In a bare row this is a premise. The card (YtdgkdoccllolpaaDoorCards.lean) ties it to the program's text. -/
def laid_memfault_part_named {H : Type} : DataW H := .agg [.agg [.lit (.bool false), .lit (.bool false), .lit (.bool false), .lit (.bool false), .lit (.bool false), .lit (.bool false)], .agg [.lit (.bool true), .lit (.bool true), .lit (.bool true), .lit (.bool true), .lit (.bool true), .lit (.bool true)], .agg [.lit (.bool true), .lit (.bool true), .lit (.bool true), .lit (.bool true), .lit (.bool true), .lit (.bool false)], .agg [.lit (.bool true), .lit (.bool true), .lit (.bool true), .lit (.bool true), .lit (.bool false), .lit (.bool true)], .agg [.lit (.bool true), .lit (.bool true), .lit (.bool true), .lit (.bool true), .lit (.bool false), .lit (.bool false)], .agg [.lit (.bool true), .lit (.bool true), .lit (.bool true), .lit (.bool false), .lit (.bool false), .lit (.bool false)], .agg [.lit (.bool true), .lit (.bool true), .lit (.bool false), .lit (.bool false), .lit (.bool false), .lit (.bool false)]]

/-- 'memfaultlaw09.PartRaw': WHATEVER THE INPUT: true; the input reads as it did. -/
def partRawSpec : ChangeSpec := { name := "partRaw", fn := fun _ => fun
  | [d1, d2, d3] => { results := [.lit (.bool true)], args := [d1, d2, d3] }
  | _ => none }
def partRawRow : OpenClaim := { program := "ytdgkdoccllolpaadoor", sum := "f6cf8ba84d31a57b46b326f7bae7ccfca845e1c1b0ec1b9987e1ba8c8e019190", func := "memfault/memfaultlaw09.PartRaw", spec := "partRaw", named := ["memfault/part.named"], apart := false, laid := [("memfault/part.named", laid_memfault_part_named)] }
def PartRawSaid : Prop := partRawRow.holds Tryd.pinned (OpenSpec.ofChange partRawSpec)

/-- ITS FALSE NEIGHBOUR: 'it returns false'. Refute it at one input. -/
def partRawWrong : ChangeSpec := { name := "partRaw", fn := fun _ => fun
  | [d1, d2, d3] => { results := [.lit (.bool false)], args := [d1, d2, d3] }
  | _ => none }
def PartRawWrongFalsely : Prop := partRawRow.holds Tryd.pinned (OpenSpec.ofChange partRawWrong)

/-- 'memfaultlaw09.PartMade': WHATEVER THE INPUT: true; the input reads as it did. -/
def partMadeSpec : ChangeSpec := { name := "partMade", fn := fun _ => fun
  | [d1, d2] => { results := [.lit (.bool true)], args := [d1, d2] }
  | _ => none }
def partMadeRow : OpenClaim := { program := "ytdgkdoccllolpaadoor", sum := "f6cf8ba84d31a57b46b326f7bae7ccfca845e1c1b0ec1b9987e1ba8c8e019190", func := "memfault/memfaultlaw09.PartMade", spec := "partMade", named := ["memfault/part.named"], apart := false, laid := [("memfault/part.named", laid_memfault_part_named)] }
def PartMadeSaid : Prop := partMadeRow.holds Tryd.pinned (OpenSpec.ofChange partMadeSpec)

/-- ITS FALSE NEIGHBOUR: 'it returns false'. Refute it at one input. -/
def partMadeWrong : ChangeSpec := { name := "partMade", fn := fun _ => fun
  | [d1, d2] => { results := [.lit (.bool false)], args := [d1, d2] }
  | _ => none }
def PartMadeWrongFalsely : Prop := partMadeRow.holds Tryd.pinned (OpenSpec.ofChange partMadeWrong)

/-- 'memfaultlaw09.PartReturns': WHATEVER THE INPUT: true; the input reads as it did. -/
def partReturnsSpec : ChangeSpec := { name := "partReturns", fn := fun _ => fun
  | [d1, d2] => { results := [.lit (.bool true)], args := [d1, d2] }
  | _ => none }
def partReturnsRow : OpenClaim := { program := "ytdgkdoccllolpaadoor", sum := "f6cf8ba84d31a57b46b326f7bae7ccfca845e1c1b0ec1b9987e1ba8c8e019190", func := "memfault/memfaultlaw09.PartReturns", spec := "partReturns", named := ["memfault/part.named"], apart := false, laid := [("memfault/part.named", laid_memfault_part_named)] }
def PartReturnsSaid : Prop := partReturnsRow.holds Tryd.pinned (OpenSpec.ofChange partReturnsSpec)

/-- ITS FALSE NEIGHBOUR: 'it returns false'. Refute it at one input. -/
def partReturnsWrong : ChangeSpec := { name := "partReturns", fn := fun _ => fun
  | [d1, d2] => { results := [.lit (.bool false)], args := [d1, d2] }
  | _ => none }
def PartReturnsWrongFalsely : Prop := partReturnsRow.holds Tryd.pinned (OpenSpec.ofChange partReturnsWrong)

/-- 'memfaultlaw09.PartFaults': WHATEVER THE INPUT: true; the input reads as it did. -/
def partFaultsSpec : ChangeSpec := { name := "partFaults", fn := fun _ => fun
  | [d] => { results := [.lit (.bool true)], args := [d] }
  | _ => none }
def partFaultsRow : OpenClaim := { program := "ytdgkdoccllolpaadoor", sum := "f6cf8ba84d31a57b46b326f7bae7ccfca845e1c1b0ec1b9987e1ba8c8e019190", func := "memfault/memfaultlaw09.PartFaults", spec := "partFaults", named := ["memfault/part.named"], apart := false, laid := [("memfault/part.named", laid_memfault_part_named)] }
def PartFaultsSaid : Prop := partFaultsRow.holds Tryd.pinned (OpenSpec.ofChange partFaultsSpec)

/-- ITS FALSE NEIGHBOUR: 'it returns false'. Refute it at one input. -/
def partFaultsWrong : ChangeSpec := { name := "partFaults", fn := fun _ => fun
  | [d] => { results := [.lit (.bool false)], args := [d] }
  | _ => none }
def PartFaultsWrongFalsely : Prop := partFaultsRow.holds Tryd.pinned (OpenSpec.ofChange partFaultsWrong)

/-- 'memfaultlaw09.PartDivides': WHATEVER THE INPUT: true; the input reads as it did. -/
def partDividesSpec : ChangeSpec := { name := "partDivides", fn := fun _ => fun
  | [d1, d2] => { results := [.lit (.bool true)], args := [d1, d2] }
  | _ => none }
def partDividesRow : OpenClaim := { program := "ytdgkdoccllolpaadoor", sum := "f6cf8ba84d31a57b46b326f7bae7ccfca845e1c1b0ec1b9987e1ba8c8e019190", func := "memfault/memfaultlaw09.PartDivides", spec := "partDivides", named := ["memfault/part.named"], apart := false, laid := [("memfault/part.named", laid_memfault_part_named)] }
def PartDividesSaid : Prop := partDividesRow.holds Tryd.pinned (OpenSpec.ofChange partDividesSpec)

/-- ITS FALSE NEIGHBOUR: 'it returns false'. Refute it at one input. -/
def partDividesWrong : ChangeSpec := { name := "partDivides", fn := fun _ => fun
  | [d1, d2] => { results := [.lit (.bool false)], args := [d1, d2] }
  | _ => none }
def PartDividesWrongFalsely : Prop := partDividesRow.holds Tryd.pinned (OpenSpec.ofChange partDividesWrong)

/- THE SECOND FORM. 'bulk': how many values and letters a reading holds, each counted each time it is reached (what is shared counts as often as it is met; a slice's spare places count too). A statement '..UptoSaid' is the law's where the arguments, and the package variables that the reading takes, are together of bulk at most 1048576: NARROWER than '..Said'. Prove '..Said' where nothing that the law and all that it calls make is longer than what came in: it says more and counts as full. Else prove '..UptoSaid'. A law counts once. -/
mutual
def uptoBulk {H : Type} : DataW H → Nat
  | .lit (.string bytes) => bytes.length + 1
  | .lit _ => 1
  | .nil => 1
  | .ptr d => uptoBulk d + 1
  | .slice elems spare => uptoBulkAll elems + uptoBulkAll spare + 1
  | .agg parts => uptoBulkAll parts + 1
  | .iface _ d => uptoBulk d + 1
  | .map entries => uptoBulkEntries entries + 1
  | .held _ => 1
def uptoBulkAll {H : Type} : List (DataW H) → Nat
  | [] => 0
  | d :: r => uptoBulk d + uptoBulkAll r
def uptoBulkEntries {H : Type} : List (Lit × DataW H) → Nat
  | [] => 0
  | x :: r => uptoBulkEntry x + uptoBulkEntries r
def uptoBulkEntry {H : Type} : Lit × DataW H → Nat
  | (.string bytes, d) => bytes.length + uptoBulk d + 1
  | (_, d) => uptoBulk d + 1
 end
def uptoSmall : (H : Type) → List (DataW H) → Bool := fun _ ds => decide (uptoBulkAll ds ≤ 1048576)
def OpenSpec.upto (s : _root_.Go.ChangeSpec) : _root_.Go.OpenSpec := { _root_.Go.OpenSpec.ofChange s with cond := some uptoSmall }

/-- 'memfaultlaw09.PartRaw', WHERE WHAT IT READS IS OF BULK AT MOST 1048576: true; the input reads as it did. -/
def partRawUptoRow : OpenClaim := { program := "ytdgkdoccllolpaadoor", sum := "f6cf8ba84d31a57b46b326f7bae7ccfca845e1c1b0ec1b9987e1ba8c8e019190", func := "memfault/memfaultlaw09.PartRaw", spec := "partRaw", named := ["memfault/part.named"], apart := false, laid := [("memfault/part.named", laid_memfault_part_named)], narrowed := true }
def PartRawUptoSaid : Prop := partRawUptoRow.holds Tryd.pinned (OpenSpec.upto partRawSpec)

/-- 'memfaultlaw09.PartMade', WHERE WHAT IT READS IS OF BULK AT MOST 1048576: true; the input reads as it did. -/
def partMadeUptoRow : OpenClaim := { program := "ytdgkdoccllolpaadoor", sum := "f6cf8ba84d31a57b46b326f7bae7ccfca845e1c1b0ec1b9987e1ba8c8e019190", func := "memfault/memfaultlaw09.PartMade", spec := "partMade", named := ["memfault/part.named"], apart := false, laid := [("memfault/part.named", laid_memfault_part_named)], narrowed := true }
def PartMadeUptoSaid : Prop := partMadeUptoRow.holds Tryd.pinned (OpenSpec.upto partMadeSpec)

/-- 'memfaultlaw09.PartReturns', WHERE WHAT IT READS IS OF BULK AT MOST 1048576: true; the input reads as it did. -/
def partReturnsUptoRow : OpenClaim := { program := "ytdgkdoccllolpaadoor", sum := "f6cf8ba84d31a57b46b326f7bae7ccfca845e1c1b0ec1b9987e1ba8c8e019190", func := "memfault/memfaultlaw09.PartReturns", spec := "partReturns", named := ["memfault/part.named"], apart := false, laid := [("memfault/part.named", laid_memfault_part_named)], narrowed := true }
def PartReturnsUptoSaid : Prop := partReturnsUptoRow.holds Tryd.pinned (OpenSpec.upto partReturnsSpec)

/-- 'memfaultlaw09.PartFaults', WHERE WHAT IT READS IS OF BULK AT MOST 1048576: true; the input reads as it did. -/
def partFaultsUptoRow : OpenClaim := { program := "ytdgkdoccllolpaadoor", sum := "f6cf8ba84d31a57b46b326f7bae7ccfca845e1c1b0ec1b9987e1ba8c8e019190", func := "memfault/memfaultlaw09.PartFaults", spec := "partFaults", named := ["memfault/part.named"], apart := false, laid := [("memfault/part.named", laid_memfault_part_named)], narrowed := true }
def PartFaultsUptoSaid : Prop := partFaultsUptoRow.holds Tryd.pinned (OpenSpec.upto partFaultsSpec)

/-- 'memfaultlaw09.PartDivides', WHERE WHAT IT READS IS OF BULK AT MOST 1048576: true; the input reads as it did. -/
def partDividesUptoRow : OpenClaim := { program := "ytdgkdoccllolpaadoor", sum := "f6cf8ba84d31a57b46b326f7bae7ccfca845e1c1b0ec1b9987e1ba8c8e019190", func := "memfault/memfaultlaw09.PartDivides", spec := "partDivides", named := ["memfault/part.named"], apart := false, laid := [("memfault/part.named", laid_memfault_part_named)], narrowed := true }
def PartDividesUptoSaid : Prop := partDividesUptoRow.holds Tryd.pinned (OpenSpec.upto partDividesSpec)

end Rows
end Go.Proofs.YtdgkdoccllolpaaDoor
