/-
  No cell of these rows narrows 'for every input' (looked for: loops, veiled, ifaces, maps, wideKeys, modest, calm, conditions, laid).
  DERIVED. THE GIVEN ROWS OF THIS SEAT. 6 by the template 'for every input the law returns true; each argument reads behind the call as it read before'; 0 by the template 'total and deterministic' (their statements: YtijkgplglfmfnaaTotals.lean).
  GIVEN WITH THE SEED: the statements are not yours to turn. If you find one false, say at which input.
  Laid BY PROGRAM, IN A SANDBOX (cutbox-rows.mjs): the forced cells as the released guide's own fill.sh prints them over the translation e1c37eb42310a8ed… (all of the seat's roots in one cut). By AI agents, Wed Nov 11 2026. No macro, syntax, notation, axiom, sorry.
-/
import Derived.Test.YtijkgplglfmfnaaChecked
import GoSem.Claim
import GoSem.ClaimJoined
import GoSem.ClaimMapViews
import Derived.JoinedTies
import Derived.KernelRfl
namespace Go.Proofs.Ytijkgplglfmfnaa
/- THE CELL 'sum', in the pinned program and in every row, IS THE sha256 OF THE DUMP (.gsa) THAT YtijkgplglfmfnaaProg.lean LOADS. Nothing in Lean hashes anything: it is a label: what it is worth is what the hold of that sum in a sandbox is worth. -/
noncomputable def Try.pinned : Pinned := { name := "ytijkgplglfmfnaa", sum := "e1c37eb42310a8ed8937a72b222a711b8583306980cbb308a2d3c276774edbe7", checked := Try.checked }
namespace Rows
def none {H : Type} : Left H := { results := [], args := [] }

/-- 'memfaultlaw07.SymbolMade': WHATEVER THE INPUT: true; the input reads as it did. -/
def symbolMadeSpec : ChangeSpec := { name := "symbolMade", fn := fun _ => fun
  | [d] => { results := [.lit (.bool true)], args := [d] }
  | _ => none }
def symbolMadeRow : OpenClaim := { program := "ytijkgplglfmfnaa", sum := "e1c37eb42310a8ed8937a72b222a711b8583306980cbb308a2d3c276774edbe7", func := "memfault/memfaultlaw07.SymbolMade", spec := "symbolMade", unfollowed := true, recurses := true, apart := false }
def SymbolMadeSaid : Prop := symbolMadeRow.holds Try.pinned (OpenSpec.ofChange symbolMadeSpec)

/-- ITS FALSE NEIGHBOUR: 'it returns false'. Refute it at one input. -/
def symbolMadeWrong : ChangeSpec := { name := "symbolMade", fn := fun _ => fun
  | [d] => { results := [.lit (.bool false)], args := [d] }
  | _ => none }
def SymbolMadeWrongFalsely : Prop := symbolMadeRow.holds Try.pinned (OpenSpec.ofChange symbolMadeWrong)

/-- 'memfaultlaw07.SymbolFixes': WHATEVER THE INPUT: true; the input reads as it did. -/
def symbolFixesSpec : ChangeSpec := { name := "symbolFixes", fn := fun _ => fun
  | [d] => { results := [.lit (.bool true)], args := [d] }
  | _ => none }
def symbolFixesRow : OpenClaim := { program := "ytijkgplglfmfnaa", sum := "e1c37eb42310a8ed8937a72b222a711b8583306980cbb308a2d3c276774edbe7", func := "memfault/memfaultlaw07.SymbolFixes", spec := "symbolFixes", unfollowed := true, recurses := true, apart := false }
def SymbolFixesSaid : Prop := symbolFixesRow.holds Try.pinned (OpenSpec.ofChange symbolFixesSpec)

/-- ITS FALSE NEIGHBOUR: 'it returns false'. Refute it at one input. -/
def symbolFixesWrong : ChangeSpec := { name := "symbolFixes", fn := fun _ => fun
  | [d] => { results := [.lit (.bool false)], args := [d] }
  | _ => none }
def SymbolFixesWrongFalsely : Prop := symbolFixesRow.holds Try.pinned (OpenSpec.ofChange symbolFixesWrong)

/-- 'memfaultlaw07.SymbolNotices': WHATEVER THE INPUT: true; the input reads as it did. -/
def symbolNoticesSpec : ChangeSpec := { name := "symbolNotices", fn := fun _ => fun
  | [d] => { results := [.lit (.bool true)], args := [d] }
  | _ => none }
def symbolNoticesRow : OpenClaim := { program := "ytijkgplglfmfnaa", sum := "e1c37eb42310a8ed8937a72b222a711b8583306980cbb308a2d3c276774edbe7", func := "memfault/memfaultlaw07.SymbolNotices", spec := "symbolNotices", unfollowed := true, recurses := true, apart := false }
def SymbolNoticesSaid : Prop := symbolNoticesRow.holds Try.pinned (OpenSpec.ofChange symbolNoticesSpec)

/-- ITS FALSE NEIGHBOUR: 'it returns false'. Refute it at one input. -/
def symbolNoticesWrong : ChangeSpec := { name := "symbolNotices", fn := fun _ => fun
  | [d] => { results := [.lit (.bool false)], args := [d] }
  | _ => none }
def SymbolNoticesWrongFalsely : Prop := symbolNoticesRow.holds Try.pinned (OpenSpec.ofChange symbolNoticesWrong)

/-- 'memfaultlaw07.SymbolLinear': WHATEVER THE INPUT: true; the input reads as it did. -/
def symbolLinearSpec : ChangeSpec := { name := "symbolLinear", fn := fun _ => fun
  | [d1, d2] => { results := [.lit (.bool true)], args := [d1, d2] }
  | _ => none }
def symbolLinearRow : OpenClaim := { program := "ytijkgplglfmfnaa", sum := "e1c37eb42310a8ed8937a72b222a711b8583306980cbb308a2d3c276774edbe7", func := "memfault/memfaultlaw07.SymbolLinear", spec := "symbolLinear", unfollowed := true, recurses := true, apart := false }
def SymbolLinearSaid : Prop := symbolLinearRow.holds Try.pinned (OpenSpec.ofChange symbolLinearSpec)

/-- ITS FALSE NEIGHBOUR: 'it returns false'. Refute it at one input. -/
def symbolLinearWrong : ChangeSpec := { name := "symbolLinear", fn := fun _ => fun
  | [d1, d2] => { results := [.lit (.bool false)], args := [d1, d2] }
  | _ => none }
def SymbolLinearWrongFalsely : Prop := symbolLinearRow.holds Try.pinned (OpenSpec.ofChange symbolLinearWrong)

/-- 'memfaultlaw07.SymbolWords': WHATEVER THE INPUT: true; the input reads as it did. -/
def symbolWordsSpec : ChangeSpec := { name := "symbolWords", fn := fun _ => fun
  | [d] => { results := [.lit (.bool true)], args := [d] }
  | _ => none }
def symbolWordsRow : OpenClaim := { program := "ytijkgplglfmfnaa", sum := "e1c37eb42310a8ed8937a72b222a711b8583306980cbb308a2d3c276774edbe7", func := "memfault/memfaultlaw07.SymbolWords", spec := "symbolWords", unfollowed := true, recurses := true, apart := false }
def SymbolWordsSaid : Prop := symbolWordsRow.holds Try.pinned (OpenSpec.ofChange symbolWordsSpec)

/-- ITS FALSE NEIGHBOUR: 'it returns false'. Refute it at one input. -/
def symbolWordsWrong : ChangeSpec := { name := "symbolWords", fn := fun _ => fun
  | [d] => { results := [.lit (.bool false)], args := [d] }
  | _ => none }
def SymbolWordsWrongFalsely : Prop := symbolWordsRow.holds Try.pinned (OpenSpec.ofChange symbolWordsWrong)

/-- 'memfaultlaw07.SymbolShort': WHATEVER THE INPUT: true; the input reads as it did. -/
def symbolShortSpec : ChangeSpec := { name := "symbolShort", fn := fun _ => fun
  | [d1, d2] => { results := [.lit (.bool true)], args := [d1, d2] }
  | _ => none }
def symbolShortRow : OpenClaim := { program := "ytijkgplglfmfnaa", sum := "e1c37eb42310a8ed8937a72b222a711b8583306980cbb308a2d3c276774edbe7", func := "memfault/memfaultlaw07.SymbolShort", spec := "symbolShort", unfollowed := true, recurses := true, apart := false }
def SymbolShortSaid : Prop := symbolShortRow.holds Try.pinned (OpenSpec.ofChange symbolShortSpec)

/-- ITS FALSE NEIGHBOUR: 'it returns false'. Refute it at one input. -/
def symbolShortWrong : ChangeSpec := { name := "symbolShort", fn := fun _ => fun
  | [d1, d2] => { results := [.lit (.bool false)], args := [d1, d2] }
  | _ => none }
def SymbolShortWrongFalsely : Prop := symbolShortRow.holds Try.pinned (OpenSpec.ofChange symbolShortWrong)

/- THE SECOND FORM. 'bulk': how many values and letters a reading holds, each counted each time it is reached (what is shared counts as often as it is met; a slice's spare places count too). A statement '..UptoSaid' is the law's where the arguments, and the package variables that the reading takes, are together of bulk at most 1048576: NARROWER than '..Said'. Prove '..Said' where nothing that the law and all that it calls make is longer than what came in: it says more and counts as full. Else prove '..UptoSaid'. A law counts once. -/
mutual
def uptoBulk {H : Type} : DataW H → Nat
  | .lit (.string bytes) => bytes.length + 1
  | .lit _ => 1
  | .nil => 1
  | .ptr d => uptoBulk d + 1
  | .slice elems spare => uptoBulkAll elems + uptoBulkAll spare + 1
  | .agg parts => uptoBulkAll parts + 1
  | .iface _ d => uptoBulk d + 1
  | .map entries => uptoBulkEntries entries + 1
  | .held _ => 1
def uptoBulkAll {H : Type} : List (DataW H) → Nat
  | [] => 0
  | d :: r => uptoBulk d + uptoBulkAll r
def uptoBulkEntries {H : Type} : List (Lit × DataW H) → Nat
  | [] => 0
  | x :: r => uptoBulkEntry x + uptoBulkEntries r
def uptoBulkEntry {H : Type} : Lit × DataW H → Nat
  | (.string bytes, d) => bytes.length + uptoBulk d + 1
  | (_, d) => uptoBulk d + 1
 end
def uptoSmall : (H : Type) → List (DataW H) → Bool := fun _ ds => decide (uptoBulkAll ds ≤ 1048576)
def OpenSpec.upto (s : _root_.Go.ChangeSpec) : _root_.Go.OpenSpec := { _root_.Go.OpenSpec.ofChange s with cond := some uptoSmall }

/-- 'memfaultlaw07.SymbolMade', WHERE WHAT IT READS IS OF BULK AT MOST 1048576: true; the input reads as it did. -/
def symbolMadeUptoRow : OpenClaim := { program := "ytijkgplglfmfnaa", sum := "e1c37eb42310a8ed8937a72b222a711b8583306980cbb308a2d3c276774edbe7", func := "memfault/memfaultlaw07.SymbolMade", spec := "symbolMade", unfollowed := true, recurses := true, apart := false, narrowed := true }
def SymbolMadeUptoSaid : Prop := symbolMadeUptoRow.holds Try.pinned (OpenSpec.upto symbolMadeSpec)

/-- 'memfaultlaw07.SymbolFixes', WHERE WHAT IT READS IS OF BULK AT MOST 1048576: true; the input reads as it did. -/
def symbolFixesUptoRow : OpenClaim := { program := "ytijkgplglfmfnaa", sum := "e1c37eb42310a8ed8937a72b222a711b8583306980cbb308a2d3c276774edbe7", func := "memfault/memfaultlaw07.SymbolFixes", spec := "symbolFixes", unfollowed := true, recurses := true, apart := false, narrowed := true }
def SymbolFixesUptoSaid : Prop := symbolFixesUptoRow.holds Try.pinned (OpenSpec.upto symbolFixesSpec)

/-- 'memfaultlaw07.SymbolNotices', WHERE WHAT IT READS IS OF BULK AT MOST 1048576: true; the input reads as it did. -/
def symbolNoticesUptoRow : OpenClaim := { program := "ytijkgplglfmfnaa", sum := "e1c37eb42310a8ed8937a72b222a711b8583306980cbb308a2d3c276774edbe7", func := "memfault/memfaultlaw07.SymbolNotices", spec := "symbolNotices", unfollowed := true, recurses := true, apart := false, narrowed := true }
def SymbolNoticesUptoSaid : Prop := symbolNoticesUptoRow.holds Try.pinned (OpenSpec.upto symbolNoticesSpec)

/-- 'memfaultlaw07.SymbolLinear', WHERE WHAT IT READS IS OF BULK AT MOST 1048576: true; the input reads as it did. -/
def symbolLinearUptoRow : OpenClaim := { program := "ytijkgplglfmfnaa", sum := "e1c37eb42310a8ed8937a72b222a711b8583306980cbb308a2d3c276774edbe7", func := "memfault/memfaultlaw07.SymbolLinear", spec := "symbolLinear", unfollowed := true, recurses := true, apart := false, narrowed := true }
def SymbolLinearUptoSaid : Prop := symbolLinearUptoRow.holds Try.pinned (OpenSpec.upto symbolLinearSpec)

/-- 'memfaultlaw07.SymbolWords', WHERE WHAT IT READS IS OF BULK AT MOST 1048576: true; the input reads as it did. -/
def symbolWordsUptoRow : OpenClaim := { program := "ytijkgplglfmfnaa", sum := "e1c37eb42310a8ed8937a72b222a711b8583306980cbb308a2d3c276774edbe7", func := "memfault/memfaultlaw07.SymbolWords", spec := "symbolWords", unfollowed := true, recurses := true, apart := false, narrowed := true }
def SymbolWordsUptoSaid : Prop := symbolWordsUptoRow.holds Try.pinned (OpenSpec.upto symbolWordsSpec)

/-- 'memfaultlaw07.SymbolShort', WHERE WHAT IT READS IS OF BULK AT MOST 1048576: true; the input reads as it did. -/
def symbolShortUptoRow : OpenClaim := { program := "ytijkgplglfmfnaa", sum := "e1c37eb42310a8ed8937a72b222a711b8583306980cbb308a2d3c276774edbe7", func := "memfault/memfaultlaw07.SymbolShort", spec := "symbolShort", unfollowed := true, recurses := true, apart := false, narrowed := true }
def SymbolShortUptoSaid : Prop := symbolShortUptoRow.holds Try.pinned (OpenSpec.upto symbolShortSpec)

end Rows
end Go.Proofs.Ytijkgplglfmfnaa
