/-
  No cell of these rows narrows 'for every input' (looked for: loops, veiled, ifaces, maps, wideKeys, modest, calm, conditions, laid).
  DERIVED. THE GIVEN ROWS OF THIS SEAT. 5 by the template 'for every input the law returns true; each argument reads behind the call as it read before'; 0 by the template 'total and deterministic' (their statements: YtodiokladojnjaaTotals.lean).
  GIVEN WITH THE SEED: the statements are not yours to turn. If you find one false, say at which input.
  Laid BY PROGRAM, IN A SANDBOX (cutbox-rows.mjs): the forced cells as the released guide's own fill.sh prints them over the translation 8db696be48c47c21… (all of the seat's roots in one cut). By AI agents, Wed Nov 11 2026. No macro, syntax, notation, axiom, sorry.
-/
import Derived.Test.YtodiokladojnjaaChecked
import GoSem.Claim
import GoSem.ClaimJoined
import GoSem.ClaimMapViews
import Derived.JoinedTies
import Derived.KernelRfl
namespace Go.Proofs.Ytodiokladojnjaa
/- THE CELL 'sum', in the pinned program and in every row, IS THE sha256 OF THE DUMP (.gsa) THAT YtodiokladojnjaaProg.lean LOADS. Nothing in Lean hashes anything: it is a label: what it is worth is what the hold of that sum in a sandbox is worth. -/
noncomputable def Try.pinned : Pinned := { name := "ytodiokladojnjaa", sum := "8db696be48c47c21968564daae9235deb4a0c7cda6de26203f265df49a3a5faa", checked := Try.checked }
namespace Rows
def none {H : Type} : Left H := { results := [], args := [] }

/-- 'memfaultlaw10.HashRaw': WHATEVER THE INPUT: true; the input reads as it did. -/
def hashRawSpec : ChangeSpec := { name := "hashRaw", fn := fun _ => fun
  | [d1, d2, d3] => { results := [.lit (.bool true)], args := [d1, d2, d3] }
  | _ => none }
def hashRawRow : OpenClaim := { program := "ytodiokladojnjaa", sum := "8db696be48c47c21968564daae9235deb4a0c7cda6de26203f265df49a3a5faa", func := "memfault/memfaultlaw10.HashRaw", spec := "hashRaw", unfollowed := true, recurses := true, apart := false }
def HashRawSaid : Prop := hashRawRow.holds Try.pinned (OpenSpec.ofChange hashRawSpec)

/-- ITS FALSE NEIGHBOUR: 'it returns false'. Refute it at one input. -/
def hashRawWrong : ChangeSpec := { name := "hashRaw", fn := fun _ => fun
  | [d1, d2, d3] => { results := [.lit (.bool false)], args := [d1, d2, d3] }
  | _ => none }
def HashRawWrongFalsely : Prop := hashRawRow.holds Try.pinned (OpenSpec.ofChange hashRawWrong)

/-- 'memfaultlaw10.HashMade': WHATEVER THE INPUT: true; the input reads as it did. -/
def hashMadeSpec : ChangeSpec := { name := "hashMade", fn := fun _ => fun
  | [d1, d2] => { results := [.lit (.bool true)], args := [d1, d2] }
  | _ => none }
def hashMadeRow : OpenClaim := { program := "ytodiokladojnjaa", sum := "8db696be48c47c21968564daae9235deb4a0c7cda6de26203f265df49a3a5faa", func := "memfault/memfaultlaw10.HashMade", spec := "hashMade", unfollowed := true, recurses := true, apart := false }
def HashMadeSaid : Prop := hashMadeRow.holds Try.pinned (OpenSpec.ofChange hashMadeSpec)

/-- ITS FALSE NEIGHBOUR: 'it returns false'. Refute it at one input. -/
def hashMadeWrong : ChangeSpec := { name := "hashMade", fn := fun _ => fun
  | [d1, d2] => { results := [.lit (.bool false)], args := [d1, d2] }
  | _ => none }
def HashMadeWrongFalsely : Prop := hashMadeRow.holds Try.pinned (OpenSpec.ofChange hashMadeWrong)

/-- 'memfaultlaw10.HashInverts': WHATEVER THE INPUT: true; the input reads as it did. -/
def hashInvertsSpec : ChangeSpec := { name := "hashInverts", fn := fun _ => fun
  | [d1, d2] => { results := [.lit (.bool true)], args := [d1, d2] }
  | _ => none }
def hashInvertsRow : OpenClaim := { program := "ytodiokladojnjaa", sum := "8db696be48c47c21968564daae9235deb4a0c7cda6de26203f265df49a3a5faa", func := "memfault/memfaultlaw10.HashInverts", spec := "hashInverts", unfollowed := true, recurses := true, apart := false }
def HashInvertsSaid : Prop := hashInvertsRow.holds Try.pinned (OpenSpec.ofChange hashInvertsSpec)

/-- ITS FALSE NEIGHBOUR: 'it returns false'. Refute it at one input. -/
def hashInvertsWrong : ChangeSpec := { name := "hashInverts", fn := fun _ => fun
  | [d1, d2] => { results := [.lit (.bool false)], args := [d1, d2] }
  | _ => none }
def HashInvertsWrongFalsely : Prop := hashInvertsRow.holds Try.pinned (OpenSpec.ofChange hashInvertsWrong)

/-- 'memfaultlaw10.HashSpreads': WHATEVER THE INPUT: true; the input reads as it did. -/
def hashSpreadsSpec : ChangeSpec := { name := "hashSpreads", fn := fun _ => fun
  | [d1, d2] => { results := [.lit (.bool true)], args := [d1, d2] }
  | _ => none }
def hashSpreadsRow : OpenClaim := { program := "ytodiokladojnjaa", sum := "8db696be48c47c21968564daae9235deb4a0c7cda6de26203f265df49a3a5faa", func := "memfault/memfaultlaw10.HashSpreads", spec := "hashSpreads", unfollowed := true, recurses := true, apart := false }
def HashSpreadsSaid : Prop := hashSpreadsRow.holds Try.pinned (OpenSpec.ofChange hashSpreadsSpec)

/-- ITS FALSE NEIGHBOUR: 'it returns false'. Refute it at one input. -/
def hashSpreadsWrong : ChangeSpec := { name := "hashSpreads", fn := fun _ => fun
  | [d1, d2] => { results := [.lit (.bool false)], args := [d1, d2] }
  | _ => none }
def HashSpreadsWrongFalsely : Prop := hashSpreadsRow.holds Try.pinned (OpenSpec.ofChange hashSpreadsWrong)

/-- 'memfaultlaw10.HashLinear': WHATEVER THE INPUT: true; the input reads as it did. -/
def hashLinearSpec : ChangeSpec := { name := "hashLinear", fn := fun _ => fun
  | [d1, d2, d3] => { results := [.lit (.bool true)], args := [d1, d2, d3] }
  | _ => none }
def hashLinearRow : OpenClaim := { program := "ytodiokladojnjaa", sum := "8db696be48c47c21968564daae9235deb4a0c7cda6de26203f265df49a3a5faa", func := "memfault/memfaultlaw10.HashLinear", spec := "hashLinear", unfollowed := true, recurses := true, apart := false }
def HashLinearSaid : Prop := hashLinearRow.holds Try.pinned (OpenSpec.ofChange hashLinearSpec)

/-- ITS FALSE NEIGHBOUR: 'it returns false'. Refute it at one input. -/
def hashLinearWrong : ChangeSpec := { name := "hashLinear", fn := fun _ => fun
  | [d1, d2, d3] => { results := [.lit (.bool false)], args := [d1, d2, d3] }
  | _ => none }
def HashLinearWrongFalsely : Prop := hashLinearRow.holds Try.pinned (OpenSpec.ofChange hashLinearWrong)

/- THE SECOND FORM. 'bulk': how many values and letters a reading holds, each counted each time it is reached (what is shared counts as often as it is met; a slice's spare places count too). A statement '..UptoSaid' is the law's where the arguments, and the package variables that the reading takes, are together of bulk at most 1048576: NARROWER than '..Said'. Prove '..Said' where nothing that the law and all that it calls make is longer than what came in: it says more and counts as full. Else prove '..UptoSaid'. A law counts once. -/
mutual
def uptoBulk {H : Type} : DataW H → Nat
  | .lit (.string bytes) => bytes.length + 1
  | .lit _ => 1
  | .nil => 1
  | .ptr d => uptoBulk d + 1
  | .slice elems spare => uptoBulkAll elems + uptoBulkAll spare + 1
  | .agg parts => uptoBulkAll parts + 1
  | .iface _ d => uptoBulk d + 1
  | .map entries => uptoBulkEntries entries + 1
  | .held _ => 1
def uptoBulkAll {H : Type} : List (DataW H) → Nat
  | [] => 0
  | d :: r => uptoBulk d + uptoBulkAll r
def uptoBulkEntries {H : Type} : List (Lit × DataW H) → Nat
  | [] => 0
  | x :: r => uptoBulkEntry x + uptoBulkEntries r
def uptoBulkEntry {H : Type} : Lit × DataW H → Nat
  | (.string bytes, d) => bytes.length + uptoBulk d + 1
  | (_, d) => uptoBulk d + 1
 end
def uptoSmall : (H : Type) → List (DataW H) → Bool := fun _ ds => decide (uptoBulkAll ds ≤ 1048576)
def OpenSpec.upto (s : _root_.Go.ChangeSpec) : _root_.Go.OpenSpec := { _root_.Go.OpenSpec.ofChange s with cond := some uptoSmall }

/-- 'memfaultlaw10.HashRaw', WHERE WHAT IT READS IS OF BULK AT MOST 1048576: true; the input reads as it did. -/
def hashRawUptoRow : OpenClaim := { program := "ytodiokladojnjaa", sum := "8db696be48c47c21968564daae9235deb4a0c7cda6de26203f265df49a3a5faa", func := "memfault/memfaultlaw10.HashRaw", spec := "hashRaw", unfollowed := true, recurses := true, apart := false, narrowed := true }
def HashRawUptoSaid : Prop := hashRawUptoRow.holds Try.pinned (OpenSpec.upto hashRawSpec)

/-- 'memfaultlaw10.HashMade', WHERE WHAT IT READS IS OF BULK AT MOST 1048576: true; the input reads as it did. -/
def hashMadeUptoRow : OpenClaim := { program := "ytodiokladojnjaa", sum := "8db696be48c47c21968564daae9235deb4a0c7cda6de26203f265df49a3a5faa", func := "memfault/memfaultlaw10.HashMade", spec := "hashMade", unfollowed := true, recurses := true, apart := false, narrowed := true }
def HashMadeUptoSaid : Prop := hashMadeUptoRow.holds Try.pinned (OpenSpec.upto hashMadeSpec)

/-- 'memfaultlaw10.HashInverts', WHERE WHAT IT READS IS OF BULK AT MOST 1048576: true; the input reads as it did. -/
def hashInvertsUptoRow : OpenClaim := { program := "ytodiokladojnjaa", sum := "8db696be48c47c21968564daae9235deb4a0c7cda6de26203f265df49a3a5faa", func := "memfault/memfaultlaw10.HashInverts", spec := "hashInverts", unfollowed := true, recurses := true, apart := false, narrowed := true }
def HashInvertsUptoSaid : Prop := hashInvertsUptoRow.holds Try.pinned (OpenSpec.upto hashInvertsSpec)

/-- 'memfaultlaw10.HashSpreads', WHERE WHAT IT READS IS OF BULK AT MOST 1048576: true; the input reads as it did. -/
def hashSpreadsUptoRow : OpenClaim := { program := "ytodiokladojnjaa", sum := "8db696be48c47c21968564daae9235deb4a0c7cda6de26203f265df49a3a5faa", func := "memfault/memfaultlaw10.HashSpreads", spec := "hashSpreads", unfollowed := true, recurses := true, apart := false, narrowed := true }
def HashSpreadsUptoSaid : Prop := hashSpreadsUptoRow.holds Try.pinned (OpenSpec.upto hashSpreadsSpec)

/-- 'memfaultlaw10.HashLinear', WHERE WHAT IT READS IS OF BULK AT MOST 1048576: true; the input reads as it did. -/
def hashLinearUptoRow : OpenClaim := { program := "ytodiokladojnjaa", sum := "8db696be48c47c21968564daae9235deb4a0c7cda6de26203f265df49a3a5faa", func := "memfault/memfaultlaw10.HashLinear", spec := "hashLinear", unfollowed := true, recurses := true, apart := false, narrowed := true }
def HashLinearUptoSaid : Prop := hashLinearUptoRow.holds Try.pinned (OpenSpec.upto hashLinearSpec)

end Rows
end Go.Proofs.Ytodiokladojnjaa
