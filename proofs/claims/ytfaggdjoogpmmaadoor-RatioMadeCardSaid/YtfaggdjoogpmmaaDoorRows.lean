/-
  NARROWER THAN 'FOR EVERY INPUT', by the rows' own cells (each row's printed sentence says how): NatRaw: laid · NatMade: laid · NatLong: laid · NatNumbers: laid · NatReturns: laid · NatLaws: laid · NatPascal: laid · NatPowers: laid · NatOrder: laid · RatioRaw: laid · RatioMade: laid · RatioInts: laid · RatioLaws: laid · RatioOrder: laid · RatioTurns: laid.
  DERIVED. THE GIVEN ROWS OF THIS SEAT. 15 by the template 'for every input the law returns true; each argument reads behind the call as it read before'; 0 by the template 'total and deterministic' (their statements: YtfaggdjoogpmmaaDoorTotals.lean).
  GIVEN WITH THE SEED: the statements are not yours to turn. If you find one false, say at which input.
  Laid BY PROGRAM, IN A SANDBOX (cutbox-rows.mjs): the forced cells as the released guide's own fill.sh prints them over the translation aa3ca5b0e3e1baa9… (all of the seat's roots in one cut). By AI agents, Wed Nov 11 2026. No macro, syntax, notation, axiom, sorry.
-/
import Derived.Test.YtfaggdjoogpmmaaDoorChecked
import GoSem.PinnedTables
import GoSem.Claim
import GoSem.ClaimJoined
import GoSem.ClaimMapViews
import Derived.JoinedTies
import Derived.KernelRfl
namespace Go.Proofs.YtfaggdjoogpmmaaDoor
/- THE CELL 'sum', in the pinned program and in every row, IS THE sha256 OF THE DUMP (.gsa) THAT YtfaggdjoogpmmaaDoorProg.lean LOADS. Nothing in Lean hashes anything: it is a label: what it is worth is what the hold of that sum in a sandbox is worth. -/
noncomputable def Tryd.pinned : Pinned := { name := "ytfaggdjoogpmmaadoor", sum := "aa3ca5b0e3e1baa9a03b9aa8714ce3b484fa2e6639f461a72703f0258cfec95c", checked := Tryd.checked }
namespace Rows
def none {H : Type} : Left H := { results := [], args := [] }

/- WHAT THE LISTED PACKAGE-LEVEL VARIABLES READ AS WHEN THE CALL BEGINS. Each datum BY PROGRAM (the guide's laid-datum.mjs) off the statement by which the dump's own 'gosem.cut.vars' lays the variable. In a bare row this is a premise. The card (YtfaggdjoogpmmaaDoorCards.lean) ties it to the program's text. -/
def laid_unicode_utf8_acceptRanges {H : Type} : DataW H := .agg [.agg [.lit (.int .u8 128), .lit (.int .u8 191)], .agg [.lit (.int .u8 160), .lit (.int .u8 191)], .agg [.lit (.int .u8 128), .lit (.int .u8 159)], .agg [.lit (.int .u8 144), .lit (.int .u8 191)], .agg [.lit (.int .u8 128), .lit (.int .u8 143)], .agg [.lit (.int .u8 0), .lit (.int .u8 0)], .agg [.lit (.int .u8 0), .lit (.int .u8 0)], .agg [.lit (.int .u8 0), .lit (.int .u8 0)], .agg [.lit (.int .u8 0), .lit (.int .u8 0)], .agg [.lit (.int .u8 0), .lit (.int .u8 0)], .agg [.lit (.int .u8 0), .lit (.int .u8 0)], .agg [.lit (.int .u8 0), .lit (.int .u8 0)], .agg [.lit (.int .u8 0), .lit (.int .u8 0)], .agg [.lit (.int .u8 0), .lit (.int .u8 0)], .agg [.lit (.int .u8 0), .lit (.int .u8 0)], .agg [.lit (.int .u8 0), .lit (.int .u8 0)]]
/-- One of Go's own tables, pinned by name: the form's constant. -/
def laid_unicode_utf8_first : DataW Unit := Go.Pinned.utf8First

/-- 'memfaultlaw01.NatRaw': WHATEVER THE INPUT: true; the input reads as it did. -/
def natRawSpec : ChangeSpec := { name := "natRaw", fn := fun _ => fun
  | [d1, d2] => { results := [.lit (.bool true)], args := [d1, d2] }
  | _ => none }
def natRawRow : OpenClaim := { program := "ytfaggdjoogpmmaadoor", sum := "aa3ca5b0e3e1baa9a03b9aa8714ce3b484fa2e6639f461a72703f0258cfec95c", func := "memfault/memfaultlaw01.NatRaw", spec := "natRaw", inPlace := ["internal/bytealg.IndexByteString", "internal/bytealg.IndexString"], unfollowed := true, recurses := true, named := ["unicode/utf8.first", "unicode/utf8.acceptRanges", "math/bits.divideError", "math/bits.overflowError", "internal/bytealg.MaxLen"], apart := false, laid := [("unicode/utf8.acceptRanges", laid_unicode_utf8_acceptRanges), ("unicode/utf8.first", laid_unicode_utf8_first)] }
def NatRawSaid : Prop := natRawRow.holds Tryd.pinned (OpenSpec.ofChange natRawSpec)

/-- ITS FALSE NEIGHBOUR: 'it returns false'. Refute it at one input. -/
def natRawWrong : ChangeSpec := { name := "natRaw", fn := fun _ => fun
  | [d1, d2] => { results := [.lit (.bool false)], args := [d1, d2] }
  | _ => none }
def NatRawWrongFalsely : Prop := natRawRow.holds Tryd.pinned (OpenSpec.ofChange natRawWrong)

/-- 'memfaultlaw01.NatMade': WHATEVER THE INPUT: true; the input reads as it did. -/
def natMadeSpec : ChangeSpec := { name := "natMade", fn := fun _ => fun
  | [d] => { results := [.lit (.bool true)], args := [d] }
  | _ => none }
def natMadeRow : OpenClaim := { program := "ytfaggdjoogpmmaadoor", sum := "aa3ca5b0e3e1baa9a03b9aa8714ce3b484fa2e6639f461a72703f0258cfec95c", func := "memfault/memfaultlaw01.NatMade", spec := "natMade", inPlace := ["internal/bytealg.IndexByteString", "internal/bytealg.IndexString"], unfollowed := true, recurses := true, named := ["unicode/utf8.first", "unicode/utf8.acceptRanges", "math/bits.divideError", "math/bits.overflowError", "internal/bytealg.MaxLen"], apart := false, laid := [("unicode/utf8.acceptRanges", laid_unicode_utf8_acceptRanges), ("unicode/utf8.first", laid_unicode_utf8_first)] }
def NatMadeSaid : Prop := natMadeRow.holds Tryd.pinned (OpenSpec.ofChange natMadeSpec)

/-- ITS FALSE NEIGHBOUR: 'it returns false'. Refute it at one input. -/
def natMadeWrong : ChangeSpec := { name := "natMade", fn := fun _ => fun
  | [d] => { results := [.lit (.bool false)], args := [d] }
  | _ => none }
def NatMadeWrongFalsely : Prop := natMadeRow.holds Tryd.pinned (OpenSpec.ofChange natMadeWrong)

/-- 'memfaultlaw01.NatLong': WHATEVER THE INPUT: true; the input reads as it did. -/
def natLongSpec : ChangeSpec := { name := "natLong", fn := fun _ => fun
  | [d1, d2] => { results := [.lit (.bool true)], args := [d1, d2] }
  | _ => none }
def natLongRow : OpenClaim := { program := "ytfaggdjoogpmmaadoor", sum := "aa3ca5b0e3e1baa9a03b9aa8714ce3b484fa2e6639f461a72703f0258cfec95c", func := "memfault/memfaultlaw01.NatLong", spec := "natLong", inPlace := ["internal/bytealg.IndexByteString", "internal/bytealg.IndexString"], unfollowed := true, recurses := true, named := ["unicode/utf8.first", "unicode/utf8.acceptRanges", "internal/bytealg.MaxLen"], apart := false, laid := [("unicode/utf8.acceptRanges", laid_unicode_utf8_acceptRanges), ("unicode/utf8.first", laid_unicode_utf8_first)] }
def NatLongSaid : Prop := natLongRow.holds Tryd.pinned (OpenSpec.ofChange natLongSpec)

/-- ITS FALSE NEIGHBOUR: 'it returns false'. Refute it at one input. -/
def natLongWrong : ChangeSpec := { name := "natLong", fn := fun _ => fun
  | [d1, d2] => { results := [.lit (.bool false)], args := [d1, d2] }
  | _ => none }
def NatLongWrongFalsely : Prop := natLongRow.holds Tryd.pinned (OpenSpec.ofChange natLongWrong)

/-- 'memfaultlaw01.NatNumbers': WHATEVER THE INPUT: true; the input reads as it did. -/
def natNumbersSpec : ChangeSpec := { name := "natNumbers", fn := fun _ => fun
  | [d1, d2, d3] => { results := [.lit (.bool true)], args := [d1, d2, d3] }
  | _ => none }
def natNumbersRow : OpenClaim := { program := "ytfaggdjoogpmmaadoor", sum := "aa3ca5b0e3e1baa9a03b9aa8714ce3b484fa2e6639f461a72703f0258cfec95c", func := "memfault/memfaultlaw01.NatNumbers", spec := "natNumbers", inPlace := ["internal/bytealg.IndexByteString", "internal/bytealg.IndexString"], unfollowed := true, recurses := true, named := ["unicode/utf8.first", "unicode/utf8.acceptRanges", "internal/bytealg.MaxLen"], apart := false, laid := [("unicode/utf8.acceptRanges", laid_unicode_utf8_acceptRanges), ("unicode/utf8.first", laid_unicode_utf8_first)] }
def NatNumbersSaid : Prop := natNumbersRow.holds Tryd.pinned (OpenSpec.ofChange natNumbersSpec)

/-- ITS FALSE NEIGHBOUR: 'it returns false'. Refute it at one input. -/
def natNumbersWrong : ChangeSpec := { name := "natNumbers", fn := fun _ => fun
  | [d1, d2, d3] => { results := [.lit (.bool false)], args := [d1, d2, d3] }
  | _ => none }
def NatNumbersWrongFalsely : Prop := natNumbersRow.holds Tryd.pinned (OpenSpec.ofChange natNumbersWrong)

/-- 'memfaultlaw01.NatReturns': WHATEVER THE INPUT: true; the input reads as it did. -/
def natReturnsSpec : ChangeSpec := { name := "natReturns", fn := fun _ => fun
  | [d] => { results := [.lit (.bool true)], args := [d] }
  | _ => none }
def natReturnsRow : OpenClaim := { program := "ytfaggdjoogpmmaadoor", sum := "aa3ca5b0e3e1baa9a03b9aa8714ce3b484fa2e6639f461a72703f0258cfec95c", func := "memfault/memfaultlaw01.NatReturns", spec := "natReturns", inPlace := ["internal/bytealg.IndexByteString", "internal/bytealg.IndexString"], unfollowed := true, recurses := true, named := ["unicode/utf8.first", "unicode/utf8.acceptRanges", "math/bits.divideError", "math/bits.overflowError", "internal/bytealg.MaxLen"], apart := false, laid := [("unicode/utf8.acceptRanges", laid_unicode_utf8_acceptRanges), ("unicode/utf8.first", laid_unicode_utf8_first)] }
def NatReturnsSaid : Prop := natReturnsRow.holds Tryd.pinned (OpenSpec.ofChange natReturnsSpec)

/-- ITS FALSE NEIGHBOUR: 'it returns false'. Refute it at one input. -/
def natReturnsWrong : ChangeSpec := { name := "natReturns", fn := fun _ => fun
  | [d] => { results := [.lit (.bool false)], args := [d] }
  | _ => none }
def NatReturnsWrongFalsely : Prop := natReturnsRow.holds Tryd.pinned (OpenSpec.ofChange natReturnsWrong)

/-- 'memfaultlaw01.NatLaws': WHATEVER THE INPUT: true; the input reads as it did. -/
def natLawsSpec : ChangeSpec := { name := "natLaws", fn := fun _ => fun
  | [d] => { results := [.lit (.bool true)], args := [d] }
  | _ => none }
def natLawsRow : OpenClaim := { program := "ytfaggdjoogpmmaadoor", sum := "aa3ca5b0e3e1baa9a03b9aa8714ce3b484fa2e6639f461a72703f0258cfec95c", func := "memfault/memfaultlaw01.NatLaws", spec := "natLaws", inPlace := ["internal/bytealg.IndexByteString", "internal/bytealg.IndexString"], unfollowed := true, recurses := true, named := ["unicode/utf8.first", "unicode/utf8.acceptRanges", "math/bits.divideError", "math/bits.overflowError", "internal/bytealg.MaxLen"], apart := false, laid := [("unicode/utf8.acceptRanges", laid_unicode_utf8_acceptRanges), ("unicode/utf8.first", laid_unicode_utf8_first)] }
def NatLawsSaid : Prop := natLawsRow.holds Tryd.pinned (OpenSpec.ofChange natLawsSpec)

/-- ITS FALSE NEIGHBOUR: 'it returns false'. Refute it at one input. -/
def natLawsWrong : ChangeSpec := { name := "natLaws", fn := fun _ => fun
  | [d] => { results := [.lit (.bool false)], args := [d] }
  | _ => none }
def NatLawsWrongFalsely : Prop := natLawsRow.holds Tryd.pinned (OpenSpec.ofChange natLawsWrong)

/-- 'memfaultlaw01.NatPascal': WHATEVER THE INPUT: true; the input reads as it did. -/
def natPascalSpec : ChangeSpec := { name := "natPascal", fn := fun _ => fun
  | [d1, d2] => { results := [.lit (.bool true)], args := [d1, d2] }
  | _ => none }
def natPascalRow : OpenClaim := { program := "ytfaggdjoogpmmaadoor", sum := "aa3ca5b0e3e1baa9a03b9aa8714ce3b484fa2e6639f461a72703f0258cfec95c", func := "memfault/memfaultlaw01.NatPascal", spec := "natPascal", inPlace := ["internal/bytealg.IndexByteString", "internal/bytealg.IndexString"], unfollowed := true, recurses := true, named := ["unicode/utf8.first", "unicode/utf8.acceptRanges", "internal/bytealg.MaxLen"], apart := false, laid := [("unicode/utf8.acceptRanges", laid_unicode_utf8_acceptRanges), ("unicode/utf8.first", laid_unicode_utf8_first)] }
def NatPascalSaid : Prop := natPascalRow.holds Tryd.pinned (OpenSpec.ofChange natPascalSpec)

/-- ITS FALSE NEIGHBOUR: 'it returns false'. Refute it at one input. -/
def natPascalWrong : ChangeSpec := { name := "natPascal", fn := fun _ => fun
  | [d1, d2] => { results := [.lit (.bool false)], args := [d1, d2] }
  | _ => none }
def NatPascalWrongFalsely : Prop := natPascalRow.holds Tryd.pinned (OpenSpec.ofChange natPascalWrong)

/-- 'memfaultlaw01.NatPowers': WHATEVER THE INPUT: true; the input reads as it did. -/
def natPowersSpec : ChangeSpec := { name := "natPowers", fn := fun _ => fun
  | [d1, d2, d3] => { results := [.lit (.bool true)], args := [d1, d2, d3] }
  | _ => none }
def natPowersRow : OpenClaim := { program := "ytfaggdjoogpmmaadoor", sum := "aa3ca5b0e3e1baa9a03b9aa8714ce3b484fa2e6639f461a72703f0258cfec95c", func := "memfault/memfaultlaw01.NatPowers", spec := "natPowers", inPlace := ["internal/bytealg.IndexByteString", "internal/bytealg.IndexString"], unfollowed := true, recurses := true, named := ["unicode/utf8.first", "unicode/utf8.acceptRanges", "internal/bytealg.MaxLen"], apart := false, laid := [("unicode/utf8.acceptRanges", laid_unicode_utf8_acceptRanges), ("unicode/utf8.first", laid_unicode_utf8_first)] }
def NatPowersSaid : Prop := natPowersRow.holds Tryd.pinned (OpenSpec.ofChange natPowersSpec)

/-- ITS FALSE NEIGHBOUR: 'it returns false'. Refute it at one input. -/
def natPowersWrong : ChangeSpec := { name := "natPowers", fn := fun _ => fun
  | [d1, d2, d3] => { results := [.lit (.bool false)], args := [d1, d2, d3] }
  | _ => none }
def NatPowersWrongFalsely : Prop := natPowersRow.holds Tryd.pinned (OpenSpec.ofChange natPowersWrong)

/-- 'memfaultlaw01.NatOrder': WHATEVER THE INPUT: true; the input reads as it did. -/
def natOrderSpec : ChangeSpec := { name := "natOrder", fn := fun _ => fun
  | [d1, d2] => { results := [.lit (.bool true)], args := [d1, d2] }
  | _ => none }
def natOrderRow : OpenClaim := { program := "ytfaggdjoogpmmaadoor", sum := "aa3ca5b0e3e1baa9a03b9aa8714ce3b484fa2e6639f461a72703f0258cfec95c", func := "memfault/memfaultlaw01.NatOrder", spec := "natOrder", inPlace := ["internal/bytealg.IndexByteString", "internal/bytealg.IndexString"], unfollowed := true, recurses := true, named := ["unicode/utf8.first", "unicode/utf8.acceptRanges", "internal/bytealg.MaxLen"], apart := false, laid := [("unicode/utf8.acceptRanges", laid_unicode_utf8_acceptRanges), ("unicode/utf8.first", laid_unicode_utf8_first)] }
def NatOrderSaid : Prop := natOrderRow.holds Tryd.pinned (OpenSpec.ofChange natOrderSpec)

/-- ITS FALSE NEIGHBOUR: 'it returns false'. Refute it at one input. -/
def natOrderWrong : ChangeSpec := { name := "natOrder", fn := fun _ => fun
  | [d1, d2] => { results := [.lit (.bool false)], args := [d1, d2] }
  | _ => none }
def NatOrderWrongFalsely : Prop := natOrderRow.holds Tryd.pinned (OpenSpec.ofChange natOrderWrong)

/-- 'memfaultlaw02.RatioRaw': WHATEVER THE INPUT: true; the input reads as it did. -/
def ratioRawSpec : ChangeSpec := { name := "ratioRaw", fn := fun _ => fun
  | [d1, d2] => { results := [.lit (.bool true)], args := [d1, d2] }
  | _ => none }
def ratioRawRow : OpenClaim := { program := "ytfaggdjoogpmmaadoor", sum := "aa3ca5b0e3e1baa9a03b9aa8714ce3b484fa2e6639f461a72703f0258cfec95c", func := "memfault/memfaultlaw02.RatioRaw", spec := "ratioRaw", inPlace := ["internal/bytealg.IndexByteString", "internal/bytealg.IndexString"], unfollowed := true, recurses := true, named := ["math/bits.divideError", "math/bits.overflowError", "unicode/utf8.first", "unicode/utf8.acceptRanges", "internal/bytealg.MaxLen"], apart := false, laid := [("unicode/utf8.acceptRanges", laid_unicode_utf8_acceptRanges), ("unicode/utf8.first", laid_unicode_utf8_first)] }
def RatioRawSaid : Prop := ratioRawRow.holds Tryd.pinned (OpenSpec.ofChange ratioRawSpec)

/-- ITS FALSE NEIGHBOUR: 'it returns false'. Refute it at one input. -/
def ratioRawWrong : ChangeSpec := { name := "ratioRaw", fn := fun _ => fun
  | [d1, d2] => { results := [.lit (.bool false)], args := [d1, d2] }
  | _ => none }
def RatioRawWrongFalsely : Prop := ratioRawRow.holds Tryd.pinned (OpenSpec.ofChange ratioRawWrong)

/-- 'memfaultlaw02.RatioMade': WHATEVER THE INPUT: true; the input reads as it did. -/
def ratioMadeSpec : ChangeSpec := { name := "ratioMade", fn := fun _ => fun
  | [d] => { results := [.lit (.bool true)], args := [d] }
  | _ => none }
def ratioMadeRow : OpenClaim := { program := "ytfaggdjoogpmmaadoor", sum := "aa3ca5b0e3e1baa9a03b9aa8714ce3b484fa2e6639f461a72703f0258cfec95c", func := "memfault/memfaultlaw02.RatioMade", spec := "ratioMade", inPlace := ["internal/bytealg.IndexByteString", "internal/bytealg.IndexString"], unfollowed := true, recurses := true, named := ["math/bits.divideError", "math/bits.overflowError", "unicode/utf8.first", "unicode/utf8.acceptRanges", "internal/bytealg.MaxLen"], apart := false, laid := [("unicode/utf8.acceptRanges", laid_unicode_utf8_acceptRanges), ("unicode/utf8.first", laid_unicode_utf8_first)] }
def RatioMadeSaid : Prop := ratioMadeRow.holds Tryd.pinned (OpenSpec.ofChange ratioMadeSpec)

/-- ITS FALSE NEIGHBOUR: 'it returns false'. Refute it at one input. -/
def ratioMadeWrong : ChangeSpec := { name := "ratioMade", fn := fun _ => fun
  | [d] => { results := [.lit (.bool false)], args := [d] }
  | _ => none }
def RatioMadeWrongFalsely : Prop := ratioMadeRow.holds Tryd.pinned (OpenSpec.ofChange ratioMadeWrong)

/-- 'memfaultlaw02.RatioInts': WHATEVER THE INPUT: true; the input reads as it did. -/
def ratioIntsSpec : ChangeSpec := { name := "ratioInts", fn := fun _ => fun
  | [d1, d2, d3] => { results := [.lit (.bool true)], args := [d1, d2, d3] }
  | _ => none }
def ratioIntsRow : OpenClaim := { program := "ytfaggdjoogpmmaadoor", sum := "aa3ca5b0e3e1baa9a03b9aa8714ce3b484fa2e6639f461a72703f0258cfec95c", func := "memfault/memfaultlaw02.RatioInts", spec := "ratioInts", inPlace := ["internal/bytealg.IndexByteString", "internal/bytealg.IndexString"], unfollowed := true, recurses := true, named := ["math/bits.divideError", "math/bits.overflowError", "unicode/utf8.first", "unicode/utf8.acceptRanges", "internal/bytealg.MaxLen"], apart := false, laid := [("unicode/utf8.acceptRanges", laid_unicode_utf8_acceptRanges), ("unicode/utf8.first", laid_unicode_utf8_first)] }
def RatioIntsSaid : Prop := ratioIntsRow.holds Tryd.pinned (OpenSpec.ofChange ratioIntsSpec)

/-- ITS FALSE NEIGHBOUR: 'it returns false'. Refute it at one input. -/
def ratioIntsWrong : ChangeSpec := { name := "ratioInts", fn := fun _ => fun
  | [d1, d2, d3] => { results := [.lit (.bool false)], args := [d1, d2, d3] }
  | _ => none }
def RatioIntsWrongFalsely : Prop := ratioIntsRow.holds Tryd.pinned (OpenSpec.ofChange ratioIntsWrong)

/-- 'memfaultlaw02.RatioLaws': WHATEVER THE INPUT: true; the input reads as it did. -/
def ratioLawsSpec : ChangeSpec := { name := "ratioLaws", fn := fun _ => fun
  | [d] => { results := [.lit (.bool true)], args := [d] }
  | _ => none }
def ratioLawsRow : OpenClaim := { program := "ytfaggdjoogpmmaadoor", sum := "aa3ca5b0e3e1baa9a03b9aa8714ce3b484fa2e6639f461a72703f0258cfec95c", func := "memfault/memfaultlaw02.RatioLaws", spec := "ratioLaws", inPlace := ["internal/bytealg.IndexByteString", "internal/bytealg.IndexString"], unfollowed := true, recurses := true, named := ["math/bits.divideError", "math/bits.overflowError", "unicode/utf8.first", "unicode/utf8.acceptRanges", "internal/bytealg.MaxLen"], apart := false, laid := [("unicode/utf8.acceptRanges", laid_unicode_utf8_acceptRanges), ("unicode/utf8.first", laid_unicode_utf8_first)] }
def RatioLawsSaid : Prop := ratioLawsRow.holds Tryd.pinned (OpenSpec.ofChange ratioLawsSpec)

/-- ITS FALSE NEIGHBOUR: 'it returns false'. Refute it at one input. -/
def ratioLawsWrong : ChangeSpec := { name := "ratioLaws", fn := fun _ => fun
  | [d] => { results := [.lit (.bool false)], args := [d] }
  | _ => none }
def RatioLawsWrongFalsely : Prop := ratioLawsRow.holds Tryd.pinned (OpenSpec.ofChange ratioLawsWrong)

/-- 'memfaultlaw02.RatioOrder': WHATEVER THE INPUT: true; the input reads as it did. -/
def ratioOrderSpec : ChangeSpec := { name := "ratioOrder", fn := fun _ => fun
  | [d] => { results := [.lit (.bool true)], args := [d] }
  | _ => none }
def ratioOrderRow : OpenClaim := { program := "ytfaggdjoogpmmaadoor", sum := "aa3ca5b0e3e1baa9a03b9aa8714ce3b484fa2e6639f461a72703f0258cfec95c", func := "memfault/memfaultlaw02.RatioOrder", spec := "ratioOrder", inPlace := ["internal/bytealg.IndexByteString", "internal/bytealg.IndexString"], unfollowed := true, recurses := true, named := ["math/bits.divideError", "math/bits.overflowError", "unicode/utf8.first", "unicode/utf8.acceptRanges", "internal/bytealg.MaxLen"], apart := false, laid := [("unicode/utf8.acceptRanges", laid_unicode_utf8_acceptRanges), ("unicode/utf8.first", laid_unicode_utf8_first)] }
def RatioOrderSaid : Prop := ratioOrderRow.holds Tryd.pinned (OpenSpec.ofChange ratioOrderSpec)

/-- ITS FALSE NEIGHBOUR: 'it returns false'. Refute it at one input. -/
def ratioOrderWrong : ChangeSpec := { name := "ratioOrder", fn := fun _ => fun
  | [d] => { results := [.lit (.bool false)], args := [d] }
  | _ => none }
def RatioOrderWrongFalsely : Prop := ratioOrderRow.holds Tryd.pinned (OpenSpec.ofChange ratioOrderWrong)

/-- 'memfaultlaw02.RatioTurns': WHATEVER THE INPUT: true; the input reads as it did. -/
def ratioTurnsSpec : ChangeSpec := { name := "ratioTurns", fn := fun _ => fun
  | [d] => { results := [.lit (.bool true)], args := [d] }
  | _ => none }
def ratioTurnsRow : OpenClaim := { program := "ytfaggdjoogpmmaadoor", sum := "aa3ca5b0e3e1baa9a03b9aa8714ce3b484fa2e6639f461a72703f0258cfec95c", func := "memfault/memfaultlaw02.RatioTurns", spec := "ratioTurns", inPlace := ["internal/bytealg.IndexByteString", "internal/bytealg.IndexString"], unfollowed := true, recurses := true, named := ["math/bits.divideError", "math/bits.overflowError", "unicode/utf8.first", "unicode/utf8.acceptRanges", "internal/bytealg.MaxLen"], apart := false, laid := [("unicode/utf8.acceptRanges", laid_unicode_utf8_acceptRanges), ("unicode/utf8.first", laid_unicode_utf8_first)] }
def RatioTurnsSaid : Prop := ratioTurnsRow.holds Tryd.pinned (OpenSpec.ofChange ratioTurnsSpec)

/-- ITS FALSE NEIGHBOUR: 'it returns false'. Refute it at one input. -/
def ratioTurnsWrong : ChangeSpec := { name := "ratioTurns", fn := fun _ => fun
  | [d] => { results := [.lit (.bool false)], args := [d] }
  | _ => none }
def RatioTurnsWrongFalsely : Prop := ratioTurnsRow.holds Tryd.pinned (OpenSpec.ofChange ratioTurnsWrong)

/- THE SECOND FORM. 'bulk': how many values and letters a reading holds, each counted each time it is reached (what is shared counts as often as it is met; a slice's spare places count too). A statement '..UptoSaid' is the law's where the arguments, and the package variables that the reading takes, are together of bulk at most 1048576: NARROWER than '..Said'. Prove '..Said' where nothing that the law and all that it calls make is longer than what came in: it says more and counts as full. Else prove '..UptoSaid'. A law counts once. -/
mutual
def uptoBulk {H : Type} : DataW H → Nat
  | .lit (.string bytes) => bytes.length + 1
  | .lit _ => 1
  | .nil => 1
  | .ptr d => uptoBulk d + 1
  | .slice elems spare => uptoBulkAll elems + uptoBulkAll spare + 1
  | .agg parts => uptoBulkAll parts + 1
  | .iface _ d => uptoBulk d + 1
  | .map entries => uptoBulkEntries entries + 1
  | .held _ => 1
def uptoBulkAll {H : Type} : List (DataW H) → Nat
  | [] => 0
  | d :: r => uptoBulk d + uptoBulkAll r
def uptoBulkEntries {H : Type} : List (Lit × DataW H) → Nat
  | [] => 0
  | x :: r => uptoBulkEntry x + uptoBulkEntries r
def uptoBulkEntry {H : Type} : Lit × DataW H → Nat
  | (.string bytes, d) => bytes.length + uptoBulk d + 1
  | (_, d) => uptoBulk d + 1
 end
def uptoSmall : (H : Type) → List (DataW H) → Bool := fun _ ds => decide (uptoBulkAll ds ≤ 1048576)
def OpenSpec.upto (s : _root_.Go.ChangeSpec) : _root_.Go.OpenSpec := { _root_.Go.OpenSpec.ofChange s with cond := some uptoSmall }

/-- 'memfaultlaw01.NatRaw', WHERE WHAT IT READS IS OF BULK AT MOST 1048576: true; the input reads as it did. -/
def natRawUptoRow : OpenClaim := { program := "ytfaggdjoogpmmaadoor", sum := "aa3ca5b0e3e1baa9a03b9aa8714ce3b484fa2e6639f461a72703f0258cfec95c", func := "memfault/memfaultlaw01.NatRaw", spec := "natRaw", inPlace := ["internal/bytealg.IndexByteString", "internal/bytealg.IndexString"], unfollowed := true, recurses := true, named := ["unicode/utf8.first", "unicode/utf8.acceptRanges", "math/bits.divideError", "math/bits.overflowError", "internal/bytealg.MaxLen"], apart := false, laid := [("unicode/utf8.acceptRanges", laid_unicode_utf8_acceptRanges), ("unicode/utf8.first", laid_unicode_utf8_first)], narrowed := true }
def NatRawUptoSaid : Prop := natRawUptoRow.holds Tryd.pinned (OpenSpec.upto natRawSpec)

/-- 'memfaultlaw01.NatMade', WHERE WHAT IT READS IS OF BULK AT MOST 1048576: true; the input reads as it did. -/
def natMadeUptoRow : OpenClaim := { program := "ytfaggdjoogpmmaadoor", sum := "aa3ca5b0e3e1baa9a03b9aa8714ce3b484fa2e6639f461a72703f0258cfec95c", func := "memfault/memfaultlaw01.NatMade", spec := "natMade", inPlace := ["internal/bytealg.IndexByteString", "internal/bytealg.IndexString"], unfollowed := true, recurses := true, named := ["unicode/utf8.first", "unicode/utf8.acceptRanges", "math/bits.divideError", "math/bits.overflowError", "internal/bytealg.MaxLen"], apart := false, laid := [("unicode/utf8.acceptRanges", laid_unicode_utf8_acceptRanges), ("unicode/utf8.first", laid_unicode_utf8_first)], narrowed := true }
def NatMadeUptoSaid : Prop := natMadeUptoRow.holds Tryd.pinned (OpenSpec.upto natMadeSpec)

/-- 'memfaultlaw01.NatLong', WHERE WHAT IT READS IS OF BULK AT MOST 1048576: true; the input reads as it did. -/
def natLongUptoRow : OpenClaim := { program := "ytfaggdjoogpmmaadoor", sum := "aa3ca5b0e3e1baa9a03b9aa8714ce3b484fa2e6639f461a72703f0258cfec95c", func := "memfault/memfaultlaw01.NatLong", spec := "natLong", inPlace := ["internal/bytealg.IndexByteString", "internal/bytealg.IndexString"], unfollowed := true, recurses := true, named := ["unicode/utf8.first", "unicode/utf8.acceptRanges", "internal/bytealg.MaxLen"], apart := false, laid := [("unicode/utf8.acceptRanges", laid_unicode_utf8_acceptRanges), ("unicode/utf8.first", laid_unicode_utf8_first)], narrowed := true }
def NatLongUptoSaid : Prop := natLongUptoRow.holds Tryd.pinned (OpenSpec.upto natLongSpec)

/-- 'memfaultlaw01.NatNumbers', WHERE WHAT IT READS IS OF BULK AT MOST 1048576: true; the input reads as it did. -/
def natNumbersUptoRow : OpenClaim := { program := "ytfaggdjoogpmmaadoor", sum := "aa3ca5b0e3e1baa9a03b9aa8714ce3b484fa2e6639f461a72703f0258cfec95c", func := "memfault/memfaultlaw01.NatNumbers", spec := "natNumbers", inPlace := ["internal/bytealg.IndexByteString", "internal/bytealg.IndexString"], unfollowed := true, recurses := true, named := ["unicode/utf8.first", "unicode/utf8.acceptRanges", "internal/bytealg.MaxLen"], apart := false, laid := [("unicode/utf8.acceptRanges", laid_unicode_utf8_acceptRanges), ("unicode/utf8.first", laid_unicode_utf8_first)], narrowed := true }
def NatNumbersUptoSaid : Prop := natNumbersUptoRow.holds Tryd.pinned (OpenSpec.upto natNumbersSpec)

/-- 'memfaultlaw01.NatReturns', WHERE WHAT IT READS IS OF BULK AT MOST 1048576: true; the input reads as it did. -/
def natReturnsUptoRow : OpenClaim := { program := "ytfaggdjoogpmmaadoor", sum := "aa3ca5b0e3e1baa9a03b9aa8714ce3b484fa2e6639f461a72703f0258cfec95c", func := "memfault/memfaultlaw01.NatReturns", spec := "natReturns", inPlace := ["internal/bytealg.IndexByteString", "internal/bytealg.IndexString"], unfollowed := true, recurses := true, named := ["unicode/utf8.first", "unicode/utf8.acceptRanges", "math/bits.divideError", "math/bits.overflowError", "internal/bytealg.MaxLen"], apart := false, laid := [("unicode/utf8.acceptRanges", laid_unicode_utf8_acceptRanges), ("unicode/utf8.first", laid_unicode_utf8_first)], narrowed := true }
def NatReturnsUptoSaid : Prop := natReturnsUptoRow.holds Tryd.pinned (OpenSpec.upto natReturnsSpec)

/-- 'memfaultlaw01.NatLaws', WHERE WHAT IT READS IS OF BULK AT MOST 1048576: true; the input reads as it did. -/
def natLawsUptoRow : OpenClaim := { program := "ytfaggdjoogpmmaadoor", sum := "aa3ca5b0e3e1baa9a03b9aa8714ce3b484fa2e6639f461a72703f0258cfec95c", func := "memfault/memfaultlaw01.NatLaws", spec := "natLaws", inPlace := ["internal/bytealg.IndexByteString", "internal/bytealg.IndexString"], unfollowed := true, recurses := true, named := ["unicode/utf8.first", "unicode/utf8.acceptRanges", "math/bits.divideError", "math/bits.overflowError", "internal/bytealg.MaxLen"], apart := false, laid := [("unicode/utf8.acceptRanges", laid_unicode_utf8_acceptRanges), ("unicode/utf8.first", laid_unicode_utf8_first)], narrowed := true }
def NatLawsUptoSaid : Prop := natLawsUptoRow.holds Tryd.pinned (OpenSpec.upto natLawsSpec)

/-- 'memfaultlaw01.NatPascal', WHERE WHAT IT READS IS OF BULK AT MOST 1048576: true; the input reads as it did. -/
def natPascalUptoRow : OpenClaim := { program := "ytfaggdjoogpmmaadoor", sum := "aa3ca5b0e3e1baa9a03b9aa8714ce3b484fa2e6639f461a72703f0258cfec95c", func := "memfault/memfaultlaw01.NatPascal", spec := "natPascal", inPlace := ["internal/bytealg.IndexByteString", "internal/bytealg.IndexString"], unfollowed := true, recurses := true, named := ["unicode/utf8.first", "unicode/utf8.acceptRanges", "internal/bytealg.MaxLen"], apart := false, laid := [("unicode/utf8.acceptRanges", laid_unicode_utf8_acceptRanges), ("unicode/utf8.first", laid_unicode_utf8_first)], narrowed := true }
def NatPascalUptoSaid : Prop := natPascalUptoRow.holds Tryd.pinned (OpenSpec.upto natPascalSpec)

/-- 'memfaultlaw01.NatPowers', WHERE WHAT IT READS IS OF BULK AT MOST 1048576: true; the input reads as it did. -/
def natPowersUptoRow : OpenClaim := { program := "ytfaggdjoogpmmaadoor", sum := "aa3ca5b0e3e1baa9a03b9aa8714ce3b484fa2e6639f461a72703f0258cfec95c", func := "memfault/memfaultlaw01.NatPowers", spec := "natPowers", inPlace := ["internal/bytealg.IndexByteString", "internal/bytealg.IndexString"], unfollowed := true, recurses := true, named := ["unicode/utf8.first", "unicode/utf8.acceptRanges", "internal/bytealg.MaxLen"], apart := false, laid := [("unicode/utf8.acceptRanges", laid_unicode_utf8_acceptRanges), ("unicode/utf8.first", laid_unicode_utf8_first)], narrowed := true }
def NatPowersUptoSaid : Prop := natPowersUptoRow.holds Tryd.pinned (OpenSpec.upto natPowersSpec)

/-- 'memfaultlaw01.NatOrder', WHERE WHAT IT READS IS OF BULK AT MOST 1048576: true; the input reads as it did. -/
def natOrderUptoRow : OpenClaim := { program := "ytfaggdjoogpmmaadoor", sum := "aa3ca5b0e3e1baa9a03b9aa8714ce3b484fa2e6639f461a72703f0258cfec95c", func := "memfault/memfaultlaw01.NatOrder", spec := "natOrder", inPlace := ["internal/bytealg.IndexByteString", "internal/bytealg.IndexString"], unfollowed := true, recurses := true, named := ["unicode/utf8.first", "unicode/utf8.acceptRanges", "internal/bytealg.MaxLen"], apart := false, laid := [("unicode/utf8.acceptRanges", laid_unicode_utf8_acceptRanges), ("unicode/utf8.first", laid_unicode_utf8_first)], narrowed := true }
def NatOrderUptoSaid : Prop := natOrderUptoRow.holds Tryd.pinned (OpenSpec.upto natOrderSpec)

/-- 'memfaultlaw02.RatioRaw', WHERE WHAT IT READS IS OF BULK AT MOST 1048576: true; the input reads as it did. -/
def ratioRawUptoRow : OpenClaim := { program := "ytfaggdjoogpmmaadoor", sum := "aa3ca5b0e3e1baa9a03b9aa8714ce3b484fa2e6639f461a72703f0258cfec95c", func := "memfault/memfaultlaw02.RatioRaw", spec := "ratioRaw", inPlace := ["internal/bytealg.IndexByteString", "internal/bytealg.IndexString"], unfollowed := true, recurses := true, named := ["math/bits.divideError", "math/bits.overflowError", "unicode/utf8.first", "unicode/utf8.acceptRanges", "internal/bytealg.MaxLen"], apart := false, laid := [("unicode/utf8.acceptRanges", laid_unicode_utf8_acceptRanges), ("unicode/utf8.first", laid_unicode_utf8_first)], narrowed := true }
def RatioRawUptoSaid : Prop := ratioRawUptoRow.holds Tryd.pinned (OpenSpec.upto ratioRawSpec)

/-- 'memfaultlaw02.RatioMade', WHERE WHAT IT READS IS OF BULK AT MOST 1048576: true; the input reads as it did. -/
def ratioMadeUptoRow : OpenClaim := { program := "ytfaggdjoogpmmaadoor", sum := "aa3ca5b0e3e1baa9a03b9aa8714ce3b484fa2e6639f461a72703f0258cfec95c", func := "memfault/memfaultlaw02.RatioMade", spec := "ratioMade", inPlace := ["internal/bytealg.IndexByteString", "internal/bytealg.IndexString"], unfollowed := true, recurses := true, named := ["math/bits.divideError", "math/bits.overflowError", "unicode/utf8.first", "unicode/utf8.acceptRanges", "internal/bytealg.MaxLen"], apart := false, laid := [("unicode/utf8.acceptRanges", laid_unicode_utf8_acceptRanges), ("unicode/utf8.first", laid_unicode_utf8_first)], narrowed := true }
def RatioMadeUptoSaid : Prop := ratioMadeUptoRow.holds Tryd.pinned (OpenSpec.upto ratioMadeSpec)

/-- 'memfaultlaw02.RatioInts', WHERE WHAT IT READS IS OF BULK AT MOST 1048576: true; the input reads as it did. -/
def ratioIntsUptoRow : OpenClaim := { program := "ytfaggdjoogpmmaadoor", sum := "aa3ca5b0e3e1baa9a03b9aa8714ce3b484fa2e6639f461a72703f0258cfec95c", func := "memfault/memfaultlaw02.RatioInts", spec := "ratioInts", inPlace := ["internal/bytealg.IndexByteString", "internal/bytealg.IndexString"], unfollowed := true, recurses := true, named := ["math/bits.divideError", "math/bits.overflowError", "unicode/utf8.first", "unicode/utf8.acceptRanges", "internal/bytealg.MaxLen"], apart := false, laid := [("unicode/utf8.acceptRanges", laid_unicode_utf8_acceptRanges), ("unicode/utf8.first", laid_unicode_utf8_first)], narrowed := true }
def RatioIntsUptoSaid : Prop := ratioIntsUptoRow.holds Tryd.pinned (OpenSpec.upto ratioIntsSpec)

/-- 'memfaultlaw02.RatioLaws', WHERE WHAT IT READS IS OF BULK AT MOST 1048576: true; the input reads as it did. -/
def ratioLawsUptoRow : OpenClaim := { program := "ytfaggdjoogpmmaadoor", sum := "aa3ca5b0e3e1baa9a03b9aa8714ce3b484fa2e6639f461a72703f0258cfec95c", func := "memfault/memfaultlaw02.RatioLaws", spec := "ratioLaws", inPlace := ["internal/bytealg.IndexByteString", "internal/bytealg.IndexString"], unfollowed := true, recurses := true, named := ["math/bits.divideError", "math/bits.overflowError", "unicode/utf8.first", "unicode/utf8.acceptRanges", "internal/bytealg.MaxLen"], apart := false, laid := [("unicode/utf8.acceptRanges", laid_unicode_utf8_acceptRanges), ("unicode/utf8.first", laid_unicode_utf8_first)], narrowed := true }
def RatioLawsUptoSaid : Prop := ratioLawsUptoRow.holds Tryd.pinned (OpenSpec.upto ratioLawsSpec)

/-- 'memfaultlaw02.RatioOrder', WHERE WHAT IT READS IS OF BULK AT MOST 1048576: true; the input reads as it did. -/
def ratioOrderUptoRow : OpenClaim := { program := "ytfaggdjoogpmmaadoor", sum := "aa3ca5b0e3e1baa9a03b9aa8714ce3b484fa2e6639f461a72703f0258cfec95c", func := "memfault/memfaultlaw02.RatioOrder", spec := "ratioOrder", inPlace := ["internal/bytealg.IndexByteString", "internal/bytealg.IndexString"], unfollowed := true, recurses := true, named := ["math/bits.divideError", "math/bits.overflowError", "unicode/utf8.first", "unicode/utf8.acceptRanges", "internal/bytealg.MaxLen"], apart := false, laid := [("unicode/utf8.acceptRanges", laid_unicode_utf8_acceptRanges), ("unicode/utf8.first", laid_unicode_utf8_first)], narrowed := true }
def RatioOrderUptoSaid : Prop := ratioOrderUptoRow.holds Tryd.pinned (OpenSpec.upto ratioOrderSpec)

/-- 'memfaultlaw02.RatioTurns', WHERE WHAT IT READS IS OF BULK AT MOST 1048576: true; the input reads as it did. -/
def ratioTurnsUptoRow : OpenClaim := { program := "ytfaggdjoogpmmaadoor", sum := "aa3ca5b0e3e1baa9a03b9aa8714ce3b484fa2e6639f461a72703f0258cfec95c", func := "memfault/memfaultlaw02.RatioTurns", spec := "ratioTurns", inPlace := ["internal/bytealg.IndexByteString", "internal/bytealg.IndexString"], unfollowed := true, recurses := true, named := ["math/bits.divideError", "math/bits.overflowError", "unicode/utf8.first", "unicode/utf8.acceptRanges", "internal/bytealg.MaxLen"], apart := false, laid := [("unicode/utf8.acceptRanges", laid_unicode_utf8_acceptRanges), ("unicode/utf8.first", laid_unicode_utf8_first)], narrowed := true }
def RatioTurnsUptoSaid : Prop := ratioTurnsUptoRow.holds Tryd.pinned (OpenSpec.upto ratioTurnsSpec)

end Rows
end Go.Proofs.YtfaggdjoogpmmaaDoor
