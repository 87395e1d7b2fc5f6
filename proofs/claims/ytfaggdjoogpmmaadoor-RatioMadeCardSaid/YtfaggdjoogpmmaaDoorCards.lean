/-
  DERIVED. GIVEN WITH THE SEED: THE CARDS: each row of YtfaggdjoogpmmaaDoorRows.lean that lists a variable, with what it lists TIED to the program's text (the seventh form; the later family's looks); each row that meets fmt, with fmt's text TOLD by the authors' own Lean function (tested against real Go, not proved from fmt's source: count such statements apart). THE CARD IS WHAT COUNTS. Prove the row's statement (the work); the ties are given (YtfaggdjoogpmmaaDoorTie.lean); close each card by the builder's one call (the guide's Derived/Test/ToyasCard.lean, 'card_holds'). Laid BY PROGRAM, IN A SANDBOX (cutbox-door.mjs). By AI agents, Wed Nov 11 2026. No macro, syntax, notation, axiom, sorry.
-/
import Derived.Test.YtfaggdjoogpmmaaDoorRows
import GoSem.ClaimSeven
namespace Go.Proofs.YtfaggdjoogpmmaaDoor
namespace Rows

/-- THE TIED CARD OF 'memfaultlaw01.NatRaw'. -/
def natRawCard : Claim7 := { stood := { row := natRawRow, standIns := [], harness := (true, "c1daa20b9eaa41d8104afbb80f5ed7a085c62a7d69616321ca0f68f9f612ec41"), looks := false }, kinds := [], alts := [], laidByText := true, laidKinds := [.data, .pinned], laidTests := true, laidLooks := .later }
def NatRawCardSaid : Prop := Claim7.holds Tryd.pinned (.plain (OpenSpec.ofChange natRawSpec)) natRawCard

/-- THE TIED CARD OF 'memfaultlaw01.NatMade'. -/
def natMadeCard : Claim7 := { stood := { row := natMadeRow, standIns := [], harness := (true, "c1daa20b9eaa41d8104afbb80f5ed7a085c62a7d69616321ca0f68f9f612ec41"), looks := false }, kinds := [], alts := [], laidByText := true, laidKinds := [.data, .pinned], laidTests := true, laidLooks := .later }
def NatMadeCardSaid : Prop := Claim7.holds Tryd.pinned (.plain (OpenSpec.ofChange natMadeSpec)) natMadeCard

/-- THE TIED CARD OF 'memfaultlaw01.NatLong'. -/
def natLongCard : Claim7 := { stood := { row := natLongRow, standIns := [], harness := (true, "c1daa20b9eaa41d8104afbb80f5ed7a085c62a7d69616321ca0f68f9f612ec41"), looks := false }, kinds := [], alts := [], laidByText := true, laidKinds := [.data, .pinned], laidTests := true, laidLooks := .later }
def NatLongCardSaid : Prop := Claim7.holds Tryd.pinned (.plain (OpenSpec.ofChange natLongSpec)) natLongCard

/-- THE TIED CARD OF 'memfaultlaw01.NatNumbers'. -/
def natNumbersCard : Claim7 := { stood := { row := natNumbersRow, standIns := [], harness := (true, "c1daa20b9eaa41d8104afbb80f5ed7a085c62a7d69616321ca0f68f9f612ec41"), looks := false }, kinds := [], alts := [], laidByText := true, laidKinds := [.data, .pinned], laidTests := true, laidLooks := .later }
def NatNumbersCardSaid : Prop := Claim7.holds Tryd.pinned (.plain (OpenSpec.ofChange natNumbersSpec)) natNumbersCard

/-- THE TIED CARD OF 'memfaultlaw01.NatReturns'. -/
def natReturnsCard : Claim7 := { stood := { row := natReturnsRow, standIns := [], harness := (true, "c1daa20b9eaa41d8104afbb80f5ed7a085c62a7d69616321ca0f68f9f612ec41"), looks := false }, kinds := [], alts := [], laidByText := true, laidKinds := [.data, .pinned], laidTests := true, laidLooks := .later }
def NatReturnsCardSaid : Prop := Claim7.holds Tryd.pinned (.plain (OpenSpec.ofChange natReturnsSpec)) natReturnsCard

/-- THE TIED CARD OF 'memfaultlaw01.NatLaws'. -/
def natLawsCard : Claim7 := { stood := { row := natLawsRow, standIns := [], harness := (true, "c1daa20b9eaa41d8104afbb80f5ed7a085c62a7d69616321ca0f68f9f612ec41"), looks := false }, kinds := [], alts := [], laidByText := true, laidKinds := [.data, .pinned], laidTests := true, laidLooks := .later }
def NatLawsCardSaid : Prop := Claim7.holds Tryd.pinned (.plain (OpenSpec.ofChange natLawsSpec)) natLawsCard

/-- THE TIED CARD OF 'memfaultlaw01.NatPascal'. -/
def natPascalCard : Claim7 := { stood := { row := natPascalRow, standIns := [], harness := (true, "c1daa20b9eaa41d8104afbb80f5ed7a085c62a7d69616321ca0f68f9f612ec41"), looks := false }, kinds := [], alts := [], laidByText := true, laidKinds := [.data, .pinned], laidTests := true, laidLooks := .later }
def NatPascalCardSaid : Prop := Claim7.holds Tryd.pinned (.plain (OpenSpec.ofChange natPascalSpec)) natPascalCard

/-- THE TIED CARD OF 'memfaultlaw01.NatPowers'. -/
def natPowersCard : Claim7 := { stood := { row := natPowersRow, standIns := [], harness := (true, "c1daa20b9eaa41d8104afbb80f5ed7a085c62a7d69616321ca0f68f9f612ec41"), looks := false }, kinds := [], alts := [], laidByText := true, laidKinds := [.data, .pinned], laidTests := true, laidLooks := .later }
def NatPowersCardSaid : Prop := Claim7.holds Tryd.pinned (.plain (OpenSpec.ofChange natPowersSpec)) natPowersCard

/-- THE TIED CARD OF 'memfaultlaw01.NatOrder'. -/
def natOrderCard : Claim7 := { stood := { row := natOrderRow, standIns := [], harness := (true, "c1daa20b9eaa41d8104afbb80f5ed7a085c62a7d69616321ca0f68f9f612ec41"), looks := false }, kinds := [], alts := [], laidByText := true, laidKinds := [.data, .pinned], laidTests := true, laidLooks := .later }
def NatOrderCardSaid : Prop := Claim7.holds Tryd.pinned (.plain (OpenSpec.ofChange natOrderSpec)) natOrderCard

/-- THE TIED CARD OF 'memfaultlaw02.RatioRaw'. -/
def ratioRawCard : Claim7 := { stood := { row := ratioRawRow, standIns := [], harness := (true, "c1daa20b9eaa41d8104afbb80f5ed7a085c62a7d69616321ca0f68f9f612ec41"), looks := false }, kinds := [], alts := [], laidByText := true, laidKinds := [.data, .pinned], laidTests := true, laidLooks := .later }
def RatioRawCardSaid : Prop := Claim7.holds Tryd.pinned (.plain (OpenSpec.ofChange ratioRawSpec)) ratioRawCard

/-- THE TIED CARD OF 'memfaultlaw02.RatioMade'. -/
def ratioMadeCard : Claim7 := { stood := { row := ratioMadeRow, standIns := [], harness := (true, "c1daa20b9eaa41d8104afbb80f5ed7a085c62a7d69616321ca0f68f9f612ec41"), looks := false }, kinds := [], alts := [], laidByText := true, laidKinds := [.data, .pinned], laidTests := true, laidLooks := .later }
def RatioMadeCardSaid : Prop := Claim7.holds Tryd.pinned (.plain (OpenSpec.ofChange ratioMadeSpec)) ratioMadeCard

/-- THE TIED CARD OF 'memfaultlaw02.RatioInts'. -/
def ratioIntsCard : Claim7 := { stood := { row := ratioIntsRow, standIns := [], harness := (true, "c1daa20b9eaa41d8104afbb80f5ed7a085c62a7d69616321ca0f68f9f612ec41"), looks := false }, kinds := [], alts := [], laidByText := true, laidKinds := [.data, .pinned], laidTests := true, laidLooks := .later }
def RatioIntsCardSaid : Prop := Claim7.holds Tryd.pinned (.plain (OpenSpec.ofChange ratioIntsSpec)) ratioIntsCard

/-- THE TIED CARD OF 'memfaultlaw02.RatioLaws'. -/
def ratioLawsCard : Claim7 := { stood := { row := ratioLawsRow, standIns := [], harness := (true, "c1daa20b9eaa41d8104afbb80f5ed7a085c62a7d69616321ca0f68f9f612ec41"), looks := false }, kinds := [], alts := [], laidByText := true, laidKinds := [.data, .pinned], laidTests := true, laidLooks := .later }
def RatioLawsCardSaid : Prop := Claim7.holds Tryd.pinned (.plain (OpenSpec.ofChange ratioLawsSpec)) ratioLawsCard

/-- THE TIED CARD OF 'memfaultlaw02.RatioOrder'. -/
def ratioOrderCard : Claim7 := { stood := { row := ratioOrderRow, standIns := [], harness := (true, "c1daa20b9eaa41d8104afbb80f5ed7a085c62a7d69616321ca0f68f9f612ec41"), looks := false }, kinds := [], alts := [], laidByText := true, laidKinds := [.data, .pinned], laidTests := true, laidLooks := .later }
def RatioOrderCardSaid : Prop := Claim7.holds Tryd.pinned (.plain (OpenSpec.ofChange ratioOrderSpec)) ratioOrderCard

/-- THE TIED CARD OF 'memfaultlaw02.RatioTurns'. -/
def ratioTurnsCard : Claim7 := { stood := { row := ratioTurnsRow, standIns := [], harness := (true, "c1daa20b9eaa41d8104afbb80f5ed7a085c62a7d69616321ca0f68f9f612ec41"), looks := false }, kinds := [], alts := [], laidByText := true, laidKinds := [.data, .pinned], laidTests := true, laidLooks := .later }
def RatioTurnsCardSaid : Prop := Claim7.holds Tryd.pinned (.plain (OpenSpec.ofChange ratioTurnsSpec)) ratioTurnsCard

/-- THE SECOND FORM's CARD OF 'memfaultlaw01.NatRaw'. -/
def natRawUptoCard : Claim7 := { stood := { row := natRawUptoRow, standIns := [], harness := (true, "c1daa20b9eaa41d8104afbb80f5ed7a085c62a7d69616321ca0f68f9f612ec41"), looks := false }, kinds := [], alts := [], laidByText := true, laidKinds := [.data, .pinned], laidTests := true, laidLooks := .later }
def NatRawUptoCardSaid : Prop := Claim7.holds Tryd.pinned (.plain (OpenSpec.upto natRawSpec)) natRawUptoCard

/-- THE SECOND FORM's CARD OF 'memfaultlaw01.NatMade'. -/
def natMadeUptoCard : Claim7 := { stood := { row := natMadeUptoRow, standIns := [], harness := (true, "c1daa20b9eaa41d8104afbb80f5ed7a085c62a7d69616321ca0f68f9f612ec41"), looks := false }, kinds := [], alts := [], laidByText := true, laidKinds := [.data, .pinned], laidTests := true, laidLooks := .later }
def NatMadeUptoCardSaid : Prop := Claim7.holds Tryd.pinned (.plain (OpenSpec.upto natMadeSpec)) natMadeUptoCard

/-- THE SECOND FORM's CARD OF 'memfaultlaw01.NatLong'. -/
def natLongUptoCard : Claim7 := { stood := { row := natLongUptoRow, standIns := [], harness := (true, "c1daa20b9eaa41d8104afbb80f5ed7a085c62a7d69616321ca0f68f9f612ec41"), looks := false }, kinds := [], alts := [], laidByText := true, laidKinds := [.data, .pinned], laidTests := true, laidLooks := .later }
def NatLongUptoCardSaid : Prop := Claim7.holds Tryd.pinned (.plain (OpenSpec.upto natLongSpec)) natLongUptoCard

/-- THE SECOND FORM's CARD OF 'memfaultlaw01.NatNumbers'. -/
def natNumbersUptoCard : Claim7 := { stood := { row := natNumbersUptoRow, standIns := [], harness := (true, "c1daa20b9eaa41d8104afbb80f5ed7a085c62a7d69616321ca0f68f9f612ec41"), looks := false }, kinds := [], alts := [], laidByText := true, laidKinds := [.data, .pinned], laidTests := true, laidLooks := .later }
def NatNumbersUptoCardSaid : Prop := Claim7.holds Tryd.pinned (.plain (OpenSpec.upto natNumbersSpec)) natNumbersUptoCard

/-- THE SECOND FORM's CARD OF 'memfaultlaw01.NatReturns'. -/
def natReturnsUptoCard : Claim7 := { stood := { row := natReturnsUptoRow, standIns := [], harness := (true, "c1daa20b9eaa41d8104afbb80f5ed7a085c62a7d69616321ca0f68f9f612ec41"), looks := false }, kinds := [], alts := [], laidByText := true, laidKinds := [.data, .pinned], laidTests := true, laidLooks := .later }
def NatReturnsUptoCardSaid : Prop := Claim7.holds Tryd.pinned (.plain (OpenSpec.upto natReturnsSpec)) natReturnsUptoCard

/-- THE SECOND FORM's CARD OF 'memfaultlaw01.NatLaws'. -/
def natLawsUptoCard : Claim7 := { stood := { row := natLawsUptoRow, standIns := [], harness := (true, "c1daa20b9eaa41d8104afbb80f5ed7a085c62a7d69616321ca0f68f9f612ec41"), looks := false }, kinds := [], alts := [], laidByText := true, laidKinds := [.data, .pinned], laidTests := true, laidLooks := .later }
def NatLawsUptoCardSaid : Prop := Claim7.holds Tryd.pinned (.plain (OpenSpec.upto natLawsSpec)) natLawsUptoCard

/-- THE SECOND FORM's CARD OF 'memfaultlaw01.NatPascal'. -/
def natPascalUptoCard : Claim7 := { stood := { row := natPascalUptoRow, standIns := [], harness := (true, "c1daa20b9eaa41d8104afbb80f5ed7a085c62a7d69616321ca0f68f9f612ec41"), looks := false }, kinds := [], alts := [], laidByText := true, laidKinds := [.data, .pinned], laidTests := true, laidLooks := .later }
def NatPascalUptoCardSaid : Prop := Claim7.holds Tryd.pinned (.plain (OpenSpec.upto natPascalSpec)) natPascalUptoCard

/-- THE SECOND FORM's CARD OF 'memfaultlaw01.NatPowers'. -/
def natPowersUptoCard : Claim7 := { stood := { row := natPowersUptoRow, standIns := [], harness := (true, "c1daa20b9eaa41d8104afbb80f5ed7a085c62a7d69616321ca0f68f9f612ec41"), looks := false }, kinds := [], alts := [], laidByText := true, laidKinds := [.data, .pinned], laidTests := true, laidLooks := .later }
def NatPowersUptoCardSaid : Prop := Claim7.holds Tryd.pinned (.plain (OpenSpec.upto natPowersSpec)) natPowersUptoCard

/-- THE SECOND FORM's CARD OF 'memfaultlaw01.NatOrder'. -/
def natOrderUptoCard : Claim7 := { stood := { row := natOrderUptoRow, standIns := [], harness := (true, "c1daa20b9eaa41d8104afbb80f5ed7a085c62a7d69616321ca0f68f9f612ec41"), looks := false }, kinds := [], alts := [], laidByText := true, laidKinds := [.data, .pinned], laidTests := true, laidLooks := .later }
def NatOrderUptoCardSaid : Prop := Claim7.holds Tryd.pinned (.plain (OpenSpec.upto natOrderSpec)) natOrderUptoCard

/-- THE SECOND FORM's CARD OF 'memfaultlaw02.RatioRaw'. -/
def ratioRawUptoCard : Claim7 := { stood := { row := ratioRawUptoRow, standIns := [], harness := (true, "c1daa20b9eaa41d8104afbb80f5ed7a085c62a7d69616321ca0f68f9f612ec41"), looks := false }, kinds := [], alts := [], laidByText := true, laidKinds := [.data, .pinned], laidTests := true, laidLooks := .later }
def RatioRawUptoCardSaid : Prop := Claim7.holds Tryd.pinned (.plain (OpenSpec.upto ratioRawSpec)) ratioRawUptoCard

/-- THE SECOND FORM's CARD OF 'memfaultlaw02.RatioMade'. -/
def ratioMadeUptoCard : Claim7 := { stood := { row := ratioMadeUptoRow, standIns := [], harness := (true, "c1daa20b9eaa41d8104afbb80f5ed7a085c62a7d69616321ca0f68f9f612ec41"), looks := false }, kinds := [], alts := [], laidByText := true, laidKinds := [.data, .pinned], laidTests := true, laidLooks := .later }
def RatioMadeUptoCardSaid : Prop := Claim7.holds Tryd.pinned (.plain (OpenSpec.upto ratioMadeSpec)) ratioMadeUptoCard

/-- THE SECOND FORM's CARD OF 'memfaultlaw02.RatioInts'. -/
def ratioIntsUptoCard : Claim7 := { stood := { row := ratioIntsUptoRow, standIns := [], harness := (true, "c1daa20b9eaa41d8104afbb80f5ed7a085c62a7d69616321ca0f68f9f612ec41"), looks := false }, kinds := [], alts := [], laidByText := true, laidKinds := [.data, .pinned], laidTests := true, laidLooks := .later }
def RatioIntsUptoCardSaid : Prop := Claim7.holds Tryd.pinned (.plain (OpenSpec.upto ratioIntsSpec)) ratioIntsUptoCard

/-- THE SECOND FORM's CARD OF 'memfaultlaw02.RatioLaws'. -/
def ratioLawsUptoCard : Claim7 := { stood := { row := ratioLawsUptoRow, standIns := [], harness := (true, "c1daa20b9eaa41d8104afbb80f5ed7a085c62a7d69616321ca0f68f9f612ec41"), looks := false }, kinds := [], alts := [], laidByText := true, laidKinds := [.data, .pinned], laidTests := true, laidLooks := .later }
def RatioLawsUptoCardSaid : Prop := Claim7.holds Tryd.pinned (.plain (OpenSpec.upto ratioLawsSpec)) ratioLawsUptoCard

/-- THE SECOND FORM's CARD OF 'memfaultlaw02.RatioOrder'. -/
def ratioOrderUptoCard : Claim7 := { stood := { row := ratioOrderUptoRow, standIns := [], harness := (true, "c1daa20b9eaa41d8104afbb80f5ed7a085c62a7d69616321ca0f68f9f612ec41"), looks := false }, kinds := [], alts := [], laidByText := true, laidKinds := [.data, .pinned], laidTests := true, laidLooks := .later }
def RatioOrderUptoCardSaid : Prop := Claim7.holds Tryd.pinned (.plain (OpenSpec.upto ratioOrderSpec)) ratioOrderUptoCard

/-- THE SECOND FORM's CARD OF 'memfaultlaw02.RatioTurns'. -/
def ratioTurnsUptoCard : Claim7 := { stood := { row := ratioTurnsUptoRow, standIns := [], harness := (true, "c1daa20b9eaa41d8104afbb80f5ed7a085c62a7d69616321ca0f68f9f612ec41"), looks := false }, kinds := [], alts := [], laidByText := true, laidKinds := [.data, .pinned], laidTests := true, laidLooks := .later }
def RatioTurnsUptoCardSaid : Prop := Claim7.holds Tryd.pinned (.plain (OpenSpec.upto ratioTurnsSpec)) ratioTurnsUptoCard
end Rows
end Go.Proofs.YtfaggdjoogpmmaaDoor
