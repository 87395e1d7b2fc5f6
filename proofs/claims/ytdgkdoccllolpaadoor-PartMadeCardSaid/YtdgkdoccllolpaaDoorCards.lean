/-
  DERIVED. GIVEN WITH THE SEED: THE CARDS: each row of YtdgkdoccllolpaaDoorRows.lean that lists a variable, with what it lists TIED to the program's text (the seventh form; the later family's looks); each row that meets fmt, with fmt's text TOLD by the authors' own Lean function (tested against real Go, not proved from fmt's source: count such statements apart). THE CARD IS WHAT COUNTS. Prove the row's statement (the work); the ties are given (YtdgkdoccllolpaaDoorTie.lean); close each card by the builder's one call (the guide's Derived/Test/ToyasCard.lean, 'card_holds'). Laid BY PROGRAM, IN A SANDBOX (cutbox-door.mjs). By AI agents, Wed Nov 11 2026. No macro, syntax, notation, axiom, sorry.
-/
import Derived.Test.YtdgkdoccllolpaaDoorRows
import GoSem.ClaimSeven
namespace Go.Proofs.YtdgkdoccllolpaaDoor
namespace Rows

/-- THE TIED CARD OF 'memfaultlaw09.PartRaw'. -/
def partRawCard : Claim7 := { stood := { row := partRawRow, standIns := [], harness := (true, "fd58812b9e4561f2dfc69d1b14959c4b84b43e805c0f9842519c3ea81354ffa0"), looks := false }, kinds := [], alts := [], laidByText := true, laidKinds := [.data], laidTests := true, laidLooks := .later }
def PartRawCardSaid : Prop := Claim7.holds Tryd.pinned (.plain (OpenSpec.ofChange partRawSpec)) partRawCard

/-- THE TIED CARD OF 'memfaultlaw09.PartMade'. -/
def partMadeCard : Claim7 := { stood := { row := partMadeRow, standIns := [], harness := (true, "fd58812b9e4561f2dfc69d1b14959c4b84b43e805c0f9842519c3ea81354ffa0"), looks := false }, kinds := [], alts := [], laidByText := true, laidKinds := [.data], laidTests := true, laidLooks := .later }
def PartMadeCardSaid : Prop := Claim7.holds Tryd.pinned (.plain (OpenSpec.ofChange partMadeSpec)) partMadeCard

/-- THE TIED CARD OF 'memfaultlaw09.PartReturns'. -/
def partReturnsCard : Claim7 := { stood := { row := partReturnsRow, standIns := [], harness := (true, "fd58812b9e4561f2dfc69d1b14959c4b84b43e805c0f9842519c3ea81354ffa0"), looks := false }, kinds := [], alts := [], laidByText := true, laidKinds := [.data], laidTests := true, laidLooks := .later }
def PartReturnsCardSaid : Prop := Claim7.holds Tryd.pinned (.plain (OpenSpec.ofChange partReturnsSpec)) partReturnsCard

/-- THE TIED CARD OF 'memfaultlaw09.PartFaults'. -/
def partFaultsCard : Claim7 := { stood := { row := partFaultsRow, standIns := [], harness := (true, "fd58812b9e4561f2dfc69d1b14959c4b84b43e805c0f9842519c3ea81354ffa0"), looks := false }, kinds := [], alts := [], laidByText := true, laidKinds := [.data], laidTests := true, laidLooks := .later }
def PartFaultsCardSaid : Prop := Claim7.holds Tryd.pinned (.plain (OpenSpec.ofChange partFaultsSpec)) partFaultsCard

/-- THE TIED CARD OF 'memfaultlaw09.PartDivides'. -/
def partDividesCard : Claim7 := { stood := { row := partDividesRow, standIns := [], harness := (true, "fd58812b9e4561f2dfc69d1b14959c4b84b43e805c0f9842519c3ea81354ffa0"), looks := false }, kinds := [], alts := [], laidByText := true, laidKinds := [.data], laidTests := true, laidLooks := .later }
def PartDividesCardSaid : Prop := Claim7.holds Tryd.pinned (.plain (OpenSpec.ofChange partDividesSpec)) partDividesCard

/-- THE SECOND FORM's CARD OF 'memfaultlaw09.PartRaw'. -/
def partRawUptoCard : Claim7 := { stood := { row := partRawUptoRow, standIns := [], harness := (true, "fd58812b9e4561f2dfc69d1b14959c4b84b43e805c0f9842519c3ea81354ffa0"), looks := false }, kinds := [], alts := [], laidByText := true, laidKinds := [.data], laidTests := true, laidLooks := .later }
def PartRawUptoCardSaid : Prop := Claim7.holds Tryd.pinned (.plain (OpenSpec.upto partRawSpec)) partRawUptoCard

/-- THE SECOND FORM's CARD OF 'memfaultlaw09.PartMade'. -/
def partMadeUptoCard : Claim7 := { stood := { row := partMadeUptoRow, standIns := [], harness := (true, "fd58812b9e4561f2dfc69d1b14959c4b84b43e805c0f9842519c3ea81354ffa0"), looks := false }, kinds := [], alts := [], laidByText := true, laidKinds := [.data], laidTests := true, laidLooks := .later }
def PartMadeUptoCardSaid : Prop := Claim7.holds Tryd.pinned (.plain (OpenSpec.upto partMadeSpec)) partMadeUptoCard

/-- THE SECOND FORM's CARD OF 'memfaultlaw09.PartReturns'. -/
def partReturnsUptoCard : Claim7 := { stood := { row := partReturnsUptoRow, standIns := [], harness := (true, "fd58812b9e4561f2dfc69d1b14959c4b84b43e805c0f9842519c3ea81354ffa0"), looks := false }, kinds := [], alts := [], laidByText := true, laidKinds := [.data], laidTests := true, laidLooks := .later }
def PartReturnsUptoCardSaid : Prop := Claim7.holds Tryd.pinned (.plain (OpenSpec.upto partReturnsSpec)) partReturnsUptoCard

/-- THE SECOND FORM's CARD OF 'memfaultlaw09.PartFaults'. -/
def partFaultsUptoCard : Claim7 := { stood := { row := partFaultsUptoRow, standIns := [], harness := (true, "fd58812b9e4561f2dfc69d1b14959c4b84b43e805c0f9842519c3ea81354ffa0"), looks := false }, kinds := [], alts := [], laidByText := true, laidKinds := [.data], laidTests := true, laidLooks := .later }
def PartFaultsUptoCardSaid : Prop := Claim7.holds Tryd.pinned (.plain (OpenSpec.upto partFaultsSpec)) partFaultsUptoCard

/-- THE SECOND FORM's CARD OF 'memfaultlaw09.PartDivides'. -/
def partDividesUptoCard : Claim7 := { stood := { row := partDividesUptoRow, standIns := [], harness := (true, "fd58812b9e4561f2dfc69d1b14959c4b84b43e805c0f9842519c3ea81354ffa0"), looks := false }, kinds := [], alts := [], laidByText := true, laidKinds := [.data], laidTests := true, laidLooks := .later }
def PartDividesUptoCardSaid : Prop := Claim7.holds Tryd.pinned (.plain (OpenSpec.upto partDividesSpec)) partDividesUptoCard
end Rows
end Go.Proofs.YtdgkdoccllolpaaDoor
