/-
  DERIVED. GIVEN WITH THE SEED: THE CARDS: each row of YtmejneobfkbgeaaGreatDoorRows.lean that lists a variable, with what it lists TIED to the program's text (the seventh form; the later family's looks); each row that meets fmt, with fmt's text TOLD by the authors' own Lean function (tested against real Go, not proved from fmt's source: count such statements apart). THE CARD IS WHAT COUNTS. Prove the row's statement (the work); the ties are given (YtmejneobfkbgeaaGreatDoorTie.lean); close each card by the builder's one call (the guide's Derived/Test/ToyasCard.lean, 'card_holds'). Laid BY PROGRAM, IN A SANDBOX (cutbox-door.mjs). By AI agents, Wed Nov 11 2026. No macro, syntax, notation, axiom, sorry.
-/
import Derived.Test.YtmejneobfkbgeaaGreatDoorRows
import GoSem.ClaimSeven
namespace Go.Proofs.YtmejneobfkbgeaaGreatDoor
namespace Rows

/-- THE TIED CARD OF 'memfaultlaw08.ChanceExact'. -/
def chanceExactCard : Claim7 := { stood := { row := chanceExactRow, standIns := [], harness := (true, "dc7340fe019b0fe8a94b93c6e1932187d021c686b1c34a0e01d6054e5a249d0e"), looks := false }, kinds := [], alts := [], laidByText := true, laidKinds := [.data, .pinned], laidTests := true, laidLooks := .later }
def ChanceExactCardSaid : Prop := Claim7.holds Tryz.pinned (.plain (OpenSpec.ofChange chanceExactSpec)) chanceExactCard

/-- THE TIED CARD OF 'memfaultlaw08.ChanceSmall'. -/
def chanceSmallCard : Claim7 := { stood := { row := chanceSmallRow, standIns := [], harness := (true, "dc7340fe019b0fe8a94b93c6e1932187d021c686b1c34a0e01d6054e5a249d0e"), looks := false }, kinds := [], alts := [], laidByText := true, laidKinds := [.data, .pinned], laidTests := true, laidLooks := .later }
def ChanceSmallCardSaid : Prop := Claim7.holds Tryz.pinned (.plain (OpenSpec.ofChange chanceSmallSpec)) chanceSmallCard

/-- THE SECOND FORM's CARD OF 'memfaultlaw08.ChanceExact'. -/
def chanceExactUptoCard : Claim7 := { stood := { row := chanceExactUptoRow, standIns := [], harness := (true, "dc7340fe019b0fe8a94b93c6e1932187d021c686b1c34a0e01d6054e5a249d0e"), looks := false }, kinds := [], alts := [], laidByText := true, laidKinds := [.data, .pinned], laidTests := true, laidLooks := .later }
def ChanceExactUptoCardSaid : Prop := Claim7.holds Tryz.pinned (.plain (OpenSpec.upto chanceExactSpec)) chanceExactUptoCard

/-- THE SECOND FORM's CARD OF 'memfaultlaw08.ChanceSmall'. -/
def chanceSmallUptoCard : Claim7 := { stood := { row := chanceSmallUptoRow, standIns := [], harness := (true, "dc7340fe019b0fe8a94b93c6e1932187d021c686b1c34a0e01d6054e5a249d0e"), looks := false }, kinds := [], alts := [], laidByText := true, laidKinds := [.data, .pinned], laidTests := true, laidLooks := .later }
def ChanceSmallUptoCardSaid : Prop := Claim7.holds Tryz.pinned (.plain (OpenSpec.upto chanceSmallSpec)) chanceSmallUptoCard
end Rows
end Go.Proofs.YtmejneobfkbgeaaGreatDoor
