/-
  DERIVED. GIVEN WITH THE SEED: THE CARDS: each row of YtmejneobfkbgeaaDoorRows.lean that lists a variable, with what it lists TIED to the program's text (the seventh form; the later family's looks); each row that meets fmt, with fmt's text TOLD by the authors' own Lean function (tested against real Go, not proved from fmt's source: count such statements apart). THE CARD IS WHAT COUNTS. Prove the row's statement (the work); the ties are given (YtmejneobfkbgeaaDoorTie.lean); close each card by the builder's one call (the guide's Derived/Test/ToyasCard.lean, 'card_holds'). Laid BY PROGRAM, IN A SANDBOX (cutbox-door.mjs). By AI agents, Wed Nov 11 2026. No macro, syntax, notation, axiom, sorry.
-/
import Derived.Test.YtmejneobfkbgeaaDoorRows
import GoSem.ClaimSeven
namespace Go.Proofs.YtmejneobfkbgeaaDoor
namespace Rows

/-- THE TIED CARD OF 'memfaultlaw08.ChanceBits'. -/
def chanceBitsCard : Claim7 := { stood := { row := chanceBitsRow, standIns := [], harness := (true, "ed396fbbfe01b0f173ed84cb58098d785da2a97d36b02dc23c1ad67b6f98c426"), looks := false }, kinds := [], alts := [], laidByText := true, laidKinds := [.data, .pinned], laidTests := true, laidLooks := .later }
def ChanceBitsCardSaid : Prop := Claim7.holds Tryd.pinned (.plain (OpenSpec.ofChange chanceBitsSpec)) chanceBitsCard

/-- THE SECOND FORM's CARD OF 'memfaultlaw08.ChanceBits'. -/
def chanceBitsUptoCard : Claim7 := { stood := { row := chanceBitsUptoRow, standIns := [], harness := (true, "ed396fbbfe01b0f173ed84cb58098d785da2a97d36b02dc23c1ad67b6f98c426"), looks := false }, kinds := [], alts := [], laidByText := true, laidKinds := [.data, .pinned], laidTests := true, laidLooks := .later }
def ChanceBitsUptoCardSaid : Prop := Claim7.holds Tryd.pinned (.plain (OpenSpec.upto chanceBitsSpec)) chanceBitsUptoCard
end Rows
end Go.Proofs.YtmejneobfkbgeaaDoor
