/-
  DERIVED. GIVEN WITH THE SEED: THE CARDS: each row of YtbhfhekjcnnfeaaDoorRows.lean that lists a variable, with what it lists TIED to the program's text (the seventh form; the later family's looks); each row that meets fmt, with fmt's text TOLD by the authors' own Lean function (tested against real Go, not proved from fmt's source: count such statements apart). THE CARD IS WHAT COUNTS. Prove the row's statement (the work); the ties are given (YtbhfhekjcnnfeaaDoorTie.lean); close each card by the builder's one call (the guide's Derived/Test/ToyasCard.lean, 'card_holds'). Laid BY PROGRAM, IN A SANDBOX (cutbox-door.mjs). By AI agents, Wed Nov 11 2026. No macro, syntax, notation, axiom, sorry.
-/
import Derived.Test.YtbhfhekjcnnfeaaDoorRows
import GoSem.ClaimSeven
namespace Go.Proofs.YtbhfhekjcnnfeaaDoor
namespace Rows

/-- THE TIED CARD OF 'memfaultlaw08.ChanceAdds'. -/
def chanceAddsCard : Claim7 := { stood := { row := chanceAddsRow, standIns := [], harness := (true, "74e3d7fe1a2df21629812da6d6f8a76cacaf022a398e00e19352a7544fa4026f"), looks := false }, kinds := [], alts := [], laidByText := true, laidKinds := [.data, .pinned], laidTests := true, laidLooks := .later }
def ChanceAddsCardSaid : Prop := Claim7.holds Tryd.pinned (.plain (OpenSpec.ofChange chanceAddsSpec)) chanceAddsCard

/-- THE TIED CARD OF 'memfaultlaw08.ChancePairs'. -/
def chancePairsCard : Claim7 := { stood := { row := chancePairsRow, standIns := [], harness := (true, "74e3d7fe1a2df21629812da6d6f8a76cacaf022a398e00e19352a7544fa4026f"), looks := false }, kinds := [], alts := [], laidByText := true, laidKinds := [.data, .pinned], laidTests := true, laidLooks := .later }
def ChancePairsCardSaid : Prop := Claim7.holds Tryd.pinned (.plain (OpenSpec.ofChange chancePairsSpec)) chancePairsCard

/-- THE SECOND FORM's CARD OF 'memfaultlaw08.ChanceAdds'. -/
def chanceAddsUptoCard : Claim7 := { stood := { row := chanceAddsUptoRow, standIns := [], harness := (true, "74e3d7fe1a2df21629812da6d6f8a76cacaf022a398e00e19352a7544fa4026f"), looks := false }, kinds := [], alts := [], laidByText := true, laidKinds := [.data, .pinned], laidTests := true, laidLooks := .later }
def ChanceAddsUptoCardSaid : Prop := Claim7.holds Tryd.pinned (.plain (OpenSpec.upto chanceAddsSpec)) chanceAddsUptoCard

/-- THE SECOND FORM's CARD OF 'memfaultlaw08.ChancePairs'. -/
def chancePairsUptoCard : Claim7 := { stood := { row := chancePairsUptoRow, standIns := [], harness := (true, "74e3d7fe1a2df21629812da6d6f8a76cacaf022a398e00e19352a7544fa4026f"), looks := false }, kinds := [], alts := [], laidByText := true, laidKinds := [.data, .pinned], laidTests := true, laidLooks := .later }
def ChancePairsUptoCardSaid : Prop := Claim7.holds Tryd.pinned (.plain (OpenSpec.upto chancePairsSpec)) chancePairsUptoCard
end Rows
end Go.Proofs.YtbhfhekjcnnfeaaDoor
