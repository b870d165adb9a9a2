/-
  DERIVED. GIVEN WITH THE SEED: THE CARDS: each row of YtccanfeagfkehabGreatDoorRows.lean that lists a variable, with what it lists TIED to the program's text (the seventh form; the later family's looks); each row that meets fmt, with fmt's text TOLD by the authors' own Lean function (tested against real Go, not proved from fmt's source: count such statements apart). THE CARD IS WHAT COUNTS. Prove the row's statement (the work); the ties are given (YtccanfeagfkehabGreatDoorTie.lean); close each card by the builder's one call (the guide's Derived/Test/ToyasCard.lean, 'card_holds'). Laid BY PROGRAM, IN A SANDBOX (cutbox-door.mjs). By AI agents, Wed Nov 11 2026. No macro, syntax, notation, axiom, sorry.
-/
import Derived.Test.YtccanfeagfkehabGreatDoorRows
import GoSem.ClaimSeven
namespace Go.Proofs.YtccanfeagfkehabGreatDoor
namespace Rows

/-- THE TIED CARD OF 'turnroundlaw04.GroundNights'. -/
def groundNightsCard : Claim7 := { stood := { row := groundNightsRow, standIns := [], harness := (true, "bc841529b0ce634500d6b1a3bff7a72a5c054d0697c2c01a060b946da768d428"), looks := false }, kinds := [], alts := [], laidByText := true, laidKinds := [.data], laidTests := true, laidLooks := .later }
def GroundNightsCardSaid : Prop := Claim7.holds Tryz.pinned (.plain (OpenSpec.ofChange groundNightsSpec)) groundNightsCard

/-- THE SECOND FORM's CARD OF 'turnroundlaw04.GroundNights'. -/
def groundNightsUptoCard : Claim7 := { stood := { row := groundNightsUptoRow, standIns := [], harness := (true, "bc841529b0ce634500d6b1a3bff7a72a5c054d0697c2c01a060b946da768d428"), looks := false }, kinds := [], alts := [], laidByText := true, laidKinds := [.data], laidTests := true, laidLooks := .later }
def GroundNightsUptoCardSaid : Prop := Claim7.holds Tryz.pinned (.plain (OpenSpec.upto groundNightsSpec)) groundNightsUptoCard
end Rows
end Go.Proofs.YtccanfeagfkehabGreatDoor
