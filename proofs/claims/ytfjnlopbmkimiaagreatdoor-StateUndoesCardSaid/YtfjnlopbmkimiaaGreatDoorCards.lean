/-
  DERIVED. GIVEN WITH THE SEED: THE CARDS: each row of YtfjnlopbmkimiaaGreatDoorRows.lean that lists a variable, with what it lists TIED to the program's text (the seventh form; the later family's looks); each row that meets fmt, with fmt's text TOLD by the authors' own Lean function (tested against real Go, not proved from fmt's source: count such statements apart). THE CARD IS WHAT COUNTS. Prove the row's statement (the work); the ties are given (YtfjnlopbmkimiaaGreatDoorTie.lean); close each card by the builder's one call (the guide's Derived/Test/ToyasCard.lean, 'card_holds'). Laid BY PROGRAM, IN A SANDBOX (cutbox-door.mjs). By AI agents, Wed Nov 11 2026. No macro, syntax, notation, axiom, sorry.
-/
import Derived.Test.YtfjnlopbmkimiaaGreatDoorRows
import GoSem.ClaimSeven
namespace Go.Proofs.YtfjnlopbmkimiaaGreatDoor
namespace Rows

/-- THE TIED CARD OF 'qloomlaw.StateRuns'. -/
def stateRunsCard : Claim7 := { stood := { row := stateRunsRow, standIns := [], harness := (true, "ac435432f9d38d0ef8ccc1d8578a3b75c309e1f093d38b0c4d376696f7632852"), looks := false }, kinds := [], alts := [], laidByText := true, laidKinds := [.data, .data, .data, .data], laidTests := true, laidLooks := .later }
def StateRunsCardSaid : Prop := Claim7.holds Tryz.pinned (.plain (OpenSpec.ofChange stateRunsSpec)) stateRunsCard

/-- THE TIED CARD OF 'qloomlaw.StateUndoes'. -/
def stateUndoesCard : Claim7 := { stood := { row := stateUndoesRow, standIns := [], harness := (true, "ac435432f9d38d0ef8ccc1d8578a3b75c309e1f093d38b0c4d376696f7632852"), looks := false }, kinds := [], alts := [], laidByText := true, laidKinds := [.data, .data, .data, .data], laidTests := true, laidLooks := .later }
def StateUndoesCardSaid : Prop := Claim7.holds Tryz.pinned (.plain (OpenSpec.ofChange stateUndoesSpec)) stateUndoesCard

/-- THE SECOND FORM's CARD OF 'qloomlaw.StateRuns'. -/
def stateRunsUptoCard : Claim7 := { stood := { row := stateRunsUptoRow, standIns := [], harness := (true, "ac435432f9d38d0ef8ccc1d8578a3b75c309e1f093d38b0c4d376696f7632852"), looks := false }, kinds := [], alts := [], laidByText := true, laidKinds := [.data, .data, .data, .data], laidTests := true, laidLooks := .later }
def StateRunsUptoCardSaid : Prop := Claim7.holds Tryz.pinned (.plain (OpenSpec.upto stateRunsSpec)) stateRunsUptoCard

/-- THE SECOND FORM's CARD OF 'qloomlaw.StateUndoes'. -/
def stateUndoesUptoCard : Claim7 := { stood := { row := stateUndoesUptoRow, standIns := [], harness := (true, "ac435432f9d38d0ef8ccc1d8578a3b75c309e1f093d38b0c4d376696f7632852"), looks := false }, kinds := [], alts := [], laidByText := true, laidKinds := [.data, .data, .data, .data], laidTests := true, laidLooks := .later }
def StateUndoesUptoCardSaid : Prop := Claim7.holds Tryz.pinned (.plain (OpenSpec.upto stateUndoesSpec)) stateUndoesUptoCard
end Rows
end Go.Proofs.YtfjnlopbmkimiaaGreatDoor
