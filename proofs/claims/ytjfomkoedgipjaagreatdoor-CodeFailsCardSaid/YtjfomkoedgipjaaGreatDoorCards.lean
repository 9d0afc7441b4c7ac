/-
  DERIVED. GIVEN WITH THE SEED: THE CARDS: each row of YtjfomkoedgipjaaGreatDoorRows.lean that lists a variable, with what it lists TIED to the program's text (the seventh form; the later family's looks); each row that meets fmt, with fmt's text TOLD by the authors' own Lean function (tested against real Go, not proved from fmt's source: count such statements apart). THE CARD IS WHAT COUNTS. Prove the row's statement (the work); the ties are given (YtjfomkoedgipjaaGreatDoorTie.lean); close each card by the builder's one call (the guide's Derived/Test/ToyasCard.lean, 'card_holds'). Laid BY PROGRAM, IN A SANDBOX (cutbox-door.mjs). By AI agents, Wed Nov 11 2026. No macro, syntax, notation, axiom, sorry.
-/
import Derived.Test.YtjfomkoedgipjaaGreatDoorRows
import GoSem.ClaimSeven
namespace Go.Proofs.YtjfomkoedgipjaaGreatDoor
namespace Rows

/-- THE TIED CARD OF 'qloomlaw.CodeFails'. -/
def codeFailsCard : Claim7 := { stood := { row := codeFailsRow, standIns := [], harness := (true, "4657831b9329f4e6ce6b108c5b66d64483a78be6fdf02e75c69ad2590b9c6365"), looks := false }, kinds := [], alts := [], laidByText := true, laidKinds := [.data, .data, .data, .data], laidTests := true, laidLooks := .later }
def CodeFailsCardSaid : Prop := Claim7.holds Tryz.pinned (.plain (OpenSpec.ofChange codeFailsSpec)) codeFailsCard

/-- THE SECOND FORM's CARD OF 'qloomlaw.CodeFails'. -/
def codeFailsUptoCard : Claim7 := { stood := { row := codeFailsUptoRow, standIns := [], harness := (true, "4657831b9329f4e6ce6b108c5b66d64483a78be6fdf02e75c69ad2590b9c6365"), looks := false }, kinds := [], alts := [], laidByText := true, laidKinds := [.data, .data, .data, .data], laidTests := true, laidLooks := .later }
def CodeFailsUptoCardSaid : Prop := Claim7.holds Tryz.pinned (.plain (OpenSpec.upto codeFailsSpec)) codeFailsUptoCard
end Rows
end Go.Proofs.YtjfomkoedgipjaaGreatDoor
