/-
  DERIVED. GIVEN WITH THE SEED: THE CARDS: each row of YtiicbcjenhfakaaDoorRows.lean that lists a variable, with what it lists TIED to the program's text (the seventh form; the later family's looks); each row that meets fmt, with fmt's text TOLD by the authors' own Lean function (tested against real Go, not proved from fmt's source: count such statements apart). THE CARD IS WHAT COUNTS. Prove the row's statement (the work); the ties are given (YtiicbcjenhfakaaDoorTie.lean); close each card by the builder's one call (the guide's Derived/Test/ToyasCard.lean, 'card_holds'). Laid BY PROGRAM, IN A SANDBOX (cutbox-door.mjs). By AI agents, Wed Nov 11 2026. No macro, syntax, notation, axiom, sorry.
-/
import Derived.Test.YtiicbcjenhfakaaDoorRows
import GoSem.ClaimSeven
namespace Go.Proofs.YtiicbcjenhfakaaDoor
namespace Rows

/-- THE TIED CARD OF 'qloomlaw.LowerForms'. -/
def lowerFormsCard : Claim7 := { stood := { row := lowerFormsRow, standIns := [], harness := (true, "9ace99b9be48605216dea36f73a2ab23b73849190f8c7bc61d859dc301f443ff"), looks := false }, kinds := [], alts := [], laidByText := true, laidKinds := [.data, .data, .data], laidTests := true, laidLooks := .later }
def LowerFormsCardSaid : Prop := Claim7.holds Tryd.pinned (.plain (OpenSpec.ofChange lowerFormsSpec)) lowerFormsCard

/-- THE SECOND FORM's CARD OF 'qloomlaw.LowerForms'. -/
def lowerFormsUptoCard : Claim7 := { stood := { row := lowerFormsUptoRow, standIns := [], harness := (true, "9ace99b9be48605216dea36f73a2ab23b73849190f8c7bc61d859dc301f443ff"), looks := false }, kinds := [], alts := [], laidByText := true, laidKinds := [.data, .data, .data], laidTests := true, laidLooks := .later }
def LowerFormsUptoCardSaid : Prop := Claim7.holds Tryd.pinned (.plain (OpenSpec.upto lowerFormsSpec)) lowerFormsUptoCard
end Rows
end Go.Proofs.YtiicbcjenhfakaaDoor
