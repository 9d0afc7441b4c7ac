/-
  DERIVED. GIVEN WITH THE SEED: THE CARDS: each row of YtdiojbgbeeojkaaGreatDoorRows.lean that lists a variable, with what it lists TIED to the program's text (the seventh form; the later family's looks); each row that meets fmt, with fmt's text TOLD by the authors' own Lean function (tested against real Go, not proved from fmt's source: count such statements apart). THE CARD IS WHAT COUNTS. Prove the row's statement (the work); the ties are given (YtdiojbgbeeojkaaGreatDoorTie.lean); close each card by the builder's one call (the guide's Derived/Test/ToyasCard.lean, 'card_holds'). Laid BY PROGRAM, IN A SANDBOX (cutbox-door.mjs). By AI agents, Wed Nov 11 2026. No macro, syntax, notation, axiom, sorry.
-/
import Derived.Test.YtdiojbgbeeojkaaGreatDoorRows
import GoSem.ClaimSeven
namespace Go.Proofs.YtdiojbgbeeojkaaGreatDoor
namespace Rows

/-- THE TIED CARD OF 'qloomlaw.WholeFracs'. -/
def wholeFracsCard : Claim7 := { stood := { row := wholeFracsRow, standIns := [], harness := (true, "15c5002a491e1f78aa3ecdde8817635225966962c18f846be062112c3dda8de7"), looks := false }, kinds := [], alts := [], laidByText := true, laidKinds := [.data, .data, .data], laidTests := true, laidLooks := .later }
def WholeFracsCardSaid : Prop := Claim7.holds Tryz.pinned (.plain (OpenSpec.ofChange wholeFracsSpec)) wholeFracsCard

/-- THE TIED CARD OF 'qloomlaw.WholeNears'. -/
def wholeNearsCard : Claim7 := { stood := { row := wholeNearsRow, standIns := [], harness := (true, "15c5002a491e1f78aa3ecdde8817635225966962c18f846be062112c3dda8de7"), looks := false }, kinds := [], alts := [], laidByText := true, laidKinds := [.data, .data, .data], laidTests := true, laidLooks := .later }
def WholeNearsCardSaid : Prop := Claim7.holds Tryz.pinned (.plain (OpenSpec.ofChange wholeNearsSpec)) wholeNearsCard

/-- THE SECOND FORM's CARD OF 'qloomlaw.WholeFracs'. -/
def wholeFracsUptoCard : Claim7 := { stood := { row := wholeFracsUptoRow, standIns := [], harness := (true, "15c5002a491e1f78aa3ecdde8817635225966962c18f846be062112c3dda8de7"), looks := false }, kinds := [], alts := [], laidByText := true, laidKinds := [.data, .data, .data], laidTests := true, laidLooks := .later }
def WholeFracsUptoCardSaid : Prop := Claim7.holds Tryz.pinned (.plain (OpenSpec.upto wholeFracsSpec)) wholeFracsUptoCard

/-- THE SECOND FORM's CARD OF 'qloomlaw.WholeNears'. -/
def wholeNearsUptoCard : Claim7 := { stood := { row := wholeNearsUptoRow, standIns := [], harness := (true, "15c5002a491e1f78aa3ecdde8817635225966962c18f846be062112c3dda8de7"), looks := false }, kinds := [], alts := [], laidByText := true, laidKinds := [.data, .data, .data], laidTests := true, laidLooks := .later }
def WholeNearsUptoCardSaid : Prop := Claim7.holds Tryz.pinned (.plain (OpenSpec.upto wholeNearsSpec)) wholeNearsUptoCard
end Rows
end Go.Proofs.YtdiojbgbeeojkaaGreatDoor
