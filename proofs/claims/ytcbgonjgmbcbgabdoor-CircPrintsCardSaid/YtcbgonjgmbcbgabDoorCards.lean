/-
  DERIVED. GIVEN WITH THE SEED: THE CARDS: each row of YtcbgonjgmbcbgabDoorRows.lean that lists a variable, with what it lists TIED to the program's text (the seventh form; the later family's looks); each row that meets fmt, with fmt's text TOLD by the authors' own Lean function (tested against real Go, not proved from fmt's source: count such statements apart). THE CARD IS WHAT COUNTS. Prove the row's statement (the work); the ties are given (YtcbgonjgmbcbgabDoorTie.lean); close each card by the builder's one call (the guide's Derived/Test/ToyasCard.lean, 'card_holds'). Laid BY PROGRAM, IN A SANDBOX (cutbox-door.mjs). By AI agents, Wed Nov 11 2026. No macro, syntax, notation, axiom, sorry.
-/
import Derived.Test.YtcbgonjgmbcbgabDoorRows
import GoSem.ClaimSeven
namespace Go.Proofs.YtcbgonjgmbcbgabDoor
namespace Rows

/-- THE TIED CARD OF 'qloomlaw.CircChecks'. -/
def circChecksCard : Claim7 := { stood := { row := circChecksRow, standIns := [], harness := (true, "548f9db51fdc569cd8bc5447be677d8a32dad2f0c5ffb75a517de6ea669f2e1e"), looks := true }, kinds := [], alts := [], laidByText := true, laidKinds := [.data, .data, .data, .data], laidTests := true, laidLooks := .later }
def CircChecksCardSaid : Prop := Claim7.holds Tryd.pinned (.plain (OpenSpec.ofChange circChecksSpec)) circChecksCard

/-- THE TIED CARD OF 'qloomlaw.CircPrints'. -/
def circPrintsCard : Claim7 := { stood := { row := circPrintsRow, standIns := [], harness := (true, "548f9db51fdc569cd8bc5447be677d8a32dad2f0c5ffb75a517de6ea669f2e1e"), looks := true }, kinds := [], alts := [], laidByText := true, laidKinds := [.data, .data, .data, .data], laidTests := true, laidLooks := .later }
def CircPrintsCardSaid : Prop := Claim7.holds Tryd.pinned (.plain (OpenSpec.ofChange circPrintsSpec)) circPrintsCard

/-- THE SECOND FORM's CARD OF 'qloomlaw.CircChecks'. -/
def circChecksUptoCard : Claim7 := { stood := { row := circChecksUptoRow, standIns := [], harness := (true, "548f9db51fdc569cd8bc5447be677d8a32dad2f0c5ffb75a517de6ea669f2e1e"), looks := true }, kinds := [], alts := [], laidByText := true, laidKinds := [.data, .data, .data, .data], laidTests := true, laidLooks := .later }
def CircChecksUptoCardSaid : Prop := Claim7.holds Tryd.pinned (.plain (OpenSpec.upto circChecksSpec)) circChecksUptoCard

/-- THE SECOND FORM's CARD OF 'qloomlaw.CircPrints'. -/
def circPrintsUptoCard : Claim7 := { stood := { row := circPrintsUptoRow, standIns := [], harness := (true, "548f9db51fdc569cd8bc5447be677d8a32dad2f0c5ffb75a517de6ea669f2e1e"), looks := true }, kinds := [], alts := [], laidByText := true, laidKinds := [.data, .data, .data, .data], laidTests := true, laidLooks := .later }
def CircPrintsUptoCardSaid : Prop := Claim7.holds Tryd.pinned (.plain (OpenSpec.upto circPrintsSpec)) circPrintsUptoCard
end Rows
end Go.Proofs.YtcbgonjgmbcbgabDoor
