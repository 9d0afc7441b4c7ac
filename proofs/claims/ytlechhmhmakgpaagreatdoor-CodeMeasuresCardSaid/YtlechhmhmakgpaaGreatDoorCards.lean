/-
  DERIVED. GIVEN WITH THE SEED: THE CARDS: each row of YtlechhmhmakgpaaGreatDoorRows.lean that lists a variable, with what it lists TIED to the program's text (the seventh form; the later family's looks); each row that meets fmt, with fmt's text TOLD by the authors' own Lean function (tested against real Go, not proved from fmt's source: count such statements apart). THE CARD IS WHAT COUNTS. Prove the row's statement (the work); the ties are given (YtlechhmhmakgpaaGreatDoorTie.lean); close each card by the builder's one call (the guide's Derived/Test/ToyasCard.lean, 'card_holds'). Laid BY PROGRAM, IN A SANDBOX (cutbox-door.mjs). By AI agents, Wed Nov 11 2026. No macro, syntax, notation, axiom, sorry.
-/
import Derived.Test.YtlechhmhmakgpaaGreatDoorRows
import GoSem.ClaimSeven
namespace Go.Proofs.YtlechhmhmakgpaaGreatDoor
namespace Rows

/-- THE TIED CARD OF 'qloomlaw.TableauRuns'. -/
def tableauRunsCard : Claim7 := { stood := { row := tableauRunsRow, standIns := [], harness := (true, "109c6627f014b6902c1269cf839022b3fce7595a073effbf963bd6b3e0ba54d3"), looks := false }, kinds := [], alts := [], laidByText := true, laidKinds := [.data], laidTests := true, laidLooks := .later }
def TableauRunsCardSaid : Prop := Claim7.holds Tryz.pinned (.plain (OpenSpec.ofChange tableauRunsSpec)) tableauRunsCard

/-- THE TIED CARD OF 'qloomlaw.TableauAgain'. -/
def tableauAgainCard : Claim7 := { stood := { row := tableauAgainRow, standIns := [], harness := (true, "109c6627f014b6902c1269cf839022b3fce7595a073effbf963bd6b3e0ba54d3"), looks := false }, kinds := [], alts := [], laidByText := true, laidKinds := [.data, .data], laidTests := true, laidLooks := .later }
def TableauAgainCardSaid : Prop := Claim7.holds Tryz.pinned (.plain (OpenSpec.ofChange tableauAgainSpec)) tableauAgainCard

/-- THE TIED CARD OF 'qloomlaw.TableauImages'. -/
def tableauImagesCard : Claim7 := { stood := { row := tableauImagesRow, standIns := [], harness := (true, "109c6627f014b6902c1269cf839022b3fce7595a073effbf963bd6b3e0ba54d3"), looks := false }, kinds := [], alts := [], laidByText := true, laidKinds := [.data], laidTests := true, laidLooks := .later }
def TableauImagesCardSaid : Prop := Claim7.holds Tryz.pinned (.plain (OpenSpec.ofChange tableauImagesSpec)) tableauImagesCard

/-- THE TIED CARD OF 'qloomlaw.CodeMeasures'. -/
def codeMeasuresCard : Claim7 := { stood := { row := codeMeasuresRow, standIns := [], harness := (true, "109c6627f014b6902c1269cf839022b3fce7595a073effbf963bd6b3e0ba54d3"), looks := false }, kinds := [], alts := [], laidByText := true, laidKinds := [.data, .data], laidTests := true, laidLooks := .later }
def CodeMeasuresCardSaid : Prop := Claim7.holds Tryz.pinned (.plain (OpenSpec.ofChange codeMeasuresSpec)) codeMeasuresCard

/-- THE SECOND FORM's CARD OF 'qloomlaw.TableauRuns'. -/
def tableauRunsUptoCard : Claim7 := { stood := { row := tableauRunsUptoRow, standIns := [], harness := (true, "109c6627f014b6902c1269cf839022b3fce7595a073effbf963bd6b3e0ba54d3"), looks := false }, kinds := [], alts := [], laidByText := true, laidKinds := [.data], laidTests := true, laidLooks := .later }
def TableauRunsUptoCardSaid : Prop := Claim7.holds Tryz.pinned (.plain (OpenSpec.upto tableauRunsSpec)) tableauRunsUptoCard

/-- THE SECOND FORM's CARD OF 'qloomlaw.TableauAgain'. -/
def tableauAgainUptoCard : Claim7 := { stood := { row := tableauAgainUptoRow, standIns := [], harness := (true, "109c6627f014b6902c1269cf839022b3fce7595a073effbf963bd6b3e0ba54d3"), looks := false }, kinds := [], alts := [], laidByText := true, laidKinds := [.data, .data], laidTests := true, laidLooks := .later }
def TableauAgainUptoCardSaid : Prop := Claim7.holds Tryz.pinned (.plain (OpenSpec.upto tableauAgainSpec)) tableauAgainUptoCard

/-- THE SECOND FORM's CARD OF 'qloomlaw.TableauImages'. -/
def tableauImagesUptoCard : Claim7 := { stood := { row := tableauImagesUptoRow, standIns := [], harness := (true, "109c6627f014b6902c1269cf839022b3fce7595a073effbf963bd6b3e0ba54d3"), looks := false }, kinds := [], alts := [], laidByText := true, laidKinds := [.data], laidTests := true, laidLooks := .later }
def TableauImagesUptoCardSaid : Prop := Claim7.holds Tryz.pinned (.plain (OpenSpec.upto tableauImagesSpec)) tableauImagesUptoCard

/-- THE SECOND FORM's CARD OF 'qloomlaw.CodeMeasures'. -/
def codeMeasuresUptoCard : Claim7 := { stood := { row := codeMeasuresUptoRow, standIns := [], harness := (true, "109c6627f014b6902c1269cf839022b3fce7595a073effbf963bd6b3e0ba54d3"), looks := false }, kinds := [], alts := [], laidByText := true, laidKinds := [.data, .data], laidTests := true, laidLooks := .later }
def CodeMeasuresUptoCardSaid : Prop := Claim7.holds Tryz.pinned (.plain (OpenSpec.upto codeMeasuresSpec)) codeMeasuresUptoCard
end Rows
end Go.Proofs.YtlechhmhmakgpaaGreatDoor
