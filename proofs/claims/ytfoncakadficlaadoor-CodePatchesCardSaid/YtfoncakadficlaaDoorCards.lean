/-
  DERIVED. GIVEN WITH THE SEED: THE CARDS: each row of YtfoncakadficlaaDoorRows.lean that lists a variable, with what it lists TIED to the program's text (the seventh form; the later family's looks); each row that meets fmt, with fmt's text TOLD by the authors' own Lean function (tested against real Go, not proved from fmt's source: count such statements apart). THE CARD IS WHAT COUNTS. Prove the row's statement (the work); the ties are given (YtfoncakadficlaaDoorTie.lean); close each card by the builder's one call (the guide's Derived/Test/ToyasCard.lean, 'card_holds'). Laid BY PROGRAM, IN A SANDBOX (cutbox-door.mjs). By AI agents, Wed Nov 11 2026. No macro, syntax, notation, axiom, sorry.
-/
import Derived.Test.YtfoncakadficlaaDoorRows
import GoSem.ClaimSeven
namespace Go.Proofs.YtfoncakadficlaaDoor
namespace Rows

/-- THE TIED CARD OF 'qloomlaw.CodeChecks'. -/
def codeChecksCard : Claim7 := { stood := { row := codeChecksRow, standIns := [], harness := (true, "6d250786441faad8b944d4e2e48d7567a2c30bde3653fa13c8af993ffbb6b259"), looks := false }, kinds := [], alts := [], laidByText := true, laidKinds := [.data], laidTests := true, laidLooks := .later }
def CodeChecksCardSaid : Prop := Claim7.holds Tryd.pinned (.plain (OpenSpec.ofChange codeChecksSpec)) codeChecksCard

/-- THE TIED CARD OF 'qloomlaw.CodeDistances'. -/
def codeDistancesCard : Claim7 := { stood := { row := codeDistancesRow, standIns := [], harness := (true, "6d250786441faad8b944d4e2e48d7567a2c30bde3653fa13c8af993ffbb6b259"), looks := false }, kinds := [], alts := [], laidByText := true, laidKinds := [.data], laidTests := true, laidLooks := .later }
def CodeDistancesCardSaid : Prop := Claim7.holds Tryd.pinned (.plain (OpenSpec.ofChange codeDistancesSpec)) codeDistancesCard

/-- THE TIED CARD OF 'qloomlaw.CodeCorrects'. -/
def codeCorrectsCard : Claim7 := { stood := { row := codeCorrectsRow, standIns := [], harness := (true, "6d250786441faad8b944d4e2e48d7567a2c30bde3653fa13c8af993ffbb6b259"), looks := false }, kinds := [], alts := [], laidByText := true, laidKinds := [.data], laidTests := true, laidLooks := .later }
def CodeCorrectsCardSaid : Prop := Claim7.holds Tryd.pinned (.plain (OpenSpec.ofChange codeCorrectsSpec)) codeCorrectsCard

/-- THE TIED CARD OF 'qloomlaw.CodePatches'. -/
def codePatchesCard : Claim7 := { stood := { row := codePatchesRow, standIns := [], harness := (true, "6d250786441faad8b944d4e2e48d7567a2c30bde3653fa13c8af993ffbb6b259"), looks := false }, kinds := [], alts := [], laidByText := true, laidKinds := [.data], laidTests := true, laidLooks := .later }
def CodePatchesCardSaid : Prop := Claim7.holds Tryd.pinned (.plain (OpenSpec.ofChange codePatchesSpec)) codePatchesCard

/-- THE SECOND FORM's CARD OF 'qloomlaw.CodeChecks'. -/
def codeChecksUptoCard : Claim7 := { stood := { row := codeChecksUptoRow, standIns := [], harness := (true, "6d250786441faad8b944d4e2e48d7567a2c30bde3653fa13c8af993ffbb6b259"), looks := false }, kinds := [], alts := [], laidByText := true, laidKinds := [.data], laidTests := true, laidLooks := .later }
def CodeChecksUptoCardSaid : Prop := Claim7.holds Tryd.pinned (.plain (OpenSpec.upto codeChecksSpec)) codeChecksUptoCard

/-- THE SECOND FORM's CARD OF 'qloomlaw.CodeDistances'. -/
def codeDistancesUptoCard : Claim7 := { stood := { row := codeDistancesUptoRow, standIns := [], harness := (true, "6d250786441faad8b944d4e2e48d7567a2c30bde3653fa13c8af993ffbb6b259"), looks := false }, kinds := [], alts := [], laidByText := true, laidKinds := [.data], laidTests := true, laidLooks := .later }
def CodeDistancesUptoCardSaid : Prop := Claim7.holds Tryd.pinned (.plain (OpenSpec.upto codeDistancesSpec)) codeDistancesUptoCard

/-- THE SECOND FORM's CARD OF 'qloomlaw.CodeCorrects'. -/
def codeCorrectsUptoCard : Claim7 := { stood := { row := codeCorrectsUptoRow, standIns := [], harness := (true, "6d250786441faad8b944d4e2e48d7567a2c30bde3653fa13c8af993ffbb6b259"), looks := false }, kinds := [], alts := [], laidByText := true, laidKinds := [.data], laidTests := true, laidLooks := .later }
def CodeCorrectsUptoCardSaid : Prop := Claim7.holds Tryd.pinned (.plain (OpenSpec.upto codeCorrectsSpec)) codeCorrectsUptoCard

/-- THE SECOND FORM's CARD OF 'qloomlaw.CodePatches'. -/
def codePatchesUptoCard : Claim7 := { stood := { row := codePatchesUptoRow, standIns := [], harness := (true, "6d250786441faad8b944d4e2e48d7567a2c30bde3653fa13c8af993ffbb6b259"), looks := false }, kinds := [], alts := [], laidByText := true, laidKinds := [.data], laidTests := true, laidLooks := .later }
def CodePatchesUptoCardSaid : Prop := Claim7.holds Tryd.pinned (.plain (OpenSpec.upto codePatchesSpec)) codePatchesUptoCard
end Rows
end Go.Proofs.YtfoncakadficlaaDoor
