/-
  DERIVED. GIVEN WITH THE SEED: THE CARDS: each row of YtiicfpdiehgikaaGreatDoorRows.lean that lists a variable, with what it lists TIED to the program's text (the seventh form; the later family's looks); each row that meets fmt, with fmt's text TOLD by the authors' own Lean function (tested against real Go, not proved from fmt's source: count such statements apart). THE CARD IS WHAT COUNTS. Prove the row's statement (the work); the ties are given (YtiicfpdiehgikaaGreatDoorTie.lean); close each card by the builder's one call (the guide's Derived/Test/ToyasCard.lean, 'card_holds'). Laid BY PROGRAM, IN A SANDBOX (cutbox-door.mjs). By AI agents, Wed Nov 11 2026. No macro, syntax, notation, axiom, sorry.
-/
import Derived.Test.YtiicfpdiehgikaaGreatDoorRows
import GoSem.ClaimSeven
namespace Go.Proofs.YtiicfpdiehgikaaGreatDoor
namespace Rows

/-- THE TIED CARD OF 'qloomlaw.RingReads'. -/
def ringReadsCard : Claim7 := { stood := { row := ringReadsRow, standIns := [], harness := (true, "e5bf899b7214db585aded6d4b8cfd21f1942cfe562e8af817e03664764f6c927"), looks := true }, kinds := [], alts := [], laidByText := true, laidKinds := [.data, .data, .data], laidTests := true, laidLooks := .later }
def RingReadsCardSaid : Prop := Claim7.holds Tryz.pinned (.plain (OpenSpec.ofChange ringReadsSpec)) ringReadsCard

/-- THE TIED CARD OF 'qloomlaw.RingReckons'. -/
def ringReckonsCard : Claim7 := { stood := { row := ringReckonsRow, standIns := [], harness := (true, "e5bf899b7214db585aded6d4b8cfd21f1942cfe562e8af817e03664764f6c927"), looks := true }, kinds := [], alts := [], laidByText := true, laidKinds := [.data, .data, .data], laidTests := true, laidLooks := .later }
def RingReckonsCardSaid : Prop := Claim7.holds Tryz.pinned (.plain (OpenSpec.ofChange ringReckonsSpec)) ringReckonsCard

/-- THE TIED CARD OF 'qloomlaw.RingLaws'. -/
def ringLawsCard : Claim7 := { stood := { row := ringLawsRow, standIns := [], harness := (true, "e5bf899b7214db585aded6d4b8cfd21f1942cfe562e8af817e03664764f6c927"), looks := true }, kinds := [], alts := [], laidByText := true, laidKinds := [.data, .data, .data], laidTests := true, laidLooks := .later }
def RingLawsCardSaid : Prop := Claim7.holds Tryz.pinned (.plain (OpenSpec.ofChange ringLawsSpec)) ringLawsCard

/-- THE SECOND FORM's CARD OF 'qloomlaw.RingReads'. -/
def ringReadsUptoCard : Claim7 := { stood := { row := ringReadsUptoRow, standIns := [], harness := (true, "e5bf899b7214db585aded6d4b8cfd21f1942cfe562e8af817e03664764f6c927"), looks := true }, kinds := [], alts := [], laidByText := true, laidKinds := [.data, .data, .data], laidTests := true, laidLooks := .later }
def RingReadsUptoCardSaid : Prop := Claim7.holds Tryz.pinned (.plain (OpenSpec.upto ringReadsSpec)) ringReadsUptoCard

/-- THE SECOND FORM's CARD OF 'qloomlaw.RingReckons'. -/
def ringReckonsUptoCard : Claim7 := { stood := { row := ringReckonsUptoRow, standIns := [], harness := (true, "e5bf899b7214db585aded6d4b8cfd21f1942cfe562e8af817e03664764f6c927"), looks := true }, kinds := [], alts := [], laidByText := true, laidKinds := [.data, .data, .data], laidTests := true, laidLooks := .later }
def RingReckonsUptoCardSaid : Prop := Claim7.holds Tryz.pinned (.plain (OpenSpec.upto ringReckonsSpec)) ringReckonsUptoCard

/-- THE SECOND FORM's CARD OF 'qloomlaw.RingLaws'. -/
def ringLawsUptoCard : Claim7 := { stood := { row := ringLawsUptoRow, standIns := [], harness := (true, "e5bf899b7214db585aded6d4b8cfd21f1942cfe562e8af817e03664764f6c927"), looks := true }, kinds := [], alts := [], laidByText := true, laidKinds := [.data, .data, .data], laidTests := true, laidLooks := .later }
def RingLawsUptoCardSaid : Prop := Claim7.holds Tryz.pinned (.plain (OpenSpec.upto ringLawsSpec)) ringLawsUptoCard
end Rows
end Go.Proofs.YtiicfpdiehgikaaGreatDoor
