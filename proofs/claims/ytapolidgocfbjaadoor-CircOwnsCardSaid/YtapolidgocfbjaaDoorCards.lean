/-
  DERIVED. GIVEN WITH THE SEED: THE CARDS: each row of YtapolidgocfbjaaDoorRows.lean that lists a variable, with what it lists TIED to the program's text (the seventh form; the later family's looks); each row that meets fmt, with fmt's text TOLD by the authors' own Lean function (tested against real Go, not proved from fmt's source: count such statements apart). THE CARD IS WHAT COUNTS. Prove the row's statement (the work); the ties are given (YtapolidgocfbjaaDoorTie.lean); close each card by the builder's one call (the guide's Derived/Test/ToyasCard.lean, 'card_holds'). Laid BY PROGRAM, IN A SANDBOX (cutbox-door.mjs). By AI agents, Wed Nov 11 2026. No macro, syntax, notation, axiom, sorry.
-/
import Derived.Test.YtapolidgocfbjaaDoorRows
import GoSem.ClaimSeven
namespace Go.Proofs.YtapolidgocfbjaaDoor
namespace Rows

/-- THE TIED CARD OF 'qloomlaw.CircTurns'. -/
def circTurnsCard : Claim7 := { stood := { row := circTurnsRow, standIns := [], harness := (true, "4e8833119bce79fc6c344eba0a7decc5f089c58ca28f12bd9a7dcde98886ebf7"), looks := false }, kinds := [], alts := [], laidByText := true, laidKinds := [.data, .data, .data, .data], laidTests := true, laidLooks := .later }
def CircTurnsCardSaid : Prop := Claim7.holds Tryd.pinned (.plain (OpenSpec.ofChange circTurnsSpec)) circTurnsCard

/-- THE TIED CARD OF 'qloomlaw.CircJoins'. -/
def circJoinsCard : Claim7 := { stood := { row := circJoinsRow, standIns := [], harness := (true, "4e8833119bce79fc6c344eba0a7decc5f089c58ca28f12bd9a7dcde98886ebf7"), looks := false }, kinds := [], alts := [], laidByText := true, laidKinds := [.data, .data, .data, .data], laidTests := true, laidLooks := .later }
def CircJoinsCardSaid : Prop := Claim7.holds Tryd.pinned (.plain (OpenSpec.ofChange circJoinsSpec)) circJoinsCard

/-- THE TIED CARD OF 'qloomlaw.CircOwns'. -/
def circOwnsCard : Claim7 := { stood := { row := circOwnsRow, standIns := [], harness := (true, "4e8833119bce79fc6c344eba0a7decc5f089c58ca28f12bd9a7dcde98886ebf7"), looks := false }, kinds := [], alts := [], laidByText := true, laidKinds := [.data, .data, .data, .data], laidTests := true, laidLooks := .later }
def CircOwnsCardSaid : Prop := Claim7.holds Tryd.pinned (.plain (OpenSpec.ofChange circOwnsSpec)) circOwnsCard

/-- THE SECOND FORM's CARD OF 'qloomlaw.CircTurns'. -/
def circTurnsUptoCard : Claim7 := { stood := { row := circTurnsUptoRow, standIns := [], harness := (true, "4e8833119bce79fc6c344eba0a7decc5f089c58ca28f12bd9a7dcde98886ebf7"), looks := false }, kinds := [], alts := [], laidByText := true, laidKinds := [.data, .data, .data, .data], laidTests := true, laidLooks := .later }
def CircTurnsUptoCardSaid : Prop := Claim7.holds Tryd.pinned (.plain (OpenSpec.upto circTurnsSpec)) circTurnsUptoCard

/-- THE SECOND FORM's CARD OF 'qloomlaw.CircJoins'. -/
def circJoinsUptoCard : Claim7 := { stood := { row := circJoinsUptoRow, standIns := [], harness := (true, "4e8833119bce79fc6c344eba0a7decc5f089c58ca28f12bd9a7dcde98886ebf7"), looks := false }, kinds := [], alts := [], laidByText := true, laidKinds := [.data, .data, .data, .data], laidTests := true, laidLooks := .later }
def CircJoinsUptoCardSaid : Prop := Claim7.holds Tryd.pinned (.plain (OpenSpec.upto circJoinsSpec)) circJoinsUptoCard

/-- THE SECOND FORM's CARD OF 'qloomlaw.CircOwns'. -/
def circOwnsUptoCard : Claim7 := { stood := { row := circOwnsUptoRow, standIns := [], harness := (true, "4e8833119bce79fc6c344eba0a7decc5f089c58ca28f12bd9a7dcde98886ebf7"), looks := false }, kinds := [], alts := [], laidByText := true, laidKinds := [.data, .data, .data, .data], laidTests := true, laidLooks := .later }
def CircOwnsUptoCardSaid : Prop := Claim7.holds Tryd.pinned (.plain (OpenSpec.upto circOwnsSpec)) circOwnsUptoCard
end Rows
end Go.Proofs.YtapolidgocfbjaaDoor
