/-
  DERIVED. GIVEN WITH THE SEED: THE CARDS: each row of YtlmfhopifggeaaaDoorRows.lean that lists a variable, with what it lists TIED to the program's text (the seventh form; the later family's looks); each row that meets fmt, with fmt's text TOLD by the authors' own Lean function (tested against real Go, not proved from fmt's source: count such statements apart). THE CARD IS WHAT COUNTS. Prove the row's statement (the work); the ties are given (YtlmfhopifggeaaaDoorTie.lean); close each card by the builder's one call (the guide's Derived/Test/ToyasCard.lean, 'card_holds'). Laid BY PROGRAM, IN A SANDBOX (cutbox-door.mjs). By AI agents, Wed Nov 11 2026. No macro, syntax, notation, axiom, sorry.
-/
import Derived.Test.YtlmfhopifggeaaaDoorRows
import GoSem.ClaimSeven
namespace Go.Proofs.YtlmfhopifggeaaaDoor
namespace Rows

/-- THE TIED CARD OF 'qloomlaw.RouteChecks'. -/
def routeChecksCard : Claim7 := { stood := { row := routeChecksRow, standIns := [], harness := (true, "4d11a43b7b9db2e13aac07a6fe219cd6c3d9187d0c24c68ba87c015d1e647064"), looks := false }, kinds := [], alts := [], laidByText := true, laidKinds := [.data, .data], laidTests := true, laidLooks := .later }
def RouteChecksCardSaid : Prop := Claim7.holds Tryd.pinned (.plain (OpenSpec.ofChange routeChecksSpec)) routeChecksCard

/-- THE TIED CARD OF 'qloomlaw.RouteFits'. -/
def routeFitsCard : Claim7 := { stood := { row := routeFitsRow, standIns := [], harness := (true, "4d11a43b7b9db2e13aac07a6fe219cd6c3d9187d0c24c68ba87c015d1e647064"), looks := false }, kinds := [], alts := [], laidByText := true, laidKinds := [.data, .data], laidTests := true, laidLooks := .later }
def RouteFitsCardSaid : Prop := Claim7.holds Tryd.pinned (.plain (OpenSpec.ofChange routeFitsSpec)) routeFitsCard

/-- THE TIED CARD OF 'qloomlaw.RouteKeeps'. -/
def routeKeepsCard : Claim7 := { stood := { row := routeKeepsRow, standIns := [], harness := (true, "4d11a43b7b9db2e13aac07a6fe219cd6c3d9187d0c24c68ba87c015d1e647064"), looks := false }, kinds := [], alts := [], laidByText := true, laidKinds := [.data, .data], laidTests := true, laidLooks := .later }
def RouteKeepsCardSaid : Prop := Claim7.holds Tryd.pinned (.plain (OpenSpec.ofChange routeKeepsSpec)) routeKeepsCard

/-- THE TIED CARD OF 'qloomlaw.RouteTimes'. -/
def routeTimesCard : Claim7 := { stood := { row := routeTimesRow, standIns := [], harness := (true, "4d11a43b7b9db2e13aac07a6fe219cd6c3d9187d0c24c68ba87c015d1e647064"), looks := false }, kinds := [], alts := [], laidByText := true, laidKinds := [.data, .data], laidTests := true, laidLooks := .later }
def RouteTimesCardSaid : Prop := Claim7.holds Tryd.pinned (.plain (OpenSpec.ofChange routeTimesSpec)) routeTimesCard

/-- THE SECOND FORM's CARD OF 'qloomlaw.RouteChecks'. -/
def routeChecksUptoCard : Claim7 := { stood := { row := routeChecksUptoRow, standIns := [], harness := (true, "4d11a43b7b9db2e13aac07a6fe219cd6c3d9187d0c24c68ba87c015d1e647064"), looks := false }, kinds := [], alts := [], laidByText := true, laidKinds := [.data, .data], laidTests := true, laidLooks := .later }
def RouteChecksUptoCardSaid : Prop := Claim7.holds Tryd.pinned (.plain (OpenSpec.upto routeChecksSpec)) routeChecksUptoCard

/-- THE SECOND FORM's CARD OF 'qloomlaw.RouteFits'. -/
def routeFitsUptoCard : Claim7 := { stood := { row := routeFitsUptoRow, standIns := [], harness := (true, "4d11a43b7b9db2e13aac07a6fe219cd6c3d9187d0c24c68ba87c015d1e647064"), looks := false }, kinds := [], alts := [], laidByText := true, laidKinds := [.data, .data], laidTests := true, laidLooks := .later }
def RouteFitsUptoCardSaid : Prop := Claim7.holds Tryd.pinned (.plain (OpenSpec.upto routeFitsSpec)) routeFitsUptoCard

/-- THE SECOND FORM's CARD OF 'qloomlaw.RouteKeeps'. -/
def routeKeepsUptoCard : Claim7 := { stood := { row := routeKeepsUptoRow, standIns := [], harness := (true, "4d11a43b7b9db2e13aac07a6fe219cd6c3d9187d0c24c68ba87c015d1e647064"), looks := false }, kinds := [], alts := [], laidByText := true, laidKinds := [.data, .data], laidTests := true, laidLooks := .later }
def RouteKeepsUptoCardSaid : Prop := Claim7.holds Tryd.pinned (.plain (OpenSpec.upto routeKeepsSpec)) routeKeepsUptoCard

/-- THE SECOND FORM's CARD OF 'qloomlaw.RouteTimes'. -/
def routeTimesUptoCard : Claim7 := { stood := { row := routeTimesUptoRow, standIns := [], harness := (true, "4d11a43b7b9db2e13aac07a6fe219cd6c3d9187d0c24c68ba87c015d1e647064"), looks := false }, kinds := [], alts := [], laidByText := true, laidKinds := [.data, .data], laidTests := true, laidLooks := .later }
def RouteTimesUptoCardSaid : Prop := Claim7.holds Tryd.pinned (.plain (OpenSpec.upto routeTimesSpec)) routeTimesUptoCard
end Rows
end Go.Proofs.YtlmfhopifggeaaaDoor
