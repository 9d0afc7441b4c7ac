/-
  DERIVED. GIVEN WITH THE SEED: THE CARDS: each row of YthgmlhddanbbpaaDoorRows.lean that lists a variable, with what it lists TIED to the program's text (the seventh form; the later family's looks); each row that meets fmt, with fmt's text TOLD by the authors' own Lean function (tested against real Go, not proved from fmt's source: count such statements apart). THE CARD IS WHAT COUNTS. Prove the row's statement (the work); the ties are given (YthgmlhddanbbpaaDoorTie.lean); close each card by the builder's one call (the guide's Derived/Test/ToyasCard.lean, 'card_holds'). Laid BY PROGRAM, IN A SANDBOX (cutbox-door.mjs). By AI agents, Wed Nov 11 2026. No macro, syntax, notation, axiom, sorry.
-/
import Derived.Test.YthgmlhddanbbpaaDoorRows
import GoSem.ClaimSeven
namespace Go.Proofs.YthgmlhddanbbpaaDoor
namespace Rows

/-- THE TIED CARD OF 'qloomlaw.LowerKeeps'. -/
def lowerKeepsCard : Claim7 := { stood := { row := lowerKeepsRow, standIns := [], harness := (true, "b5b27a233806d59432166d7163c0faac7120cbfa69d61f83915908526bea1106"), looks := false }, kinds := [], alts := [], laidByText := true, laidKinds := [.data, .data, .data], laidTests := true, laidLooks := .later }
def LowerKeepsCardSaid : Prop := Claim7.holds Tryd.pinned (.plain (OpenSpec.ofChange lowerKeepsSpec)) lowerKeepsCard

/-- THE SECOND FORM's CARD OF 'qloomlaw.LowerKeeps'. -/
def lowerKeepsUptoCard : Claim7 := { stood := { row := lowerKeepsUptoRow, standIns := [], harness := (true, "b5b27a233806d59432166d7163c0faac7120cbfa69d61f83915908526bea1106"), looks := false }, kinds := [], alts := [], laidByText := true, laidKinds := [.data, .data, .data], laidTests := true, laidLooks := .later }
def LowerKeepsUptoCardSaid : Prop := Claim7.holds Tryd.pinned (.plain (OpenSpec.upto lowerKeepsSpec)) lowerKeepsUptoCard
end Rows
end Go.Proofs.YthgmlhddanbbpaaDoor
