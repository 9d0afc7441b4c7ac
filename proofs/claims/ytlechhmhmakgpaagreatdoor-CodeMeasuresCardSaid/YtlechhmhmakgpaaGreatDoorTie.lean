/-
  DERIVED. GIVEN WITH THE SEED: THE PROGRAM's TIES (one call each: nine closed facts by the kernel) AND EACH ROW's TIE, after the 31st guide's Derived/Test/Toyas{Tie, Card}.lean. No idea stands in it: it is a product of the set-up. Laid BY PROGRAM, IN A SANDBOX (cutbox-door.mjs). By AI agents, Wed Nov 11 2026. No macro, syntax, notation, axiom, sorry.
-/
import Derived.Test.YtlechhmhmakgpaaGreatDoorRows
import Derived.LaidByTextLater
import Derived.SevenTiedAt
import Derived.LaidSub
import Derived.LaidOnce
namespace Go.Proofs.YtlechhmhmakgpaaGreatDoor
open Go
set_option maxRecDepth 100000
theorem seatTie1 : Tryz.prog.laidByTextLater [("math/bits.deBruijn32tab", Rows.laid_math_bits_deBruijn32tab), ("qloom/circ.shapes", Rows.laid_qloom_circ_shapes), ("qloom/code.letters", Rows.laid_qloom_code_letters)] [.data, .data, .data] true :=
  Program.laidByTextLater_by_one 33 8 36 (by kernel_rfl) (by kernel_rfl) (by kernel_rfl) (by kernel_rfl) (by kernel_rfl) (by kernel_rfl) (fun _ _ => by kernel_rfl)
theorem noOwnUnsafe : Tryz.pinned.checked.prog.headLifts.contains "ownunsafe" = false := by kernel_rfl
theorem tie : Tryz.prog.laidByTextLater [("qloom/circ.shapes", Rows.laid_qloom_circ_shapes)] [.data] true :=
  Program.laidByTextLater.sub seatTie1 ["qloom/circ.shapes"] (by kernel_rfl) (by kernel_rfl)
theorem tableauRuns_row_tie : Rows.tableauRunsRow.laidByTextAt .later Tryz.pinned [.data] true :=
  OpenClaim.laidByTextAt_later rfl rfl tie noOwnUnsafe
theorem tableauImages_row_tie : Rows.tableauImagesRow.laidByTextAt .later Tryz.pinned [.data] true :=
  OpenClaim.laidByTextAt_later rfl rfl tie noOwnUnsafe
theorem tie2 : Tryz.prog.laidByTextLater [("math/bits.deBruijn32tab", Rows.laid_math_bits_deBruijn32tab), ("qloom/circ.shapes", Rows.laid_qloom_circ_shapes)] [.data, .data] true :=
  Program.laidByTextLater.sub seatTie1 ["math/bits.deBruijn32tab", "qloom/circ.shapes"] (by kernel_rfl) (by kernel_rfl)
theorem tableauAgain_row_tie : Rows.tableauAgainRow.laidByTextAt .later Tryz.pinned [.data, .data] true :=
  OpenClaim.laidByTextAt_later rfl rfl tie2 noOwnUnsafe
theorem tie3 : Tryz.prog.laidByTextLater [("qloom/circ.shapes", Rows.laid_qloom_circ_shapes), ("qloom/code.letters", Rows.laid_qloom_code_letters)] [.data, .data] true :=
  Program.laidByTextLater.sub seatTie1 ["qloom/circ.shapes", "qloom/code.letters"] (by kernel_rfl) (by kernel_rfl)
theorem codeMeasures_row_tie : Rows.codeMeasuresRow.laidByTextAt .later Tryz.pinned [.data, .data] true :=
  OpenClaim.laidByTextAt_later rfl rfl tie3 noOwnUnsafe
theorem tableauRunsUpto_row_tie : Rows.tableauRunsUptoRow.laidByTextAt .later Tryz.pinned [.data] true :=
  OpenClaim.laidByTextAt_later rfl rfl tie noOwnUnsafe
theorem tableauAgainUpto_row_tie : Rows.tableauAgainUptoRow.laidByTextAt .later Tryz.pinned [.data, .data] true :=
  OpenClaim.laidByTextAt_later rfl rfl tie2 noOwnUnsafe
theorem tableauImagesUpto_row_tie : Rows.tableauImagesUptoRow.laidByTextAt .later Tryz.pinned [.data] true :=
  OpenClaim.laidByTextAt_later rfl rfl tie noOwnUnsafe
theorem codeMeasuresUpto_row_tie : Rows.codeMeasuresUptoRow.laidByTextAt .later Tryz.pinned [.data, .data] true :=
  OpenClaim.laidByTextAt_later rfl rfl tie3 noOwnUnsafe
end Go.Proofs.YtlechhmhmakgpaaGreatDoor
