/-
  DERIVED. GIVEN WITH THE SEED: THE PROGRAM's TIES (one call each: nine closed facts by the kernel) AND EACH ROW's TIE, after the 31st guide's Derived/Test/Toyas{Tie, Card}.lean. No idea stands in it: it is a product of the set-up. Laid BY PROGRAM, IN A SANDBOX (cutbox-door.mjs). By AI agents, Wed Nov 11 2026. No macro, syntax, notation, axiom, sorry.
-/
import Derived.Test.YtbkbkmgogbgofaaGreatDoorRows
import Derived.LaidByTextLater
import Derived.SevenTiedAt
import Derived.LaidSub
import Derived.LaidOnce
namespace Go.Proofs.YtbkbkmgogbgofaaGreatDoor
open Go
set_option maxRecDepth 100000
theorem seatTie1 : Tryz.prog.laidByTextLater [("concertina/match.levels", Rows.laid_concertina_match_levels), ("concertina/block.order", Rows.laid_concertina_block_order), ("concertina/inflate.order", Rows.laid_concertina_inflate_order), ("concertina/inflate.runs", Rows.laid_concertina_inflate_runs)] [.data, .data, .data, .data] true :=
  Program.laidByTextLater_by_one 42 8 31 (by kernel_rfl) (by kernel_rfl) (by kernel_rfl) (by kernel_rfl) (by kernel_rfl) (by kernel_rfl) (fun _ _ => by kernel_rfl)
theorem noOwnUnsafe : Tryz.pinned.checked.prog.headLifts.contains "ownunsafe" = false := by kernel_rfl
theorem tie : Tryz.prog.laidByTextLater [("concertina/match.levels", Rows.laid_concertina_match_levels), ("concertina/block.order", Rows.laid_concertina_block_order), ("concertina/inflate.order", Rows.laid_concertina_inflate_order), ("concertina/inflate.runs", Rows.laid_concertina_inflate_runs)] [.data, .data, .data, .data] true :=
  Program.laidByTextLater.sub seatTie1 ["concertina/match.levels", "concertina/block.order", "concertina/inflate.order", "concertina/inflate.runs"] (by kernel_rfl) (by kernel_rfl)
theorem zlibBack_row_tie : Rows.zlibBackRow.laidByTextAt .later Tryz.pinned [.data, .data, .data, .data] true :=
  OpenClaim.laidByTextAt_later rfl rfl tie noOwnUnsafe
theorem zlibTurned_row_tie : Rows.zlibTurnedRow.laidByTextAt .later Tryz.pinned [.data, .data, .data, .data] true :=
  OpenClaim.laidByTextAt_later rfl rfl tie noOwnUnsafe
theorem zlibBackUpto_row_tie : Rows.zlibBackUptoRow.laidByTextAt .later Tryz.pinned [.data, .data, .data, .data] true :=
  OpenClaim.laidByTextAt_later rfl rfl tie noOwnUnsafe
theorem zlibTurnedUpto_row_tie : Rows.zlibTurnedUptoRow.laidByTextAt .later Tryz.pinned [.data, .data, .data, .data] true :=
  OpenClaim.laidByTextAt_later rfl rfl tie noOwnUnsafe
end Go.Proofs.YtbkbkmgogbgofaaGreatDoor
