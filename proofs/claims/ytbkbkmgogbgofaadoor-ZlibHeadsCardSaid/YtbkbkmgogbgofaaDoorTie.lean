/-
  DERIVED. GIVEN WITH THE SEED: THE PROGRAM's TIES (one call each: nine closed facts by the kernel) AND EACH ROW's TIE, after the 31st guide's Derived/Test/Toyas{Tie, Card}.lean. No idea stands in it: it is a product of the set-up. Laid BY PROGRAM, IN A SANDBOX (cutbox-door.mjs). By AI agents, Wed Nov 11 2026. No macro, syntax, notation, axiom, sorry.
-/
import Derived.Test.YtbkbkmgogbgofaaDoorRows
import Derived.LaidByTextLater
import Derived.SevenTiedAt
import Derived.LaidSub
import Derived.LaidOnce
namespace Go.Proofs.YtbkbkmgogbgofaaDoor
open Go
set_option maxRecDepth 100000
theorem seatTie1 : Tryd.prog.laidByTextLater [("concertina/inflate.order", Rows.laid_concertina_inflate_order), ("concertina/inflate.runs", Rows.laid_concertina_inflate_runs)] [.data, .data] true :=
  Program.laidByTextLater_by_one 22 8 20 (by kernel_rfl) (by kernel_rfl) (by kernel_rfl) (by kernel_rfl) (by kernel_rfl) (by kernel_rfl) (fun _ _ => by kernel_rfl)
theorem noOwnUnsafe : Tryd.pinned.checked.prog.headLifts.contains "ownunsafe" = false := by kernel_rfl
theorem tie : Tryd.prog.laidByTextLater [("concertina/inflate.order", Rows.laid_concertina_inflate_order), ("concertina/inflate.runs", Rows.laid_concertina_inflate_runs)] [.data, .data] true :=
  Program.laidByTextLater.sub seatTie1 ["concertina/inflate.order", "concertina/inflate.runs"] (by kernel_rfl) (by kernel_rfl)
theorem zlibHeads_row_tie : Rows.zlibHeadsRow.laidByTextAt .later Tryd.pinned [.data, .data] true :=
  OpenClaim.laidByTextAt_later rfl rfl tie noOwnUnsafe
theorem zlibHeadsUpto_row_tie : Rows.zlibHeadsUptoRow.laidByTextAt .later Tryd.pinned [.data, .data] true :=
  OpenClaim.laidByTextAt_later rfl rfl tie noOwnUnsafe
end Go.Proofs.YtbkbkmgogbgofaaDoor
