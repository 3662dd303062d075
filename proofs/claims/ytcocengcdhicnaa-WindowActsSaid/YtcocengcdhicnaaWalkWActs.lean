/-
  The law, of the contracts that the program's window keeps.
-/
import Derived.Test.YtcocengcdhicnaaWinDone
import Derived.Test.YtcocengcdhicnaaLawWin4
namespace Go.Proofs.Ytcocengcdhicnaa
open Go.RowKit

theorem windowActs_walk (v : Value) (acts : List (Int × Int × Int × Int × List Int)) (last : Int) (w : World) (ha : shActs7.good w [v] acts) (hl : (Lit.int .i64 last).wf = true) :
    Calls Try.prog 3 #[v, .int .i64 last] w fun e w' => e = .returned (.bool true) ∧ Below w.heap.size w w' := windowActs_from windowOK v acts last w ha hl
end Go.Proofs.Ytcocengcdhicnaa
