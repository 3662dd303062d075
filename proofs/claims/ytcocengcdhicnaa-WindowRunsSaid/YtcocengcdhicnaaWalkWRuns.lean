/-
  The law, of the contracts that the program's window keeps.
-/
import Derived.Test.YtcocengcdhicnaaWinDone
import Derived.Test.YtcocengcdhicnaaLawWin2
namespace Go.Proofs.Ytcocengcdhicnaa
open Go.RowKit

theorem windowRuns_walk (u : Value) (b : List Int) (dist n : Int) (w : World) (hb : shWinBytes.good w [u] b) (hd : (Lit.int .u8 dist).wf = true) (hn : (Lit.int .u8 n).wf = true) :
    Calls Try.prog 4 #[u, .int .u8 dist, .int .u8 n] w fun e w' => e = .returned (.bool true) ∧ Below w.heap.size w w' := windowRuns_from windowOK u b dist n w hb hd hn
end Go.Proofs.Ytcocengcdhicnaa
