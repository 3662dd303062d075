/-
  The law, of the contracts that the program's window keeps.
-/
import Derived.Test.YtcocengcdhicnaaWinDone
import Derived.Test.YtcocengcdhicnaaLawWin1
namespace Go.Proofs.Ytcocengcdhicnaa
open Go.RowKit

theorem windowNone_walk (u : Value) (b : List Int) (n d : Int) (w : World) (hb : shWinBytes.good w [u] b) (hn : (Lit.int .i64 n).wf = true) (hd : (Lit.int .i64 d).wf = true) :
    Calls Try.prog 5 #[u, .int .i64 n, .int .i64 d] w fun e w' => e = .returned (.bool true) ∧ Below w.heap.size w w' := windowNone_from windowOK u b n d w hb hn hd
end Go.Proofs.Ytcocengcdhicnaa
