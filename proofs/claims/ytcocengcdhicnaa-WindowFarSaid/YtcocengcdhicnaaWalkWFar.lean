/-
  The law, of the contracts that the program's window keeps.
-/
import Derived.Test.YtcocengcdhicnaaWinDone
import Derived.Test.YtcocengcdhicnaaLawWin3
namespace Go.Proofs.Ytcocengcdhicnaa
open Go.RowKit

theorem windowFar_walk (more c : Int) (w : World) (hm : (Lit.int .u16 more).wf = true) (hc : (Lit.int .u8 c).wf = true) :
    Calls Try.prog 6 #[.int .u16 more, .int .u8 c] w fun e w' => e = .returned (.bool true) ∧ Below w.heap.size w w' := windowFar_from windowOK more c w hm hc
end Go.Proofs.Ytcocengcdhicnaa
