/-
  The law, of the contract that the program's Lengths keeps.
-/
import Derived.Test.YtcmfccooipnmeaaLimWalk
import Derived.Test.YtcmfccooipnmeaaLawLim3
namespace Go.Proofs.Ytcmfccooipnmeaa
open Go.RowKit

theorem limitOrder_walk (v : Value) (f : List Int) (y t : Int) (w : World) (hf : shInts.good w [v] f) (hy : (Lit.int .u8 y).wf = true) (ht : (Lit.int .u16 t).wf = true) :
    Calls Try.prog 5 #[v, .int .u8 y, .int .u16 t] w fun e w' => e = .returned (.bool true) ∧ Below w.heap.size w w' := limitOrder_from lengthsOK v f y t w hf hy ht
end Go.Proofs.Ytcmfccooipnmeaa
