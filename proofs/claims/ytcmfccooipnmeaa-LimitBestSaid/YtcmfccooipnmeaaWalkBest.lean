/-
  The law, of the contract that the program's Lengths keeps.
-/
import Derived.Test.YtcmfccooipnmeaaLimWalk
import Derived.Test.YtcmfccooipnmeaaLawLim2
namespace Go.Proofs.Ytcmfccooipnmeaa
open Go.RowKit

theorem limitBest_walk (v : Value) (f : List Int) (u : Value) (o : List Int) (a : Int) (w : World) (hf : shInts.good w [v] f) (ho : shInts.good w [u] o) (ha : (Lit.int .u8 a).wf = true) :
    Calls Try.prog 4 #[v, u, .int .u8 a] w fun e w' => e = .returned (.bool true) ∧ Below w.heap.size w w' := limitBest_from lengthsOK v f u o a w hf ho ha
end Go.Proofs.Ytcmfccooipnmeaa
