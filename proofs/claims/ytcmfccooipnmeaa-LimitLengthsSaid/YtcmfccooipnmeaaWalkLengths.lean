/-
  The law, of the contract that the program's Lengths keeps.
-/
import Derived.Test.YtcmfccooipnmeaaLimWalk
import Derived.Test.YtcmfccooipnmeaaLawLim1
namespace Go.Proofs.Ytcmfccooipnmeaa
open Go.RowKit

theorem limitLengths_walk (v : Value) (f : List Int) (most : Int) (w : World) (hf : shInts.good w [v] f) (h : (Lit.int .i64 most).wf = true) :
    Calls Try.prog 3 #[v, .int .i64 most] w fun e w' => e = .returned (.bool true) ∧ Below w.heap.size w w' := limitLengths_from lengthsOK v f most w hf h
end Go.Proofs.Ytcmfccooipnmeaa
