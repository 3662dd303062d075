/-
  The law, of the contract that the program's Lengths keeps.
-/
import Derived.Test.YtcmfccooipnmeaaLimWalk
import Derived.Test.YtcmfccooipnmeaaLawLim4
namespace Go.Proofs.Ytcmfccooipnmeaa
open Go.RowKit

theorem limitFlat_walk (x o y : Int) (w : World) (hx : (Lit.int .u8 x).wf = true) (ho : (Lit.int .u16 o).wf = true) (hy : (Lit.int .u8 y).wf = true) :
    Calls Try.prog 6 #[.int .u8 x, .int .u16 o, .int .u8 y] w fun e w' => e = .returned (.bool true) ∧ Below w.heap.size w w' := limitFlat_from lengthsOK x o y w hx ho hy
end Go.Proofs.Ytcmfccooipnmeaa
