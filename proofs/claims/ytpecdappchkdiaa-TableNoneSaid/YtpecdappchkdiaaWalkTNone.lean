/-
  The law, of the contracts that the program's table keeps.
-/
import Derived.Test.YtpecdappchkdiaaTabWalk
import Derived.Test.YtpecdappchkdiaaLawTab3
namespace Go.Proofs.Ytpecdappchkdiaa
open Go.RowKit

theorem tableNone_walk (v : Value) (b : List Int) (s : Int) (w : World) (hb : shBytes.good w [v] b) (hs : (Lit.int .i64 s).wf = true) :
    Calls Try.prog 5 #[v, .int .i64 s] w fun e w' => e = .returned (.bool true) ∧ Below w.heap.size w w' := tableNone_from tableOK v b s w hb hs
end Go.Proofs.Ytpecdappchkdiaa
