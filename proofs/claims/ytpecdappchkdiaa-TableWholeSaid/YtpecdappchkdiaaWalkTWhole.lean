/-
  The law, of the contracts that the program's table keeps.
-/
import Derived.Test.YtpecdappchkdiaaTabWalk
import Derived.Test.YtpecdappchkdiaaLawTab4
namespace Go.Proofs.Ytpecdappchkdiaa
open Go.RowKit

theorem tableWhole_walk (v : Value) (l : List Int) (u : Value) (b : List Int) (w : World) (hl : shInts.good w [v] l) (hb : shBytes.good w [u] b) :
    Calls Try.prog 6 #[v, u] w fun e w' => e = .returned (.bool true) ∧ Below w.heap.size w w' := tableWhole_from tableOK v l u b w hl hb
end Go.Proofs.Ytpecdappchkdiaa
