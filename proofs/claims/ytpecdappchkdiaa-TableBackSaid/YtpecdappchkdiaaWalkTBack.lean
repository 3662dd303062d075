/-
  The law, of the contracts that the program's table keeps.
-/
import Derived.Test.YtpecdappchkdiaaTabWalk
import Derived.Test.YtpecdappchkdiaaLawTab2
namespace Go.Proofs.Ytpecdappchkdiaa
open Go.RowKit

theorem tableBack_walk (v : Value) (l : List Int) (u : Value) (ls : List Int) (w : World) (hl : shInts.good w [v] l) (hs : shInts.good w [u] ls) :
    Calls Try.prog 4 #[v, u] w fun e w' => e = .returned (.bool true) ∧ Below w.heap.size w w' := tableBack_from tableOK v l u ls w hl hs
end Go.Proofs.Ytpecdappchkdiaa
