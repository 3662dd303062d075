/-
  The law, of the contracts that the program's table keeps.
-/
import Derived.Test.YtpecdappchkdiaaTabWalk
import Derived.Test.YtpecdappchkdiaaLawTab1
namespace Go.Proofs.Ytpecdappchkdiaa
open Go.RowKit

theorem tableReads_walk (v : Value) (l : List Int) (most : Int) (u : Value) (b : List Int) (part : Int) (w : World) (hl : shInts.good w [v] l) (hm : (Lit.int .i64 most).wf = true) (hb : shBytes.good w [u] b) (hp : (Lit.int .u8 part).wf = true) :
    Calls Try.prog 3 #[v, .int .i64 most, u, .int .u8 part] w fun e w' => e = .returned (.bool true) ∧ Below w.heap.size w w' := tableReads_from tableOK v l most u b part w hl hm hb hp
end Go.Proofs.Ytpecdappchkdiaa
