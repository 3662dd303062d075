/-
  From the row's condition on the package-level arrays that an encoder and a decoder that are none never read: a start that meets it.
-/
import Derived.Test.YtkdmdbojcdonpaaGreatDoorRows
import Derived.ProofKit
import Derived.LaidMore
import Derived.OpenShut
import Derived.Deep.Strs
import Derived.Stop.Joined
namespace Go.Proofs.YtkdmdbojcdonpaaGreatDoor
set_option maxRecDepth 5000
open Go.ChangeShapes Go.WideShapes Go.ChangeAt Go.RowKit

def laidGzN : List (String × DataW Unit) := [("concertina/block.order", Rows.laid_concertina_block_order), ("concertina/inflate.order", Rows.laid_concertina_inflate_order), ("concertina/inflate.runs", Rows.laid_concertina_inflate_runs)]
theorem gzn_met (os : Os) (args : Array Value) : laidMetH Tryz.prog laidGzN ((World.doorLaid Tryz.prog 400 os).forCall (fun _ _ => 0) ⟨#[], args, []⟩).memory :=
  laidMetH_of_parts3 (fuel := 8) (laidMet_of_run' 8 (by kernel_rfl) (by kernel_rfl)) (by kernel_rfl) (by kernel_rfl)
theorem gzn_of_laid {W : World} (_ : laidMetH Tryz.prog laidGzN W) : True := trivial
end Go.Proofs.YtkdmdbojcdonpaaGreatDoor
