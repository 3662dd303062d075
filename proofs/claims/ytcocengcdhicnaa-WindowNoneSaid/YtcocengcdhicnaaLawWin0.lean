/-
  What the laws of windows are handed.
-/
import Derived.Test.YtcocengcdhicnaaWinOK
import Derived.Test.YtcocengcdhicnaaOpen
namespace Go.Proofs.Ytcocengcdhicnaa
open Go.RowKit

def shWinByte : Shape Try.prog Int := shInt 5 .u8 Try.underlying5 (by kernel_rfl)
def shWinBytes : Shape Try.prog (List Int) := shSlice shWinByte 26 Try.underlying26 (by kernel_rfl) (by decide)
theorem winBytes_of {w : World} {v : Value} {l : List Int} (h : shWinBytes.good w [v] l) : ∃ bs : List Nat, bs.length = l.length ∧ (∀ b ∈ bs, b < 256) ∧ Rd w 1 v bs.length (u8s bs) := by
  obtain ⟨v', hv, hs⟩ := h
  obtain rfl : v = v' := by simpa using hv
  exact hs.bytes
theorem infoByte7 : (Try.prog.info? 5).map (fun i => (i.zero, i.size, i.bytes)) = some (some (.int .u8 0), 1, 1) := by kernel_rfl
theorem made_cells7 (z : Value) (n : Nat) (hz : z.cells = #[z]) : (madeCells z.cells (n * 1)).toList = List.replicate n z := by
  rw [Nat.mul_one, hz]
  refine List.ext_getElem? fun j => ?_
  by_cases hj : j < n
  · simp [madeCells, hj, Nat.mod_one]
  · rw [List.getElem?_eq_none (by simp [madeCells]; omega), List.getElem?_eq_none (by simp; omega)]
end Go.Proofs.Ytcocengcdhicnaa
