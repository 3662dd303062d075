/-
  The statements' own example: a writer to which 1 and 2 are put gives the byte 5; 1 of three bits reversed is 4.
-/
import Derived.Test.YtpecdappchkdiaaBitsW2
import Derived.Test.YtpecdappchkdiaaRef1
import Derived.Test.YtpecdappchkdiaaRev
namespace Go.Proofs.Ytpecdappchkdiaa
open Go.RowKit

/-- a writer that the call itself has made -/
def WNew (w wr : World) (B : Nat) (d : Value) (l : List Nat) : Prop := Wr wr B d l ∧ Mod w wr (fun _ => False) ∧ ∀ k, WSet B d k → w.heap.size ≤ k
theorem WNew.start {w wr : World} (h : Mod w wr (fun _ => False)) : WNew w (wr.alloc (.cells #[.slice none 0 0, .int .u64 0, .int .i64 0] 71)) wr.heap.size (.slice none 0 0) [] := by
  refine ⟨wr_new wr, h.alloc _, ?_⟩
  rintro k (rfl | hk)
  · exact h.size
  · simp [Value.ownBlock] at hk
theorem WNew.step {w w1 w2 : World} {B : Nat} {d : Value} {l l2 : List Nat} (h : WNew w w1 B d l) (hst : WStep w1 w2 B d l2) : ∃ d', WNew w w2 B d' l2 ∧ Mod w1 w2 (WSet B d) ∧ Moved w1 d d' := by
  obtain ⟨hW, hM, hB⟩ := h
  obtain ⟨d', hW2, hM2, hmv⟩ := hst
  refine ⟨d', ⟨hW2, hM.trans hM2 (fun k hk hs => absurd (hB k hs) (by omega)), ?_⟩, hM2, hmv⟩
  rintro k (rfl | hk)
  · exact hB _ (.inl rfl)
  · rcases hmv with hmv | hmv
    · exact hB k (.inr (hmv ▸ hk))
    · exact Nat.le_trans hM.size (hmv k hk)

theorem five : bytesOf (evened (([] ++ bitsOf 1 1) ++ bitsOf 2 2)) = [5] := by decide
theorem four : revN 1 3 = 4 := by decide

end Go.Proofs.Ytpecdappchkdiaa
