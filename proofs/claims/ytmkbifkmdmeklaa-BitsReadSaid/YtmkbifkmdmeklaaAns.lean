/-
  The statements' own example: a writer to which 1 and 2 are put gives the byte 5; 1 of three bits reversed is 4.
-/
import Derived.Test.YtmkbifkmdmeklaaBitsW2
import Derived.Test.YtmkbifkmdmeklaaRef1
import Derived.Test.YtmkbifkmdmeklaaRev
namespace Go.Proofs.Ytmkbifkmdmeklaa
open Go.RowKit

/-- a writer that the call itself has made -/
def WNew (w wr : World) (B : Nat) (d : Value) (l : List Nat) : Prop := Wr wr B d l ∧ Mod w wr (fun _ => False) ∧ ∀ k, WSet B d k → w.heap.size ≤ k
theorem WNew.start {w wr : World} (h : Mod w wr (fun _ => False)) : WNew w (wr.alloc (.cells #[.slice none 0 0, .int .u64 0, .int .i64 0] 52)) wr.heap.size (.slice none 0 0) [] := by
  refine ⟨wr_new wr, h.alloc _, ?_⟩
  rintro k (rfl | hk)
  · exact h.size
  · simp [Value.ownBlock] at hk
theorem WNew.step {w w1 w2 : World} {B : Nat} {d : Value} {l l2 : List Nat} (h : WNew w w1 B d l) (hst : WStep w1 w2 B d l2) : ∃ d', WNew w w2 B d' l2 ∧ Mod w1 w2 (WSet B d) ∧ Moved w1 d d' := by
  obtain ⟨hW, hM, hB⟩ := h
  obtain ⟨d', hW2, hM2, hmv⟩ := hst
  refine ⟨d', ⟨hW2, hM.trans hM2 (fun k hk hs => absurd (hB k hs) (by omega)), ?_⟩, hM2, hmv⟩
  rintro k (rfl | hk)
  · exact hB _ (.inl rfl)
  · rcases hmv with hmv | hmv
    · exact hB k (.inr (hmv ▸ hk))
    · exact Nat.le_trans hM.size (hmv k hk)

theorem five : bytesOf (evened (([] ++ bitsOf 1 1) ++ bitsOf 2 2)) = [5] := by decide
theorem four : revN 1 3 = 4 := by decide

set_option maxHeartbeats 800000 in
theorem answers_any (w : World) :
    Calls Try.prog 9 #[] w fun e w' => e = .returned (.bool true) ∧ Mod w w' (fun _ => False) := by
  go_enter Try.func9, Try.ntmps9
  go_wp2_with fail
  refine (new_writer w).mono ?_
  rintro e w1 ⟨rfl, rfl⟩
  have h1 := hid (WNew.start (Mod.refl w _))
  go_wp2_with fail
  refine (put_any w.heap.size _ [] 1 1 _ h1.out.1 (by decide) (by decide) (by decide)).mono ?_
  rintro e w2 ⟨rfl, hst⟩
  obtain ⟨d2, h2', _, _⟩ := h1.out.step hst
  have h2 := hid h2'
  clear hst h2'
  go_wp2_with fail
  refine (put_any w.heap.size _ _ 2 2 _ h2.out.1 (by decide) (by decide) (by decide)).mono ?_
  rintro e w3 ⟨rfl, hst⟩
  obtain ⟨d3, h3', _, _⟩ := h2.out.step hst
  have h3 := hid h3'
  clear hst h3'
  go_wp2_with fail
  refine (walign_any w.heap.size _ _ _ h3.out.1 (by decide)).mono ?_
  rintro e w4 ⟨rfl, hst⟩
  obtain ⟨d4, h4', _, _⟩ := h3.out.step hst
  have h4 := hid h4'
  clear hst h4'
  go_wp2_with fail
  refine (take_any w.heap.size _ _ _ h4.out.1).mono ?_
  rw [five]
  rintro e w5 ⟨rfl, hown, hWr, hM⟩
  obtain ⟨ao, cap, rfl, _, _⟩ := hown.form
  have hM5 := hid (h4.out.2.1.trans hM (fun k hk e => absurd (h4.out.2.2 k (.inl e)) (by omega)))
  clear hWr
  go_wp2_with fail
  refine (same_any _ _ [5] [5] _ ?_ ?_ (by decide)).mono ?_
  · exact (hown.alloc _).rd
  · exact Rd.lit w5 [.int .u8 5] 5 1 1 (by decide) rfl
  rintro e w6 ⟨rfl, n, rfl⟩
  go_wp2_with (go_at_call 28; refine (reverse_any 1 3 _ (by decide) (by decide)).mono ?_; rw [four]; rintro e w' ⟨rfl, rfl⟩)
  go_ret
  exact ⟨rfl, (hM5.out.alloc _).drewN _⟩
end Go.Proofs.Ytmkbifkmdmeklaa
