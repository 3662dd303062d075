/-
  A store into a slice that the call has made. No program is named here.
-/
import Derived.Test.YtjmdgcppllnkdaaDoorHeld
namespace Go.Proofs.YtjmdgcppllnkdaaDoor
open Go.RowKit

/-- where an own slice that is not empty lies, and that it may be written -/
theorem Own.site {w : World} {e : TypeId} {ao : Option Addr} {cap n : Nat} {xs : List Value} (h : Own w e 1 (.slice ao n cap) n xs) (hn : 0 < n) :
    ∃ g off, ao = some ⟨g, off, none⟩ ∧ (∀ j u, xs[j]? = some u → w.cell? ⟨g, off + j, none⟩ = some u) ∧ (∀ j, w.frozen? ⟨g, off + j, none⟩ = false) ∧
      ∀ j u, j < n → Own (w.setCell ⟨g, off + j, none⟩ u) e 1 (.slice ao n cap) n (xs.set j u) := by
  rcases h.2 with ⟨hv, h0⟩ | ⟨g, off, cap', cur, hv, hg, hnc, hc, hsz, hcur⟩
  · omega
  · simp only [Value.slice.injEq, true_and] at hv
    obtain ⟨rfl, rfl⟩ := hv
    refine ⟨g, off, rfl, fun j u hu => by rw [cell_of_row w g _ cur e (0, 0) hg]; exact hcur j u hu, fun j => frozen_of_row w g _ cur e hg, fun j u hj => ?_⟩
    refine ⟨by rw [List.length_set]; exact h.1, .inr ⟨g, off, cap, cur.setIfInBounds (off + j) u, rfl, heap_setCell_same w g (off + j) cur e u hg, hnc, hc, by simpa using hsz, fun i v hv => ?_⟩⟩
    have hl := h.1
    rw [Array.getElem?_setIfInBounds]
    by_cases hij : j = i
    · subst hij
      rw [List.getElem?_set_self (by omega)] at hv
      rw [if_pos rfl, if_pos (by omega)]
      exact hv
    · rw [List.getElem?_set_ne hij] at hv
      rw [if_neg (by omega)]
      exact hcur i v hv
theorem Held.putOwn {w0 w w' : World} {e : TypeId} {size : Nat} {g off n cap : Nat} {xs xs' : List Value} {Rs : List Thing} (h : Held w0 w (ownT e size (.slice (some ⟨g, off, none⟩) n cap) n xs :: Rs))
    (hown : Own w' e size (.slice (some ⟨g, off, none⟩) n cap) n xs') (hm : Mod w w' (fun k => k = g)) : Held w0 w' (ownT e size (.slice (some ⟨g, off, none⟩) n cap) n xs' :: Rs) := by
  obtain ⟨F, h1, h2, back⟩ := h.take
  refine back w' _ F ⟨hown, h1.2⟩ (hm.mono fun k _ hk => (h1.2 k).2 (by subst hk; rfl)) (fun k hk => .inl hk) (fun k hk => Nat.lt_of_lt_of_le (h2 k hk).2 hm.size)
theorem Mod.set (w : World) (g j : Nat) (u : Value) : Mod w (w.setCell ⟨g, j, none⟩ u) (fun k => k = g) :=
  Mod.setCell (S := fun k => k = g) (Mod.refl w _) (p := ⟨g, j, none⟩) (.inr rfl) u
end Go.Proofs.YtjmdgcppllnkdaaDoor
