/-
  What a call reads beside what it holds: 'Reads'. No program is named here.
-/
import Derived.Test.YtkdmdbojcdonpaaGreatDoorSep
namespace Go.Proofs.YtkdmdbojcdonpaaGreatDoor
set_option maxRecDepth 5000
open Go.RowKit

/-- a slice that lies in a thing, or in what is older than everything held -/
def Reads (w0 : World) (S : Thing) (size : Nat) (v : Value) (n : Nat) (xs : List Value) : Prop :=
  ∀ w F, Mod w0 w (fun _ => False) → S.res w F → Rd w size v n xs ∧ (0 < n → ∀ k, v.ownBlock = some k → k < w0.heap.size ∨ F k)
section
variable {w0 w : World} {S : Thing} {size : Nat} {v : Value} {n : Nat} {xs : List Value} {Rs : List Thing}
theorem Reads.old (h : Rd w0 size v n xs) (hs : 0 < size) : Reads w0 S size v n xs := fun _ _ hm _ => ⟨h.kept hm (fun _ _ h => h), fun hn k hk => .inl (h.lt hs hn k hk)⟩
theorem Reads.own (w0 : World) (e : TypeId) (size : Nat) (v : Value) (n : Nat) (xs : List Value) : Reads w0 (ownT e size v n xs) size v n xs := fun _ _ _ h => ⟨h.1.rd, fun _ k hk => .inr ((h.2 k).2 hk)⟩
theorem Reads.rd (h : Reads w0 S size v n xs) (hh : Held w0 w (S :: Rs)) : Rd w size v n xs := by
  obtain ⟨F, h1, _⟩ := id hh
  exact (h w F hh.mod h1).1
def nonT : Thing where
  res := fun _ F => ∀ k, ¬ F k
  loc := fun _ _ _ _ h _ _ => h
theorem Held.addNon (h : Held w0 w Rs) : Held w0 w (nonT :: Rs) := h.push _ (fun _ => False) (fun _ h => h) (Mod.refl w _) (fun _ h => h.elim)
theorem Held.take2 {R : Thing} (h : Held w0 w (R :: S :: Rs)) : ∃ F F2 : Nat → Prop, R.res w F ∧ S.res w F2 ∧ (∀ k, F2 k → ¬ F k) ∧ (∀ k, F k → w0.heap.size ≤ k ∧ k < w.heap.size) ∧
    ∀ (w' : World) (R' : Thing) (F' : Nat → Prop), R'.res w' F' → Mod w w' F → (∀ k, F' k → F k ∨ w.heap.size ≤ k) → (∀ k, F' k → k < w'.heap.size) → Held w0 w' (R' :: S :: Rs) := by
  obtain ⟨F, h1, h2, h3⟩ := h
  obtain ⟨F2, h4, h5, h6⟩ := id h3
  refine ⟨F, F2, h1, h4, fun k hk hf => (h5 k hk).2.2 (.inr hf), fun k hk => ⟨(h2 k hk).1, (h2 k hk).2.1⟩, fun w' R' F' hR hm hF hlt => ⟨F', hR, fun k hk => ⟨?_, hlt k hk, fun h => h⟩, ?_⟩⟩
  · rcases hF k hk with hf | hf
    · exact (h2 k hf).1
    · exact Nat.le_trans (HeldU.mod h3).size hf
  · have h4 := (h3.more (V := fun k => (False ∨ F k) ∨ F' k) fun k hk => by
      rcases hk with hk | hk
      · exact .inl hk
      · rcases hF k hk with hf | hf
        · exact .inl (.inr hf)
        · exact .inr hf).step hm (fun k hk _ => (h2 k hk).1) (fun k hk _ => .inl (.inr hk))
    exact h4.less fun k hk => by
      rcases hk with hk | hk
      · exact hk.elim
      · exact .inr hk
theorem Held.mid {A B C : Thing} (h : Held w0 w (A :: B :: C :: Rs)) : Held w0 w (A :: C :: B :: Rs) := h.perm ((List.Perm.swap C B Rs).cons A)
/-- A :: B :: C :: D: D to the second place -/
theorem Held.mid2 {A B C D : Thing} (h : Held w0 w (A :: B :: C :: D :: Rs)) : Held w0 w (A :: D :: B :: C :: Rs) :=
  h.perm ((((List.Perm.swap D C Rs).cons B).trans (List.Perm.swap D B (C :: Rs))).cons A)
theorem Held.mid2' {A B C D : Thing} (h : Held w0 w (A :: D :: B :: C :: Rs)) : Held w0 w (A :: B :: C :: D :: Rs) :=
  h.perm (((List.Perm.swap B D (C :: Rs)).trans ((List.Perm.swap C D Rs).cons B)).cons A)
end
end Go.Proofs.YtkdmdbojcdonpaaGreatDoor
