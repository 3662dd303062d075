/-
  Things that a call holds, put together: two side by side as one ('andT'), one of a family ('exT'), a fact beside a thing ('factT'). No program is named here.
-/
import Derived.Test.YtkdmdbojcdonpaaGreatDoorHeld
namespace Go.Proofs.YtkdmdbojcdonpaaGreatDoor
set_option maxRecDepth 5000
open Go.RowKit

/-- Two things in blocks of their own, as one thing. -/
def andT (R1 R2 : Thing) : Thing where
  res := fun w F => ∃ F1 F2 : Nat → Prop, R1.res w F1 ∧ R2.res w F2 ∧ (∀ k, F1 k → ¬ F2 k) ∧ ∀ k, F k ↔ F1 k ∨ F2 k
  loc := fun w w' _ S ⟨F1, F2, h1, h2, hd, hF⟩ hm hS =>
    ⟨F1, F2, R1.loc w w' F1 S h1 hm fun k hk => hS k ((hF k).2 (.inl hk)), R2.loc w w' F2 S h2 hm fun k hk => hS k ((hF k).2 (.inr hk)), hd, hF⟩
/-- One of a family of things. -/
def exT {α : Type} (R : α → Thing) : Thing where
  res := fun w F => ∃ a, (R a).res w F
  loc := fun w w' F S ⟨a, h⟩ hm hS => ⟨a, (R a).loc w w' F S h hm hS⟩
/-- A thing, and a fact that hangs on no memory. -/
def factT (p : Prop) (R : Thing) : Thing where
  res := fun w F => p ∧ R.res w F
  loc := fun w w' F S ⟨hp, h⟩ hm hS => ⟨hp, R.loc w w' F S h hm hS⟩

theorem HeldU.congr {w0 w : World} {Rs : List Thing} {U V : Nat → Prop} (h : HeldU w0 w U Rs) (hv : ∀ k, V k → U k) : HeldU w0 w V Rs := h.less hv
theorem Held.unpair {w0 w : World} {R1 R2 : Thing} {Rs : List Thing} (h : Held w0 w (andT R1 R2 :: Rs)) : Held w0 w (R1 :: R2 :: Rs) := by
  obtain ⟨F, ⟨F1, F2, h1, h2, hd, hF⟩, h3, h4⟩ := h
  refine ⟨F1, h1, fun k hk => h3 k ((hF k).2 (.inl hk)), F2, h2, fun k hk => ⟨(h3 k ((hF k).2 (.inr hk))).1, (h3 k ((hF k).2 (.inr hk))).2.1, ?_⟩, h4.less fun k hk => ?_⟩
  · rintro (hu | hu)
    · exact hu
    · exact hd k hu hk
  · rcases hk with (hk | hk) | hk
    · exact .inl hk
    · exact .inr ((hF k).2 (.inl hk))
    · exact .inr ((hF k).2 (.inr hk))
theorem Held.pair {w0 w : World} {R1 R2 : Thing} {Rs : List Thing} (h : Held w0 w (R1 :: R2 :: Rs)) : Held w0 w (andT R1 R2 :: Rs) := by
  obtain ⟨F1, h1, h2, F2, h3, h4, h5⟩ := h
  refine ⟨fun k => F1 k ∨ F2 k, ⟨F1, F2, h1, h3, fun k hk hk2 => (h4 k hk2).2.2 (.inr hk), fun _ => Iff.rfl⟩, fun k hk => ?_, h5.less fun k hk => ?_⟩
  · rcases hk with hk | hk
    · exact h2 k hk
    · exact ⟨(h4 k hk).1, (h4 k hk).2.1, fun hu => hu⟩
  · rcases hk with hk | hk | hk
    · exact .inl (.inl hk)
    · exact .inl (.inr hk)
    · exact .inr hk
theorem Held.ex {w0 w : World} {α : Type} {R : α → Thing} {Rs : List Thing} (h : Held w0 w (exT R :: Rs)) : ∃ a, Held w0 w (R a :: Rs) := by
  obtain ⟨F, ⟨a, h1⟩, h2, h3⟩ := h
  exact ⟨a, F, h1, h2, h3⟩
theorem Held.mk {w0 w : World} {α : Type} {R : α → Thing} {Rs : List Thing} (a : α) (h : Held w0 w (R a :: Rs)) : Held w0 w (exT R :: Rs) := by
  obtain ⟨F, h1, h2, h3⟩ := h
  exact ⟨F, ⟨a, h1⟩, h2, h3⟩
theorem Held.fact {w0 w : World} {p : Prop} {R : Thing} {Rs : List Thing} (h : Held w0 w (factT p R :: Rs)) : p ∧ Held w0 w (R :: Rs) := by
  obtain ⟨F, ⟨hp, h1⟩, h2, h3⟩ := h
  exact ⟨hp, F, h1, h2, h3⟩
theorem Held.mkFact {w0 w : World} {p : Prop} {R : Thing} {Rs : List Thing} (hp : p) (h : Held w0 w (R :: Rs)) : Held w0 w (factT p R :: Rs) := by
  obtain ⟨F, h1, h2, h3⟩ := h
  exact ⟨F, ⟨hp, h1⟩, h2, h3⟩
/-- the second thing turned, the first left alone -/
theorem Held.under {w0 w : World} {R1 R2 : Thing} {Rs : List Thing} (h : Held w0 w (R1 :: R2 :: Rs)) : Held w0 w (R2 :: R1 :: Rs) := h.swap
/-- Where an own slice lies is none of an object's block. -/
theorem Held.apart {w0 w : World} {B : Nat} {cs : List Value} {T e : TypeId} {size n : Nat} {v : Value} {xs : List Value} {Rs : List Thing} (h : Held w0 w (objT B cs T :: ownT e size v n xs :: Rs)) : v.ownBlock ≠ some B := by
  obtain ⟨F, ⟨_, h1⟩, h2, F2, ⟨_, h3⟩, h4, _⟩ := h
  intro e
  exact (h4 B ((h3 B).2 e)).2.2 (.inr ((h1 B).2 rfl))
/-- Two own slices lie apart. -/
theorem Held.apart2 {w0 w : World} {e e' : TypeId} {size n size' n' : Nat} {v v' : Value} {xs xs' : List Value} {Rs : List Thing} (h : Held w0 w (ownT e size v n xs :: ownT e' size' v' n' xs' :: Rs)) : ∀ k, v.ownBlock = some k → v'.ownBlock ≠ some k := by
  obtain ⟨F, ⟨_, h1⟩, h2, F2, ⟨_, h3⟩, h4, _⟩ := h
  intro k hk e
  exact (h4 k ((h3 k).2 e)).2.2 (.inr ((h1 k).2 hk))
/-- A step in the first thing's own blocks: an own slice. -/
theorem Held.turnOwn {w0 w w' : World} {e : TypeId} {size n n' : Nat} {v v' : Value} {xs xs' : List Value} {Rs : List Thing} (h : Held w0 w (ownT e size v n xs :: Rs)) (hown : Own w' e size v' n' xs') (hb : v'.ownBlock = v.ownBlock) (hm : Mod w w' (fun k => v.ownBlock = some k)) :
    Held w0 w' (ownT e size v' n' xs' :: Rs) := by
  obtain ⟨F, h1, h2, back⟩ := h.take
  exact back w' _ F ⟨hown, fun k => by rw [hb]; exact h1.2 k⟩ (hm.mono fun k _ hk => (h1.2 k).2 hk) (fun k hk => .inl hk) (fun k hk => Nat.lt_of_lt_of_le (h2 k hk).2 hm.size)
end Go.Proofs.YtkdmdbojcdonpaaGreatDoor
