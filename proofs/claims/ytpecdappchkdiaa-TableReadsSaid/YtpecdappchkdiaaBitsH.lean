/-
  Writers and readers among the things that a call holds.
-/
import Derived.Test.YtpecdappchkdiaaHeld
import Derived.Test.YtpecdappchkdiaaAns
import Derived.Test.YtpecdappchkdiaaBitsR4
namespace Go.Proofs.Ytpecdappchkdiaa
open Go.RowKit

def wrT (B : Nat) (l : List Nat) : Thing where
  res := fun w F => ∃ d, Wr w B d l ∧ ∀ k, F k ↔ WSet B d k
  loc := fun _ _ _ _ ⟨d, h1, h2⟩ hm hS => ⟨d, h1.kept hm (fun k hk => hS k ((h2 k).2 hk)), h2⟩
def rdrT (B : Nat) (l : List Nat) : Thing where
  res := fun w F => ∃ d, Rr w B d l ∧ ∀ k, F k ↔ WSet B d k
  loc := fun _ _ _ _ ⟨d, h1, h2⟩ hm hS => ⟨d, h1.kept hm (fun k hk => hS k ((h2 k).2 hk)), h2⟩
theorem moved_sub {w : World} {B : Nat} {d d' : Value} {F : Nat → Prop} (h2 : ∀ k, F k ↔ WSet B d k) (hmv : Moved w d d') : ∀ k, WSet B d' k → F k ∨ w.heap.size ≤ k := by
  rintro k (rfl | hk)
  · exact .inl ((h2 k).2 (.inl rfl))
  · rcases hmv with h | h
    · exact .inl ((h2 k).2 (.inr (h ▸ hk)))
    · exact .inr (h k hk)
theorem Held.wr {w0 w : World} {B : Nat} {l : List Nat} {Rs : List Thing} (h : Held w0 w (wrT B l :: Rs)) : ∃ d, Wr w B d l ∧ (∀ k, WSet B d k → w0.heap.size ≤ k) ∧ ∀ w' l', WStep w w' B d l' → Held w0 w' (wrT B l' :: Rs) := by
  obtain ⟨F, ⟨d, hW, h2⟩, hF, back⟩ := h.take
  refine ⟨d, hW, fun k hk => (hF k ((h2 k).2 hk)).1, fun w' l' ⟨d', hW', hm, hmv⟩ => back w' _ _ ⟨d', hW', fun _ => Iff.rfl⟩ (hm.mono fun k _ hk => (h2 k).2 hk) (moved_sub h2 hmv) hW'.lt⟩
theorem Held.wr_own {w0 w : World} {B : Nat} {l : List Nat} {e : TypeId} {size n : Nat} {v : Value} {xs : List Value} {Rs : List Thing} (h : Held w0 w (wrT B l :: ownT e size v n xs :: Rs)) :
    ∃ d, Wr w B d l ∧ Own w e size v n xs ∧ (∀ k, v.ownBlock = some k → ¬ WSet B d k) ∧ ∀ w' l', WStep w w' B d l' → Held w0 w' (wrT B l' :: ownT e size v n xs :: Rs) := by
  obtain ⟨F, ⟨d, hW, h2⟩, hF, F2, ⟨ho, h3⟩, hF2, hr⟩ := h
  have hh : Held w0 w (wrT B l :: ownT e size v n xs :: Rs) := ⟨F, ⟨d, hW, h2⟩, hF, F2, ⟨ho, h3⟩, hF2, hr⟩
  refine ⟨d, hW, ho, fun k hk hs => (hF2 k ((h3 k).2 hk)).2.2 (.inr ((h2 k).2 hs)), fun w' l' ⟨d', hW', hm, hmv⟩ => ?_⟩
  refine ⟨fun k => WSet B d' k, ⟨d', hW', fun _ => Iff.rfl⟩, fun k hk => ⟨?_, hW'.lt k hk, fun h => h⟩, ?_⟩
  · rcases moved_sub h2 hmv k hk with hf | hf
    · exact (hF k hf).1
    · exact Nat.le_trans hh.mod.size hf
  · have h0 : HeldU w0 w (fun k => False ∨ F k) (ownT e size v n xs :: Rs) := ⟨F2, ⟨ho, h3⟩, hF2, hr⟩
    have h4 := (h0.more (V := fun k => (False ∨ F k) ∨ WSet B d' k) fun k hk => by
      rcases hk with hk | hk
      · exact .inl hk
      · rcases moved_sub h2 hmv k hk with hf | hf
        · exact .inl (.inr hf)
        · exact .inr hf).step (hm.mono (T := F) fun k _ hk => (h2 k).2 hk) (fun k hk _ => (hF k hk).1) (fun k hk _ => .inl (.inr hk))
    exact h4.less fun k hk => by
      rcases hk with hk | hk
      · exact hk.elim
      · exact .inr hk
theorem Held.rr {w0 w : World} {B : Nat} {l : List Nat} {Rs : List Thing} (h : Held w0 w (rdrT B l :: Rs)) : ∃ d, Rr w B d l ∧ (∀ k, WSet B d k → w0.heap.size ≤ k) ∧ ∀ w' l', RStep w w' B d l' → Held w0 w' (rdrT B l' :: Rs) := by
  obtain ⟨F, ⟨d, hW, h2⟩, hF, back⟩ := h.take
  refine ⟨d, hW, fun k hk => (hF k ((h2 k).2 hk)).1, fun w' l' ⟨d', hW', hm, hmv⟩ => back w' _ _ ⟨d', hW', fun _ => Iff.rfl⟩ (hm.mono fun k _ hk => (h2 k).2 hk) (moved_sub h2 hmv) hW'.lt⟩
/-- a slice in new memory, beside the reader's step -/
theorem Held.rr_own {w0 w w' : World} {B : Nat} {d : Value} {l' : List Nat} {e : TypeId} {size n : Nat} {v : Value} {xs : List Value} {Rs : List Thing} {F : Nat → Prop} (h : HeldU w0 w (fun k => False ∨ F k) Rs) (hF : ∀ k, F k → w0.heap.size ≤ k ∧ k < w.heap.size) (h2 : ∀ k, F k ↔ WSet B d k)
    (hst : RStep w w' B d l') (ho : Own w' e size v n xs) (hfr : ∀ k, v.ownBlock = some k → w.heap.size ≤ k) (hdis : ∀ d', Rr w' B d' l' → Moved w d d' → ∀ k, v.ownBlock = some k → ¬ WSet B d' k) : Held w0 w' (ownT e size v n xs :: rdrT B l' :: Rs) := by
  obtain ⟨d', hW', hm, hmv⟩ := hst
  refine ⟨fun k => v.ownBlock = some k, ⟨ho, fun _ => Iff.rfl⟩, fun k hk => ⟨Nat.le_trans (HeldU.mod h).size (hfr k hk), ho.lt k hk, fun h => h⟩, fun k => WSet B d' k, ⟨d', hW', fun _ => Iff.rfl⟩, fun k hk => ⟨?_, hW'.lt k hk, ?_⟩, ?_⟩
  · rcases moved_sub h2 hmv k hk with hf | hf
    · exact (hF k hf).1
    · exact Nat.le_trans (HeldU.mod h).size hf
  · rintro (hu | hu)
    · exact hu
    · exact hdis d' hW' hmv k hu hk
  · have h4 := (h.more (V := fun k => ((False ∨ F k) ∨ v.ownBlock = some k) ∨ WSet B d' k) fun k hk => by
      rcases hk with (hk | hk) | hk
      · exact .inl hk
      · exact .inr (hfr k hk)
      · rcases moved_sub h2 hmv k hk with hf | hf
        · exact .inl (.inr hf)
        · exact .inr hf).step (hm.mono (T := F) fun k _ hk => (h2 k).2 hk) (fun k hk _ => (hF k hk).1) (fun k hk _ => .inl (.inl (.inr hk)))
    exact h4.less fun k hk => by
      rcases hk with (hk | hk) | hk
      · exact hk.elim
      · exact .inl (.inr hk)
      · exact .inr hk
theorem Held.fi {w0 w : World} {B : Nat} {l : List Nat} {Rs : List Thing} (h : Held w0 w (rdrT B l :: Rs)) : ∃ d, Rr w B d l ∧ ∀ w' n, FiRel w B d l n 0 w' → Held w0 w' (rdrT B l :: Rs) := by
  obtain ⟨d, hR, _, back⟩ := h.rr
  exact ⟨d, hR, fun w' n ⟨d', bs, s, c, hRI, hL, hc, _, hM, hO⟩ => back w' l ⟨d', ⟨bs, s, c, hRI, hc, hL.symm⟩, hM, hO⟩⟩
theorem Held.newWr {w0 w : World} {Rs : List Thing} (h : Held w0 w Rs) : Held w0 (w.alloc (.cells #[.slice none 0 0, .int .u64 0, .int .i64 0] 71)) (wrT w.heap.size [] :: Rs) :=
  h.push _ _ ⟨_, wr_new w, fun _ => Iff.rfl⟩ ((Mod.refl w _).alloc _) (by
    rintro k (rfl | hk)
    · exact ⟨Nat.le_refl _, by simp⟩
    · simp [Value.ownBlock] at hk)
theorem Held.newRr {w0 w : World} {Rs : List Thing} (h : Held w0 w Rs) : Held w0 (w.alloc (.cells #[.slice none 0 0, .int .u64 0, .int .i64 0] 63)) (rdrT w.heap.size [] :: Rs) :=
  h.push _ _ ⟨_, rr_new w, fun _ => Iff.rfl⟩ ((Mod.refl w _).alloc _) (by
    rintro k (rfl | hk)
    · exact ⟨Nat.le_refl _, by simp⟩
    · simp [Value.ownBlock] at hk)
theorem Held.took {w0 w : World} {B : Nat} {l : List Nat} {Rs : List Thing} (h : Held w0 w (wrT B l :: Rs)) : ∃ d, Wr w B d l ∧ ∀ w' n xs l', Own w' 5 1 d n xs → Wr w' B (.slice none 0 0) l' → Mod w w' (fun k => k = B) → Held w0 w' (ownT 5 1 d n xs :: wrT B l' :: Rs) := by
  obtain ⟨F, ⟨d, hW, h2⟩, h3, h4⟩ := h
  refine ⟨d, hW, fun w' n xs l' ho hW' hm => ?_⟩
  refine Held.split h4 (fun k hk => ⟨(h3 k hk).1, (h3 k hk).2.1⟩) (F1 := fun k => d.ownBlock = some k) (F2 := fun k => k = B) ⟨ho, fun _ => Iff.rfl⟩ ⟨_, hW', fun k => ⟨.inl, fun hk => hk.elim id (fun h => by simp [Value.ownBlock] at h)⟩⟩ (hm.mono fun k _ hk => (h2 k).2 (.inl hk))
    (fun k hk => (h2 k).2 (.inr hk)) (fun k hk => (h2 k).2 (.inl hk)) (fun k hk e => hW.ne (by rw [hk, e]))
theorem Held.isBits {w0 w : World} {B : Nat} {l : List Nat} {Rs : List Thing} (h : Held w0 w (wrT B l :: Rs)) : isBits l := by
  obtain ⟨d, hW, _, _⟩ := h.wr
  exact hW.isBits
theorem Held.built {w0 w w' : World} {v : Value} {l : List Nat} {Rs : List Thing} (h : Held w0 w Rs) (hb : Built w w' v l) : Held w0 w' (ownT 5 1 v l.length (u8s l) :: Rs) := h.pushOwn hb.1 hb.2.1 hb.2.2
end Go.Proofs.Ytpecdappchkdiaa
