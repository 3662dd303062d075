/-
  Things side by side, as many as a list names, as one thing; one of them taken out and put back. No program is named here.
-/
import Derived.Test.YtjmdgcppllnkdaaDoorSep
namespace Go.Proofs.YtjmdgcppllnkdaaDoor
open Go.RowKit

def noT : Thing where
  res := fun _ F => ∀ k, ¬ F k
  loc := fun _ _ _ _ h _ _ => h
def allT : List Thing → Thing
  | [] => noT
  | R :: L => andT R (allT L)
section
variable {w0 w : World}
theorem Held.noT {Rs : List Thing} (h : Held w0 w Rs) : Held w0 w (noT :: Rs) := h.push _ (fun _ => False) (fun _ h => h) (Mod.refl w _) (fun _ h => h.elim)
theorem Held.all : ∀ {L Rs : List Thing}, Held w0 w (L ++ Rs) → Held w0 w (allT L :: Rs)
  | [], _, h => h.noT
  | R :: L, Rs, h => by
    have h1 : Held w0 w (L ++ R :: Rs) := h.perm List.perm_middle.symm
    exact (Held.all h1).swap.pair
theorem Held.unall : ∀ {L Rs : List Thing}, Held w0 w (allT L :: Rs) → Held w0 w (L ++ Rs)
  | [], _, h => h.drop
  | R :: L, Rs, h => by
    have h1 : Held w0 w (L ++ R :: Rs) := Held.unall (Held.unpair h).swap
    exact h1.perm List.perm_middle
theorem allT_perm {L L' Rs : List Thing} (h : Held w0 w (allT L :: Rs)) (hp : L.Perm L') : Held w0 w (allT L' :: Rs) :=
  Held.all (h.unall.perm (hp.append_right Rs))
theorem eraseIdx_perm {R : Thing} : ∀ (L : List Thing) (i : Nat), L[i]? = some R → (R :: L.eraseIdx i).Perm L
  | [], i, h => by simp at h
  | a :: L, 0, h => by
    simp only [List.getElem?_cons_zero, Option.some.injEq] at h
    subst h; exact List.Perm.refl _
  | a :: L, i + 1, h => by
    have ih := eraseIdx_perm L i (by simpa using h)
    exact (List.Perm.swap a R _).trans (List.Perm.cons a ih)
theorem Held.allOut {L Rs : List Thing} {i : Nat} {R : Thing} (h : Held w0 w (allT L :: Rs)) (hi : L[i]? = some R) : Held w0 w (R :: allT (L.eraseIdx i) :: Rs) := by
  exact Held.unpair (allT_perm (L' := R :: L.eraseIdx i) h (eraseIdx_perm L i hi).symm)
theorem Held.allBack {L Rs : List Thing} {i : Nat} {R : Thing} (h : Held w0 w (R :: allT (L.eraseIdx i) :: Rs)) (hi : i < L.length) : Held w0 w (allT (L.set i R) :: Rs) := by
  have h1 : Held w0 w (allT (R :: L.eraseIdx i) :: Rs) := h.pair
  have h2 := eraseIdx_perm (L.set i R) i (List.getElem?_set_self hi)
  rw [List.eraseIdx_set_eq] at h2
  exact allT_perm h1 h2
/-- What was made since a world, beside what was held there. -/
theorem HeldU.frame {w w' : World} {Rs : List Thing} (h : Held w0 w Rs) : ∀ {Ts : List Thing} {U V : Nat → Prop}, HeldU w w' U Ts → (∀ k, V k → U k) → (∀ k, V k → w.heap.size ≤ k) → HeldU w0 w' V (Ts ++ Rs)
  | [], _, _, hm, _, hw => by
    have hM : Mod w w' (fun _ => False) := hm
    exact (HeldU.more h (fun k hk => .inr (hw k hk))).step hM (fun _ h => h.elim) (fun _ h => h.elim)
  | _ :: _, _, _, ⟨F, h1, h2, h3⟩, hv, hw =>
    ⟨F, h1, fun k hk => ⟨Nat.le_trans h.mod.size (h2 k hk).1, (h2 k hk).2.1, fun hV => (h2 k hk).2.2 (hv k hV)⟩,
      HeldU.frame h h3 (fun k hk => hk.imp (hv k) id) (fun k hk => hk.elim (hw k) fun hf => (h2 k hf).1)⟩
theorem Held.frame {w w' : World} {Rs Ts : List Thing} (h : Held w0 w Rs) (h2 : Held w w' Ts) : Held w0 w' (Ts ++ Rs) := HeldU.frame h h2 (fun _ h => h) (fun _ h => h.elim)
/-- something new at an address that is told by a number -/
theorem Held.litN {w : World} {Rs : List Thing} (h : Held w0 w Rs) (e : TypeId) (size : Nat) (cs : List Value) (n : Nat) (hm : n ≤ maxLen) (hs : cs.length = n * size) (N : Nat) (hN : w.heap.size = N) :
    Held w0 (w.alloc (.cells cs.toArray e)) (ownT e size (.slice (some ⟨N, 0, none⟩) n n) n cs :: Rs) := by
  subst hN
  exact h.lit e size cs n hm hs
end
end Go.Proofs.YtjmdgcppllnkdaaDoor
