/-
  Several things that a call has made, held side by side: each lies in blocks of its own, all of them newer than the call's beginning. A step turns one of them and leaves the others as they are. No program is named here.
-/
import Derived.Test.YtkdmdbojcdonpaaGreatDoorOwn2
namespace Go.Proofs.YtkdmdbojcdonpaaGreatDoor
set_option maxRecDepth 5000
open Go.RowKit

/-- A thing in memory: what holds of the world, and the blocks that it lies in. -/
def Res := World → (Nat → Prop) → Prop
/-- It hangs on its own blocks alone. -/
def Res.Local (R : Res) : Prop := ∀ w w' F S, R w F → Mod w w' S → (∀ k, F k → ¬ S k) → R w' F
structure Thing where
  res : Res
  loc : res.Local

def HeldU (w0 w : World) : (Nat → Prop) → List Thing → Prop
  | _, [] => Mod w0 w (fun _ => False)
  | U, R :: Rs => ∃ F : Nat → Prop, R.res w F ∧ (∀ k, F k → w0.heap.size ≤ k ∧ k < w.heap.size ∧ ¬ U k) ∧ HeldU w0 w (fun k => U k ∨ F k) Rs
def Held (w0 w : World) (Rs : List Thing) : Prop := HeldU w0 w (fun _ => False) Rs

theorem HeldU.mod {w0 w : World} : ∀ {Rs : List Thing} {U : Nat → Prop}, HeldU w0 w U Rs → Mod w0 w (fun _ => False)
  | [], _, h => h
  | _ :: _, _, ⟨_, _, _, h⟩ => HeldU.mod h
theorem HeldU.less {w0 w : World} : ∀ {Rs : List Thing} {U V : Nat → Prop}, HeldU w0 w U Rs → (∀ k, V k → U k) → HeldU w0 w V Rs
  | [], _, _, h, _ => h
  | _ :: _, _, _, ⟨F, h1, h2, h3⟩, hv => ⟨F, h1, fun k hk => ⟨(h2 k hk).1, (h2 k hk).2.1, fun hV => (h2 k hk).2.2 (hv k hV)⟩, h3.less fun k hk => hk.imp (hv k) id⟩
/-- Blocks that did not exist may be named as used. -/
theorem HeldU.more {w0 w : World} : ∀ {Rs : List Thing} {U V : Nat → Prop}, HeldU w0 w U Rs → (∀ k, V k → U k ∨ w.heap.size ≤ k) → HeldU w0 w V Rs
  | [], _, _, h, _ => h
  | _ :: _, U, V, ⟨F, h1, h2, h3⟩, hv => ⟨F, h1, fun k hk => ⟨(h2 k hk).1, (h2 k hk).2.1, fun hV => (hv k hV).elim (h2 k hk).2.2 (fun h => by have := (h2 k hk).2.1; omega)⟩,
      h3.more fun k hk => hk.elim (fun h => (hv k h).imp .inl id) (fun h => .inl (.inr h))⟩
/-- A step in blocks that are none of theirs. -/
theorem HeldU.step {w0 w w' : World} {S : Nat → Prop} (hm : Mod w w' S) : ∀ {Rs : List Thing} {U : Nat → Prop}, HeldU w0 w U Rs → (∀ k, S k → k < w.heap.size → w0.heap.size ≤ k) → (∀ k, S k → k < w.heap.size → U k) → HeldU w0 w' U Rs
  | [], _, h, h0, _ => by
    have hM : Mod w0 w (fun _ => False) := h
    exact hM.trans hm (fun k hk hs => absurd (h0 k hs (Nat.lt_of_lt_of_le hk hM.size)) (by omega))
  | R :: _, _, ⟨F, h1, h2, h3⟩, h0, hu =>
    ⟨F, R.loc w w' F S h1 hm (fun k hk hs => (h2 k hk).2.2 (hu k hs (h2 k hk).2.1)), fun k hk => ⟨(h2 k hk).1, Nat.lt_of_lt_of_le (h2 k hk).2.1 hm.size, (h2 k hk).2.2⟩,
      h3.step hm h0 fun k hs hk => .inl (hu k hs hk)⟩

theorem Held.mod {w0 w : World} {Rs : List Thing} (h : Held w0 w Rs) : Mod w0 w (fun _ => False) := HeldU.mod h
theorem Held.below {w0 w : World} {Rs : List Thing} (h : Held w0 w Rs) : Below w0.heap.size w0 w := h.mod.toBelow
theorem Held.start (w : World) : Held w w [] := Mod.refl w _
/-- Take the first thing out, turn it, put what has become of it back. -/
theorem Held.take {w0 w : World} {R : Thing} {Rs : List Thing} (h : Held w0 w (R :: Rs)) :
    ∃ F : Nat → Prop, R.res w F ∧ (∀ k, F k → w0.heap.size ≤ k ∧ k < w.heap.size) ∧
      ∀ (w' : World) (R' : Thing) (F' : Nat → Prop), R'.res w' F' → Mod w w' F → (∀ k, F' k → F k ∨ w.heap.size ≤ k) → (∀ k, F' k → k < w'.heap.size) → Held w0 w' (R' :: Rs) := by
  obtain ⟨F, h1, h2, h3⟩ := h
  refine ⟨F, h1, fun k hk => ⟨(h2 k hk).1, (h2 k hk).2.1⟩, fun w' R' F' hR hm hF hlt => ⟨F', hR, fun k hk => ⟨?_, hlt k hk, fun h => h⟩, ?_⟩⟩
  · rcases hF k hk with hf | hf
    · exact (h2 k hf).1
    · exact Nat.le_trans (HeldU.mod h3).size hf
  · have h4 := (h3.more (V := fun k => (False ∨ F k) ∨ F' k) fun k hk => by
      rcases hk with hk | hk
      · exact .inl hk
      · rcases hF k hk with hf | hf
        · exact .inl (.inr hf)
        · exact .inr hf).step hm (fun k hk _ => (h2 k hk).1) (fun k hk _ => .inl (.inr hk))
    exact h4.less fun k hk => by
      rcases hk with hk | hk
      · exact hk.elim
      · exact .inr hk
/-- Something new, in new blocks. -/
theorem Held.push {w0 w w' : World} {Rs : List Thing} (h : Held w0 w Rs) (R : Thing) (F : Nat → Prop) (hR : R.res w' F) (hm : Mod w w' (fun _ => False)) (hF : ∀ k, F k → w.heap.size ≤ k ∧ k < w'.heap.size) : Held w0 w' (R :: Rs) := by
  refine ⟨F, hR, fun k hk => ⟨Nat.le_trans (HeldU.mod h).size (hF k hk).1, (hF k hk).2, fun h => h⟩, ?_⟩
  exact ((HeldU.more h (V := fun k => False ∨ F k) fun k hk => by
    rcases hk with hk | hk
    · exact hk.elim
    · exact .inr (hF k hk).1)).step hm (fun _ h => h.elim) (fun _ h => h.elim)
/-- Nothing that is held was touched. -/
theorem Held.same {w0 w w' : World} {Rs : List Thing} (h : Held w0 w Rs) (hm : Mod w w' (fun _ => False)) : Held w0 w' Rs := HeldU.step hm h (fun _ h => h.elim) (fun _ h => h.elim)
theorem Held.alloc {w0 w : World} {Rs : List Thing} (h : Held w0 w Rs) (o : Obj) : Held w0 (w.alloc o) Rs := h.same ((Mod.refl w _).alloc o)
theorem Held.drew {w0 w : World} {Rs : List Thing} (h : Held w0 w Rs) : Held w0 w.drew Rs := h.same (Mod.refl w _).drew
theorem Held.drewN {w0 w : World} {Rs : List Thing} (h : Held w0 w Rs) (n : Nat) : Held w0 (w.drewN n) Rs := h.same ((Mod.refl w _).drewN n)
theorem Held.drop {w0 w : World} {R : Thing} {Rs : List Thing} (h : Held w0 w (R :: Rs)) : Held w0 w Rs := by
  obtain ⟨F, h1, h2, h3⟩ := h
  exact h3.less fun _ h => h.elim
theorem HeldU.swap {w0 w : World} {R1 R2 : Thing} {Rs : List Thing} {U : Nat → Prop} (h : HeldU w0 w U (R1 :: R2 :: Rs)) : HeldU w0 w U (R2 :: R1 :: Rs) := by
  obtain ⟨F1, h1, h2, F2, h3, h4, h5⟩ := h
  refine ⟨F2, h3, fun k hk => ⟨(h4 k hk).1, (h4 k hk).2.1, fun hu => (h4 k hk).2.2 (.inl hu)⟩, F1, h1, fun k hk => ⟨(h2 k hk).1, (h2 k hk).2.1, fun hu => ?_⟩, h5.less fun k hk => ?_⟩
  · rcases hu with hu | hu
    · exact (h2 k hk).2.2 hu
    · exact (h4 k hu).2.2 (.inr hk)
  · rcases hk with (hk | hk) | hk
    · exact .inl (.inl hk)
    · exact .inr hk
    · exact .inl (.inr hk)
theorem HeldU.perm {w0 w : World} {Rs Rs' : List Thing} (hp : Rs.Perm Rs') : ∀ {U : Nat → Prop}, HeldU w0 w U Rs → HeldU w0 w U Rs' := by
  induction hp with
  | nil => exact fun h => h
  | cons x _ ih => exact fun ⟨F, h1, h2, h3⟩ => ⟨F, h1, h2, ih h3⟩
  | swap x y l => exact fun h => HeldU.swap h
  | trans _ _ ih1 ih2 => exact fun h => ih2 (ih1 h)
theorem Held.perm {w0 w : World} {Rs Rs' : List Thing} (h : Held w0 w Rs) (hp : Rs.Perm Rs') : Held w0 w Rs' := HeldU.perm hp h
theorem Held.swap {w0 w : World} {R1 R2 : Thing} {Rs : List Thing} (h : Held w0 w (R1 :: R2 :: Rs)) : Held w0 w (R2 :: R1 :: Rs) := HeldU.swap h
/-- The third one to the front. -/
theorem Held.third {w0 w : World} {R1 R2 R3 : Thing} {Rs : List Thing} (h : Held w0 w (R1 :: R2 :: R3 :: Rs)) : Held w0 w (R3 :: R1 :: R2 :: Rs) :=
  h.perm ((List.Perm.cons R1 (List.Perm.swap R3 R2 Rs)).trans (List.Perm.swap R3 R1 (R2 :: Rs)))
theorem Held.fourth {w0 w : World} {R1 R2 R3 R4 : Thing} {Rs : List Thing} (h : Held w0 w (R1 :: R2 :: R3 :: R4 :: Rs)) : Held w0 w (R4 :: R1 :: R2 :: R3 :: Rs) :=
  h.perm (((List.Perm.cons R1 ((List.Perm.cons R2 (List.Perm.swap R4 R3 Rs)).trans (List.Perm.swap R4 R2 (R3 :: Rs))))).trans (List.Perm.swap R4 R1 (R2 :: R3 :: Rs)))
/-- One thing becomes two. -/
theorem Held.split {w0 w w' : World} {R1 R2 : Thing} {Rs : List Thing} {F F1 F2 : Nat → Prop} (h : HeldU w0 w (fun k => False ∨ F k) Rs) (hF : ∀ k, F k → w0.heap.size ≤ k ∧ k < w.heap.size) (h1 : R1.res w' F1) (h2 : R2.res w' F2) (hm : Mod w w' F)
    (s1 : ∀ k, F1 k → F k) (s2 : ∀ k, F2 k → F k) (dis : ∀ k, F1 k → ¬ F2 k) : Held w0 w' (R1 :: R2 :: Rs) := by
  have h3 := HeldU.step hm h (fun k hk _ => (hF k hk).1) (fun k hk _ => .inr hk)
  refine ⟨F1, h1, fun k hk => ⟨(hF k (s1 k hk)).1, Nat.lt_of_lt_of_le (hF k (s1 k hk)).2 hm.size, fun h => h⟩, F2, h2, fun k hk => ⟨(hF k (s2 k hk)).1, Nat.lt_of_lt_of_le (hF k (s2 k hk)).2 hm.size, fun hu => ?_⟩, h3.less fun k hk => ?_⟩
  · rcases hu with hu | hu
    · exact hu
    · exact dis k hu hk
  · rcases hk with (hk | hk) | hk
    · exact .inl hk
    · exact .inr (s1 k hk)
    · exact .inr (s2 k hk)
theorem Held.one {w0 w : World} {R1 : Thing} {Rs : List Thing} (h : Held w0 w (R1 :: Rs)) : Held w0 w [R1] := by
  obtain ⟨F, h1, h2, h3⟩ := h
  exact ⟨F, h1, h2, HeldU.mod h3⟩
theorem Held.two {w0 w : World} {R1 R2 : Thing} {Rs : List Thing} (h : Held w0 w (R1 :: R2 :: Rs)) : Held w0 w [R1, R2] := by
  obtain ⟨F, h1, h2, F2, h3, h4, h5⟩ := h
  exact ⟨F, h1, h2, F2, h3, h4, HeldU.mod h5⟩
theorem Held.three {w0 w : World} {R1 R2 R3 : Thing} {Rs : List Thing} (h : Held w0 w (R1 :: R2 :: R3 :: Rs)) : Held w0 w [R1, R2, R3] := by
  obtain ⟨F, h1, h2, F2, h3, h4, F3, h5, h6, h7⟩ := h
  exact ⟨F, h1, h2, F2, h3, h4, F3, h5, h6, HeldU.mod h7⟩
/-- What the call was handed. -/
theorem Held.old {w0 w : World} {Rs : List Thing} (h : Held w0 w Rs) {size : Nat} {v : Value} {n : Nat} {xs : List Value} (hv : Rd w0 size v n xs) : Rd w size v n xs := hv.kept h.mod (fun _ _ h => h)

/-! ### A slice of the call's own -/
def ownT (e : TypeId) (size : Nat) (v : Value) (n : Nat) (xs : List Value) : Thing where
  res := fun w F => Own w e size v n xs ∧ ∀ k, F k ↔ v.ownBlock = some k
  loc := fun _ _ _ _ h hm hS => ⟨h.1.kept hm (fun k hk => hS k ((h.2 k).2 hk)), h.2⟩
theorem Held.own {w0 w : World} {e : TypeId} {size : Nat} {v : Value} {n : Nat} {xs : List Value} {Rs : List Thing} (h : Held w0 w (ownT e size v n xs :: Rs)) : Own w e size v n xs := by
  obtain ⟨F, h1, _⟩ := h
  exact h1.1
theorem Held.fresh {w0 w : World} {e : TypeId} {size : Nat} {v : Value} {n : Nat} {xs : List Value} {Rs : List Thing} (h : Held w0 w (ownT e size v n xs :: Rs)) : ∀ k, v.ownBlock = some k → w0.heap.size ≤ k := by
  obtain ⟨F, h1, h2, _⟩ := h
  exact fun k hk => (h2 k ((h1.2 k).2 hk)).1
/-- nothing is owned by a nil slice -/
theorem Held.nil {w0 w : World} {Rs : List Thing} (h : Held w0 w Rs) (e : TypeId) (size : Nat) : Held w0 w (ownT e size (.slice none 0 0) 0 [] :: Rs) :=
  h.push _ (fun _ => False) ⟨Own.nil w e size, fun k => by simp [Value.ownBlock]⟩ (Mod.refl w _) (fun _ h => h.elim)
theorem Held.lit {w0 w : World} {Rs : List Thing} (h : Held w0 w Rs) (e : TypeId) (size : Nat) (cs : List Value) (n : Nat) (hm : n ≤ maxLen) (hs : cs.length = n * size) :
    Held w0 (w.alloc (.cells cs.toArray e)) (ownT e size (.slice (some ⟨w.heap.size, 0, none⟩) n n) n cs :: Rs) :=
  h.push _ (fun k => k = w.heap.size) ⟨Own.lit w cs n hm hs, fun k => by simp [Value.ownBlock, eq_comm]⟩ ((Mod.refl w _).alloc _) (fun k hk => by subst hk; exact ⟨Nat.le_refl _, by simp⟩)
/-- behind an append -/
theorem Held.app {w0 w w' : World} {e : TypeId} {size : Nat} {v v' : Value} {n n' : Nat} {xs xs' : List Value} {Rs : List Thing} (h : Held w0 w (ownT e size v n xs :: Rs)) (hown : Own w' e size v' n' xs') (hgrow : w.grownBy w' v.ownBlock)
    (hat : v'.ownBlock = v.ownBlock ∨ v'.ownBlock = some w.heap.size) : Held w0 w' (ownT e size v' n' xs' :: Rs) := by
  obtain ⟨F, h1, h2, back⟩ := h.take
  refine back w' _ (fun k => v'.ownBlock = some k) ⟨hown, fun k => Iff.rfl⟩ ((Mod.refl w F).grown hgrow fun k hk => .inr ((h1.2 k).2 hk)) (fun k hk => ?_) hown.lt
  rcases hat with ha | ha
  · exact .inl ((h1.2 k).2 (ha ▸ hk))
  · rw [ha] at hk; injection hk with hk; exact .inr (by omega)
theorem Held.pushOwn {w0 w w' : World} {Rs : List Thing} {e : TypeId} {size : Nat} {v : Value} {n : Nat} {xs : List Value} (h : Held w0 w Rs) (hown : Own w' e size v n xs) (hm : Mod w w' (fun _ => False)) (hfr : ∀ k, v.ownBlock = some k → w.heap.size ≤ k) :
    Held w0 w' (ownT e size v n xs :: Rs) :=
  h.push _ (fun k => v.ownBlock = some k) ⟨hown, fun _ => Iff.rfl⟩ hm (fun k hk => ⟨hfr k hk, hown.lt k hk⟩)
/-- a cut of it -/
theorem Held.recut {w0 w : World} {e : TypeId} {size : Nat} {v v' : Value} {n n' : Nat} {xs xs' : List Value} {Rs : List Thing} (h : Held w0 w (ownT e size v n xs :: Rs)) (hown : Own w e size v' n' xs') (hb : v'.ownBlock = v.ownBlock) : Held w0 w (ownT e size v' n' xs' :: Rs) := by
  obtain ⟨F, h1, h2, back⟩ := h.take
  exact back w _ F ⟨hown, fun k => by rw [hb]; exact h1.2 k⟩ (Mod.refl w F) (fun k hk => .inl hk) (fun k hk => (h2 k hk).2)

/-! ### A whole object -/
def objT (B : Nat) (cs : List Value) (T : TypeId) : Thing where
  res := fun w F => Blk w B cs T ∧ ∀ k, F k ↔ k = B
  loc := fun _ _ _ _ h hm hS => ⟨h.1.kept hm (hS B ((h.2 B).2 rfl)), h.2⟩
theorem Held.obj {w0 w : World} {B : Nat} {cs : List Value} {T : TypeId} {Rs : List Thing} (h : Held w0 w (objT B cs T :: Rs)) : Blk w B cs T := by
  obtain ⟨F, h1, _⟩ := h
  exact h1.1
theorem Held.newObj {w0 w : World} {Rs : List Thing} (h : Held w0 w Rs) (cs : List Value) (T : TypeId) : Held w0 (w.alloc (.cells cs.toArray T)) (objT w.heap.size cs T :: Rs) :=
  h.push _ (fun k => k = w.heap.size) ⟨Blk.new w cs T, fun _ => Iff.rfl⟩ ((Mod.refl w _).alloc _) (fun k hk => by subst hk; exact ⟨Nat.le_refl _, by simp⟩)
theorem Held.setObj {w0 w : World} {B : Nat} {cs : List Value} {T : TypeId} {Rs : List Thing} (h : Held w0 w (objT B cs T :: Rs)) (i : Nat) (u : Value) : Held w0 (w.setCell ⟨B, i, none⟩ u) (objT B (cs.set i u) T :: Rs) := by
  obtain ⟨F, h1, h2, back⟩ := h.take
  exact back _ _ F ⟨h1.1.set i u, h1.2⟩ ((Mod.refl w F).setCell (p := ⟨B, i, none⟩) (.inr ((h1.2 B).2 rfl)) u) (fun k hk => .inl hk) (fun k hk => by simpa [World.setCell] using (h2 k hk).2)
end Go.Proofs.YtkdmdbojcdonpaaGreatDoor
