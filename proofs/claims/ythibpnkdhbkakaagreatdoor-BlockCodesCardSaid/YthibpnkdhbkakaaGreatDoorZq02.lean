/-
  Several things that a call has made, held side by side: each lies in blocks of its own, all of them newer than the call's beginning. A step turns one of them and leaves the others as they are. No program is named here.
-/
import Derived.Test.YthibpnkdhbkakaaGreatDoorZq01
import Derived.Laws.CopyRow
import Derived.Laws.OwnMore
namespace Go.Proofs.YthibpnkdhbkakaaGreatDoor
set_option maxRecDepth 5000
open Go.RowKit

/-- A thing in memory: what holds of the world, and the blocks that it lies in. -/
def Res := World → (Nat → Prop) → Prop
/-- It hangs on its own blocks alone. -/
def Res.Local (R : Res) : Prop := ∀ w w' F S, R w F → Mod w w' S → (∀ k, F k → ¬ S k) → R w' F
structure Thing where
  res : Res
  loc : res.Local

def HeldU (w0 w : World) : (Nat → Prop) → List Thing → Prop
  | _, [] => Mod w0 w (fun _ => False)
  | U, R :: Rs => ∃ F : Nat → Prop, R.res w F ∧ (∀ k, F k → w0.heap.size ≤ k ∧ k < w.heap.size ∧ ¬ U k) ∧ HeldU w0 w (fun k => U k ∨ F k) Rs
def Held (w0 w : World) (Rs : List Thing) : Prop := HeldU w0 w (fun _ => False) Rs

theorem HeldU.mod {w0 w : World} : ∀ {Rs : List Thing} {U : Nat → Prop}, HeldU w0 w U Rs → Mod w0 w (fun _ => False)
  | [], _, h => h
  | _ :: _, _, ⟨_, _, _, h⟩ => HeldU.mod h
theorem HeldU.less {w0 w : World} : ∀ {Rs : List Thing} {U V : Nat → Prop}, HeldU w0 w U Rs → (∀ k, V k → U k) → HeldU w0 w V Rs
  | [], _, _, h, _ => h
  | _ :: _, _, _, ⟨F, h1, h2, h3⟩, hv => ⟨F, h1, fun k hk => ⟨(h2 k hk).1, (h2 k hk).2.1, fun hV => (h2 k hk).2.2 (hv k hV)⟩, h3.less fun k hk => hk.imp (hv k) id⟩
/-- Blocks that did not exist may be named as used. -/
theorem HeldU.more {w0 w : World} : ∀ {Rs : List Thing} {U V : Nat → Prop}, HeldU w0 w U Rs → (∀ k, V k → U k ∨ w.heap.size ≤ k) → HeldU w0 w V Rs
  | [], _, _, h, _ => h
  | _ :: _, U, V, ⟨F, h1, h2, h3⟩, hv => ⟨F, h1, fun k hk => ⟨(h2 k hk).1, (h2 k hk).2.1, fun hV => (hv k hV).elim (h2 k hk).2.2 (fun h => by have := (h2 k hk).2.1; omega)⟩,
      h3.more fun k hk => hk.elim (fun h => (hv k h).imp .inl id) (fun h => .inl (.inr h))⟩
/-- A step in blocks that are none of theirs. -/
theorem HeldU.step {w0 w w' : World} {S : Nat → Prop} (hm : Mod w w' S) : ∀ {Rs : List Thing} {U : Nat → Prop}, HeldU w0 w U Rs → (∀ k, S k → k < w.heap.size → w0.heap.size ≤ k) → (∀ k, S k → k < w.heap.size → U k) → HeldU w0 w' U Rs
  | [], _, h, h0, _ => by
    have hM : Mod w0 w (fun _ => False) := h
    exact hM.trans hm (fun k hk hs => absurd (h0 k hs (Nat.lt_of_lt_of_le hk hM.size)) (by omega))
  | R :: _, _, ⟨F, h1, h2, h3⟩, h0, hu =>
    ⟨F, R.loc w w' F S h1 hm (fun k hk hs => (h2 k hk).2.2 (hu k hs (h2 k hk).2.1)), fun k hk => ⟨(h2 k hk).1, Nat.lt_of_lt_of_le (h2 k hk).2.1 hm.size, (h2 k hk).2.2⟩,
      h3.step hm h0 fun k hs hk => .inl (hu k hs hk)⟩

theorem Held.mod {w0 w : World} {Rs : List Thing} (h : Held w0 w Rs) : Mod w0 w (fun _ => False) := HeldU.mod h
theorem Held.below {w0 w : World} {Rs : List Thing} (h : Held w0 w Rs) : Below w0.heap.size w0 w := h.mod.toBelow
theorem Held.start (w : World) : Held w w [] := Mod.refl w _
/-- Take the first thing out, turn it, put what has become of it back. -/
theorem Held.take {w0 w : World} {R : Thing} {Rs : List Thing} (h : Held w0 w (R :: Rs)) :
    ∃ F : Nat → Prop, R.res w F ∧ (∀ k, F k → w0.heap.size ≤ k ∧ k < w.heap.size) ∧
      ∀ (w' : World) (R' : Thing) (F' : Nat → Prop), R'.res w' F' → Mod w w' F → (∀ k, F' k → F k ∨ w.heap.size ≤ k) → (∀ k, F' k → k < w'.heap.size) → Held w0 w' (R' :: Rs) := by
  obtain ⟨F, h1, h2, h3⟩ := h
  refine ⟨F, h1, fun k hk => ⟨(h2 k hk).1, (h2 k hk).2.1⟩, fun w' R' F' hR hm hF hlt => ⟨F', hR, fun k hk => ⟨?_, hlt k hk, fun h => h⟩, ?_⟩⟩
  · rcases hF k hk with hf | hf
    · exact (h2 k hf).1
    · exact Nat.le_trans (HeldU.mod h3).size hf
  · have h4 := (h3.more (V := fun k => (False ∨ F k) ∨ F' k) fun k hk => by
      rcases hk with hk | hk
      · exact .inl hk
      · rcases hF k hk with hf | hf
        · exact .inl (.inr hf)
        · exact .inr hf).step hm (fun k hk _ => (h2 k hk).1) (fun k hk _ => .inl (.inr hk))
    exact h4.less fun k hk => by
      rcases hk with hk | hk
      · exact hk.elim
      · exact .inr hk
/-- Something new, in new blocks. -/
theorem Held.push {w0 w w' : World} {Rs : List Thing} (h : Held w0 w Rs) (R : Thing) (F : Nat → Prop) (hR : R.res w' F) (hm : Mod w w' (fun _ => False)) (hF : ∀ k, F k → w.heap.size ≤ k ∧ k < w'.heap.size) : Held w0 w' (R :: Rs) := by
  refine ⟨F, hR, fun k hk => ⟨Nat.le_trans (HeldU.mod h).size (hF k hk).1, (hF k hk).2, fun h => h⟩, ?_⟩
  exact ((HeldU.more h (V := fun k => False ∨ F k) fun k hk => by
    rcases hk with hk | hk
    · exact hk.elim
    · exact .inr (hF k hk).1)).step hm (fun _ h => h.elim) (fun _ h => h.elim)
/-- Nothing that is held was touched. -/
theorem Held.same {w0 w w' : World} {Rs : List Thing} (h : Held w0 w Rs) (hm : Mod w w' (fun _ => False)) : Held w0 w' Rs := HeldU.step hm h (fun _ h => h.elim) (fun _ h => h.elim)
theorem Held.alloc {w0 w : World} {Rs : List Thing} (h : Held w0 w Rs) (o : Obj) : Held w0 (w.alloc o) Rs := h.same ((Mod.refl w _).alloc o)
theorem Held.drew {w0 w : World} {Rs : List Thing} (h : Held w0 w Rs) : Held w0 w.drew Rs := h.same (Mod.refl w _).drew
theorem Held.drewN {w0 w : World} {Rs : List Thing} (h : Held w0 w Rs) (n : Nat) : Held w0 (w.drewN n) Rs := h.same ((Mod.refl w _).drewN n)
theorem Held.drop {w0 w : World} {R : Thing} {Rs : List Thing} (h : Held w0 w (R :: Rs)) : Held w0 w Rs := by
  obtain ⟨F, h1, h2, h3⟩ := h
  exact h3.less fun _ h => h.elim
theorem HeldU.swap {w0 w : World} {R1 R2 : Thing} {Rs : List Thing} {U : Nat → Prop} (h : HeldU w0 w U (R1 :: R2 :: Rs)) : HeldU w0 w U (R2 :: R1 :: Rs) := by
  obtain ⟨F1, h1, h2, F2, h3, h4, h5⟩ := h
  refine ⟨F2, h3, fun k hk => ⟨(h4 k hk).1, (h4 k hk).2.1, fun hu => (h4 k hk).2.2 (.inl hu)⟩, F1, h1, fun k hk => ⟨(h2 k hk).1, (h2 k hk).2.1, fun hu => ?_⟩, h5.less fun k hk => ?_⟩
  · rcases hu with hu | hu
    · exact (h2 k hk).2.2 hu
    · exact (h4 k hu).2.2 (.inr hk)
  · rcases hk with (hk | hk) | hk
    · exact .inl (.inl hk)
    · exact .inr hk
    · exact .inl (.inr hk)
theorem HeldU.perm {w0 w : World} {Rs Rs' : List Thing} (hp : Rs.Perm Rs') : ∀ {U : Nat → Prop}, HeldU w0 w U Rs → HeldU w0 w U Rs' := by
  induction hp with
  | nil => exact fun h => h
  | cons x _ ih => exact fun ⟨F, h1, h2, h3⟩ => ⟨F, h1, h2, ih h3⟩
  | swap x y l => exact fun h => HeldU.swap h
  | trans _ _ ih1 ih2 => exact fun h => ih2 (ih1 h)
theorem Held.perm {w0 w : World} {Rs Rs' : List Thing} (h : Held w0 w Rs) (hp : Rs.Perm Rs') : Held w0 w Rs' := HeldU.perm hp h
theorem Held.swap {w0 w : World} {R1 R2 : Thing} {Rs : List Thing} (h : Held w0 w (R1 :: R2 :: Rs)) : Held w0 w (R2 :: R1 :: Rs) := HeldU.swap h
/-- The third one to the front. -/
theorem Held.third {w0 w : World} {R1 R2 R3 : Thing} {Rs : List Thing} (h : Held w0 w (R1 :: R2 :: R3 :: Rs)) : Held w0 w (R3 :: R1 :: R2 :: Rs) :=
  h.perm ((List.Perm.cons R1 (List.Perm.swap R3 R2 Rs)).trans (List.Perm.swap R3 R1 (R2 :: Rs)))
theorem Held.fourth {w0 w : World} {R1 R2 R3 R4 : Thing} {Rs : List Thing} (h : Held w0 w (R1 :: R2 :: R3 :: R4 :: Rs)) : Held w0 w (R4 :: R1 :: R2 :: R3 :: Rs) :=
  h.perm (((List.Perm.cons R1 ((List.Perm.cons R2 (List.Perm.swap R4 R3 Rs)).trans (List.Perm.swap R4 R2 (R3 :: Rs))))).trans (List.Perm.swap R4 R1 (R2 :: R3 :: Rs)))
/-- One thing becomes two. -/
theorem Held.split {w0 w w' : World} {R1 R2 : Thing} {Rs : List Thing} {F F1 F2 : Nat → Prop} (h : HeldU w0 w (fun k => False ∨ F k) Rs) (hF : ∀ k, F k → w0.heap.size ≤ k ∧ k < w.heap.size) (h1 : R1.res w' F1) (h2 : R2.res w' F2) (hm : Mod w w' F)
    (s1 : ∀ k, F1 k → F k) (s2 : ∀ k, F2 k → F k) (dis : ∀ k, F1 k → ¬ F2 k) : Held w0 w' (R1 :: R2 :: Rs) := by
  have h3 := HeldU.step hm h (fun k hk _ => (hF k hk).1) (fun k hk _ => .inr hk)
  refine ⟨F1, h1, fun k hk => ⟨(hF k (s1 k hk)).1, Nat.lt_of_lt_of_le (hF k (s1 k hk)).2 hm.size, fun h => h⟩, F2, h2, fun k hk => ⟨(hF k (s2 k hk)).1, Nat.lt_of_lt_of_le (hF k (s2 k hk)).2 hm.size, fun hu => ?_⟩, h3.less fun k hk => ?_⟩
  · rcases hu with hu | hu
    · exact hu
    · exact dis k hu hk
  · rcases hk with (hk | hk) | hk
    · exact .inl hk
    · exact .inr (s1 k hk)
    · exact .inr (s2 k hk)
theorem Held.one {w0 w : World} {R1 : Thing} {Rs : List Thing} (h : Held w0 w (R1 :: Rs)) : Held w0 w [R1] := by
  obtain ⟨F, h1, h2, h3⟩ := h
  exact ⟨F, h1, h2, HeldU.mod h3⟩
theorem Held.two {w0 w : World} {R1 R2 : Thing} {Rs : List Thing} (h : Held w0 w (R1 :: R2 :: Rs)) : Held w0 w [R1, R2] := by
  obtain ⟨F, h1, h2, F2, h3, h4, h5⟩ := h
  exact ⟨F, h1, h2, F2, h3, h4, HeldU.mod h5⟩
theorem Held.three {w0 w : World} {R1 R2 R3 : Thing} {Rs : List Thing} (h : Held w0 w (R1 :: R2 :: R3 :: Rs)) : Held w0 w [R1, R2, R3] := by
  obtain ⟨F, h1, h2, F2, h3, h4, F3, h5, h6, h7⟩ := h
  exact ⟨F, h1, h2, F2, h3, h4, F3, h5, h6, HeldU.mod h7⟩
/-- What the call was handed. -/
theorem Held.old {w0 w : World} {Rs : List Thing} (h : Held w0 w Rs) {size : Nat} {v : Value} {n : Nat} {xs : List Value} (hv : Rd w0 size v n xs) : Rd w size v n xs := hv.kept h.mod (fun _ _ h => h)

/-! ### A slice of the call's own -/
def ownT (e : TypeId) (size : Nat) (v : Value) (n : Nat) (xs : List Value) : Thing where
  res := fun w F => Own w e size v n xs ∧ ∀ k, F k ↔ v.ownBlock = some k
  loc := fun _ _ _ _ h hm hS => ⟨h.1.kept hm (fun k hk => hS k ((h.2 k).2 hk)), h.2⟩
theorem Held.own {w0 w : World} {e : TypeId} {size : Nat} {v : Value} {n : Nat} {xs : List Value} {Rs : List Thing} (h : Held w0 w (ownT e size v n xs :: Rs)) : Own w e size v n xs := by
  obtain ⟨F, h1, _⟩ := h
  exact h1.1
theorem Held.fresh {w0 w : World} {e : TypeId} {size : Nat} {v : Value} {n : Nat} {xs : List Value} {Rs : List Thing} (h : Held w0 w (ownT e size v n xs :: Rs)) : ∀ k, v.ownBlock = some k → w0.heap.size ≤ k := by
  obtain ⟨F, h1, h2, _⟩ := h
  exact fun k hk => (h2 k ((h1.2 k).2 hk)).1
/-- nothing is owned by a nil slice -/
theorem Held.nil {w0 w : World} {Rs : List Thing} (h : Held w0 w Rs) (e : TypeId) (size : Nat) : Held w0 w (ownT e size (.slice none 0 0) 0 [] :: Rs) :=
  h.push _ (fun _ => False) ⟨Own.nil w e size, fun k => by simp [Value.ownBlock]⟩ (Mod.refl w _) (fun _ h => h.elim)
theorem Held.lit {w0 w : World} {Rs : List Thing} (h : Held w0 w Rs) (e : TypeId) (size : Nat) (cs : List Value) (n : Nat) (hm : n ≤ maxLen) (hs : cs.length = n * size) :
    Held w0 (w.alloc (.cells cs.toArray e)) (ownT e size (.slice (some ⟨w.heap.size, 0, none⟩) n n) n cs :: Rs) :=
  h.push _ (fun k => k = w.heap.size) ⟨Own.lit w cs n hm hs, fun k => by simp [Value.ownBlock, eq_comm]⟩ ((Mod.refl w _).alloc _) (fun k hk => by subst hk; exact ⟨Nat.le_refl _, by simp⟩)
/-- behind an append -/
theorem Held.app {w0 w w' : World} {e : TypeId} {size : Nat} {v v' : Value} {n n' : Nat} {xs xs' : List Value} {Rs : List Thing} (h : Held w0 w (ownT e size v n xs :: Rs)) (hown : Own w' e size v' n' xs') (hgrow : w.grownBy w' v.ownBlock)
    (hat : v'.ownBlock = v.ownBlock ∨ v'.ownBlock = some w.heap.size) : Held w0 w' (ownT e size v' n' xs' :: Rs) := by
  obtain ⟨F, h1, h2, back⟩ := h.take
  refine back w' _ (fun k => v'.ownBlock = some k) ⟨hown, fun k => Iff.rfl⟩ ((Mod.refl w F).grown hgrow fun k hk => .inr ((h1.2 k).2 hk)) (fun k hk => ?_) hown.lt
  rcases hat with ha | ha
  · exact .inl ((h1.2 k).2 (ha ▸ hk))
  · rw [ha] at hk; injection hk with hk; exact .inr (by omega)
theorem Held.pushOwn {w0 w w' : World} {Rs : List Thing} {e : TypeId} {size : Nat} {v : Value} {n : Nat} {xs : List Value} (h : Held w0 w Rs) (hown : Own w' e size v n xs) (hm : Mod w w' (fun _ => False)) (hfr : ∀ k, v.ownBlock = some k → w.heap.size ≤ k) :
    Held w0 w' (ownT e size v n xs :: Rs) :=
  h.push _ (fun k => v.ownBlock = some k) ⟨hown, fun _ => Iff.rfl⟩ hm (fun k hk => ⟨hfr k hk, hown.lt k hk⟩)
/-- a cut of it -/
theorem Held.recut {w0 w : World} {e : TypeId} {size : Nat} {v v' : Value} {n n' : Nat} {xs xs' : List Value} {Rs : List Thing} (h : Held w0 w (ownT e size v n xs :: Rs)) (hown : Own w e size v' n' xs') (hb : v'.ownBlock = v.ownBlock) : Held w0 w (ownT e size v' n' xs' :: Rs) := by
  obtain ⟨F, h1, h2, back⟩ := h.take
  exact back w _ F ⟨hown, fun k => by rw [hb]; exact h1.2 k⟩ (Mod.refl w F) (fun k hk => .inl hk) (fun k hk => (h2 k hk).2)

/-! ### A whole object -/
def objT (B : Nat) (cs : List Value) (T : TypeId) : Thing where
  res := fun w F => Blk w B cs T ∧ ∀ k, F k ↔ k = B
  loc := fun _ _ _ _ h hm hS => ⟨h.1.kept hm (hS B ((h.2 B).2 rfl)), h.2⟩
theorem Held.obj {w0 w : World} {B : Nat} {cs : List Value} {T : TypeId} {Rs : List Thing} (h : Held w0 w (objT B cs T :: Rs)) : Blk w B cs T := by
  obtain ⟨F, h1, _⟩ := h
  exact h1.1
theorem Held.newObj {w0 w : World} {Rs : List Thing} (h : Held w0 w Rs) (cs : List Value) (T : TypeId) : Held w0 (w.alloc (.cells cs.toArray T)) (objT w.heap.size cs T :: Rs) :=
  h.push _ (fun k => k = w.heap.size) ⟨Blk.new w cs T, fun _ => Iff.rfl⟩ ((Mod.refl w _).alloc _) (fun k hk => by subst hk; exact ⟨Nat.le_refl _, by simp⟩)
theorem Held.setObj {w0 w : World} {B : Nat} {cs : List Value} {T : TypeId} {Rs : List Thing} (h : Held w0 w (objT B cs T :: Rs)) (i : Nat) (u : Value) : Held w0 (w.setCell ⟨B, i, none⟩ u) (objT B (cs.set i u) T :: Rs) := by
  obtain ⟨F, h1, h2, back⟩ := h.take
  exact back _ _ F ⟨h1.1.set i u, h1.2⟩ ((Mod.refl w F).setCell (p := ⟨B, i, none⟩) (.inr ((h1.2 B).2 rfl)) u) (fun k hk => .inl hk) (fun k hk => by simpa [World.setCell] using (h2 k hk).2)
end Go.Proofs.YthibpnkdhbkakaaGreatDoor
/-
  Things that a call holds, put together: two side by side as one ('andT'), one of a family ('exT'), a fact beside a thing ('factT'). No program is named here.
-/
namespace Go.Proofs.YthibpnkdhbkakaaGreatDoor
set_option maxRecDepth 5000
open Go.RowKit

/-- Two things in blocks of their own, as one thing. -/
def andT (R1 R2 : Thing) : Thing where
  res := fun w F => ∃ F1 F2 : Nat → Prop, R1.res w F1 ∧ R2.res w F2 ∧ (∀ k, F1 k → ¬ F2 k) ∧ ∀ k, F k ↔ F1 k ∨ F2 k
  loc := fun w w' _ S ⟨F1, F2, h1, h2, hd, hF⟩ hm hS =>
    ⟨F1, F2, R1.loc w w' F1 S h1 hm fun k hk => hS k ((hF k).2 (.inl hk)), R2.loc w w' F2 S h2 hm fun k hk => hS k ((hF k).2 (.inr hk)), hd, hF⟩
/-- One of a family of things. -/
def exT {α : Type} (R : α → Thing) : Thing where
  res := fun w F => ∃ a, (R a).res w F
  loc := fun w w' F S ⟨a, h⟩ hm hS => ⟨a, (R a).loc w w' F S h hm hS⟩
/-- A thing, and a fact that hangs on no memory. -/
def factT (p : Prop) (R : Thing) : Thing where
  res := fun w F => p ∧ R.res w F
  loc := fun w w' F S ⟨hp, h⟩ hm hS => ⟨hp, R.loc w w' F S h hm hS⟩

theorem HeldU.congr {w0 w : World} {Rs : List Thing} {U V : Nat → Prop} (h : HeldU w0 w U Rs) (hv : ∀ k, V k → U k) : HeldU w0 w V Rs := h.less hv
theorem Held.unpair {w0 w : World} {R1 R2 : Thing} {Rs : List Thing} (h : Held w0 w (andT R1 R2 :: Rs)) : Held w0 w (R1 :: R2 :: Rs) := by
  obtain ⟨F, ⟨F1, F2, h1, h2, hd, hF⟩, h3, h4⟩ := h
  refine ⟨F1, h1, fun k hk => h3 k ((hF k).2 (.inl hk)), F2, h2, fun k hk => ⟨(h3 k ((hF k).2 (.inr hk))).1, (h3 k ((hF k).2 (.inr hk))).2.1, ?_⟩, h4.less fun k hk => ?_⟩
  · rintro (hu | hu)
    · exact hu
    · exact hd k hu hk
  · rcases hk with (hk | hk) | hk
    · exact .inl hk
    · exact .inr ((hF k).2 (.inl hk))
    · exact .inr ((hF k).2 (.inr hk))
theorem Held.pair {w0 w : World} {R1 R2 : Thing} {Rs : List Thing} (h : Held w0 w (R1 :: R2 :: Rs)) : Held w0 w (andT R1 R2 :: Rs) := by
  obtain ⟨F1, h1, h2, F2, h3, h4, h5⟩ := h
  refine ⟨fun k => F1 k ∨ F2 k, ⟨F1, F2, h1, h3, fun k hk hk2 => (h4 k hk2).2.2 (.inr hk), fun _ => Iff.rfl⟩, fun k hk => ?_, h5.less fun k hk => ?_⟩
  · rcases hk with hk | hk
    · exact h2 k hk
    · exact ⟨(h4 k hk).1, (h4 k hk).2.1, fun hu => hu⟩
  · rcases hk with hk | hk | hk
    · exact .inl (.inl hk)
    · exact .inl (.inr hk)
    · exact .inr hk
theorem Held.ex {w0 w : World} {α : Type} {R : α → Thing} {Rs : List Thing} (h : Held w0 w (exT R :: Rs)) : ∃ a, Held w0 w (R a :: Rs) := by
  obtain ⟨F, ⟨a, h1⟩, h2, h3⟩ := h
  exact ⟨a, F, h1, h2, h3⟩
theorem Held.mk {w0 w : World} {α : Type} {R : α → Thing} {Rs : List Thing} (a : α) (h : Held w0 w (R a :: Rs)) : Held w0 w (exT R :: Rs) := by
  obtain ⟨F, h1, h2, h3⟩ := h
  exact ⟨F, ⟨a, h1⟩, h2, h3⟩
theorem Held.fact {w0 w : World} {p : Prop} {R : Thing} {Rs : List Thing} (h : Held w0 w (factT p R :: Rs)) : p ∧ Held w0 w (R :: Rs) := by
  obtain ⟨F, ⟨hp, h1⟩, h2, h3⟩ := h
  exact ⟨hp, F, h1, h2, h3⟩
theorem Held.mkFact {w0 w : World} {p : Prop} {R : Thing} {Rs : List Thing} (hp : p) (h : Held w0 w (R :: Rs)) : Held w0 w (factT p R :: Rs) := by
  obtain ⟨F, h1, h2, h3⟩ := h
  exact ⟨F, ⟨hp, h1⟩, h2, h3⟩
/-- the second thing turned, the first left alone -/
theorem Held.under {w0 w : World} {R1 R2 : Thing} {Rs : List Thing} (h : Held w0 w (R1 :: R2 :: Rs)) : Held w0 w (R2 :: R1 :: Rs) := h.swap
/-- Where an own slice lies is none of an object's block. -/
theorem Held.apart {w0 w : World} {B : Nat} {cs : List Value} {T e : TypeId} {size n : Nat} {v : Value} {xs : List Value} {Rs : List Thing} (h : Held w0 w (objT B cs T :: ownT e size v n xs :: Rs)) : v.ownBlock ≠ some B := by
  obtain ⟨F, ⟨_, h1⟩, h2, F2, ⟨_, h3⟩, h4, _⟩ := h
  intro e
  exact (h4 B ((h3 B).2 e)).2.2 (.inr ((h1 B).2 rfl))
/-- Two own slices lie apart. -/
theorem Held.apart2 {w0 w : World} {e e' : TypeId} {size n size' n' : Nat} {v v' : Value} {xs xs' : List Value} {Rs : List Thing} (h : Held w0 w (ownT e size v n xs :: ownT e' size' v' n' xs' :: Rs)) : ∀ k, v.ownBlock = some k → v'.ownBlock ≠ some k := by
  obtain ⟨F, ⟨_, h1⟩, h2, F2, ⟨_, h3⟩, h4, _⟩ := h
  intro k hk e
  exact (h4 k ((h3 k).2 e)).2.2 (.inr ((h1 k).2 hk))
/-- A step in the first thing's own blocks: an own slice. -/
theorem Held.turnOwn {w0 w w' : World} {e : TypeId} {size n n' : Nat} {v v' : Value} {xs xs' : List Value} {Rs : List Thing} (h : Held w0 w (ownT e size v n xs :: Rs)) (hown : Own w' e size v' n' xs') (hb : v'.ownBlock = v.ownBlock) (hm : Mod w w' (fun k => v.ownBlock = some k)) :
    Held w0 w' (ownT e size v' n' xs' :: Rs) := by
  obtain ⟨F, h1, h2, back⟩ := h.take
  exact back w' _ F ⟨hown, fun k => by rw [hb]; exact h1.2 k⟩ (hm.mono fun k _ hk => (h1.2 k).2 hk) (fun k hk => .inl hk) (fun k hk => Nat.lt_of_lt_of_le (h2 k hk).2 hm.size)
end Go.Proofs.YthibpnkdhbkakaaGreatDoor
/-
  An append to an own slice, among what a call holds. No program is named here.
-/
namespace Go.Proofs.YthibpnkdhbkakaaGreatDoor
set_option maxRecDepth 5000
open Go.RowKit

theorem wpList_app_held {P : Program} {w0 w : World} {Rs : List Thing} {ops : Array Oper} {rest : List Oper} {o : Oper} {a : Act} {Q : Exit → Act → World → Prop} (hgd : o.guard = none) (s x : Operand) (t : TypeId)
    (ho : o.op = .call { callee := .builtin .append, args := #[s, x], argTypes := #[t, t] })
    (e : TypeId) (i : TypeInfo) (z : Value) (size bytes : Nat) (ht : P.underlying t = some (.slice e)) (hi : P.info? e = some i) (hz : i.zero = some z)
    (hsize : i.size = size) (hby : i.bytes = bytes) (hzs : z.cells.size = size) (hsz : 0 < size)
    (v : Value) (n : Nat) (xs : List Value) (hs : a.eval s = v) (hh : Held w0 w (ownT e size v n xs :: Rs))
    (y : Value) (m : Nat) (news : List Value) (hx : a.eval x = y) (hsrc : Rd w size y m news) (h1 : ∀ u ∈ news, u.oneCell' = true) (N : Nat) (hN : N = n + m)
    (h63 : N ≤ maxLen) (hbytes : N * bytes ≤ 140737488355328)
    (h : ∀ ao cap w', Held w0 w' (ownT e size (.slice ao N cap) N (xs ++ news) :: Rs) → wpList P ops Q rest (a.put o.dst (.slice ao N cap)) w') : wpList P ops Q (o :: rest) a w := by
  subst hN
  exact wpList_app _ hgd s x t ho e i z size bytes ht hi hz hsize hby hzs hsz v n xs hs hh.own y m news hx hsrc h1 h63 hbytes fun ao cap w' h2 h3 h4 => h ao cap w' (hh.app h2 h3 h4)
/-- the same, behind '&&' or '||' -/
theorem wpList_app_held' {P : Program} {w0 w : World} {Rs : List Thing} {ops : Array Oper} {rest : List Oper} {o : Oper} {a : Act} {Q : Exit → Act → World → Prop} (hgd : Region.wanted o (yielded ops a.tmps) = true) (s x : Operand) (t : TypeId)
    (ho : o.op = .call { callee := .builtin .append, args := #[s, x], argTypes := #[t, t] })
    (e : TypeId) (i : TypeInfo) (z : Value) (size bytes : Nat) (ht : P.underlying t = some (.slice e)) (hi : P.info? e = some i) (hz : i.zero = some z)
    (hsize : i.size = size) (hby : i.bytes = bytes) (hzs : z.cells.size = size) (hsz : 0 < size)
    (v : Value) (n : Nat) (xs : List Value) (hs : a.eval s = v) (hh : Held w0 w (ownT e size v n xs :: Rs))
    (y : Value) (m : Nat) (news : List Value) (hx : a.eval x = y) (hsrc : Rd w size y m news) (h1 : ∀ u ∈ news, u.oneCell' = true) (N : Nat) (hN : N = n + m)
    (h63 : N ≤ maxLen) (hbytes : N * bytes ≤ 140737488355328)
    (h : ∀ ao cap w', Held w0 w' (ownT e size (.slice ao N cap) N (xs ++ news) :: Rs) → wpList P ops Q rest (a.put o.dst (.slice ao N cap)) w') : wpList P ops Q (o :: rest) a w := by
  subst hN
  exact BigFrame.wpList_want hgd fun _ hK => wp_app w s x t ho e i z size bytes ht hi hz hsize hby hzs hsz v n xs hs hh.own y m news hx hsrc h1 h63 hbytes fun ao cap w' h2 h3 h4 => hK _ _ (h ao cap w' (hh.app h2 h3 h4))
end Go.Proofs.YthibpnkdhbkakaaGreatDoor
/-
  Builtins over slices that the call owns: a cut at the front, clear, copy, make. No program is named here.
-/
namespace Go.Proofs.YthibpnkdhbkakaaGreatDoor
set_option maxRecDepth 5000
open Go.RowKit

/-! ### The first cells of an own slice, stored anew -/
theorem Own.splice {w w' : World} {e : TypeId} {size n cap g off : Nat} {xs vs : List Value} {cur : Array Value} (hl : xs.length = n * size) (hg : w.heap[g]? = some (.cells cur e (0, 0))) (hn : n ≤ cap) (hc : cap ≤ maxLen) (hs : off + cap * size ≤ cur.size)
    (hx : ∀ j u, xs[j]? = some u → cur[off + j]? = some u) (hv : vs.length ≤ n * size)
    (h' : w' = w.setRow g (cur.toList.take off ++ vs ++ cur.toList.drop (off + vs.length)).toArray) :
    Own w' e size (.slice (some ⟨g, off, none⟩) n cap) n (vs ++ xs.drop vs.length) ∧ Mod w w' (fun k => k = g) := by
  subst h'
  have hns : n * size ≤ cap * size := Nat.mul_le_mul_right _ hn
  refine ⟨⟨by rw [List.length_append, List.length_drop, hl]; omega, .inr ⟨g, off, cap, _, rfl, setRow_heap w g cur _ e _ hg, hn, hc, ?_, fun j u hu => ?_⟩⟩, ⟨rfl, rfl, rfl, by simp [World.setRow], fun k _ hk => setRow_other w g k _ hk⟩⟩
  · simp; omega
  · have ht : (cur.toList.take off).length = off := by simp; omega
    simp only [List.getElem?_toArray]
    rw [List.append_assoc, List.getElem?_append_right (by omega), ht, Nat.add_sub_cancel_left]
    by_cases hj : j < vs.length
    · rw [List.getElem?_append_left hj] at hu ⊢
      exact hu
    · rw [List.getElem?_append_right (by omega)] at hu ⊢
      rw [List.getElem?_drop] at hu ⊢
      rw [Array.getElem?_toList, show off + vs.length + (j - vs.length) = off + (vs.length + (j - vs.length)) by omega]
      exact hx _ u hu

section
variable {P : Program} {w : World}
/-! ### Cut at the front -/
theorem sliced_front (a : Option Addr) (H cap size : Nat) (ha : ∀ x, a = some x → x.spot = none) : sliced a 0 H cap size = .slice a H cap := by
  unfold sliced
  cases a with
  | none => simp
  | some x =>
    obtain ⟨b, o, s⟩ := x
    obtain rfl : s = none := ha _ rfl
    simp [Addr.add]
theorem Own.spotless {e : TypeId} {size n n' cap : Nat} {a : Option Addr} {xs : List Value} (h : Own w e size (.slice a n cap) n' xs) : ∀ x, a = some x → x.spot = none := by
  rintro x rfl
  rcases h.2 with ⟨hv, _⟩ | ⟨g, off, cap', cur, hv, _⟩
  · simp at hv
  · simp only [Value.slice.injEq, Option.some.injEq] at hv
    rw [hv.1]
theorem wpList_cut_front {ops : Array Oper} {rest : List Oper} {o : Oper} {ac : Act} {Q : Exit → Act → World → Prop} (hgd : o.guard = none) (t : TypeId) (x : Operand) (lo hh : Option Operand)
    (ho : o.op = .slice t x lo hh none) (e : TypeId) (i : TypeInfo) (size : Nat) (ht : P.underlying t = some (.slice e)) (hi : P.info? e = some i) (hs : i.size = size)
    (a : Option Addr) (n cap H : Nat) (xs : List Value) (hx : ac.eval x = .slice a n cap) (hown : Own w e size (.slice a n cap) n xs)
    (hlo : Bnd (lo.map ac.eval) 0 0) (hhi : Bnd (hh.map ac.eval) n H) (h2 : H ≤ n)
    (h : wpList P ops Q rest (ac.put o.dst (.slice a H cap)) w) : wpList P ops Q (o :: rest) ac w := by
  refine wpList_plain hgd fun K hK => ?_
  obtain ⟨ao, cap', hv, hn, hc⟩ := hown.form
  simp only [Value.slice.injEq, true_and] at hv
  obtain ⟨rfl, rfl⟩ := hv
  have hr := run_cut (P := P) (w := w) t e i size ht hi hs a n cap 0 H _ _ hlo hhi (Nat.zero_le _) (by omega)
  rw [sliced_front a H cap size hown.spotless] at hr
  unfold Oper.wp execOp
  simp only [ho, hx, Sem.run_bind, Sem.run_pure, Option.map_none, hr, Result.andThen_ok]
  exact hK _ _ h

theorem Rd.front {size n cap H : Nat} {a : Option Addr} {xs : List Value} (h : Rd w size (.slice a n cap) n xs) (hH : H ≤ n) : Rd w size (.slice a H cap) H (xs.take (H * size)) := by
  obtain ⟨h1, ao, cap', hv, h2, h3, h4, h5⟩ := h
  simp only [Value.slice.injEq, true_and] at hv
  obtain ⟨rfl, rfl⟩ := hv
  have hle : H * size ≤ n * size := Nat.mul_le_mul_right _ hH
  refine ⟨by rw [List.length_take, h1]; omega, a, cap, rfl, by omega, h3, h4, ?_⟩
  rcases h5 with h5 | ⟨b, off, ha, hc⟩
  · exact .inl (by omega)
  · refine .inr ⟨b, off, ha, fun j u hu => ?_⟩
    rw [List.getElem?_take] at hu
    split at hu
    · exact hc j u hu
    · cases hu

theorem Own.le {e : TypeId} {size n cap : Nat} {a : Option Addr} {xs : List Value} (h : Own w e size (.slice a n cap) n xs) : n ≤ cap := by
  obtain ⟨ao, cap', hv, hn, _⟩ := h.form
  simp only [Value.slice.injEq, true_and] at hv
  rw [hv.2]; exact hn

theorem Rd.drewTo {w1 : World} {size n k : Nat} {v : Value} {xs : List Value} (h : Rd w size v n xs) (e : w1 = w.drewN k) : Rd w1 size v n xs := by rw [e]; exact h

/-! ### clear -/
theorem run_clear_own (t ty e : TypeId) (i : TypeInfo) (z : Value) (size : Nat) (ht : P.underlying t = some (.slice e)) (hi : P.info? e = some i) (hz : i.zero = some z) (hzs : z.cells.size = size) (h1 : ∀ u ∈ z.cells.toList, u.oneCell' = true)
    (a : Option Addr) (n cap H : Nat) (xs : List Value) (hown : Own w e size (.slice a n cap) n xs) (hH : H ≤ n) :
    ∃ w' zs, (Builtin.clear_ #[t] ty #[.slice a H cap]).run P w = .ok (.tuple #[]) w' ∧ Own w' e size (.slice a n cap) n (zs ++ xs.drop (H * size)) ∧ Mod w w' (fun k => Value.ownBlock (.slice a n cap) = some k) ∧ zs.length = H * size := by
  rcases hown.2 with ⟨hv, h0⟩ | ⟨g, off, cap', cur, hv, hg, hn, hc, hs, hx⟩
  · simp only [Value.slice.injEq] at hv
    obtain ⟨rfl, rfl, rfl⟩ := hv
    obtain rfl : H = 0 := by omega
    refine ⟨w, [], ?_, by simpa using hown, Mod.refl _ _, by simp⟩
    simp [Builtin.clear_, run_underlying ht]
  · simp only [Value.slice.injEq, true_and] at hv
    obtain ⟨rfl, rfl⟩ := hv
    by_cases h0 : H = 0
    · subst h0
      refine ⟨w, [], ?_, by simpa using hown, Mod.refl _ _, by simp⟩
      simp [Builtin.clear_, run_underlying ht]
    · have hzl : (Builtin.zeroCells z.cells H).toList.length = H * size := by simp [size_zeroCells, hzs]
      have hle : H * size ≤ n * size := Nat.mul_le_mul_right _ hH
      have hns : n * size ≤ cap * size := Nat.mul_le_mul_right _ hn
      have hone : ∀ v ∈ (Builtin.zeroCells z.cells H).toList, v.oneCell' = true := by
        intro v hv
        simp only [Builtin.zeroCells, Array.toList_map, Array.toList_range, List.mem_map, List.mem_range] at hv
        obtain ⟨j, hj, rfl⟩ := hv
        have hz0 : 0 < z.cells.size := by
          rcases Nat.eq_zero_or_pos z.cells.size with h | h
          · rw [h] at hj; simp at hj
          · exact h
        have hm := Nat.mod_lt j hz0
        rw [getElem!_pos z.cells (j % z.cells.size) hm]
        exact h1 _ (by simp)
      have hst := run_storeCells_at P g off e (Builtin.zeroCells z.cells H).toList 0 cur w hg (by rw [hzl]; omega) hone
      obtain ⟨H1, H2⟩ := Own.splice (w' := w.setRow g (cur.toList.take off ++ (Builtin.zeroCells z.cells H).toList ++ cur.toList.drop (off + (Builtin.zeroCells z.cells H).toList.length)).toArray) hown.1 hg hn hc hs hx (by rw [hzl]; omega) rfl
      refine ⟨_, _, ?_, by rw [← hzl]; exact H1, H2.mono (fun k _ hk => by subst hk; rfl), hzl⟩
      simp [Builtin.clear_, run_underlying ht, zeroValue, typeInfo, hi, hz, hst]

theorem wpList_clear_own {ops : Array Oper} {rest : List Oper} {o : Oper} {ac : Act} {Q : Exit → Act → World → Prop} (hgd : o.guard = none) (x : Operand) (t : TypeId)
    (ho : o.op = .call { callee := .builtin .clear, args := #[x], argTypes := #[t] }) (e : TypeId) (i : TypeInfo) (z : Value) (size : Nat) (ht : P.underlying t = some (.slice e)) (hi : P.info? e = some i) (hz : i.zero = some z) (hzs : z.cells.size = size) (h1 : ∀ u ∈ z.cells.toList, u.oneCell' = true)
    (a : Option Addr) (n cap H : Nat) (xs : List Value) (hx : ac.eval x = .slice a H cap) (hown : Own w e size (.slice a n cap) n xs) (hH : H ≤ n)
    (h : ∀ w' zs, Own w' e size (.slice a n cap) n (zs ++ xs.drop (H * size)) → Mod w w' (fun k => Value.ownBlock (.slice a n cap) = some k) → zs.length = H * size → wpList P ops Q rest (ac.put o.dst (.tuple #[])) w') :
    wpList P ops Q (o :: rest) ac w := by
  refine wpList_plain hgd fun K hK => ?_
  obtain ⟨w', zs, hr, H1, H2, H3⟩ := run_clear_own (P := P) t o.type e i z size ht hi hz hzs h1 a n cap H xs hown hH
  unfold Oper.wp execOp
  simp only [ho, resolve, invoke, builtin, Sem.run_bind, Sem.run_pure, Result.andThen_ok, List.map_toArray, List.map_cons, List.map_nil, hx, hr]
  exact hK _ _ (h w' zs H1 H2 H3)

/-! ### copy -/
theorem run_copy_own (dT sT ty e : TypeId) (i : TypeInfo) (size : Nat) (ht : P.underlying dT = some (.slice e)) (hi : P.info? e = some i) (hs : i.size = size)
    (v : Value) (n m : Nat) (xs ys : List Value) (hown : Own w e size v n xs) (s : Value) (hsrc : Rd w size s m ys) (h1 : ∀ u ∈ ys, u.oneCell' = true) :
    ∃ w', (Builtin.copy_ #[dT, sT] ty #[v, s]).run P w = .ok (goInt ((min m n : Nat) : Int)) w' ∧ Own w' e size v n (ys.take (min m n * size) ++ xs.drop (min m n * size)) ∧ Mod w w' (fun k => v.ownBlock = some k) := by
  obtain ⟨hyl, sa, scap, rfl, hmc, hsm, hs0, hsrd⟩ := hsrc
  obtain ⟨da, cap, rfl, hnc, hcm⟩ := hown.form
  by_cases h0 : min m n = 0
  · refine ⟨w, ?_, by rw [h0]; simpa using hown, Mod.refl _ _⟩
    have hl : ∀ (x : Addr), (loadCells x 0).run P w = .ok #[] w := fun x => by simpa using run_loadCells_list (P := P) w x [] (by simp)
    have h0' : Nat.min m n = 0 := h0
    rw [h0]
    cases da <;> cases sa <;> simp [Builtin.copy_, run_underlying ht, Builtin.lenOf, Builtin.firstCells, sizeOf, typeInfo, hi, h0', storeCells, hl]
  · rcases hown.2 with ⟨hv, hn0⟩ | ⟨g, off, cap', cur, hv, hg, _, _, hcs, hx⟩
    · omega
    simp only [Value.slice.injEq, true_and] at hv
    obtain ⟨rfl, rfl⟩ := hv
    rcases hsrd with hm0 | ⟨b, so, rfl, hc⟩
    · omega
    have hle : min m n * size ≤ m * size := Nat.mul_le_mul_right _ (Nat.min_le_left _ _)
    have hle2 : min m n * size ≤ n * size := Nat.mul_le_mul_right _ (Nat.min_le_right _ _)
    have hns : n * size ≤ cap * size := Nat.mul_le_mul_right _ hnc
    have hcl : (ys.take (min m n * size)).length = min m n * size := by rw [List.length_take, hyl]; omega
    have hl := run_loadCells_list (P := P) w ⟨b, so, none⟩ (ys.take (min m n * size)) (fun j u hu => by
      rw [Addr.add_lit]
      refine hc j u ?_
      rw [List.getElem?_take] at hu
      split at hu
      · exact hu
      · cases hu)
    rw [hcl] at hl
    have hst := run_storeCells_at P g off e (ys.take (min m n * size)) 0 cur w hg (by rw [hcl]; omega) (fun u hu => h1 u (List.mem_of_mem_take hu))
    obtain ⟨H1, H2⟩ := Own.splice (w' := w.setRow g (cur.toList.take off ++ ys.take (min m n * size) ++ cur.toList.drop (off + (ys.take (min m n * size)).length)).toArray) hown.1 hg hnc hcm hcs hx (by rw [hcl]; omega) rfl
    rw [hcl] at H1
    rw [hcl] at H2
    refine ⟨_, ?_, H1, H2.mono (fun k _ hk => by subst hk; rfl)⟩
    have hmin : Nat.min m n = min m n := rfl
    rw [hcl, Nat.add_zero] at hst
    simp [Builtin.copy_, run_underlying ht, Builtin.lenOf, Builtin.firstCells, sizeOf, typeInfo, hi, hs, hmin, hl, hst]
theorem wpList_copy_own' {ops : Array Oper} {rest : List Oper} {o : Oper} {ac : Act} {Q : Exit → Act → World → Prop} (hgd : o.guard = none) (d s : Operand) (dT sT : TypeId)
    (ho : o.op = .call { callee := .builtin .copy, args := #[d, s], argTypes := #[dT, sT] }) (e : TypeId) (i : TypeInfo) (size : Nat) (ht : P.underlying dT = some (.slice e)) (hi : P.info? e = some i) (hs : i.size = size)
    (v y : Value) (n m : Nat) (xs ys : List Value) (hd : ac.eval d = v) (hy : ac.eval s = y) (hown : Own w e size v n xs) (hsrc : Rd w size y m ys) (h1 : ∀ u ∈ ys, u.oneCell' = true)
    (h : ∀ w', Own w' e size v n (ys.take (min m n * size) ++ xs.drop (min m n * size)) → Mod w w' (fun k => v.ownBlock = some k) → wpList P ops Q rest (ac.put o.dst (goInt ((min m n : Nat) : Int))) w') :
    wpList P ops Q (o :: rest) ac w := by
  refine wpList_plain hgd fun K hK => ?_
  obtain ⟨w', hr, H1, H2⟩ := run_copy_own (P := P) dT sT o.type e i size ht hi hs v n m xs ys hown y hsrc h1
  unfold Oper.wp execOp
  simp only [ho, resolve, invoke, builtin, Sem.run_bind, Sem.run_pure, Result.andThen_ok, List.map_toArray, List.map_cons, List.map_nil, hd, hy, hr]
  exact hK _ _ (h w' H1 H2)

/-! ### make -/
theorem wpList_make_own {ops : Array Oper} {rest : List Oper} {o : Oper} {ac : Act} {Q : Exit → Act → World → Prop} (hgd : o.guard = none) (t : TypeId) (x y : Operand)
    (ho : o.op = .makeSlice t x y) (e : TypeId) (i : TypeInfo) (z : Value) (size : Nat) (ht : P.underlying t = some (.slice e)) (hi : P.info? e = some i) (hz : i.zero = some z) (hs : i.size = size)
    (k : IntKind) (n : Nat) (hx : ac.eval x = .int k (n : Int)) (hy : ac.eval y = .int k (n : Int)) (hb : i.bytes * n ≤ 281474976710656) (hn : n ≤ maxLen)
    (h : ∀ v w' zs, Own w' e size v n zs → Mod w w' (fun _ => False) → (∀ k, v.ownBlock = some k → w.heap.size ≤ k) → v = .slice (some ⟨w.heap.size, 0, none⟩) n n → zs = (madeCells z.cells (n * size)).toList → wpList P ops Q rest (ac.put o.dst v) w') :
    wpList P ops Q (o :: rest) ac w := by
  refine wpList_plain hgd fun K hK => ?_
  obtain ⟨w', hr, H1, H2⟩ := run_make_full (P := P) w w.heap.size t e i z size ht hi hz hs k k n hb hn (Nat.le_refl _)
  unfold Oper.wp execOp
  simp only [ho, hx, hy, Sem.run_bind, Sem.run_pure, hr, Result.andThen_ok]
  exact hK _ _ (h _ w' _ (Own.of_row H1) ((Mod.refl w _).grown H2 (fun k hk => by cases hk)) (fun k hk => by simp [Value.ownBlock] at hk; omega) rfl rfl)
end
end Go.Proofs.YthibpnkdhbkakaaGreatDoor
