/-
  Things that a call holds, put together: two side by side as one ('andT'), one of a family ('exT'), a fact beside a thing ('factT'). No program is named here.
-/
import Derived.Test.YtbkbkmgogbgofaaDoorZh03
import Derived.WalkSpells
import Derived.Test.YtbkbkmgogbgofaaDoorZh02
import Derived.Test.YtbkbkmgogbgofaaDoorZh01
import Derived.Laws.CopyRow
import Derived.Laws.OwnMore
namespace Go.Proofs.YtbkbkmgogbgofaaDoor
set_option maxRecDepth 5000
open Go.RowKit
def andT (R1 R2 : Thing) : Thing where
  res := fun w F => ∃ F1 F2 : Nat → Prop, R1.res w F1 ∧ R2.res w F2 ∧ (∀ k, F1 k → ¬ F2 k) ∧ ∀ k, F k ↔ F1 k ∨ F2 k
  loc := fun w w' _ S ⟨F1, F2, h1, h2, hd, hF⟩ hm hS =>
    ⟨F1, F2, R1.loc w w' F1 S h1 hm fun k hk => hS k ((hF k).2 (.inl hk)), R2.loc w w' F2 S h2 hm fun k hk => hS k ((hF k).2 (.inr hk)), hd, hF⟩
def exT {α : Type} (R : α → Thing) : Thing where
  res := fun w F => ∃ a, (R a).res w F
  loc := fun w w' F S ⟨a, h⟩ hm hS => ⟨a, (R a).loc w w' F S h hm hS⟩
def factT (p : Prop) (R : Thing) : Thing where
  res := fun w F => p ∧ R.res w F
  loc := fun w w' F S ⟨hp, h⟩ hm hS => ⟨hp, R.loc w w' F S h hm hS⟩
theorem Held.unpair {w0 w : World} {R1 R2 : Thing} {Rs : List Thing} (h : Held w0 w (andT R1 R2 :: Rs)) : Held w0 w (R1 :: R2 :: Rs) := by
  obtain ⟨F, ⟨F1, F2, h1, h2, hd, hF⟩, h3, h4⟩ := h
  refine ⟨F1, h1, fun k hk => h3 k ((hF k).2 (.inl hk)), F2, h2, fun k hk => ⟨(h3 k ((hF k).2 (.inr hk))).1, (h3 k ((hF k).2 (.inr hk))).2.1, ?_⟩, h4.less fun k hk => ?_⟩
  · rintro (hu | hu)
    · exact hu
    · exact hd k hu hk
  · rcases hk with (hk | hk) | hk
    · exact .inl hk
    · exact .inr ((hF k).2 (.inl hk))
    · exact .inr ((hF k).2 (.inr hk))
theorem Held.pair {w0 w : World} {R1 R2 : Thing} {Rs : List Thing} (h : Held w0 w (R1 :: R2 :: Rs)) : Held w0 w (andT R1 R2 :: Rs) := by
  obtain ⟨F1, h1, h2, F2, h3, h4, h5⟩ := h
  refine ⟨fun k => F1 k ∨ F2 k, ⟨F1, F2, h1, h3, fun k hk hk2 => (h4 k hk2).2.2 (.inr hk), fun _ => Iff.rfl⟩, fun k hk => ?_, h5.less fun k hk => ?_⟩
  · rcases hk with hk | hk
    · exact h2 k hk
    · exact ⟨(h4 k hk).1, (h4 k hk).2.1, fun hu => hu⟩
  · rcases hk with hk | hk | hk
    · exact .inl (.inl hk)
    · exact .inl (.inr hk)
    · exact .inr hk
theorem Held.ex {w0 w : World} {α : Type} {R : α → Thing} {Rs : List Thing} (h : Held w0 w (exT R :: Rs)) : ∃ a, Held w0 w (R a :: Rs) := by
  obtain ⟨F, ⟨a, h1⟩, h2, h3⟩ := h
  exact ⟨a, F, h1, h2, h3⟩
theorem Held.mk {w0 w : World} {α : Type} {R : α → Thing} {Rs : List Thing} (a : α) (h : Held w0 w (R a :: Rs)) : Held w0 w (exT R :: Rs) := by
  obtain ⟨F, h1, h2, h3⟩ := h
  exact ⟨F, ⟨a, h1⟩, h2, h3⟩
theorem Held.fact {w0 w : World} {p : Prop} {R : Thing} {Rs : List Thing} (h : Held w0 w (factT p R :: Rs)) : p ∧ Held w0 w (R :: Rs) := by
  obtain ⟨F, ⟨hp, h1⟩, h2, h3⟩ := h
  exact ⟨hp, F, h1, h2, h3⟩
theorem Held.mkFact {w0 w : World} {p : Prop} {R : Thing} {Rs : List Thing} (hp : p) (h : Held w0 w (R :: Rs)) : Held w0 w (factT p R :: Rs) := by
  obtain ⟨F, h1, h2, h3⟩ := h
  exact ⟨F, ⟨hp, h1⟩, h2, h3⟩
theorem Held.apart {w0 w : World} {B : Nat} {cs : List Value} {T e : TypeId} {size n : Nat} {v : Value} {xs : List Value} {Rs : List Thing} (h : Held w0 w (objT B cs T :: ownT e size v n xs :: Rs)) : v.ownBlock ≠ some B := by
  obtain ⟨F, ⟨_, h1⟩, h2, F2, ⟨_, h3⟩, h4, _⟩ := h
  intro e
  exact (h4 B ((h3 B).2 e)).2.2 (.inr ((h1 B).2 rfl))
end Go.Proofs.YtbkbkmgogbgofaaDoor
/-
  Which tokens are sound: the program's and the reference's.
-/
namespace Go.Proofs.YtbkbkmgogbgofaaDoor
set_option maxRecDepth 5000
open Go.RowKit
abbrev Tok := Int × Int × Int
end Go.Proofs.YtbkbkmgogbgofaaDoor
/-
  Copies of earlier bytes. No program is named here.
-/
namespace Go.Proofs.YtbkbkmgogbgofaaDoor
set_option maxRecDepth 5000
def ext (l : List Nat) (d : Nat) : Nat → List Nat
  | 0 => l
  | n + 1 => ext l d n ++ [(ext l d n)[l.length + n - d]?.getD 0]
theorem ext_length (l : List Nat) (d : Nat) : ∀ n, (ext l d n).length = l.length + n
  | 0 => rfl
  | n + 1 => by rw [ext, List.length_append, ext_length l d n]; rfl
def out (l : List Nat) (d n : Nat) : List Nat := (ext l d n).drop l.length
theorem out_length (l : List Nat) (d n : Nat) : (out l d n).length = n := by rw [out, List.length_drop, ext_length]; omega
theorem ext_out (l : List Nat) (d : Nat) : ∀ n, ext l d n = l ++ out l d n
  | 0 => by simp [ext, out]
  | n + 1 => by
    have ih := ext_out l d n
    rw [out, ext, List.drop_append_of_le_length (by rw [ext_length]; omega)]
    show ext l d n ++ _ = l ++ (out l d n ++ _)
    rw [← List.append_assoc, ← ih]
theorem ext_lt (l : List Nat) (d : Nat) (h : ∀ b ∈ l, b < 256) : ∀ n, ∀ b ∈ ext l d n, b < 256
  | 0 => h
  | n + 1 => fun b hb => by
    have ih := ext_lt l d h n
    rcases List.mem_append.1 hb with hb | hb
    · exact ih b hb
    · rw [List.mem_singleton.1 hb]
      cases e : (ext l d n)[l.length + n - d]? with
      | none => decide
      | some x => exact ih x (List.mem_of_getElem? e)
end Go.Proofs.YtbkbkmgogbgofaaDoor
/-
  Lists of tokens in memory, and what they expand to.
-/
namespace Go.Proofs.YtbkbkmgogbgofaaDoor
set_option maxRecDepth 5000
open Go.RowKit
/-! ### What they expand to -/
def most : Nat := 16777216
end Go.Proofs.YtbkbkmgogbgofaaDoor
/-
  What bytes mean as a stream: a model of reading, on bits. No program is named here.
-/
namespace Go.Proofs.YtbkbkmgogbgofaaDoor
set_option maxRecDepth 5000
def takeM (bs : List Nat) (a n : Nat) : Option Nat := if a + n ≤ bs.length then some (numOf ((bs.drop a).take n)) else none
noncomputable def symF (l : List Int) (r : List Nat) : Nat × Nat × Nat :=
  haveI := Classical.propDecidable (∃ p : Nat × Nat, Hit l r p.1 p.2)
  if h : ∃ p : Nat × Nat, Hit l r p.1 p.2 then ((Classical.choose h).1, (Classical.choose h).2, 0) else (0, 0, if r.length < lng l ∨ r = [] then 5 else 3)
theorem symF_is (l : List Int) (r : List Nat) : ReadIs l r (symF l r).1 (symF l r).2.1 (symF l r).2.2 := by
  unfold symF
  by_cases h : ∃ p : Nat × Nat, Hit l r p.1 p.2
  · rw [dif_pos h]
    exact .inl ⟨rfl, Classical.choose_spec h⟩
  · rw [dif_neg h]
    exact .inr ⟨rfl, rfl, fun i m hh => h ⟨(i, m), hh⟩, rfl⟩
theorem symF_of {l : List Int} {r : List Nat} {k n e : Nat} (hb : isBits r) (hl : ∀ a ∈ l, 0 ≤ a ∧ a ≤ 15) (h : ReadIs l r k n e) : symF l r = (k, n, e) := by
  obtain ⟨h1, h2, h3⟩ := (symF_is l r).one hb hl h
  rw [← h1, ← h2, ← h3]
theorem symF_hit {l : List Int} {r : List Nat} (h : (symF l r).2.2 = 0) : Hit l r (symF l r).1 (symF l r).2.1 := by
  rcases symF_is l r with ⟨_, hh⟩ | ⟨_, _, _, he⟩
  · exact hh
  · rw [h] at he
    split at he <;> cases he
end Go.Proofs.YtbkbkmgogbgofaaDoor
/-
  Builtins over slices that the call owns: a cut at the front, clear, copy, make. No program is named here.
-/
namespace Go.Proofs.YtbkbkmgogbgofaaDoor
set_option maxRecDepth 5000
open Go.RowKit
/-! ### The first cells of an own slice, stored anew -/
theorem Own.splice {w w' : World} {e : TypeId} {size n cap g off : Nat} {xs vs : List Value} {cur : Array Value} (hl : xs.length = n * size) (hg : w.heap[g]? = some (.cells cur e (0, 0))) (hn : n ≤ cap) (hc : cap ≤ maxLen) (hs : off + cap * size ≤ cur.size)
    (hx : ∀ j u, xs[j]? = some u → cur[off + j]? = some u) (hv : vs.length ≤ n * size)
    (h' : w' = w.setRow g (cur.toList.take off ++ vs ++ cur.toList.drop (off + vs.length)).toArray) :
    Own w' e size (.slice (some ⟨g, off, none⟩) n cap) n (vs ++ xs.drop vs.length) ∧ Mod w w' (fun k => k = g) := by
  subst h'
  have hns : n * size ≤ cap * size := Nat.mul_le_mul_right _ hn
  refine ⟨⟨by rw [List.length_append, List.length_drop, hl]; omega, .inr ⟨g, off, cap, _, rfl, setRow_heap w g cur _ e _ hg, hn, hc, ?_, fun j u hu => ?_⟩⟩, ⟨rfl, rfl, rfl, by simp [World.setRow], fun k _ hk => setRow_other w g k _ hk⟩⟩
  · simp; omega
  · have ht : (cur.toList.take off).length = off := by simp; omega
    simp only [List.getElem?_toArray]
    rw [List.append_assoc, List.getElem?_append_right (by omega), ht, Nat.add_sub_cancel_left]
    by_cases hj : j < vs.length
    · rw [List.getElem?_append_left hj] at hu ⊢
      exact hu
    · rw [List.getElem?_append_right (by omega)] at hu ⊢
      rw [List.getElem?_drop] at hu ⊢
      rw [Array.getElem?_toList, show off + vs.length + (j - vs.length) = off + (vs.length + (j - vs.length)) by omega]
      exact hx _ u hu
section
variable {P : Program} {w : World}
/-! ### Cut at the front -/
theorem sliced_front (a : Option Addr) (H cap size : Nat) (ha : ∀ x, a = some x → x.spot = none) : sliced a 0 H cap size = .slice a H cap := by
  unfold sliced
  cases a with
  | none => simp
  | some x =>
    obtain ⟨b, o, s⟩ := x
    obtain rfl : s = none := ha _ rfl
    simp [Addr.add]
theorem Own.spotless {e : TypeId} {size n n' cap : Nat} {a : Option Addr} {xs : List Value} (h : Own w e size (.slice a n cap) n' xs) : ∀ x, a = some x → x.spot = none := by
  rintro x rfl
  rcases h.2 with ⟨hv, _⟩ | ⟨g, off, cap', cur, hv, _⟩
  · simp at hv
  · simp only [Value.slice.injEq, Option.some.injEq] at hv
    rw [hv.1]
theorem Rd.front {size n cap H : Nat} {a : Option Addr} {xs : List Value} (h : Rd w size (.slice a n cap) n xs) (hH : H ≤ n) : Rd w size (.slice a H cap) H (xs.take (H * size)) := by
  obtain ⟨h1, ao, cap', hv, h2, h3, h4, h5⟩ := h
  simp only [Value.slice.injEq, true_and] at hv
  obtain ⟨rfl, rfl⟩ := hv
  have hle : H * size ≤ n * size := Nat.mul_le_mul_right _ hH
  refine ⟨by rw [List.length_take, h1]; omega, a, cap, rfl, by omega, h3, h4, ?_⟩
  rcases h5 with h5 | ⟨b, off, ha, hc⟩
  · exact .inl (by omega)
  · refine .inr ⟨b, off, ha, fun j u hu => ?_⟩
    rw [List.getElem?_take] at hu
    split at hu
    · exact hc j u hu
    · cases hu
/-! ### clear -/
/-! ### copy -/
theorem run_copy_own (dT sT ty e : TypeId) (i : TypeInfo) (size : Nat) (ht : P.underlying dT = some (.slice e)) (hi : P.info? e = some i) (hs : i.size = size)
    (v : Value) (n m : Nat) (xs ys : List Value) (hown : Own w e size v n xs) (s : Value) (hsrc : Rd w size s m ys) (h1 : ∀ u ∈ ys, u.oneCell' = true) :
    ∃ w', (Builtin.copy_ #[dT, sT] ty #[v, s]).run P w = .ok (goInt ((min m n : Nat) : Int)) w' ∧ Own w' e size v n (ys.take (min m n * size) ++ xs.drop (min m n * size)) ∧ Mod w w' (fun k => v.ownBlock = some k) := by
  obtain ⟨hyl, sa, scap, rfl, hmc, hsm, hs0, hsrd⟩ := hsrc
  obtain ⟨da, cap, rfl, hnc, hcm⟩ := hown.form
  by_cases h0 : min m n = 0
  · refine ⟨w, ?_, by rw [h0]; simpa using hown, Mod.refl _ _⟩
    have hl : ∀ (x : Addr), (loadCells x 0).run P w = .ok #[] w := fun x => by simpa using run_loadCells_list (P := P) w x [] (by simp)
    have h0' : Nat.min m n = 0 := h0
    rw [h0]
    cases da <;> cases sa <;> simp [Builtin.copy_, run_underlying ht, Builtin.lenOf, Builtin.firstCells, sizeOf, typeInfo, hi, h0', storeCells, hl]
  · rcases hown.2 with ⟨hv, hn0⟩ | ⟨g, off, cap', cur, hv, hg, _, _, hcs, hx⟩
    · omega
    simp only [Value.slice.injEq, true_and] at hv
    obtain ⟨rfl, rfl⟩ := hv
    rcases hsrd with hm0 | ⟨b, so, rfl, hc⟩
    · omega
    have hle : min m n * size ≤ m * size := Nat.mul_le_mul_right _ (Nat.min_le_left _ _)
    have hle2 : min m n * size ≤ n * size := Nat.mul_le_mul_right _ (Nat.min_le_right _ _)
    have hns : n * size ≤ cap * size := Nat.mul_le_mul_right _ hnc
    have hcl : (ys.take (min m n * size)).length = min m n * size := by rw [List.length_take, hyl]; omega
    have hl := run_loadCells_list (P := P) w ⟨b, so, none⟩ (ys.take (min m n * size)) (fun j u hu => by
      rw [Addr.add_lit]
      refine hc j u ?_
      rw [List.getElem?_take] at hu
      split at hu
      · exact hu
      · cases hu)
    rw [hcl] at hl
    have hst := run_storeCells_at P g off e (ys.take (min m n * size)) 0 cur w hg (by rw [hcl]; omega) (fun u hu => h1 u (List.mem_of_mem_take hu))
    obtain ⟨H1, H2⟩ := Own.splice (w' := w.setRow g (cur.toList.take off ++ ys.take (min m n * size) ++ cur.toList.drop (off + (ys.take (min m n * size)).length)).toArray) hown.1 hg hnc hcm hcs hx (by rw [hcl]; omega) rfl
    rw [hcl] at H1
    rw [hcl] at H2
    refine ⟨_, ?_, H1, H2.mono (fun k _ hk => by subst hk; rfl)⟩
    have hmin : Nat.min m n = min m n := rfl
    rw [hcl, Nat.add_zero] at hst
    simp [Builtin.copy_, run_underlying ht, Builtin.lenOf, Builtin.firstCells, sizeOf, typeInfo, hi, hs, hmin, hl, hst]
theorem wpList_copy_own' {ops : Array Oper} {rest : List Oper} {o : Oper} {ac : Act} {Q : Exit → Act → World → Prop} (hgd : o.guard = none) (d s : Operand) (dT sT : TypeId)
    (ho : o.op = .call { callee := .builtin .copy, args := #[d, s], argTypes := #[dT, sT] }) (e : TypeId) (i : TypeInfo) (size : Nat) (ht : P.underlying dT = some (.slice e)) (hi : P.info? e = some i) (hs : i.size = size)
    (v y : Value) (n m : Nat) (xs ys : List Value) (hd : ac.eval d = v) (hy : ac.eval s = y) (hown : Own w e size v n xs) (hsrc : Rd w size y m ys) (h1 : ∀ u ∈ ys, u.oneCell' = true)
    (h : ∀ w', Own w' e size v n (ys.take (min m n * size) ++ xs.drop (min m n * size)) → Mod w w' (fun k => v.ownBlock = some k) → wpList P ops Q rest (ac.put o.dst (goInt ((min m n : Nat) : Int))) w') :
    wpList P ops Q (o :: rest) ac w := by
  refine wpList_plain hgd fun K hK => ?_
  obtain ⟨w', hr, H1, H2⟩ := run_copy_own (P := P) dT sT o.type e i size ht hi hs v n m xs ys hown y hsrc h1
  unfold Oper.wp execOp
  simp only [ho, resolve, invoke, builtin, Sem.run_bind, Sem.run_pure, Result.andThen_ok, List.map_toArray, List.map_cons, List.map_nil, hd, hy, hr]
  exact hK _ _ (h w' H1 H2)
/-! ### make -/
theorem wpList_make_own {ops : Array Oper} {rest : List Oper} {o : Oper} {ac : Act} {Q : Exit → Act → World → Prop} (hgd : o.guard = none) (t : TypeId) (x y : Operand)
    (ho : o.op = .makeSlice t x y) (e : TypeId) (i : TypeInfo) (z : Value) (size : Nat) (ht : P.underlying t = some (.slice e)) (hi : P.info? e = some i) (hz : i.zero = some z) (hs : i.size = size)
    (k : IntKind) (n : Nat) (hx : ac.eval x = .int k (n : Int)) (hy : ac.eval y = .int k (n : Int)) (hb : i.bytes * n ≤ 281474976710656) (hn : n ≤ maxLen)
    (h : ∀ v w' zs, Own w' e size v n zs → Mod w w' (fun _ => False) → (∀ k, v.ownBlock = some k → w.heap.size ≤ k) → v = .slice (some ⟨w.heap.size, 0, none⟩) n n → zs = (madeCells z.cells (n * size)).toList → wpList P ops Q rest (ac.put o.dst v) w') :
    wpList P ops Q (o :: rest) ac w := by
  refine wpList_plain hgd fun K hK => ?_
  obtain ⟨w', hr, H1, H2⟩ := run_make_full (P := P) w w.heap.size t e i z size ht hi hz hs k k n hb hn (Nat.le_refl _)
  unfold Oper.wp execOp
  simp only [ho, hx, hy, Sem.run_bind, Sem.run_pure, hr, Result.andThen_ok]
  exact hK _ _ (h _ w' _ (Own.of_row H1) ((Mod.refl w _).grown H2 (fun k hk => by cases hk)) (fun k hk => by simp [Value.ownBlock] at hk; omega) rfl rfl)
end
end Go.Proofs.YtbkbkmgogbgofaaDoor
/-
  A store into a slice that the call has made. No program is named here.
-/
namespace Go.Proofs.YtbkbkmgogbgofaaDoor
set_option maxRecDepth 5000
open Go.RowKit
theorem Own.site {w : World} {e : TypeId} {ao : Option Addr} {cap n : Nat} {xs : List Value} (h : Own w e 1 (.slice ao n cap) n xs) (hn : 0 < n) :
    ∃ g off, ao = some ⟨g, off, none⟩ ∧ (∀ j u, xs[j]? = some u → w.cell? ⟨g, off + j, none⟩ = some u) ∧ (∀ j, w.frozen? ⟨g, off + j, none⟩ = false) ∧
      ∀ j u, j < n → Own (w.setCell ⟨g, off + j, none⟩ u) e 1 (.slice ao n cap) n (xs.set j u) := by
  rcases h.2 with ⟨hv, h0⟩ | ⟨g, off, cap', cur, hv, hg, hnc, hc, hsz, hcur⟩
  · omega
  · simp only [Value.slice.injEq, true_and] at hv
    obtain ⟨rfl, rfl⟩ := hv
    refine ⟨g, off, rfl, fun j u hu => by rw [cell_of_row w g _ cur e (0, 0) hg]; exact hcur j u hu, fun j => frozen_of_row w g _ cur e hg, fun j u hj => ?_⟩
    refine ⟨by rw [List.length_set]; exact h.1, .inr ⟨g, off, cap, cur.setIfInBounds (off + j) u, rfl, heap_setCell_same w g (off + j) cur e u hg, hnc, hc, by simpa using hsz, fun i v hv => ?_⟩⟩
    have hl := h.1
    rw [Array.getElem?_setIfInBounds]
    by_cases hij : j = i
    · subst hij
      rw [List.getElem?_set_self (by omega)] at hv
      rw [if_pos rfl, if_pos (by omega)]
      exact hv
    · rw [List.getElem?_set_ne hij] at hv
      rw [if_neg (by omega)]
      exact hcur i v hv
theorem Held.putOwn {w0 w w' : World} {e : TypeId} {size : Nat} {g off n cap : Nat} {xs xs' : List Value} {Rs : List Thing} (h : Held w0 w (ownT e size (.slice (some ⟨g, off, none⟩) n cap) n xs :: Rs))
    (hown : Own w' e size (.slice (some ⟨g, off, none⟩) n cap) n xs') (hm : Mod w w' (fun k => k = g)) : Held w0 w' (ownT e size (.slice (some ⟨g, off, none⟩) n cap) n xs' :: Rs) := by
  obtain ⟨F, h1, h2, back⟩ := h.take
  refine back w' _ F ⟨hown, h1.2⟩ (hm.mono fun k _ hk => (h1.2 k).2 (by subst hk; rfl)) (fun k hk => .inl hk) (fun k hk => Nat.lt_of_lt_of_le (h2 k hk).2 hm.size)
theorem Mod.set (w : World) (g j : Nat) (u : Value) : Mod w (w.setCell ⟨g, j, none⟩ u) (fun k => k = g) :=
  Mod.setCell (S := fun k => k = g) (Mod.refl w _) (p := ⟨g, j, none⟩) (.inr rfl) u
end Go.Proofs.YtbkbkmgogbgofaaDoor
/-
  Whole numbers as the elements of a slice, and small laws of lists and sums. No program is named here.
-/
namespace Go.Proofs.YtbkbkmgogbgofaaDoor
set_option maxRecDepth 5000
open Go.RowKit
theorem ret_int {k : IntKind} {a b : Int} (h : a = b) : Ending.returned (.int k a) = .returned (.int k b) := by rw [h]
def ints (l : List Int) : List Value := l.map fun n => Value.int .i64 n
theorem ints_length (l : List Int) : (ints l).length = l.length := by simp [ints]
theorem ints_get (l : List Int) (j : Nat) : (ints l)[j]? = (l[j]?).map fun n => Value.int .i64 n := by simp [ints]
theorem ints_one (l : List Int) : ∀ u ∈ ints l, u.oneCell' = true := by
  intro u hu
  obtain ⟨_, _, rfl⟩ := List.mem_map.1 hu
  rfl
theorem ints_append (l m : List Int) : ints (l ++ m) = ints l ++ ints m := by simp [ints]
theorem take_snoc3 (l : List Int) (i : Nat) (a : Int) (h : l[i]? = some a) : l.take (i + 1) = l.take i ++ [a] := by rw [List.take_add_one, h]; rfl
theorem two_pow_int (c : Nat) : ((2 : Int) ^ c) = ((2 ^ c : Nat) : Int) := by simp
theorem allIn_snoc (l : List Int) (a most : Int) : allIn (l ++ [a]) most = (allIn l most && decide (0 ≤ a ∧ a ≤ most)) := by simp [allIn]
theorem allIn_take (l : List Int) (i : Nat) (most : Int) (h : allIn (l.take i) most = false) : allIn l most = false := by
  rw [← List.take_append_drop i l]
  unfold allIn at *
  rw [List.all_append, h]; rfl
theorem wrapEq (x : Int) : IntKind.i64.wrap x = wrap64 x := by rw [IntKind.wrap_i64]; unfold wrap64; rfl
theorem wrap_nat (z : Nat) (h : z < 9223372036854775808) : IntKind.i64.wrap (z : Int) = (z : Int) := by rw [wrapEq]; unfold wrap64; omega
end Go.Proofs.YtbkbkmgogbgofaaDoor
/-
  Arrays of numbers: as values, as variables that the call has made; the laws of their making, loading, storing whole and indexing. No program is named here.
-/
namespace Go.Proofs.YtbkbkmgogbgofaaDoor
set_option maxRecDepth 5000
open Go.RowKit
def arrV (k : IntKind) (l : List Nat) : Value := .agg (nums k l).toArray
theorem nums_one (k : IntKind) (l : List Nat) : ∀ u ∈ nums k l, u.oneCell' = true := by
  intro u hu
  obtain ⟨_, _, rfl⟩ := List.mem_map.1 hu
  rfl
theorem nums_set (k : IntKind) (l : List Nat) (i b : Nat) : (nums k l).set i (.int k (b : Int)) = nums k (l.set i b) := by
  simp [nums, List.map_set]
theorem nums_replicate (k : IntKind) (n b : Nat) : nums k (List.replicate n b) = List.replicate n (.int k (b : Int)) := by simp [nums]
def isArr (d : TypeDesc) : Bool := match d with | .struct _ | .array _ _ => true | _ => false
section
variable {P : Program} {w : World}
theorem run_index_arr (t e len : Nat) (d : TypeDesc) (i : TypeInfo) (ht : P.underlying t = some (.array len e)) (he : P.underlying e = some d) (hd : isArr d = false) (hi : P.info? e = some i) (hs : i.size = 1)
    (cs : Array Value) (k : IntKind) (j : Nat) (v : Value) (hj : j < len) (hv : cs[j]? = some v) :
    (Instr.index t (.agg cs) (.int k (j : Int))).run P w = .ok v w := by
  have hagg : (isAgg e).run P w = .ok false w := by
    unfold isAgg
    rw [Sem.run_bind, run_underlying he w]
    cases d <;> simp_all [isArr]
  have h2 : (0 : Int) ≤ (j : Int) ∧ (j : Int) < (len : Int) := by omega
  simp [Instr.index, asIntOf, run_underlying ht, h2, sizeOf, typeInfo, hi, hs, part, hagg, hv]
  intro h; omega
theorem wpList_index_arr {ops : Array Oper} {rest : List Oper} {o : Oper} {ac : Act} {Q : Exit → Act → World → Prop} (hgd : o.guard = none) (t : TypeId) (x y : Operand) (ho : o.op = .index t x y)
    (e len : Nat) (d : TypeDesc) (ht : P.underlying t = some (.array len e)) (he : P.underlying e = some d) (hd : isArr d = false) (hi : (P.info? e).map (·.size) = some 1)
    (k : IntKind) (l : List Nat) (k2 : IntKind) (j b : Nat) (hx : ac.eval x = arrV k l) (hy : ac.eval y = .int k2 (j : Int)) (hj : j < len) (hb : l[j]? = some b)
    (h : wpList P ops Q rest (ac.put o.dst (.int k (b : Int))) w) : wpList P ops Q (o :: rest) ac w :=
  wpList_plain hgd fun _ hK => by
    obtain ⟨i, hi1, hi2⟩ : ∃ i, P.info? e = some i ∧ i.size = 1 := by
      cases hq : P.info? e with
      | none => simp [hq] at hi
      | some i => exact ⟨i, rfl, by simpa [hq] using hi⟩
    have hr := run_index_arr (P := P) (w := w) t e len d i ht he hd hi1 hi2 (nums k l).toArray k2 j (.int k (b : Int)) hj (by simp [nums, hb])
    unfold Oper.wp execOp
    simp only [ho, hx, hy, Sem.run_bind, Sem.run_pure, arrV, hr, Result.andThen_ok]
    exact hK _ _ h
theorem wpList_alloc_arr {ops : Array Oper} {rest : List Oper} {o : Oper} {ac : Act} {Q : Exit → Act → World → Prop} (hgd : o.guard = none) (t : TypeId) (ho : o.op = .alloc t)
    (k : IntKind) (l : List Nat) (hz : (P.info? t).map (·.zero) = some (some (arrV k l)))
    (h : wpList P ops Q rest (ac.put o.dst (.pointer (some ⟨w.heap.size, 0, none⟩))) (w.alloc (.cells (nums k l).toArray t))) : wpList P ops Q (o :: rest) ac w :=
  wpList_plain hgd fun _ hK => by
    cases hq : P.info? t with
    | none => simp [hq] at hz
    | some i =>
      have hi : i.zero = some (arrV k l) := by simpa [hq] using hz
      unfold Oper.wp execOp
      simp only [ho, Instr.alloc, zeroValue, typeInfo, Sem.run_bind, Sem.run_pure]
      simp [hq, hi, newVar, newRow, arrV, Value.cells, newObj]
      exact hK _ _ h
theorem wpList_box_arr {ops : Array Oper} {rest : List Oper} {o : Oper} {ac : Act} {Q : Exit → Act → World → Prop} (hgd : o.guard = none) (t : TypeId) (x : Operand) (ho : o.op = .box t x)
    (k : IntKind) (l : List Nat) (hx : ac.eval x = arrV k l)
    (h : wpList P ops Q rest (ac.put o.dst (.pointer (some ⟨w.heap.size, 0, none⟩))) (w.alloc (.cells (nums k l).toArray t))) : wpList P ops Q (o :: rest) ac w :=
  wpList_plain hgd fun _ hK => by
    unfold Oper.wp execOp
    simp only [ho, hx, Instr.box, Sem.run_bind, Sem.run_pure]
    simp [newVar, newRow, arrV, Value.cells, newObj]
    exact hK _ _ h
theorem wpList_load_arr {ops : Array Oper} {rest : List Oper} {o : Oper} {ac : Act} {Q : Exit → Act → World → Prop} (hgd : o.guard = none) (t : TypeId) (x : Operand) (ho : o.op = .load t x)
    (d : TypeDesc) (n : Nat) (ht : P.underlying t = some d) (hd : isArr d = true) (hi : (P.info? t).map (·.size) = some n)
    (B : Nat) (k : IntKind) (l : List Nat) (T : TypeId) (hx : ac.eval x = .pointer (some ⟨B, 0, none⟩)) (hl : l.length = n) (hB : Blk w B (nums k l) T)
    (h : wpList P ops Q rest (ac.put o.dst (arrV k l)) w) : wpList P ops Q (o :: rest) ac w :=
  wpList_load_row hgd t x ho B hx T (nums k l).toArray (0, 0) d hB ht (by cases d <;> simp_all [isArr]) (by rw [hi]; simp [nums, hl]) h
theorem wpList_store_arr {ops : Array Oper} {rest : List Oper} {o : Oper} {ac : Act} {Q : Exit → Act → World → Prop} (hgd : o.guard = none) (t : TypeId) (x y : Operand) (ho : o.op = .store t x y)
    (n : Nat) (hi : (P.info? t).map (·.size) = some n)
    (B : Nat) (k : IntKind) (l l2 : List Nat) (T : TypeId) (hx : ac.eval x = .pointer (some ⟨B, 0, none⟩)) (hy : ac.eval y = arrV k l2) (hl : l.length = n) (hl2 : l2.length = n) (hB : Blk w B (nums k l) T)
    (h : ∀ w', Blk w' B (nums k l2) T → Mod w w' (fun k => k = B) → wpList P ops Q rest (ac.put o.dst undef) w') : wpList P ops Q (o :: rest) ac w :=
  wpList_store_row hgd t x y ho B (nums k l2).toArray hx hy T (nums k l).toArray hB (by rw [hi]; simp [nums, hl2]) (by simp [nums, hl, hl2])
    (by rw [Array.all_eq_true_iff_forall_mem]; intro u hu; exact nums_one k l2 u (by simpa using hu))
    (h _ (setRow_heap w B _ _ T (0, 0) hB) ⟨rfl, rfl, rfl, by simp, fun j _ hne => setRow_other w B j _ hne⟩)
theorem ret_arr {fn : Func} {p : Tmp} {t : TypeId} (hf : fn.results = #[.cell p t]) {R : Ending → World → Prop} {a : Act}
    (d : TypeDesc) (n : Nat) (ht : P.underlying t = some d) (hd : isArr d = true) (hi : (P.info? t).map (·.size) = some n)
    (B : Nat) (k : IntKind) (l : List Nat) (T : TypeId) (hp : a.tmps.getD p undef = .pointer (some ⟨B, 0, none⟩)) (hl : l.length = n) (hB : Blk w B (nums k l) T)
    (hdf : a.defers = []) (h : R (.returned (arrV k l)) w) : bodyPost P fn R .ret a w :=
  bodyPost_ret (v := arrV k l) (results_cell_row hf a.tmps w B T (nums k l).toArray (0, 0) d hp hB ht (by cases d <;> simp_all [isArr]) (by rw [hi]; simp [nums, hl])) hdf h
end
theorem Held.putObj {w0 w w' : World} {B : Nat} {cs cs' : List Value} {T : TypeId} {Rs : List Thing} (h : Held w0 w (objT B cs T :: Rs)) (hB : Blk w' B cs' T) (hm : Mod w w' (fun k => k = B)) : Held w0 w' (objT B cs' T :: Rs) := by
  obtain ⟨F, h1, h2, back⟩ := h.take
  exact back w' _ F ⟨hB, h1.2⟩ (hm.mono fun k _ hk => (h1.2 k).2 hk) (fun k hk => .inl hk) (fun k hk => Nat.lt_of_lt_of_le (h2 k hk).2 hm.size)
end Go.Proofs.YtbkbkmgogbgofaaDoor
