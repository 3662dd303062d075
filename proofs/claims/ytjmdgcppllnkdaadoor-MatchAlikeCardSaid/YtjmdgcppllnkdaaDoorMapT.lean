/-
  A map that a call owns: what is stored at which key, told by a function; look-up, store, clear, make. No program is named here.
-/
import Derived.Test.YtjmdgcppllnkdaaDoorSep
import Derived.Maps.Own
import Derived.Maps.OwnOps
import Derived.DeepKeys4
import Derived.WalkSpells
namespace Go.Proofs.YtjmdgcppllnkdaaDoor
open Go.RowKit

section
variable {κ ε : Type} {P : Program} {k : TypeId}
/-- keys and elements as values -/
structure KeyIs (P : Program) (k : TypeId) (kv : κ → Value) (ok : κ → Prop) : Prop where
  keyed : Go.Maps.Keyed P k
  is : ∀ s, ok s → ∃ l, keyOf P k (kv s) = some l
  inj : ∀ s s', kv s = kv s' → s = s'
def MapIs (kv : κ → Value) (ok : κ → Prop) (ev : ε → Value) (w : World) (b : Nat) (g : κ → Option ε) (n : Nat) : Prop :=
  ∃ es clock, w.heap[b]? = some (.map es clock) ∧ (∀ x ∈ es.toList, ∃ s p, ok s ∧ g s = some p ∧ x.key = kv s ∧ x.val = ev p) ∧ (∀ s p, ok s → g s = some p → ∃ x ∈ es.toList, x.key = kv s) ∧
    es.toList.Pairwise (fun x y => x.key ≠ y.key) ∧ es.size ≤ n
variable {kv : κ → Value} {ok : κ → Prop} {ev : ε → Value} {w : World} {b n : Nat} {g : κ → Option ε}
theorem MapIs.lt (h : MapIs kv ok ev w b g n) : b < w.heap.size := by
  obtain ⟨es, clock, hb, _⟩ := h
  exact (Array.getElem?_eq_some_iff.1 hb).1
theorem MapIs.kept (h : MapIs kv ok ev w b g n) {w' : World} {S : Nat → Prop} (hm : Mod w w' S) (hs : ¬ S b) : MapIs kv ok ev w' b g n := by
  have hl := h.lt
  obtain ⟨es, clock, hb, rest⟩ := h
  exact ⟨es, clock, (hm.block b hl hs).trans hb, rest⟩
theorem MapIs.look {t e : TypeId} {z : Value} (h : MapIs kv ok ev w b g n) (K : KeyIs P k kv ok) (ht : P.underlying t = some (.map k e)) (hz : (zeroValue e).run P w = .ok z w) (s : κ) (hs : ok s) :
    (Instr.lookup t (.map (some b)) (kv s) true).run P w = .ok (.tuple #[((g s).map ev).getD z, .bool (g s).isSome]) w := by
  obtain ⟨es, clock, hb, h1, h2, _, _⟩ := h
  obtain ⟨l, hl⟩ := K.is s hs
  have hk : ∀ x ∈ es.toList, ∃ l, keyOf P k x.key = some l := fun x hx => by
    obtain ⟨s', p, o1, _, o2, _⟩ := h1 x hx
    rw [o2]; exact K.is s' o1
  rcases K.keyed.find w hl es.toList hk with ⟨f1, f2⟩ | ⟨j, x, f1, f2, f3⟩
  · have hg : g s = none := by
      cases c : g s with
      | none => rfl
      | some p =>
        obtain ⟨x, hx, hxk⟩ := h2 s p hs c
        exact absurd hxk (f2 x hx)
    rw [hg]
    simp [Instr.lookup, run_underlying ht, MapKept.run_getObj_map hb, K.keyed.check w _ hl, f1, hz, Result.andThen]
  · obtain ⟨s', p, o1, o2, o3, o4⟩ := h1 x (List.mem_of_getElem? f2)
    have e : s' = s := K.inj _ _ (o3.symm.trans f3)
    subst e
    rw [o2]
    rw [o4] at f1
    simp [Instr.lookup, run_underlying ht, MapKept.run_getObj_map hb, K.keyed.check w _ hl, f1, Result.andThen]
theorem MapIs.store {t e : TypeId} (h : MapIs kv ok ev w b g n) (K : KeyIs P k kv ok) (ht : P.underlying t = some (.map k e)) (s : κ) (hs : ok s) (p : ε) (g' : κ → Option ε) (h1 : g' s = some p) (h2 : ∀ s', s' ≠ s → g' s' = g s') :
    ∃ w', (Instr.mapUpdate t (.map (some b)) (kv s) (ev p)).run P w = .ok () w' ∧ MapIs kv ok ev w' b g' (n + 1) ∧ Mod w w' (fun j => j = b) := by
  obtain ⟨es, clock, hb, k1, k2, k3, k4⟩ := h
  obtain ⟨l, hl⟩ := K.is s hs
  have hk : ∀ x ∈ es.toList, ∃ l, keyOf P k x.key = some l := fun x hx => by
    obtain ⟨s', p, o1, _, o2, _⟩ := k1 x hx
    rw [o2]; exact K.is s' o1
  have hmod : ∀ o, Mod w (ChangeMaps.setBlock w b o) (fun j => j = b) := fun o =>
    ⟨rfl, rfl, rfl, by simp [ChangeMaps.setBlock], fun j _ hj => ChangeMaps.heap_setBlock_other hb _ hj⟩
  rcases K.keyed.find w hl es.toList hk with ⟨f1, f2⟩ | ⟨j, x, f1, f2, f3⟩
  · refine ⟨ChangeMaps.setBlock w b (.map (es.push ⟨kv s, ev p, clock⟩) (clock + 1)), ?_, ⟨es.push ⟨kv s, ev p, clock⟩, clock + 1, ChangeMaps.heap_setBlock_same hb _, ?_, ?_, ?_, by simp; omega⟩, hmod _⟩
    · simp [Instr.mapUpdate, run_underlying ht, MapKept.run_getObj_map hb, K.keyed.check w false hl, f1, MapKept.run_setObj_map _ hb, Result.andThen, ChangeMaps.setBlock]
    · intro y hy
      simp only [Array.toList_push, List.mem_append, List.mem_singleton] at hy
      rcases hy with hy | rfl
      · obtain ⟨s', p', o1, o2, o3, o4⟩ := k1 y hy
        exact ⟨s', p', o1, by rw [h2 s' fun e => f2 y hy (by rw [o3, e])]; exact o2, o3, o4⟩
      · exact ⟨s, p, hs, h1, rfl, rfl⟩
    · intro s' p' o1 o2
      by_cases c : s' = s
      · subst c; exact ⟨⟨kv s', ev p, clock⟩, by simp, rfl⟩
      · obtain ⟨y, hy, hyk⟩ := k2 s' p' o1 (by rw [← h2 s' c]; exact o2)
        exact ⟨y, by simp only [Array.toList_push, List.mem_append]; exact .inl hy, hyk⟩
    · rw [Array.toList_push, List.pairwise_append]
      exact ⟨k3, List.pairwise_singleton _ _, fun a ha c hc => by
        simp only [List.mem_singleton] at hc; subst hc; exact f2 a ha⟩
  · have hj : es[j]? = some x := by simpa using f2
    have hjl : j < es.toList.length := (List.getElem?_eq_some_iff.1 f2).1
    have hlist : (es.modify j (fun e' => { e' with key := kv s, val := ev p })).toList = es.toList.set j { x with key := kv s, val := ev p } := by rw [Array.toList_modify, ChangeMaps.modify_eq_set _ _ _ _ f2]
    have hap := List.pairwise_iff_getElem.1 k3
    have other : ∀ i (hi : i < es.toList.length), i ≠ j → (es.toList[i]).key ≠ kv s := by
      intro i hi hne e
      have hx : es.toList[j] = x := (List.getElem?_eq_some_iff.1 f2).2
      rcases Nat.lt_or_gt_of_ne hne with c | c
      · exact hap i j hi hjl c (by rw [e, hx, f3])
      · exact hap j i hjl hi c (by rw [e, hx, f3])
    refine ⟨ChangeMaps.setBlock w b (.map (es.modify j (fun e' => { e' with key := kv s, val := ev p })) clock), ?_, ⟨es.modify j (fun e' => { e' with key := kv s, val := ev p }), clock, ChangeMaps.heap_setBlock_same hb _, ?_, ?_, ?_, by simp; omega⟩, hmod _⟩
    · simp [Instr.mapUpdate, run_underlying ht, MapKept.run_getObj_map hb, K.keyed.check w false hl, f1, hj, f3, K.keyed.stays w hl, MapKept.run_setObj_map _ hb, Result.andThen, ChangeMaps.setBlock]
    · intro y hy
      rw [hlist] at hy
      obtain ⟨i, hi, rfl⟩ := List.getElem_of_mem hy
      rw [List.length_set] at hi
      rw [List.getElem_set]
      by_cases c : j = i
      · rw [if_pos c]; exact ⟨s, p, hs, h1, rfl, rfl⟩
      · rw [if_neg c]
        obtain ⟨s', p', o1, o2, o3, o4⟩ := k1 _ (List.getElem_mem hi)
        exact ⟨s', p', o1, by rw [h2 s' fun e => other i hi (fun e2 => c e2.symm) (by rw [o3, e])]; exact o2, o3, o4⟩
    · intro s' p' o1 o2
      rw [hlist]
      by_cases c : s' = s
      · subst c
        exact ⟨_, List.mem_iff_getElem.2 ⟨j, by simpa using hjl, rfl⟩, by simp⟩
      · obtain ⟨y, hy, hyk⟩ := k2 s' p' o1 (by rw [← h2 s' c]; exact o2)
        obtain ⟨i, hi, rfl⟩ := List.getElem_of_mem hy
        have hij : j ≠ i := fun e => c (K.inj _ _ (by
          subst e
          have hx : es.toList[j] = x := (List.getElem?_eq_some_iff.1 f2).2
          rw [← hyk, hx, f3]))
        exact ⟨es.toList[i], List.mem_iff_getElem.2 ⟨i, by simpa using hi, by rw [List.getElem_set, if_neg hij]⟩, hyk⟩
    · rw [hlist, List.pairwise_iff_getElem]
      intro i i' hi hi' hlt
      rw [List.length_set] at hi hi'
      rw [List.getElem_set, List.getElem_set]
      split
      · rw [if_neg (by omega)]; exact fun e => other i' hi' (by omega) e.symm
      · split
        · exact other i hi (by omega)
        · exact hap i i' hi hi' hlt
theorem MapIs.clear {t e ty : TypeId} (h : MapIs kv ok ev w b g n) (ht : P.underlying t = some (.map k e)) :
    ∃ w', (Builtin.clear_ #[t] ty #[.map (some b)]).run P w = .ok (.tuple #[]) w' ∧ MapIs kv ok ev w' b (fun _ => none) 0 ∧ Mod w w' (fun j => j = b) := by
  obtain ⟨es, clock, hb, _⟩ := h
  refine ⟨ChangeMaps.setBlock w b (.map #[] clock), ?_, ⟨#[], clock, ChangeMaps.heap_setBlock_same hb _, by simp, by simp, by simp, Nat.le_refl _⟩, ⟨rfl, rfl, rfl, by simp [ChangeMaps.setBlock], fun j _ hj => ChangeMaps.heap_setBlock_other hb _ hj⟩⟩
  simp [Builtin.clear_, run_underlying ht, MapKept.run_getObj_map hb, MapKept.run_setObj_map _ hb, Result.andThen, ChangeMaps.setBlock]
theorem MapIs.made (w : World) : MapIs kv ok ev (w.alloc (.map #[] 0)) w.heap.size (fun _ => none) 0 :=
  ⟨#[], 0, (MapKept.heap_alloc w _).1, by simp, by simp, by simp, Nat.le_refl _⟩
def mapT (kv : κ → Value) (ok : κ → Prop) (ev : ε → Value) (v : Value) (g : κ → Option ε) (n : Nat) : Thing where
  res := fun w F => ∃ b, v = .map (some b) ∧ MapIs kv ok ev w b g n ∧ ∀ j, F j ↔ j = b
  loc := fun _ _ _ _ ⟨b, hv, h, hF⟩ hm hS => ⟨b, hv, h.kept hm (hS b ((hF b).2 rfl)), hF⟩
variable {w0 w' : World} {Rs : List Thing} {v : Value}
theorem Held.map (h : Held w0 w (mapT kv ok ev v g n :: Rs)) : ∃ b, v = .map (some b) ∧ MapIs kv ok ev w b g n := by
  obtain ⟨F, ⟨b, hv, h1, _⟩, _⟩ := h
  exact ⟨b, hv, h1⟩
theorem Held.putMap {g' : κ → Option ε} {n' : Nat} (h : Held w0 w (mapT kv ok ev (.map (some b)) g n :: Rs)) (h1 : MapIs kv ok ev w' b g' n') (hm : Mod w w' (fun j => j = b)) : Held w0 w' (mapT kv ok ev (.map (some b)) g' n' :: Rs) := by
  obtain ⟨F, ⟨b', hv, h2, hF⟩, h3, back⟩ := h.take
  simp only [Value.map.injEq, Option.some.injEq] at hv
  subst hv
  exact back w' _ F ⟨b, rfl, h1, hF⟩ (hm.mono fun j _ hj => (hF j).2 hj) (fun j hj => .inl hj) (fun j hj => Nat.lt_of_lt_of_le (h3 j hj).2 hm.size)
theorem Held.newMap (h : Held w0 w Rs) : Held w0 (w.alloc (.map #[] 0)) (mapT kv ok ev (.map (some w.heap.size)) (fun _ => none) 0 :: Rs) :=
  h.push _ (fun j => j = w.heap.size) ⟨_, rfl, MapIs.made w, fun _ => Iff.rfl⟩ ((Mod.refl w _).alloc _) (fun j hj => by subst hj; exact ⟨Nat.le_refl _, by simp⟩)
theorem Held.moreMap {n' : Nat} (h : Held w0 w (mapT kv ok ev v g n :: Rs)) (hn : n ≤ n') : Held w0 w (mapT kv ok ev v g n' :: Rs) := by
  obtain ⟨F, ⟨b, hv, ⟨es, clock, h1, h2, h3, h4, h5⟩, hF⟩, h6⟩ := h
  exact ⟨F, ⟨b, hv, ⟨es, clock, h1, h2, h3, h4, Nat.le_trans h5 hn⟩, hF⟩, h6⟩
theorem Held.sameMap {g' : κ → Option ε} (h : Held w0 w (mapT kv ok ev v g n :: Rs)) (hg : g = g') : Held w0 w (mapT kv ok ev v g' n :: Rs) := by rw [← hg]; exact h
/-- a store into a map among what is held -/
theorem wpList_mapUpdate_held {t e : TypeId} {ops : Array Oper} {rest : List Oper} {o : Oper} {a : Act} {Q : Exit → Act → World → Prop} (hgd : o.guard = none) (m x y : Operand) (hop : o.op = Op.mapUpdate t m x y)
    (K : KeyIs P k kv ok) (ht : P.underlying t = some (.map k e)) (hm : a.eval m = .map (some b)) (hh : Held w0 w (mapT kv ok ev (.map (some b)) g n :: Rs)) (s : κ) (hs : ok s) (p : ε) (hx : a.eval x = kv s) (hy : a.eval y = ev p) (g' : κ → Option ε)
    (h1 : g' s = some p) (h2 : ∀ s', s' ≠ s → g' s' = g s') (h : ∀ w', Held w0 w' (mapT kv ok ev (.map (some b)) g' (n + 1) :: Rs) → wpList P ops Q rest (a.put o.dst undef) w') : wpList P ops Q (o :: rest) a w := by
  refine wpList_plain hgd fun K' hK' => ?_
  obtain ⟨b', hv, hM⟩ := hh.map
  simp only [Value.map.injEq, Option.some.injEq] at hv
  subst hv
  obtain ⟨w', hrun, r1, r2⟩ := hM.store K ht s hs p g' h1 h2
  unfold Oper.wp
  simp [execOp, hop, hm, hx, hy, hrun, Result.andThen]
  exact hK' _ _ (h w' (hh.putMap r1 r2))
theorem wpList_clear_held {t e : TypeId} {ops : Array Oper} {rest : List Oper} {o : Oper} {a : Act} {Q : Exit → Act → World → Prop} (hgd : o.guard = none) (x : Operand) (hop : o.op = .call { callee := .builtin .clear, args := #[x], argTypes := #[t] })
    (ht : P.underlying t = some (.map k e)) (hx : a.eval x = .map (some b)) (hh : Held w0 w (mapT kv ok ev (.map (some b)) g n :: Rs))
    (h : ∀ w', Held w0 w' (mapT kv ok ev (.map (some b)) (fun _ => none) 0 :: Rs) → wpList P ops Q rest (a.put o.dst (.tuple #[])) w') : wpList P ops Q (o :: rest) a w := by
  refine wpList_plain hgd fun K' hK' => ?_
  obtain ⟨b', hv, hM⟩ := hh.map
  simp only [Value.map.injEq, Option.some.injEq] at hv
  subst hv
  obtain ⟨w', hrun, r1, r2⟩ := hM.clear (ty := o.type) ht
  unfold Oper.wp execOp
  simp only [hop, resolve, invoke, builtin, Sem.run_bind, Sem.run_pure, Result.andThen_ok, List.map_toArray, List.map_cons, List.map_nil, hx, hrun]
  exact hK' _ _ (h w' (hh.putMap r1 r2))
end
end Go.Proofs.YtjmdgcppllnkdaaDoor
