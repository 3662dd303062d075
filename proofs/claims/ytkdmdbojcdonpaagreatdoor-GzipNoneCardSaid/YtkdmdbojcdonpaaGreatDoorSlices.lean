/-
  Builtins over slices that the call owns: a cut at the front, clear, copy, make. No program is named here.
-/
import Derived.Test.YtkdmdbojcdonpaaGreatDoorSep
import Derived.Laws.CopyRow
import Derived.Laws.OwnMore
namespace Go.Proofs.YtkdmdbojcdonpaaGreatDoor
set_option maxRecDepth 5000
open Go.RowKit

/-! ### The first cells of an own slice, stored anew -/
theorem Own.splice {w w' : World} {e : TypeId} {size n cap g off : Nat} {xs vs : List Value} {cur : Array Value} (hl : xs.length = n * size) (hg : w.heap[g]? = some (.cells cur e (0, 0))) (hn : n ≤ cap) (hc : cap ≤ maxLen) (hs : off + cap * size ≤ cur.size)
    (hx : ∀ j u, xs[j]? = some u → cur[off + j]? = some u) (hv : vs.length ≤ n * size)
    (h' : w' = w.setRow g (cur.toList.take off ++ vs ++ cur.toList.drop (off + vs.length)).toArray) :
    Own w' e size (.slice (some ⟨g, off, none⟩) n cap) n (vs ++ xs.drop vs.length) ∧ Mod w w' (fun k => k = g) := by
  subst h'
  have hns : n * size ≤ cap * size := Nat.mul_le_mul_right _ hn
  refine ⟨⟨by rw [List.length_append, List.length_drop, hl]; omega, .inr ⟨g, off, cap, _, rfl, setRow_heap w g cur _ e _ hg, hn, hc, ?_, fun j u hu => ?_⟩⟩, ⟨rfl, rfl, rfl, by simp [World.setRow], fun k _ hk => setRow_other w g k _ hk⟩⟩
  · simp; omega
  · have ht : (cur.toList.take off).length = off := by simp; omega
    simp only [List.getElem?_toArray]
    rw [List.append_assoc, List.getElem?_append_right (by omega), ht, Nat.add_sub_cancel_left]
    by_cases hj : j < vs.length
    · rw [List.getElem?_append_left hj] at hu ⊢
      exact hu
    · rw [List.getElem?_append_right (by omega)] at hu ⊢
      rw [List.getElem?_drop] at hu ⊢
      rw [Array.getElem?_toList, show off + vs.length + (j - vs.length) = off + (vs.length + (j - vs.length)) by omega]
      exact hx _ u hu

section
variable {P : Program} {w : World}
/-! ### Cut at the front -/
theorem sliced_front (a : Option Addr) (H cap size : Nat) (ha : ∀ x, a = some x → x.spot = none) : sliced a 0 H cap size = .slice a H cap := by
  unfold sliced
  cases a with
  | none => simp
  | some x =>
    obtain ⟨b, o, s⟩ := x
    obtain rfl : s = none := ha _ rfl
    simp [Addr.add]
theorem Own.spotless {e : TypeId} {size n n' cap : Nat} {a : Option Addr} {xs : List Value} (h : Own w e size (.slice a n cap) n' xs) : ∀ x, a = some x → x.spot = none := by
  rintro x rfl
  rcases h.2 with ⟨hv, _⟩ | ⟨g, off, cap', cur, hv, _⟩
  · simp at hv
  · simp only [Value.slice.injEq, Option.some.injEq] at hv
    rw [hv.1]
theorem wpList_cut_front {ops : Array Oper} {rest : List Oper} {o : Oper} {ac : Act} {Q : Exit → Act → World → Prop} (hgd : o.guard = none) (t : TypeId) (x : Operand) (lo hh : Option Operand)
    (ho : o.op = .slice t x lo hh none) (e : TypeId) (i : TypeInfo) (size : Nat) (ht : P.underlying t = some (.slice e)) (hi : P.info? e = some i) (hs : i.size = size)
    (a : Option Addr) (n cap H : Nat) (xs : List Value) (hx : ac.eval x = .slice a n cap) (hown : Own w e size (.slice a n cap) n xs)
    (hlo : Bnd (lo.map ac.eval) 0 0) (hhi : Bnd (hh.map ac.eval) n H) (h2 : H ≤ n)
    (h : wpList P ops Q rest (ac.put o.dst (.slice a H cap)) w) : wpList P ops Q (o :: rest) ac w := by
  refine wpList_plain hgd fun K hK => ?_
  obtain ⟨ao, cap', hv, hn, hc⟩ := hown.form
  simp only [Value.slice.injEq, true_and] at hv
  obtain ⟨rfl, rfl⟩ := hv
  have hr := run_cut (P := P) (w := w) t e i size ht hi hs a n cap 0 H _ _ hlo hhi (Nat.zero_le _) (by omega)
  rw [sliced_front a H cap size hown.spotless] at hr
  unfold Oper.wp execOp
  simp only [ho, hx, Sem.run_bind, Sem.run_pure, Option.map_none, hr, Result.andThen_ok]
  exact hK _ _ h

theorem Rd.front {size n cap H : Nat} {a : Option Addr} {xs : List Value} (h : Rd w size (.slice a n cap) n xs) (hH : H ≤ n) : Rd w size (.slice a H cap) H (xs.take (H * size)) := by
  obtain ⟨h1, ao, cap', hv, h2, h3, h4, h5⟩ := h
  simp only [Value.slice.injEq, true_and] at hv
  obtain ⟨rfl, rfl⟩ := hv
  have hle : H * size ≤ n * size := Nat.mul_le_mul_right _ hH
  refine ⟨by rw [List.length_take, h1]; omega, a, cap, rfl, by omega, h3, h4, ?_⟩
  rcases h5 with h5 | ⟨b, off, ha, hc⟩
  · exact .inl (by omega)
  · refine .inr ⟨b, off, ha, fun j u hu => ?_⟩
    rw [List.getElem?_take] at hu
    split at hu
    · exact hc j u hu
    · cases hu

theorem Own.le {e : TypeId} {size n cap : Nat} {a : Option Addr} {xs : List Value} (h : Own w e size (.slice a n cap) n xs) : n ≤ cap := by
  obtain ⟨ao, cap', hv, hn, _⟩ := h.form
  simp only [Value.slice.injEq, true_and] at hv
  rw [hv.2]; exact hn

theorem Rd.drewTo {w1 : World} {size n k : Nat} {v : Value} {xs : List Value} (h : Rd w size v n xs) (e : w1 = w.drewN k) : Rd w1 size v n xs := by rw [e]; exact h

/-! ### clear -/
theorem run_clear_own (t ty e : TypeId) (i : TypeInfo) (z : Value) (size : Nat) (ht : P.underlying t = some (.slice e)) (hi : P.info? e = some i) (hz : i.zero = some z) (hzs : z.cells.size = size) (h1 : ∀ u ∈ z.cells.toList, u.oneCell' = true)
    (a : Option Addr) (n cap H : Nat) (xs : List Value) (hown : Own w e size (.slice a n cap) n xs) (hH : H ≤ n) :
    ∃ w' zs, (Builtin.clear_ #[t] ty #[.slice a H cap]).run P w = .ok (.tuple #[]) w' ∧ Own w' e size (.slice a n cap) n (zs ++ xs.drop (H * size)) ∧ Mod w w' (fun k => Value.ownBlock (.slice a n cap) = some k) ∧ zs.length = H * size := by
  rcases hown.2 with ⟨hv, h0⟩ | ⟨g, off, cap', cur, hv, hg, hn, hc, hs, hx⟩
  · simp only [Value.slice.injEq] at hv
    obtain ⟨rfl, rfl, rfl⟩ := hv
    obtain rfl : H = 0 := by omega
    refine ⟨w, [], ?_, by simpa using hown, Mod.refl _ _, by simp⟩
    simp [Builtin.clear_, run_underlying ht]
  · simp only [Value.slice.injEq, true_and] at hv
    obtain ⟨rfl, rfl⟩ := hv
    by_cases h0 : H = 0
    · subst h0
      refine ⟨w, [], ?_, by simpa using hown, Mod.refl _ _, by simp⟩
      simp [Builtin.clear_, run_underlying ht]
    · have hzl : (Builtin.zeroCells z.cells H).toList.length = H * size := by simp [size_zeroCells, hzs]
      have hle : H * size ≤ n * size := Nat.mul_le_mul_right _ hH
      have hns : n * size ≤ cap * size := Nat.mul_le_mul_right _ hn
      have hone : ∀ v ∈ (Builtin.zeroCells z.cells H).toList, v.oneCell' = true := by
        intro v hv
        simp only [Builtin.zeroCells, Array.toList_map, Array.toList_range, List.mem_map, List.mem_range] at hv
        obtain ⟨j, hj, rfl⟩ := hv
        have hz0 : 0 < z.cells.size := by
          rcases Nat.eq_zero_or_pos z.cells.size with h | h
          · rw [h] at hj; simp at hj
          · exact h
        have hm := Nat.mod_lt j hz0
        rw [getElem!_pos z.cells (j % z.cells.size) hm]
        exact h1 _ (by simp)
      have hst := run_storeCells_at P g off e (Builtin.zeroCells z.cells H).toList 0 cur w hg (by rw [hzl]; omega) hone
      obtain ⟨H1, H2⟩ := Own.splice (w' := w.setRow g (cur.toList.take off ++ (Builtin.zeroCells z.cells H).toList ++ cur.toList.drop (off + (Builtin.zeroCells z.cells H).toList.length)).toArray) hown.1 hg hn hc hs hx (by rw [hzl]; omega) rfl
      refine ⟨_, _, ?_, by rw [← hzl]; exact H1, H2.mono (fun k _ hk => by subst hk; rfl), hzl⟩
      simp [Builtin.clear_, run_underlying ht, zeroValue, typeInfo, hi, hz, hst]

theorem wpList_clear_own {ops : Array Oper} {rest : List Oper} {o : Oper} {ac : Act} {Q : Exit → Act → World → Prop} (hgd : o.guard = none) (x : Operand) (t : TypeId)
    (ho : o.op = .call { callee := .builtin .clear, args := #[x], argTypes := #[t] }) (e : TypeId) (i : TypeInfo) (z : Value) (size : Nat) (ht : P.underlying t = some (.slice e)) (hi : P.info? e = some i) (hz : i.zero = some z) (hzs : z.cells.size = size) (h1 : ∀ u ∈ z.cells.toList, u.oneCell' = true)
    (a : Option Addr) (n cap H : Nat) (xs : List Value) (hx : ac.eval x = .slice a H cap) (hown : Own w e size (.slice a n cap) n xs) (hH : H ≤ n)
    (h : ∀ w' zs, Own w' e size (.slice a n cap) n (zs ++ xs.drop (H * size)) → Mod w w' (fun k => Value.ownBlock (.slice a n cap) = some k) → zs.length = H * size → wpList P ops Q rest (ac.put o.dst (.tuple #[])) w') :
    wpList P ops Q (o :: rest) ac w := by
  refine wpList_plain hgd fun K hK => ?_
  obtain ⟨w', zs, hr, H1, H2, H3⟩ := run_clear_own (P := P) t o.type e i z size ht hi hz hzs h1 a n cap H xs hown hH
  unfold Oper.wp execOp
  simp only [ho, resolve, invoke, builtin, Sem.run_bind, Sem.run_pure, Result.andThen_ok, List.map_toArray, List.map_cons, List.map_nil, hx, hr]
  exact hK _ _ (h w' zs H1 H2 H3)

/-! ### copy -/
theorem run_copy_own (dT sT ty e : TypeId) (i : TypeInfo) (size : Nat) (ht : P.underlying dT = some (.slice e)) (hi : P.info? e = some i) (hs : i.size = size)
    (v : Value) (n m : Nat) (xs ys : List Value) (hown : Own w e size v n xs) (s : Value) (hsrc : Rd w size s m ys) (h1 : ∀ u ∈ ys, u.oneCell' = true) :
    ∃ w', (Builtin.copy_ #[dT, sT] ty #[v, s]).run P w = .ok (goInt ((min m n : Nat) : Int)) w' ∧ Own w' e size v n (ys.take (min m n * size) ++ xs.drop (min m n * size)) ∧ Mod w w' (fun k => v.ownBlock = some k) := by
  obtain ⟨hyl, sa, scap, rfl, hmc, hsm, hs0, hsrd⟩ := hsrc
  obtain ⟨da, cap, rfl, hnc, hcm⟩ := hown.form
  by_cases h0 : min m n = 0
  · refine ⟨w, ?_, by rw [h0]; simpa using hown, Mod.refl _ _⟩
    have hl : ∀ (x : Addr), (loadCells x 0).run P w = .ok #[] w := fun x => by simpa using run_loadCells_list (P := P) w x [] (by simp)
    have h0' : Nat.min m n = 0 := h0
    rw [h0]
    cases da <;> cases sa <;> simp [Builtin.copy_, run_underlying ht, Builtin.lenOf, Builtin.firstCells, sizeOf, typeInfo, hi, h0', storeCells, hl]
  · rcases hown.2 with ⟨hv, hn0⟩ | ⟨g, off, cap', cur, hv, hg, _, _, hcs, hx⟩
    · omega
    simp only [Value.slice.injEq, true_and] at hv
    obtain ⟨rfl, rfl⟩ := hv
    rcases hsrd with hm0 | ⟨b, so, rfl, hc⟩
    · omega
    have hle : min m n * size ≤ m * size := Nat.mul_le_mul_right _ (Nat.min_le_left _ _)
    have hle2 : min m n * size ≤ n * size := Nat.mul_le_mul_right _ (Nat.min_le_right _ _)
    have hns : n * size ≤ cap * size := Nat.mul_le_mul_right _ hnc
    have hcl : (ys.take (min m n * size)).length = min m n * size := by rw [List.length_take, hyl]; omega
    have hl := run_loadCells_list (P := P) w ⟨b, so, none⟩ (ys.take (min m n * size)) (fun j u hu => by
      rw [Addr.add_lit]
      refine hc j u ?_
      rw [List.getElem?_take] at hu
      split at hu
      · exact hu
      · cases hu)
    rw [hcl] at hl
    have hst := run_storeCells_at P g off e (ys.take (min m n * size)) 0 cur w hg (by rw [hcl]; omega) (fun u hu => h1 u (List.mem_of_mem_take hu))
    obtain ⟨H1, H2⟩ := Own.splice (w' := w.setRow g (cur.toList.take off ++ ys.take (min m n * size) ++ cur.toList.drop (off + (ys.take (min m n * size)).length)).toArray) hown.1 hg hnc hcm hcs hx (by rw [hcl]; omega) rfl
    rw [hcl] at H1
    rw [hcl] at H2
    refine ⟨_, ?_, H1, H2.mono (fun k _ hk => by subst hk; rfl)⟩
    have hmin : Nat.min m n = min m n := rfl
    rw [hcl, Nat.add_zero] at hst
    simp [Builtin.copy_, run_underlying ht, Builtin.lenOf, Builtin.firstCells, sizeOf, typeInfo, hi, hs, hmin, hl, hst]
theorem wpList_copy_own' {ops : Array Oper} {rest : List Oper} {o : Oper} {ac : Act} {Q : Exit → Act → World → Prop} (hgd : o.guard = none) (d s : Operand) (dT sT : TypeId)
    (ho : o.op = .call { callee := .builtin .copy, args := #[d, s], argTypes := #[dT, sT] }) (e : TypeId) (i : TypeInfo) (size : Nat) (ht : P.underlying dT = some (.slice e)) (hi : P.info? e = some i) (hs : i.size = size)
    (v y : Value) (n m : Nat) (xs ys : List Value) (hd : ac.eval d = v) (hy : ac.eval s = y) (hown : Own w e size v n xs) (hsrc : Rd w size y m ys) (h1 : ∀ u ∈ ys, u.oneCell' = true)
    (h : ∀ w', Own w' e size v n (ys.take (min m n * size) ++ xs.drop (min m n * size)) → Mod w w' (fun k => v.ownBlock = some k) → wpList P ops Q rest (ac.put o.dst (goInt ((min m n : Nat) : Int))) w') :
    wpList P ops Q (o :: rest) ac w := by
  refine wpList_plain hgd fun K hK => ?_
  obtain ⟨w', hr, H1, H2⟩ := run_copy_own (P := P) dT sT o.type e i size ht hi hs v n m xs ys hown y hsrc h1
  unfold Oper.wp execOp
  simp only [ho, resolve, invoke, builtin, Sem.run_bind, Sem.run_pure, Result.andThen_ok, List.map_toArray, List.map_cons, List.map_nil, hd, hy, hr]
  exact hK _ _ (h w' H1 H2)

/-! ### make -/
theorem wpList_make_own {ops : Array Oper} {rest : List Oper} {o : Oper} {ac : Act} {Q : Exit → Act → World → Prop} (hgd : o.guard = none) (t : TypeId) (x y : Operand)
    (ho : o.op = .makeSlice t x y) (e : TypeId) (i : TypeInfo) (z : Value) (size : Nat) (ht : P.underlying t = some (.slice e)) (hi : P.info? e = some i) (hz : i.zero = some z) (hs : i.size = size)
    (k : IntKind) (n : Nat) (hx : ac.eval x = .int k (n : Int)) (hy : ac.eval y = .int k (n : Int)) (hb : i.bytes * n ≤ 281474976710656) (hn : n ≤ maxLen)
    (h : ∀ v w' zs, Own w' e size v n zs → Mod w w' (fun _ => False) → (∀ k, v.ownBlock = some k → w.heap.size ≤ k) → v = .slice (some ⟨w.heap.size, 0, none⟩) n n → zs = (madeCells z.cells (n * size)).toList → wpList P ops Q rest (ac.put o.dst v) w') :
    wpList P ops Q (o :: rest) ac w := by
  refine wpList_plain hgd fun K hK => ?_
  obtain ⟨w', hr, H1, H2⟩ := run_make_full (P := P) w w.heap.size t e i z size ht hi hz hs k k n hb hn (Nat.le_refl _)
  unfold Oper.wp execOp
  simp only [ho, hx, hy, Sem.run_bind, Sem.run_pure, hr, Result.andThen_ok]
  exact hK _ _ (h _ w' _ (Own.of_row H1) ((Mod.refl w _).grown H2 (fun k hk => by cases hk)) (fun k hk => by simp [Value.ownBlock] at hk; omega) rfl rfl)
end
end Go.Proofs.YtkdmdbojcdonpaaGreatDoor
