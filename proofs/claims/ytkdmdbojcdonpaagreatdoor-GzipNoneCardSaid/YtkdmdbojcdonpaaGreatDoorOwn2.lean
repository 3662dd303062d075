/-
  Cutting a slice that is owned or read: s[lo:hi]. No program is named here.
-/
import Derived.Test.YtkdmdbojcdonpaaGreatDoorOwn
namespace Go.Proofs.YtkdmdbojcdonpaaGreatDoor
set_option maxRecDepth 5000
open Go.RowKit

/-- a bound of a cut: left out, or a number -/
def Bnd (o : Option Value) (dflt n : Nat) : Prop := match o with
  | none => n = dflt
  | some v => ∃ k, v = .int k (n : Int)

section
variable {P : Program} {w : World}
theorem run_cut (t e : TypeId) (i : TypeInfo) (size : Nat) (ht : P.underlying t = some (.slice e)) (hi : P.info? e = some i) (hs : i.size = size)
    (a : Option Addr) (len cap L H : Nat) (lo hh : Option Value) (hlo : Bnd lo 0 L) (hhi : Bnd hh len H) (h1 : L ≤ H) (h2 : H ≤ cap) :
    (Instr.sliceAt t (.slice a len cap) lo hh none).run P w = .ok (sliced a L H cap size) w := by
  have hel : P.elem t = e := by simp [Program.elem, ht]
  have ht' : P.underlying t = some (.slice (P.elem t)) := by rw [hel]; exact ht
  have hsz : (sizeOf (P.elem t)).run P w = .ok size w := by rw [hel]; simp [sizeOf, typeInfo, hi, hs]
  rw [run_sliceAt_slice w t _ _ _ _ ht']
  cases lo with
  | none =>
    obtain rfl : L = 0 := hlo
    cases hh with
    | none =>
      obtain rfl : H = len := hhi
      rw [run_slice_all w t a H cap ht', hsz]; rfl
    | some v =>
      obtain ⟨k, rfl⟩ := hhi
      rw [run_slice_h w t a len cap ht' k H (by omega) (by omega), hsz]; simp [Result.andThen]
  | some v =>
    obtain ⟨k, rfl⟩ := hlo
    cases hh with
    | none =>
      obtain rfl : H = len := hhi
      rw [run_slice_l w t a H cap ht' k L (by omega) (by omega), hsz]; simp [Result.andThen]
    | some v =>
      obtain ⟨k', rfl⟩ := hhi
      rw [run_slice_lh w t a len cap ht' k k' L H (by omega) (by omega) (by omega), hsz]; simp [Result.andThen]

theorem cut_get {xs : List Value} {o n j : Nat} {u : Value} (h : ((xs.drop o).take n)[j]? = some u) : xs[o + j]? = some u := by
  rw [List.getElem?_take] at h
  split at h
  · rwa [List.getElem?_drop] at h
  · cases h
theorem cut_len {xs : List Value} {size n L H : Nat} (h : xs.length = n * size) (h1 : L ≤ H) (h2 : H ≤ n) : ((xs.drop (L * size)).take ((H - L) * size)).length = (H - L) * size := by
  have h3 : H * size ≤ n * size := Nat.mul_le_mul_right _ h2
  have h4 : L * size ≤ H * size := Nat.mul_le_mul_right _ h1
  rw [List.length_take, List.length_drop, h, Nat.sub_mul]
  omega
theorem Own.cut {e : TypeId} {size n cap L H : Nat} {a : Option Addr} {xs : List Value} (h : Own w e size (.slice a n cap) n xs) (h1 : L ≤ H) (h2 : H ≤ n) :
    Own w e size (sliced a L H cap size) (H - L) ((xs.drop (L * size)).take ((H - L) * size)) := by
  refine ⟨cut_len h.1 h1 h2, ?_⟩
  rcases h.2 with ⟨hv, h0⟩ | ⟨g, off, cap', cur, hv, hg, hn, hc, hsz, hcur⟩
  · simp only [Value.slice.injEq] at hv
    obtain ⟨rfl, _, rfl⟩ := hv
    obtain rfl : L = 0 := by omega
    exact .inl ⟨by simp [sliced]; omega, by omega⟩
  · simp only [Value.slice.injEq, true_and] at hv
    obtain ⟨rfl, rfl⟩ := hv
    right
    by_cases hcl : cap = L
    · subst hcl
      obtain rfl : H = cap := by omega
      refine ⟨g, off, 0, cur, by simp [sliced], hg, by omega, by omega, by omega, fun j u hu => ?_⟩
      simp at hu
    · refine ⟨g, off + L * size, cap - L, cur, by simp [sliced, hcl, Addr.add_lit], hg, by omega, by omega, ?_, fun j u hu => ?_⟩
      · have : L * size + (cap - L) * size = cap * size := by rw [← Nat.add_mul]; congr 1; omega
        omega
      · rw [Nat.add_assoc]; exact hcur _ u (cut_get hu)
theorem Rd.cut {size n cap L H : Nat} {a : Option Addr} {xs : List Value} (h : Rd w size (.slice a n cap) n xs) (h1 : L ≤ H) (h2 : H ≤ n) :
    Rd w size (sliced a L H cap size) (H - L) ((xs.drop (L * size)).take ((H - L) * size)) := by
  obtain ⟨hl, ao, cap', hv, hn, hc, h0, hr⟩ := h
  simp only [Value.slice.injEq, true_and] at hv
  obtain ⟨rfl, rfl⟩ := hv
  refine ⟨cut_len hl h1 h2, _, _, rfl, by omega, by omega, ?_, ?_⟩
  · split
    · intro; omega
    · intro h; cases a with
      | none => have := h0 rfl; omega
      | some x => simp at h
  · by_cases hcl : cap = L
    · left; omega
    · rcases hr with hr | ⟨b, off, rfl, hr⟩
      · left; omega
      · right
        refine ⟨b, off + L * size, by rw [if_neg hcl]; simp [Addr.add_lit], fun j u hu => ?_⟩
        rw [Nat.add_assoc]; exact hr _ u (cut_get hu)
theorem cut_block (a : Option Addr) (L H cap size : Nat) (n : Nat) : Value.ownBlock (sliced a L H cap size) = Value.ownBlock (.slice a n cap) := by
  unfold sliced
  split
  · cases a <;> rfl
  · cases a with
    | none => rfl
    | some x => simp only [Option.map_some, Value.ownBlock, Addr.add]; split <;> rfl

theorem wp_cut_own {o : Oper} {ac : Act} {K : Act → World → Prop} {Q : Exit → Act → World → Prop} (t : TypeId) (x : Operand) (lo hh : Option Operand)
    (ho : o.op = .slice t x lo hh none) (e : TypeId) (i : TypeInfo) (size : Nat) (ht : P.underlying t = some (.slice e)) (hi : P.info? e = some i) (hs : i.size = size)
    (a : Option Addr) (n cap L H : Nat) (xs : List Value) (hx : ac.eval x = .slice a n cap) (hown : Own w e size (.slice a n cap) n xs)
    (hlo : Bnd (lo.map ac.eval) 0 L) (hhi : Bnd (hh.map ac.eval) n H) (h1 : L ≤ H) (h2 : H ≤ n)
    (h : ∀ a', Own w e size (.slice a' (H - L) (cap - L)) (H - L) ((xs.drop (L * size)).take ((H - L) * size)) → Value.ownBlock (.slice a' (H - L) (cap - L)) = Value.ownBlock (.slice a n cap) →
      K (ac.put o.dst (.slice a' (H - L) (cap - L))) w) : o.wp P ac w K Q := by
  obtain ⟨ao, cap', hv, hn, hc⟩ := hown.form
  simp only [Value.slice.injEq, true_and] at hv
  obtain ⟨rfl, rfl⟩ := hv
  have hr := run_cut (P := P) (w := w) t e i size ht hi hs a n cap L H _ _ hlo hhi h1 (by omega)
  have h3 := h (if cap = L then a else a.map fun (x : Addr) => x.add (L * size)) (hown.cut h1 h2) (cut_block a L H cap size n)
  unfold Oper.wp execOp
  simp only [ho, hx, Sem.run_bind, Sem.run_pure, Option.map_none, hr, Result.andThen_ok]
  exact h3
theorem wpList_cut_own {ops : Array Oper} {rest : List Oper} {o : Oper} {ac : Act} {Q : Exit → Act → World → Prop} (hgd : o.guard = none) (t : TypeId) (x : Operand) (lo hh : Option Operand)
    (ho : o.op = .slice t x lo hh none) (e : TypeId) (i : TypeInfo) (size : Nat) (ht : P.underlying t = some (.slice e)) (hi : P.info? e = some i) (hs : i.size = size)
    (a : Option Addr) (n cap L H : Nat) (xs : List Value) (hx : ac.eval x = .slice a n cap) (hown : Own w e size (.slice a n cap) n xs)
    (hlo : Bnd (lo.map ac.eval) 0 L) (hhi : Bnd (hh.map ac.eval) n H) (h1 : L ≤ H) (h2 : H ≤ n)
    (h : ∀ a', Own w e size (.slice a' (H - L) (cap - L)) (H - L) ((xs.drop (L * size)).take ((H - L) * size)) → Value.ownBlock (.slice a' (H - L) (cap - L)) = Value.ownBlock (.slice a n cap) →
      wpList P ops Q rest (ac.put o.dst (.slice a' (H - L) (cap - L))) w) : wpList P ops Q (o :: rest) ac w :=
  wpList_plain hgd fun _ hK => wp_cut_own t x lo hh ho e i size ht hi hs a n cap L H xs hx hown hlo hhi h1 h2 fun a' p q => hK _ _ (h a' p q)
theorem wp_cut_rd {o : Oper} {ac : Act} {K : Act → World → Prop} {Q : Exit → Act → World → Prop} (t : TypeId) (x : Operand) (lo hh : Option Operand)
    (ho : o.op = .slice t x lo hh none) (e : TypeId) (i : TypeInfo) (size : Nat) (ht : P.underlying t = some (.slice e)) (hi : P.info? e = some i) (hs : i.size = size)
    (a : Option Addr) (n cap L H : Nat) (xs : List Value) (hx : ac.eval x = .slice a n cap) (hrd : Rd w size (.slice a n cap) n xs)
    (hlo : Bnd (lo.map ac.eval) 0 L) (hhi : Bnd (hh.map ac.eval) n H) (h1 : L ≤ H) (h2 : H ≤ n)
    (h : ∀ a', Rd w size (.slice a' (H - L) (cap - L)) (H - L) ((xs.drop (L * size)).take ((H - L) * size)) → Value.ownBlock (.slice a' (H - L) (cap - L)) = Value.ownBlock (.slice a n cap) →
      K (ac.put o.dst (.slice a' (H - L) (cap - L))) w) : o.wp P ac w K Q := by
  have hn : n ≤ cap := by
    obtain ⟨_, ao, cap', hv, hn, _⟩ := hrd
    simp only [Value.slice.injEq, true_and] at hv
    obtain ⟨rfl, rfl⟩ := hv
    exact hn
  have hr := run_cut (P := P) (w := w) t e i size ht hi hs a n cap L H _ _ hlo hhi h1 (by omega)
  have h3 := h (if cap = L then a else a.map fun (x : Addr) => x.add (L * size)) (hrd.cut h1 h2) (cut_block a L H cap size n)
  unfold Oper.wp execOp
  simp only [ho, hx, Sem.run_bind, Sem.run_pure, Option.map_none, hr, Result.andThen_ok]
  exact h3
theorem wpList_cut_rd {ops : Array Oper} {rest : List Oper} {o : Oper} {ac : Act} {Q : Exit → Act → World → Prop} (hgd : o.guard = none) (t : TypeId) (x : Operand) (lo hh : Option Operand)
    (ho : o.op = .slice t x lo hh none) (e : TypeId) (i : TypeInfo) (size : Nat) (ht : P.underlying t = some (.slice e)) (hi : P.info? e = some i) (hs : i.size = size)
    (a : Option Addr) (n cap L H : Nat) (xs : List Value) (hx : ac.eval x = .slice a n cap) (hrd : Rd w size (.slice a n cap) n xs)
    (hlo : Bnd (lo.map ac.eval) 0 L) (hhi : Bnd (hh.map ac.eval) n H) (h1 : L ≤ H) (h2 : H ≤ n)
    (h : ∀ a', Rd w size (.slice a' (H - L) (cap - L)) (H - L) ((xs.drop (L * size)).take ((H - L) * size)) → Value.ownBlock (.slice a' (H - L) (cap - L)) = Value.ownBlock (.slice a n cap) →
      wpList P ops Q rest (ac.put o.dst (.slice a' (H - L) (cap - L))) w) : wpList P ops Q (o :: rest) ac w :=
  wpList_plain hgd fun _ hK => wp_cut_rd t x lo hh ho e i size ht hi hs a n cap L H xs hx hrd hlo hhi h1 h2 fun a' p q => hK _ _ (h a' p q)
end
theorem Rd.form {w : World} {size : Nat} {v : Value} {n : Nat} {xs : List Value} (h : Rd w size v n xs) : ∃ ao cap, v = .slice ao n cap ∧ n ≤ cap ∧ cap ≤ maxLen := by
  obtain ⟨_, ao, cap, hv, hn, hc, _⟩ := h
  exact ⟨ao, cap, hv, hn, hc⟩
/-- Where the elements of a slice that is not empty lie. -/
theorem Rd.spot {w : World} {size : Nat} {ao : Option Addr} {cap n : Nat} {xs : List Value} (h : Rd w size (.slice ao n cap) n xs) (hn : 0 < n) :
    ∃ b off, ao = some ⟨b, off, none⟩ ∧ ∀ j u, xs[j]? = some u → w.cell? ⟨b, off + j, none⟩ = some u := by
  obtain ⟨_, ao', cap', hv, _, _, _, h0 | h0⟩ := h
  · omega
  · simp only [Value.slice.injEq, true_and] at hv
    obtain ⟨rfl, rfl⟩ := hv
    exact h0
/-- A slice in memory that the call has made: what the call began with is as it was. -/
theorem fresh_app {w wr w1 : World} {v v' : Value} {o : Obj} (hM : Mod w wr (fun _ => False)) (hfr : ∀ k, v.ownBlock = some k → w.heap.size ≤ k) (hgrow : (wr.alloc o).grownBy w1 v.ownBlock)
    (hat : v'.ownBlock = v.ownBlock ∨ v'.ownBlock = some (wr.alloc o).heap.size) : Mod w w1 (fun _ => False) ∧ ∀ k, v'.ownBlock = some k → w.heap.size ≤ k := by
  refine ⟨(hM.alloc o).grown hgrow fun k hk => .inl (hfr k hk), fun k hk => ?_⟩
  rcases hat with h | h
  · exact hfr k (h ▸ hk)
  · have h1 : (wr.alloc o).heap.size = wr.heap.size + 1 := by show (wr.heap.push o).size = _; simp
    rw [h, h1] at hk; injection hk with hk
    have := hM.size; omega
theorem fresh_app0 {w wr w1 : World} {v v' : Value} (hM : Mod w wr (fun _ => False)) (hfr : ∀ k, v.ownBlock = some k → w.heap.size ≤ k) (hgrow : wr.grownBy w1 v.ownBlock)
    (hat : v'.ownBlock = v.ownBlock ∨ v'.ownBlock = some wr.heap.size) : Mod w w1 (fun _ => False) ∧ ∀ k, v'.ownBlock = some k → w.heap.size ≤ k := by
  refine ⟨hM.grown hgrow fun k hk => .inl (hfr k hk), fun k hk => ?_⟩
  rcases hat with h | h
  · exact hfr k (h ▸ hk)
  · rw [h] at hk; injection hk with hk
    have := hM.size; omega
theorem Mod.toBelow {w w' : World} (h : Mod w w' (fun _ => False)) : Below w.heap.size w w' := h.below (Nat.le_refl _) (fun _ _ h => h)
theorem Rd.kept0 {w w' : World} {size : Nat} {v : Value} {n : Nat} {xs : List Value} (h : Rd w size v n xs) {S : Nat → Prop} (hm : Mod w w' S) (hs : 0 < n → ∀ k, v.ownBlock = some k → ¬ S k) : Rd w' size v n xs := by
  by_cases hn : 0 < n
  · exact h.kept hm (hs hn)
  · obtain ⟨h1, ao, cap, hv, h2, h3, h4, _⟩ := h
    exact ⟨h1, ao, cap, hv, h2, h3, h4, .inl (by omega)⟩
theorem Rd.lt {w : World} {size : Nat} {v : Value} {n : Nat} {xs : List Value} (h : Rd w size v n xs) (hs : 0 < size) (hn : 0 < n) : ∀ k, v.ownBlock = some k → k < w.heap.size := by
  obtain ⟨h1, ao, cap, rfl, _, _, _, h0 | ⟨b, off, rfl, hc⟩⟩ := h
  · omega
  · intro k hk
    simp only [Value.ownBlock, Option.some.injEq] at hk
    subst hk
    have hl : 0 < xs.length := by rw [h1]; exact Nat.mul_pos hn hs
    exact World.block_lt_of_cell? w _ (hc 0 _ (List.getElem?_eq_getElem hl))
/-! ### append of one element, which the call has just laid in a block of its own -/
theorem wpList_app1 {P : Program} {wr : World} {x : Value} {ops : Array Oper} {rest : List Oper} {o : Oper} {a : Act} {Q : Exit → Act → World → Prop} (hgd : o.guard = none) (s y : Operand) (t : TypeId)
    (ho : o.op = .call { callee := .builtin .append, args := #[s, y], argTypes := #[t, t] })
    (e : TypeId) (i : TypeInfo) (z : Value) (bytes : Nat) (ht : P.underlying t = some (.slice e)) (hi : P.info? e = some i) (hz : i.zero = some z)
    (hsize : i.size = 1) (hby : i.bytes = bytes) (hzs : z.cells.size = 1)
    (v : Value) (n : Nat) (xs : List Value) (hs : a.eval s = v) (hown : Own wr e 1 v n xs)
    (hx : a.eval y = .slice (some ⟨wr.heap.size, 0, none⟩) 1 1) (h1 : x.oneCell' = true)
    (h63 : n + 1 ≤ maxLen) (hbytes : (n + 1) * bytes ≤ 140737488355328)
    (h : ∀ ao cap w', Own w' e 1 (.slice ao (n + 1) cap) (n + 1) (xs ++ [x]) → (wr.alloc (.cells #[x] e)).grownBy w' v.ownBlock →
      (Value.ownBlock (.slice ao (n + 1) cap) = v.ownBlock ∨ Value.ownBlock (.slice ao (n + 1) cap) = some (wr.alloc (.cells #[x] e)).heap.size) → wpList P ops Q rest (a.put o.dst (.slice ao (n + 1) cap)) w') : wpList P ops Q (o :: rest) a (wr.alloc (.cells #[x] e)) :=
  wpList_app _ hgd s y t ho e i z 1 bytes ht hi hz hsize hby hzs (by decide) v n xs hs (hown.alloc _) _ 1 [x] hx (Rd.lit wr [x] e 1 1 (by decide) rfl) (by simpa using h1) h63 hbytes h
theorem step_app1 {P : Program} {wr : World} {x : Value} {ops : Array Oper} {o : Oper} {a : Act} {K : Act → World → Prop} {Q : Exit → Act → World → Prop} {E : Prop} (hgd : o.guard = none) (s y : Operand) (t : TypeId)
    (ho : o.op = .call { callee := .builtin .append, args := #[s, y], argTypes := #[t, t] })
    (e : TypeId) (i : TypeInfo) (z : Value) (bytes : Nat) (ht : P.underlying t = some (.slice e)) (hi : P.info? e = some i) (hz : i.zero = some z)
    (hsize : i.size = 1) (hby : i.bytes = bytes) (hzs : z.cells.size = 1)
    (v : Value) (n : Nat) (xs : List Value) (hs : a.eval s = v) (hown : Own wr e 1 v n xs)
    (hx : a.eval y = .slice (some ⟨wr.heap.size, 0, none⟩) 1 1) (h1 : x.oneCell' = true)
    (h63 : n + 1 ≤ maxLen) (hbytes : (n + 1) * bytes ≤ 140737488355328)
    (h : ∀ ao cap w', Own w' e 1 (.slice ao (n + 1) cap) (n + 1) (xs ++ [x]) → (wr.alloc (.cells #[x] e)).drew.grownBy w' v.ownBlock →
      (Value.ownBlock (.slice ao (n + 1) cap) = v.ownBlock ∨ Value.ownBlock (.slice ao (n + 1) cap) = some (wr.alloc (.cells #[x] e)).drew.heap.size) → K (a.put o.dst (.slice ao (n + 1) cap)) w') :
    if Region.wanted o (yielded ops a.tmps) = true then Oper.wp P o a (wr.alloc (.cells #[x] e)).drew K Q else E :=
  step_app _ hgd s y t ho e i z 1 bytes ht hi hz hsize hby hzs (by decide) v n xs hs (hown.alloc _).drew _ 1 [x] hx (Rd.lit wr [x] e 1 1 (by decide) rfl).drew (by simpa using h1) h63 hbytes h
end Go.Proofs.YtkdmdbojcdonpaaGreatDoor
