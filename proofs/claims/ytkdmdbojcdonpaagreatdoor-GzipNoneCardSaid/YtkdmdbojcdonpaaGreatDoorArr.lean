/-
  Arrays of numbers: as values, as variables that the call has made; the laws of their making, loading, storing whole and indexing. No program is named here.
-/
import Derived.Test.YtkdmdbojcdonpaaGreatDoorHeld
import Derived.Test.YtkdmdbojcdonpaaGreatDoorArgs
namespace Go.Proofs.YtkdmdbojcdonpaaGreatDoor
set_option maxRecDepth 5000
open Go.RowKit

/-- an array of numbers as a value -/
def arrV (k : IntKind) (l : List Nat) : Value := .agg (nums k l).toArray
theorem nums_one (k : IntKind) (l : List Nat) : ∀ u ∈ nums k l, u.oneCell' = true := by
  intro u hu
  obtain ⟨_, _, rfl⟩ := List.mem_map.1 hu
  rfl
theorem nums_set (k : IntKind) (l : List Nat) (i b : Nat) : (nums k l).set i (.int k (b : Int)) = nums k (l.set i b) := by
  simp [nums, List.map_set]
theorem nums_replicate (k : IntKind) (n b : Nat) : nums k (List.replicate n b) = List.replicate n (.int k (b : Int)) := by simp [nums]

def isArr (d : TypeDesc) : Bool := match d with | .struct _ | .array _ _ => true | _ => false

section
variable {P : Program} {w : World}
theorem run_index_arr (t e len : Nat) (d : TypeDesc) (i : TypeInfo) (ht : P.underlying t = some (.array len e)) (he : P.underlying e = some d) (hd : isArr d = false) (hi : P.info? e = some i) (hs : i.size = 1)
    (cs : Array Value) (k : IntKind) (j : Nat) (v : Value) (hj : j < len) (hv : cs[j]? = some v) :
    (Instr.index t (.agg cs) (.int k (j : Int))).run P w = .ok v w := by
  have hagg : (isAgg e).run P w = .ok false w := by
    unfold isAgg
    rw [Sem.run_bind, run_underlying he w]
    cases d <;> simp_all [isArr]
  have h2 : (0 : Int) ≤ (j : Int) ∧ (j : Int) < (len : Int) := by omega
  simp [Instr.index, asIntOf, run_underlying ht, h2, sizeOf, typeInfo, hi, hs, part, hagg, hv]
  intro h; omega
theorem wpList_index_arr {ops : Array Oper} {rest : List Oper} {o : Oper} {ac : Act} {Q : Exit → Act → World → Prop} (hgd : o.guard = none) (t : TypeId) (x y : Operand) (ho : o.op = .index t x y)
    (e len : Nat) (d : TypeDesc) (ht : P.underlying t = some (.array len e)) (he : P.underlying e = some d) (hd : isArr d = false) (hi : (P.info? e).map (·.size) = some 1)
    (k : IntKind) (l : List Nat) (k2 : IntKind) (j b : Nat) (hx : ac.eval x = arrV k l) (hy : ac.eval y = .int k2 (j : Int)) (hj : j < len) (hb : l[j]? = some b)
    (h : wpList P ops Q rest (ac.put o.dst (.int k (b : Int))) w) : wpList P ops Q (o :: rest) ac w :=
  wpList_plain hgd fun _ hK => by
    obtain ⟨i, hi1, hi2⟩ : ∃ i, P.info? e = some i ∧ i.size = 1 := by
      cases hq : P.info? e with
      | none => simp [hq] at hi
      | some i => exact ⟨i, rfl, by simpa [hq] using hi⟩
    have hr := run_index_arr (P := P) (w := w) t e len d i ht he hd hi1 hi2 (nums k l).toArray k2 j (.int k (b : Int)) hj (by simp [nums, hb])
    unfold Oper.wp execOp
    simp only [ho, hx, hy, Sem.run_bind, Sem.run_pure, arrV, hr, Result.andThen_ok]
    exact hK _ _ h
theorem wpList_alloc_arr {ops : Array Oper} {rest : List Oper} {o : Oper} {ac : Act} {Q : Exit → Act → World → Prop} (hgd : o.guard = none) (t : TypeId) (ho : o.op = .alloc t)
    (k : IntKind) (l : List Nat) (hz : (P.info? t).map (·.zero) = some (some (arrV k l)))
    (h : wpList P ops Q rest (ac.put o.dst (.pointer (some ⟨w.heap.size, 0, none⟩))) (w.alloc (.cells (nums k l).toArray t))) : wpList P ops Q (o :: rest) ac w :=
  wpList_plain hgd fun _ hK => by
    cases hq : P.info? t with
    | none => simp [hq] at hz
    | some i =>
      have hi : i.zero = some (arrV k l) := by simpa [hq] using hz
      unfold Oper.wp execOp
      simp only [ho, Instr.alloc, zeroValue, typeInfo, Sem.run_bind, Sem.run_pure]
      simp [hq, hi, newVar, newRow, arrV, Value.cells, newObj]
      exact hK _ _ h

theorem wpList_box_arr {ops : Array Oper} {rest : List Oper} {o : Oper} {ac : Act} {Q : Exit → Act → World → Prop} (hgd : o.guard = none) (t : TypeId) (x : Operand) (ho : o.op = .box t x)
    (k : IntKind) (l : List Nat) (hx : ac.eval x = arrV k l)
    (h : wpList P ops Q rest (ac.put o.dst (.pointer (some ⟨w.heap.size, 0, none⟩))) (w.alloc (.cells (nums k l).toArray t))) : wpList P ops Q (o :: rest) ac w :=
  wpList_plain hgd fun _ hK => by
    unfold Oper.wp execOp
    simp only [ho, hx, Instr.box, Sem.run_bind, Sem.run_pure]
    simp [newVar, newRow, arrV, Value.cells, newObj]
    exact hK _ _ h

theorem wpList_load_arr {ops : Array Oper} {rest : List Oper} {o : Oper} {ac : Act} {Q : Exit → Act → World → Prop} (hgd : o.guard = none) (t : TypeId) (x : Operand) (ho : o.op = .load t x)
    (d : TypeDesc) (n : Nat) (ht : P.underlying t = some d) (hd : isArr d = true) (hi : (P.info? t).map (·.size) = some n)
    (B : Nat) (k : IntKind) (l : List Nat) (T : TypeId) (hx : ac.eval x = .pointer (some ⟨B, 0, none⟩)) (hl : l.length = n) (hB : Blk w B (nums k l) T)
    (h : wpList P ops Q rest (ac.put o.dst (arrV k l)) w) : wpList P ops Q (o :: rest) ac w :=
  wpList_load_row hgd t x ho B hx T (nums k l).toArray (0, 0) d hB ht (by cases d <;> simp_all [isArr]) (by rw [hi]; simp [nums, hl]) h
theorem wpList_store_arr {ops : Array Oper} {rest : List Oper} {o : Oper} {ac : Act} {Q : Exit → Act → World → Prop} (hgd : o.guard = none) (t : TypeId) (x y : Operand) (ho : o.op = .store t x y)
    (n : Nat) (hi : (P.info? t).map (·.size) = some n)
    (B : Nat) (k : IntKind) (l l2 : List Nat) (T : TypeId) (hx : ac.eval x = .pointer (some ⟨B, 0, none⟩)) (hy : ac.eval y = arrV k l2) (hl : l.length = n) (hl2 : l2.length = n) (hB : Blk w B (nums k l) T)
    (h : ∀ w', Blk w' B (nums k l2) T → Mod w w' (fun k => k = B) → wpList P ops Q rest (ac.put o.dst undef) w') : wpList P ops Q (o :: rest) ac w :=
  wpList_store_row hgd t x y ho B (nums k l2).toArray hx hy T (nums k l).toArray hB (by rw [hi]; simp [nums, hl2]) (by simp [nums, hl, hl2])
    (by rw [Array.all_eq_true_iff_forall_mem]; intro u hu; exact nums_one k l2 u (by simpa using hu))
    (h _ (setRow_heap w B _ _ T (0, 0) hB) ⟨rfl, rfl, rfl, by simp, fun j _ hne => setRow_other w B j _ hne⟩)
theorem ret_arr {fn : Func} {p : Tmp} {t : TypeId} (hf : fn.results = #[.cell p t]) {R : Ending → World → Prop} {a : Act}
    (d : TypeDesc) (n : Nat) (ht : P.underlying t = some d) (hd : isArr d = true) (hi : (P.info? t).map (·.size) = some n)
    (B : Nat) (k : IntKind) (l : List Nat) (T : TypeId) (hp : a.tmps.getD p undef = .pointer (some ⟨B, 0, none⟩)) (hl : l.length = n) (hB : Blk w B (nums k l) T)
    (hdf : a.defers = []) (h : R (.returned (arrV k l)) w) : bodyPost P fn R .ret a w :=
  bodyPost_ret (v := arrV k l) (results_cell_row hf a.tmps w B T (nums k l).toArray (0, 0) d hp hB ht (by cases d <;> simp_all [isArr]) (by rw [hi]; simp [nums, hl])) hdf h
end
theorem Held.putObj {w0 w w' : World} {B : Nat} {cs cs' : List Value} {T : TypeId} {Rs : List Thing} (h : Held w0 w (objT B cs T :: Rs)) (hB : Blk w' B cs' T) (hm : Mod w w' (fun k => k = B)) : Held w0 w' (objT B cs' T :: Rs) := by
  obtain ⟨F, h1, h2, back⟩ := h.take
  exact back w' _ F ⟨hB, h1.2⟩ (hm.mono fun k _ hk => (h1.2 k).2 hk) (fun k hk => .inl hk) (fun k hk => Nat.lt_of_lt_of_le (h2 k hk).2 hm.size)
end Go.Proofs.YtkdmdbojcdonpaaGreatDoor
