/-
  Results that lie in a cell of the call's own: a struct alone, or with a second result. No program is named here.
-/
import Derived.Test.YtkdmdbojcdonpaaGreatDoorArr
namespace Go.Proofs.YtkdmdbojcdonpaaGreatDoor
set_option maxRecDepth 5000
open Go.RowKit

theorem ret_obj {P : Program} {w : World} {fn : Func} {p : Tmp} {t : TypeId} (hf : fn.results = #[.cell p t]) {R : Ending → World → Prop} {a : Act}
    (d : TypeDesc) (n : Nat) (ht : P.underlying t = some d) (hd : isArr d = true) (hi : (P.info? t).map (·.size) = some n)
    (B : Nat) (cs : List Value) (T : TypeId) (hp : a.tmps.getD p undef = .pointer (some ⟨B, 0, none⟩)) (hl : cs.length = n) (hB : Blk w B cs T)
    (hdf : a.defers = []) (h : R (.returned (.agg cs.toArray)) w) : bodyPost P fn R .ret a w :=
  bodyPost_ret (v := .agg cs.toArray) (results_cell_row hf a.tmps w B T cs.toArray (0, 0) d hp hB ht (by cases d <;> simp_all [isArr]) (by rw [hi]; simp [hl])) hdf h
theorem results_cell_tmp {P : Program} {fn : Func} {p q : Tmp} {ty : TypeId} (h : fn.results = #[.cell p ty, .tmp q]) (tmps : Array Value) (w : World) (g : Nat) (t : TypeId) (cs : Array Value) (fr : Nat × Nat) (d : TypeDesc)
    (hp : tmps.getD p undef = .pointer (some ⟨g, 0, none⟩)) (hg : w.heap[g]? = some (.cells cs t fr))
    (hu : P.underlying ty = some d) (hd : (match d with | .struct _ | .array _ _ => true | _ => false) = true) (hi : (P.info? ty).map (·.size) = some cs.size) :
    (results fn tmps).run P w = .ok (.tuple #[.agg cs, tmps.getD q undef]) w := by
  have hp' : tmps[p]?.getD undef = .pointer (some ⟨g, 0, none⟩) := by simpa using hp
  simp [results, h, hp', asAddr, run_loadVar_row w g t ty cs fr d hg hu hd hi]
theorem ret_cell_tmp {P : Program} {w : World} {fn : Func} {p q : Tmp} {t : TypeId} (hf : fn.results = #[.cell p t, .tmp q]) {R : Ending → World → Prop} {a : Act}
    (d : TypeDesc) (n : Nat) (ht : P.underlying t = some d) (hd : isArr d = true) (hi : (P.info? t).map (·.size) = some n)
    (B : Nat) (cs : List Value) (T : TypeId) (u : Value) (hp : a.tmps.getD p undef = .pointer (some ⟨B, 0, none⟩)) (hq : a.tmps.getD q undef = u) (hl : cs.length = n) (hB : Blk w B cs T)
    (hdf : a.defers = []) (h : R (.returned (.tuple #[.agg cs.toArray, u])) w) : bodyPost P fn R .ret a w :=
  bodyPost_ret (v := .tuple #[.agg cs.toArray, u]) (by rw [← hq]; exact results_cell_tmp hf a.tmps w B T cs.toArray (0, 0) d hp hB ht (by cases d <;> simp_all [isArr]) (by rw [hi]; simp [hl])) hdf h
theorem drew_add (w : World) (a b : Nat) : (w.drewN a).drewN b = w.drewN (a + b) := by
  simp only [World.drewN, Nat.add_assoc]
end Go.Proofs.YtkdmdbojcdonpaaGreatDoor
