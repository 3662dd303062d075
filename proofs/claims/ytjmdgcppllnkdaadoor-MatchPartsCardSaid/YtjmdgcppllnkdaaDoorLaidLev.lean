/-
  From the row's condition on the package-level table of levels to the table's cells; a start that meets it.
-/
import Derived.Test.YtjmdgcppllnkdaaDoorRows
import Derived.Test.YtjmdgcppllnkdaaDoorMatFin4
import Derived.ProofKit
import Derived.LaidMore
import Derived.OpenShut
import Derived.Deep.Strs
import Derived.Stop.Joined
namespace Go.Proofs.YtjmdgcppllnkdaaDoor
open Go.ChangeShapes Go.WideShapes Go.ChangeAt Go.RowKit

def laidLev : List (String × DataW Unit) := [("concertina/match.levels", Rows.laid_concertina_match_levels)]
theorem gLev : Tryd.prog.globalNamed "concertina/match.levels" = some 0 := by kernel_rfl
theorem tLev : (Tryd.prog.globals[0]?).map (·.type) = some 51 := by kernel_rfl
theorem cells_search : Tryd.prog.cellsOf 50 = 3 := by kernel_rfl
theorem cells_intM : Tryd.prog.cellsOf 3 = 1 := by kernel_rfl
theorem lev_met (os : Os) (args : Array Value) : laidMetH Tryd.prog laidLev ((World.doorLaid Tryd.prog 400 os).forCall (fun _ _ => 0) ⟨#[], args, []⟩).memory :=
  laidMetH_of_parts3 (fuel := 8) (laidMet_of_run' 8 (by kernel_rfl) (by kernel_rfl)) (by kernel_rfl) (by kernel_rfl)
section
variable {H : Type} {enc : TypeId × Value → H} {W : World} {base : Nat} {sp : Nat → Bool} {held : Bool}
theorem lev_int {m : Nat} {cs : List Value} {y : DataW H × List MemPlace} {a : Int} (h : DataW.trod enc Tryd.prog W base sp held m 3 cs = some y) (hy : y.1 = .lit (.int .i64 a)) : cs = [.int .i64 a] := by
  obtain ⟨n, e1, e2, _⟩ := DataW.trod_int Tryd.underlying3 h
  rw [e2] at hy
  have : n = a := by simpa using hy
  rw [← this]; exact e1
theorem lev_search {m : Nat} {cs : List Value} {y : DataW H × List MemPlace} {a b c : Int} (h : DataW.trod enc Tryd.prog W base sp held m 50 cs = some y) (hy : y.1 = .agg [.lit (.int .i64 a), .lit (.int .i64 b), .lit (.int .i64 c)]) : cs = [.int .i64 a, .int .i64 b, .int .i64 c] := by
  obtain ⟨y0, y1, y2, n, rfl, hl, h0, h1, h2⟩ := Deep.trod_struct3 Tryd.underlying50 h
  simp only [DataW.agg.injEq, List.cons.injEq, and_true] at hy
  rw [cells_search] at hl
  have k0 := lev_int h0 hy.1
  have k1 := lev_int h1 hy.2.1
  have k2 := lev_int h2 hy.2.2
  simp only [cells_intM] at k0 k1 k2
  match cs, hl with
  | [c0, c1, c2], _ =>
    simp at k0 k1 k2
    rw [k0, k1, k2]
theorem levs_of_laid (h : laidMetH Tryd.prog laidLev W) : Levs W := by
  rw [MakeChecks.laidMetH_plain _ _ _ (by kernel_rfl)] at h
  obtain ⟨ps, ⟨g0, t0, cs, f0, p0, q0, hg0, ht0, hv0, hd0, _, _⟩, _, _⟩ := h
  obtain rfl := Option.some.inj (gLev.symm.trans hg0)
  obtain rfl := Option.some.inj (tLev.symm.trans ht0)
  obtain ⟨xs, m, _, hx, hlen, hn, hel⟩ := DataW.trod_array Tryd.underlying51 hd0
  have hxs : xs.map (·.1) = lvls.map fun t => DataW.agg [.lit (.int .i64 (t.1 : Int)), .lit (.int .i64 (t.2.1 : Int)), .lit (.int .i64 (t.2.2 : Int))] := by
    have e := congrArg Prod.fst hx
    exact (DataW.agg.inj e).symm
  have hcs : ∀ k, k < 10 → (cs.toList.drop (k * 3)).take 3 = [.int .i64 (((lvls[k]?.getD (0, 0, 0)).1 : Nat) : Int), .int .i64 (((lvls[k]?.getD (0, 0, 0)).2.1 : Nat) : Int), .int .i64 (((lvls[k]?.getD (0, 0, 0)).2.2 : Nat) : Int)] := by
    intro k hk
    have h1 := hel k hk
    rw [cells_search] at h1
    have h2 : xs[k]? = some (xs[k]'(by omega)) := List.getElem?_eq_getElem _
    rw [h2] at h1
    refine lev_search h1 ?_
    have h3 := congrArg (fun l => l[k]?) hxs
    simp only [List.getElem?_map] at h3
    rw [h2] at h3
    have hk2 : k < lvls.length := hk
    rw [List.getElem?_eq_getElem hk2] at h3 ⊢
    simpa using h3
  intro i v hv
  have hi : i < 30 := (List.getElem?_eq_some_iff.1 hv).1
  have hcell := World.var?_cell hg0 hv0 i
  rw [hcell]
  obtain ⟨k, j, hij, hk, hj⟩ : ∃ k j, i = k * 3 + j ∧ k < 10 ∧ j < 3 := ⟨i / 3, i % 3, by omega, by omega, by omega⟩
  have h1 := hcs k hk
  have h2 := lvl_cells k hk
  have h3 := congrArg (fun l => l[j]?) h1
  simp only [List.getElem?_take, if_pos hj, List.getElem?_drop] at h3
  rw [← hij, Array.getElem?_toList] at h3
  rw [h3]
  rw [hij] at hv
  match j, hj with
  | 0, _ => rw [Nat.add_zero, h2.1] at hv; exact hv
  | 1, _ => rw [h2.2.1] at hv; exact hv
  | 2, _ => rw [h2.2.2] at hv; exact hv
end
end Go.Proofs.YtjmdgcppllnkdaaDoor
