/-
  The law BlockWrong over the landed package.
-/
import Derived.Test.YthibpnkdhbkakaaDoorMd34
import Derived.Test.YthibpnkdhbkakaaDoorMd36
import Derived.Test.YthibpnkdhbkakaaDoorRows
import Derived.Test.YthibpnkdhbkakaaDoorMd20
import Derived.ProofKit
import Derived.LaidMore
import Derived.OpenShut
import Derived.Deep.Strs
import Derived.Stop.Joined
namespace Go.Proofs.YthibpnkdhbkakaaDoor
set_option maxRecDepth 5000
open Go.RowKit

theorem blockWrong_at (kind : Int) (v : Value) (l : List Tok) (q : Int) (w : World) (HLV : Ordr w) (hk : (Lit.int .i64 kind).wf = true) (hg : shToks.good w [v] l) (hq : (Lit.int .u32 q).wf = true) :
    Calls Tryd.prog 3 #[.int .i64 kind, v, .int .u32 q] w fun e w' => e = .returned (.bool true) ∧ Below w.heap.size w w' := by
  obtain ⟨hok, hv⟩ := toks_of hg
  exact blockWrong_from blockOK kind v l q w HLV hk hok hv (Go.bounds_u32 hq)
end Go.Proofs.YthibpnkdhbkakaaDoor
/-
  From the row's condition on the package-level array of the order of lengths to the array's cells; a start that meets it.
-/
namespace Go.Proofs.YthibpnkdhbkakaaDoor
set_option maxRecDepth 5000
open Go.ChangeShapes Go.WideShapes Go.ChangeAt Go.RowKit

def laidOrd : List (String × DataW Unit) := [("concertina/block.order", Rows.laid_concertina_block_order)]
theorem gOrd : Tryd.prog.globalNamed "concertina/block.order" = some 0 := by kernel_rfl
theorem tOrd : (Tryd.prog.globals[0]?).map (·.type) = some 98 := by kernel_rfl
theorem cells_intO : Tryd.prog.cellsOf 3 = 1 := by kernel_rfl
theorem ord_met (os : Os) (args : Array Value) : laidMetH Tryd.prog laidOrd ((World.doorLaid Tryd.prog 400 os).forCall (fun _ _ => 0) ⟨#[], args, []⟩).memory :=
  laidMetH_of_parts3 (fuel := 8) (laidMet_of_run' 8 (by kernel_rfl) (by kernel_rfl)) (by kernel_rfl) (by kernel_rfl)
section
variable {H : Type} {enc : TypeId × Value → H} {W : World} {base : Nat} {sp : Nat → Bool} {held : Bool}
theorem ord_int {m : Nat} {cs : List Value} {y : DataW H × List MemPlace} {a : Int} (h : DataW.trod enc Tryd.prog W base sp held m 3 cs = some y) (hy : y.1 = .lit (.int .i64 a)) : cs = [.int .i64 a] := by
  obtain ⟨n, e1, e2, _⟩ := DataW.trod_int Tryd.underlying3 h
  rw [e2] at hy
  have : n = a := by simpa using hy
  rw [← this]; exact e1
theorem ord_of_laid (h : laidMetH Tryd.prog laidOrd W) : Ordr W := by
  rw [MakeChecks.laidMetH_plain _ _ _ (by kernel_rfl)] at h
  obtain ⟨ps, ⟨g0, t0, cs, f0, p0, q0, hg0, ht0, hv0, hd0, _, _⟩, _, _⟩ := h
  obtain rfl := Option.some.inj (gOrd.symm.trans hg0)
  obtain rfl := Option.some.inj (tOrd.symm.trans ht0)
  obtain ⟨xs, m, _, hx, hlen, hn, hel⟩ := DataW.trod_array Tryd.underlying98 hd0
  have hxs : xs.map (·.1) = orderF.map fun (t : Nat) => DataW.lit (.int .i64 (t : Int)) := by
    have e := congrArg Prod.fst hx
    exact (DataW.agg.inj e).symm
  intro i v hv
  have hi : i < 19 := (List.getElem?_eq_some_iff.1 hv).1
  have hcell := World.var?_cell hg0 hv0 i
  rw [hcell]
  have h1 := hel i hi
  rw [cells_intO] at h1
  have h2 : xs[i]? = some (xs[i]'(by omega)) := List.getElem?_eq_getElem _
  rw [h2] at h1
  obtain ⟨o, ho⟩ : ∃ o, orderF[i]? = some o := ⟨orderF[i]'hi, List.getElem?_eq_getElem _⟩
  have h3 := congrArg (fun l => l[i]?) hxs
  simp only [List.getElem?_map] at h3
  rw [h2, ho] at h3
  have h4 := ord_int h1 (by simpa using h3)
  have h5 := congrArg (fun l => l[0]?) h4
  simp only [List.getElem?_take, List.getElem?_drop] at h5
  rw [Nat.mul_one] at h5
  simp at h5
  have h6 : v = .int .i64 (o : Int) := by
    simp [nums, ho] at hv
    exact hv.symm
  rw [h6, h5]
end
end Go.Proofs.YthibpnkdhbkakaaDoor
