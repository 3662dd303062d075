/-
  Items packed two by two.
-/
import Derived.Test.YtdmnfjicjjlnnaaGreatDoorDm21
import Derived.Test.YtdmnfjicjjlnnaaGreatDoorDm14
import Derived.Test.YtdmnfjicjjlnnaaGreatDoorDm03
import Derived.Test.YtdmnfjicjjlnnaaGreatDoorDm04
import Derived.Deep.DeepCutAuto
import Derived.Test.YtdmnfjicjjlnnaaGreatDoorDm20
namespace Go.Proofs.YtdmnfjicjjlnnaaGreatDoor
set_option maxRecDepth 5000
open Go.RowKit
def packI : List Itm → List Itm
  | a :: b :: l => (a.1 + b.1, -1) :: packI l
  | _ => []
theorem packI_length : ∀ l : List Itm, (packI l).length = l.length / 2
  | [] => rfl
  | [a] => by simp [packI]
  | a :: b :: l => by rw [packI, List.length_cons, packI_length l, List.length_cons, List.length_cons]; omega
theorem packI_get : ∀ (l : List Itm) (i : Nat) (x y : Itm), l[2 * i]? = some x → l[2 * i + 1]? = some y → (packI l)[i]? = some (x.1 + y.1, -1)
  | [], i, x, y, h, _ => by simp at h
  | [a], i, x, y, h, h2 => by
    have := (List.getElem?_eq_some_iff.1 h2).1
    simp at this
  | a :: b :: l, 0, x, y, h, h2 => by
    obtain rfl : a = x := by simpa using h
    obtain rfl : b = y := by simpa using h2
    rfl
  | a :: b :: l, i + 1, x, y, h, h2 => by
    rw [show 2 * (i + 1) = 2 * i + 1 + 1 by omega] at h h2
    simpa [packI] using packI_get l i x y (by simpa using h) (by simpa using h2)
theorem made_items (n : Nat) : (madeCells (Value.cells (.agg #[.int .i64 0, .int .i64 0])) (n * 2)).toList = cellsI (List.replicate n (0, 0)) := by
  refine List.ext_getElem? fun j => ?_
  by_cases hj : j < n * 2
  · have h1 : (madeCells (Value.cells (.agg #[.int .i64 0, .int .i64 0])) (n * 2)).toList[j]? = some (.int .i64 0) := by
      have : j % 2 = 0 ∨ j % 2 = 1 := by omega
      rcases this with e | e <;> simp [madeCells, Value.cells, hj, e]
    rw [h1]
    have h2 : (List.replicate n ((0, 0) : Itm))[j / 2]? = some (0, 0) := by rw [List.getElem?_replicate, if_pos (by omega)]
    obtain ⟨g1, g2⟩ := cellsI_get _ _ _ h2
    have : j = j / 2 * 2 ∨ j = j / 2 * 2 + 1 := by omega
    rcases this with e | e
    · rw [e, g1]; rfl
    · rw [e, g2]
  · rw [List.getElem?_eq_none (by simp [madeCells]; omega), List.getElem?_eq_none (by rw [cellsI_length]; simp; omega)]
set_option maxHeartbeats 1600000 in
theorem pack_any (n : Nat) (l : List Itm) (v : Value) (w0 w : World) (Rs : List Thing) (h : Held w0 w (itmT v l :: Rs)) (hn : l.length = n) (hN2 : n ≤ 100000) (hw : ∀ x ∈ l, x.1 ≤ 1099511627776) :
    Calls Tryz.prog 109 #[v] w fun e w' => ∃ v', e = .returned v' ∧ Held w0 w' (itmT v' (packI l) :: itmT v l :: Rs) := by
  obtain ⟨i0, hi, hz0, hz1, hz2⟩ := info_parts infoItem
  obtain ⟨ao, cap, rfl, hc1, hc2⟩ := itm_form h
  rw [hn] at h hc1 ⊢
  have HL : Hid (l.length = n ∧ ∀ x ∈ l, x.1 ≤ 1099511627776) := hid ⟨hn, hw⟩
  have H := hid h
  have h0 : (0 : Int) ≤ (n : Int) := Int.natCast_nonneg _
  obtain ⟨k, hk⟩ : ∃ k, k = n / 2 := ⟨_, rfl⟩
  have hk1 : (n : Int) / 2 = (k : Int) := by omega
  have hk2 : Int.tdiv (n : Int) 2 = (k : Int) := by rw [Int.tdiv_eq_ediv_of_nonneg (by omega)]; exact hk1
  have hk0 : (0 : Int) ≤ (k : Int) := Int.natCast_nonneg _
  have hkn : 2 * k ≤ n := by omega
  have HK := hid hk
  clear h hn hw hk
  go_enter Tryz.func109, Tryz.ntmps109
  go_wp2_with ((with_reducible show wpList _ _ _ (⟨some 8, _, _, _, _, _⟩ :: _) _ _); refine wpList_make_own rfl 144 (.tmp 7) (.tmp 7) rfl 147 i0 (.agg #[.int .i64 0, .int .i64 0]) 2 Tryz.underlying144 hi hz0 hz1 .i64 k rfl rfl (by rw [hz2]; omega) (by unfold maxLen; omega) ?_; intro v1 w1 zs ho1 hm1 hf1 hv1 hzs; rw [made_items] at hzs; subst hzs; subst hv1; have HH1 := hid (H.out.pushOwn ho1 hm1 hf1); clear hm1 hf1 ho1)
  generalize w.heap.size = B at HH1 ⊢
  go_loopg [11] (k + 1) (fun q t11 wr => ∃ (i : Nat) (Q : List Itm), i ≤ k ∧ k - i < q ∧ t11 = .int .i64 (i : Int) ∧ Hid (Q.length = k ∧ ∀ j, j < i → Q[j]? = (packI l)[j]?) ∧
    Hid (Held w0 wr (ownT 147 2 (.slice (some ⟨B, 0, none⟩) k k) k (cellsI Q) :: itmT (.slice ao n cap) l :: Rs)))
  case atStart => exact ⟨0, List.replicate k (0, 0), by omega, by omega, rfl, hid ⟨by simp, fun j h => by omega⟩, HH1⟩
  case round =>
    obtain ⟨i, Q, hik, hq, rfl, HE, HH⟩ := hrel
    have h1 : (0 : Int) ≤ (i : Int) := Int.natCast_nonneg _
    by_cases hlt : i < k
    · have hltI : (i : Int) < (k : Int) := by omega
      obtain ⟨x, hx⟩ : ∃ x, l[2 * i]? = some x := ⟨l[2 * i]'(by have := HL.out.1; omega), List.getElem?_eq_getElem _⟩
      obtain ⟨y, hy⟩ : ∃ y, l[2 * i + 1]? = some y := ⟨l[2 * i + 1]'(by have := HL.out.1; omega), List.getElem?_eq_getElem _⟩
      have HX : Hid (l[2 * i]? = some x ∧ l[2 * i + 1]? = some y) := hid ⟨hx, hy⟩
      have hxm := HL.out.2 x (List.mem_of_getElem? hx)
      have hym := HL.out.2 y (List.mem_of_getElem? hy)
      obtain ⟨g, off, cap', hv, _, _, hcell, hfr, _⟩ := HH.out.swap.site2 (by have := HL.out.1; omega)
      simp only [Value.slice.injEq] at hv
      obtain ⟨rfl, _, rfl⟩ := hv
      have c1 := (hcell _ _ hx).1
      have c2 := (hcell _ _ hy).1
      have hQ : Held w0 wr (itmT (.slice (some ⟨B, 0, none⟩) k k) Q :: itmT (.slice (some ⟨g, off, none⟩) n cap) l :: Rs) := by
        have h := HH.out
        unfold itmT at *
        rw [HE.out.1]; exact h
      obtain ⟨q0, hq0⟩ : ∃ q0, Q[i]? = some q0 := ⟨Q[i]'(by have := HE.out.1; omega), List.getElem?_eq_getElem _⟩
      obtain ⟨g', off', cap', hv, _, _, hcell', hfr', hput⟩ := hQ.site2 (by have := HE.out.1; omega)
      simp only [Value.slice.injEq, Option.some.injEq, Addr.mk.injEq, and_true] at hv
      obtain ⟨⟨rfl, rfl⟩, _, _⟩ := hv
      have HP := hid (hput i (x.1 + y.1, -1) (by have := HE.out.1; omega))
      have c3 := (hcell' _ _ hq0).1
      have c4 := (hcell' _ _ hq0).2
      have hf1 := hfr' (0 + i * 2)
      have hf2 := hfr' (0 + i * 2 + 1)
      simp only [Nat.zero_add] at c3 c4 hf1 hf2 HP
      have HQ : Hid (∀ j, j < i + 1 → (Q.set i (x.1 + y.1, -1))[j]? = (packI l)[j]?) := by
        refine hid fun j hj => ?_
        rw [List.getElem?_set]
        by_cases e : i = j
        · subst e
          rw [if_pos rfl, if_pos (by have := HE.out.1; omega), packI_get l i x y hx hy]
        · rw [if_neg e]
          exact HE.out.2 j (by omega)
      clear hcell hfr hput hx hy hQ hcell' hfr' hq0
      have hin : 2 * i < n := by omega
      have hin2 : 2 * i + 1 < n := by omega
      go_wp2
      go_region
      go_wp2
      go_roundg (gk - 1)
      case measure => omega
      case rel =>
        refine ⟨i + 1, Q.set i (x.1 + y.1, -1), by omega, by omega, by go_num, hid ⟨by simp; exact HE.out.1, HQ.out⟩, ?_⟩
        have h := HP.out.drew
        unfold itmT at h ⊢
        rw [List.length_set, HE.out.1] at h
        exact hid h
    · have hltI : ¬ (i : Int) < (k : Int) := by omega
      obtain rfl : i = k := by omega
      have HF : Hid (Held w0 wr (itmT (.slice (some ⟨B, 0, none⟩) i i) (packI l) :: itmT (.slice ao n cap) l :: Rs)) := by
        have e : Q = packI l := by
          refine List.ext_getElem? fun j => ?_
          by_cases hj : j < i
          · exact HE.out.2 j hj
          · rw [List.getElem?_eq_none (by have := HE.out.1; omega), List.getElem?_eq_none (by rw [packI_length, HL.out.1]; have := HK.out; omega)]
        have h := HH.out
        rw [e] at h
        unfold itmT
        rw [packI_length, HL.out.1, ← HK.out]
        unfold itmT at h
        rw [HL.out.1] at h
        exact hid h
      go_wp2
      go_ret
      exact ⟨_, rfl, HF⟩
end Go.Proofs.YtdmnfjicjjlnnaaGreatDoor
/-
  The frequencies looked at: whether they may be, and the symbols that come.
-/
namespace Go.Proofs.YtdmnfjicjjlnnaaGreatDoor
set_option maxRecDepth 5000
open Go.RowKit
set_option maxHeartbeats 800000 in
theorem withinL_any (v : Value) (f : List Int) (w : World) (n : Nat) (hn : n = f.length) (hv : Rd w 1 v n (ints f)) (hl : n < 1000000) :
    Calls Tryz.prog 79 #[v] w fun e w' => e = .returned (.bool (frqIn f)) ∧ w = w' := by
  obtain ⟨ao, cap, rfl, _, _⟩ := hv.form
  have HN := hid hn
  clear hn
  have hn0 : (0 : Int) ≤ (n : Int) := Int.natCast_nonneg _
  go_enter Tryz.func79, Tryz.ntmps79
  go_wp2
  go_loopg [7] (n + 1) (fun k t7 wr => ∃ (i : Nat), i ≤ n ∧ n - i < k ∧ t7 = .int .i64 (i : Int) ∧ Hid (frqIn (f.take i) = true) ∧ wr = w)
  case atStart => exact ⟨0, by omega, by omega, rfl, rfl, rfl⟩
  case round =>
    obtain ⟨i, hi, hk, rfl, HA, rfl⟩ := hrel
    by_cases hin : i < n
    · obtain ⟨g, off, rfl, hcell⟩ := hv.spot (by omega)
      obtain ⟨a, hai⟩ : ∃ a, f[i]? = some a := ⟨f[i]'(by have := HN.out; omega), List.getElem?_eq_getElem _⟩
      have hc1 := hcell i _ (by rw [ints_get, hai]; rfl)
      have hi0 : (0 : Int) ≤ (i : Int) := Int.natCast_nonneg _
      have hi1 : (i : Int) < (n : Int) := by omega
      have HT := hid (take_snoc3 f i a hai)
      clear hcell hai
      have h5 : a < 0 ∨ 0 ≤ a ∧ 1048576 < a ∨ 0 ≤ a ∧ a ≤ 1048576 := by omega
      rcases h5 with h5 | ⟨h5, h6⟩ | ⟨h5, h6⟩
      · have HF : Hid (frqIn f = false) := hid (frqIn_take f (i + 1) (by rw [HT.out, frqIn_snoc, HA.out]; simp; omega))
        have hb3 : decide (a < 0) = true := by simp; omega
        go_wp2
        go_ret
        exact ⟨by rw [HF.out]; rfl, rfl⟩
      · have HF : Hid (frqIn f = false) := hid (frqIn_take f (i + 1) (by rw [HT.out, frqIn_snoc, HA.out]; simp; omega))
        have hb3 : decide (a < 0) = false := by simp; omega
        have hb4 : decide ((1048576 : Int) < a) = true := by simp; omega
        go_wp2
        go_ret
        exact ⟨by rw [HF.out]; rfl, rfl⟩
      · have HF : Hid (frqIn (f.take (i + 1)) = true) := hid (by rw [HT.out, frqIn_snoc, HA.out]; simp; omega)
        have hb3 : decide (a < 0) = false := by simp; omega
        have hb4 : decide ((1048576 : Int) < a) = false := by simp; omega
        go_wp2
        go_roundg (gk - 1)
        case measure => omega
        case rel => exact ⟨i + 1, by omega, by omega, by go_num, HF, rfl⟩
    · have hi1 : ¬ (i : Int) < (n : Int) := by omega
      have HF : Hid (frqIn f = true) := by
        have h := HA.out
        rw [List.take_of_length_le (by have := HN.out; omega)] at h
        exact hid h
      go_wp2
      go_ret
      exact ⟨by rw [HF.out]; rfl, rfl⟩
def symI : Nat → List Nat → List Itm
  | _, [] => []
  | k, a :: f => if 0 < a then (a, (k : Int)) :: symI (k + 1) f else symI (k + 1) f
theorem symI_snoc (a : Nat) : ∀ (f : List Nat) (k : Nat), symI k (f ++ [a]) = symI k f ++ (if 0 < a then [(a, ((k + f.length : Nat) : Int))] else [])
  | [], k => by simp [symI]
  | b :: f, k => by
    rw [List.cons_append, symI, symI, symI_snoc a f (k + 1), show k + 1 + f.length = k + (b :: f).length by simp; omega]
    by_cases h : 0 < b
    · rw [if_pos h, if_pos h]; rfl
    · rw [if_neg h, if_neg h]
theorem symI_length : ∀ (f : List Nat) (k : Nat), (symI k f).length = codedN f
  | [], _ => rfl
  | a :: f, k => by
    rw [symI, codedN]
    by_cases h : 0 < a
    · rw [if_pos h, if_pos h, List.length_cons, symI_length f]; omega
    · rw [if_neg h, if_neg h, symI_length f]; omega
theorem symI_le : ∀ (f : List Nat) (k : Nat), (symI k f).length ≤ f.length
  | [], _ => Nat.le_refl _
  | a :: f, k => by
    rw [symI, List.length_cons]
    have := symI_le f (k + 1)
    split
    · rw [List.length_cons]; omega
    · omega
set_option maxHeartbeats 1600000 in
theorem symbols_any (v : Value) (f : List Int) (w0 w : World) (Rs : List Thing) (h : Held w0 w Rs) (n : Nat) (hn : n = f.length) (hv : Rd w0 1 v n (ints f)) (hl : n < 1000) (hf : ∀ a ∈ f, 0 ≤ a ∧ a ≤ 1048576) :
    Calls Tryz.prog 80 #[v] w fun e w' => ∃ v', e = .returned v' ∧ Held w0 w' (itmT v' (symI 0 (f.map Int.toNat)) :: Rs) := by
  obtain ⟨i0, hi0, hz0, hz1, hz2⟩ := info_parts infoItem
  obtain ⟨ao, cap, rfl, _, _⟩ := hv.form
  have HN := hid hn
  have HF := hid hf
  have H := hid h
  clear hn hf h
  have hn0 : (0 : Int) ≤ (n : Int) := Int.natCast_nonneg _
  go_enter Tryz.func80, Tryz.ntmps80
  go_wp2
  go_loopg [3, 8] (n + 1) (fun k t3 t8 wr => ∃ (i L : Nat) (so : Option Addr) (sc : Nat), i ≤ n ∧ n - i < k ∧ t8 = .int .i64 (i : Int) ∧ t3 = .slice so L sc ∧ L ≤ i ∧ Hid (L = (symI 0 ((f.take i).map Int.toNat)).length) ∧
    Hid (Held w0 wr (ownT 147 2 (.slice so L sc) L (cellsI (symI 0 ((f.take i).map Int.toNat))) :: Rs)))
  case atStart => exact ⟨0, 0, none, 0, by omega, by omega, rfl, rfl, by omega, rfl, hid (H.out.nil _ _)⟩
  case round =>
    obtain ⟨i, L, so, sc, hi, hk, rfl, rfl, hLi, HL, HH⟩ := hrel
    have hI0 : (0 : Int) ≤ (i : Int) := Int.natCast_nonneg _
    by_cases hin : i < n
    · have hi1 : (i : Int) < (n : Int) := by omega
      obtain ⟨g1, off1, rfl, hcell⟩ := (HH.out.old hv).spot (by omega)
      obtain ⟨a, hai⟩ : ∃ a, f[i]? = some a := ⟨f[i]'(by have := HN.out; omega), List.getElem?_eq_getElem _⟩
      have ha := HF.out a (List.mem_of_getElem? hai)
      obtain ⟨x, rfl⟩ := Int.eq_ofNat_of_zero_le ha.1
      have hx : x ≤ 1048576 := by omega
      have hc1 := hcell i _ (by rw [ints_get, hai]; rfl)
      have HT : Hid (symI 0 ((f.take (i + 1)).map Int.toNat) = symI 0 ((f.take i).map Int.toNat) ++ (if 0 < x then [(x, ((i : Nat) : Int))] else [])) := by
        rw [take_snoc3 f i _ hai, List.map_append, List.map_cons, List.map_nil, symI_snoc]
        have hl : (List.map Int.toNat (f.take i)).length = i := by rw [List.length_map, List.length_take]; have := HN.out; omega
        rw [hl, Nat.zero_add]; exact hid rfl
      clear hcell hai ha
      by_cases hx0 : 0 < x
      · have hx0I : (0 : Int) < (x : Int) := by omega
        have HT2 : Hid (symI 0 ((f.take (i + 1)).map Int.toNat) = symI 0 ((f.take i).map Int.toNat) ++ [(x, ((i : Nat) : Int))]) := by
          have h := HT.out
          rw [if_pos hx0] at h
          exact hid h
        have HH1 := hid (HH.out.lit 147 2 (cellsI [(x, ((i : Nat) : Int))]) 1 (by decide) rfl).swap
        go_wp2_with ((with_reducible show wpList _ _ _ (⟨some 20, _, _, _, _, _⟩ :: _) _ _); refine wpList_app_held rfl (.tmp 15) (.tmp 19) 144 rfl 147 i0 (.agg #[.int .i64 0, .int .i64 0]) 2 16 Tryz.underlying144 hi0 hz0 hz1 hz2 rfl (by decide) _ L (cellsI (symI 0 ((f.take i).map Int.toNat))) rfl HH1.out _ 1 (cellsI [(x, ((i : Nat) : Int))]) rfl HH1.out.swap.own.rd (cellsI_one _) (L + 1) rfl (by unfold maxLen; omega) (by omega) ?_; intro ao1 cap1 w1 h1; rw [← cellsI_app, ← HT2.out] at h1; have HH2 := hid h1.swap.drop; clear h1)
        go_roundg (gk - 1)
        case measure => omega
        case rel => exact ⟨i + 1, L + 1, ao1, cap1, by omega, by omega, by go_num, rfl, by omega, hid (by rw [HT2.out, List.length_append, ← HL.out]; rfl), HH2⟩
      · have hx0I : ¬ (0 : Int) < (x : Int) := by omega
        have HT2 : Hid (symI 0 ((f.take (i + 1)).map Int.toNat) = symI 0 ((f.take i).map Int.toNat)) := by
          have h := HT.out
          rw [if_neg hx0, List.append_nil] at h
          exact hid h
        go_wp2
        go_roundg (gk - 1)
        case measure => omega
        case rel => exact ⟨i + 1, L, so, sc, by omega, by omega, by go_num, rfl, by omega, by rw [HT2.out]; exact HL, by rw [HT2.out]; exact HH⟩
    · have hi1 : ¬ (i : Int) < (n : Int) := by omega
      have HE : Hid (Held w0 wr (itmT (.slice so L sc) (symI 0 (f.map Int.toNat)) :: Rs)) := by
        have h := HH.out
        have h2 := HL.out
        rw [List.take_of_length_le (by have := HN.out; omega)] at h h2
        unfold itmT
        rw [← h2]; exact hid h
      go_wp2
      go_ret
      exact ⟨_, rfl, HE⟩
end Go.Proofs.YtdmnfjicjjlnnaaGreatDoor
/-
  A square table that the call has made: a slice of slices of whole numbers, each row in a block of its own. The first k rows are there, the others are nil. No program is named here.
-/
namespace Go.Proofs.YtdmnfjicjjlnnaaGreatDoor
set_option maxRecDepth 5000
open Go.RowKit
section
variable {w0 w : World} {Rs : List Thing} {eR eI : TypeId} {B : Nat} {b : Nat → Nat} {k N : Nat} {V : Nat → Nat → Nat}
end
theorem made_cells (z : Value) (n : Nat) (hz : z.cells = #[z]) : (madeCells z.cells (n * 1)).toList = List.replicate n z := by
  rw [Nat.mul_one, hz]
  refine List.ext_getElem? fun j => ?_
  by_cases hj : j < n
  · simp [madeCells, hj, Nat.mod_one]
  · rw [List.getElem?_eq_none (by simp [madeCells]; omega), List.getElem?_eq_none (by simp; omega)]
end Go.Proofs.YtdmnfjicjjlnnaaGreatDoor
/-
  The rows of items, each sorted: the symbols and the packages of the row before.
-/
namespace Go.Proofs.YtdmnfjicjjlnnaaGreatDoor
set_option maxRecDepth 5000
open Go.RowKit
def rowI (s : List Itm) : Nat → List Itm
  | 0 => []
  | t + 1 => ssort (s ++ packI (rowI s t))
theorem rowI_length (s : List Itm) : ∀ t, (rowI s t).length ≤ 2 * s.length
  | 0 => by simp [rowI]
  | t + 1 => by
    have := rowI_length s t
    rw [rowI, ssort_length, List.length_append, packI_length]; omega
theorem packI_mem : ∀ (l : List Itm) (x : Itm), x ∈ packI l → ∃ a b, a ∈ l ∧ b ∈ l ∧ x = (a.1 + b.1, -1)
  | [], x, h => by simp [packI] at h
  | [a], x, h => by simp [packI] at h
  | a :: b :: l, x, h => by
    rw [packI] at h
    rcases List.mem_cons.1 h with h | h
    · exact ⟨a, b, by simp, by simp, h⟩
    · obtain ⟨c, d, h1, h2, h3⟩ := packI_mem l x h
      exact ⟨c, d, by simp [h1], by simp [h2], h3⟩
theorem rowI_le (s : List Itm) (hs : ∀ x ∈ s, x.1 ≤ 1048576) : ∀ t, ∀ x ∈ rowI s t, x.1 ≤ 1048576 * 2 ^ t
  | 0, x, h => by simp [rowI] at h
  | t + 1, x, h => by
    rw [rowI] at h
    have hp : 1 ≤ 2 ^ t := Nat.one_le_two_pow
    rw [Nat.pow_succ]
    rcases List.mem_append.1 ((ssort_perm _).mem_iff.1 h) with h | h
    · have := hs x h; omega
    · obtain ⟨a, b, ha, hb, rfl⟩ := packI_mem _ _ h
      have h1 := rowI_le s hs t a ha
      have h2 := rowI_le s hs t b hb
      show a.1 + b.1 ≤ _
      omega
def mT (ms : List (Value × List Itm)) : List Thing := ms.map fun r => itmT r.1 r.2
theorem infoRow : (Tryz.prog.info? 144).map (fun i => (i.zero, i.size, i.bytes)) = some (some (.slice none 0 0), 1, 24) := by kernel_rfl
theorem set_mid (A C : List Value) (x y : Value) (n : Nat) (h : A.length = n) : (A ++ x :: C).set n y = A ++ y :: C := by
  rw [← h, List.set_append_right _ _ (Nat.le_refl _), Nat.sub_self]; rfl
theorem Held.rowAt {w0 w : World} {e : TypeId} {B m c : Nat} {xs : List Value} {Rs : List Thing} (h : Held w0 w (ownT e 1 (.slice (some ⟨B, 0, none⟩) m c) m xs :: Rs)) {i : Nat} {u : Value} (hu : xs[i]? = some u) (hm : 0 < m) : w.cell? ⟨B, i, none⟩ = some u := by
  obtain ⟨g, off, hg, hcell, _, _⟩ := h.own.site hm
  simp only [Option.some.injEq, Addr.mk.injEq, and_true] at hg
  obtain ⟨rfl, rfl⟩ := hg
  have := hcell i u hu
  rw [Nat.zero_add] at this; exact this
theorem mid_get (A C : List Value) (y : Value) (n : Nat) (h : A.length = n) : (A ++ y :: C)[n]? = some y := by
  rw [← h, List.getElem?_append_right (Nat.le_refl _), Nat.sub_self]; rfl
set_option maxHeartbeats 1600000 in
theorem rows_any (n m : Nat) (S : List Itm) (sv : Value) (w0 w : World) (Rs : List Thing) (h : Held w0 w (itmT sv S :: Rs)) (hn : S.length = n) (hn0 : 0 < n) (hN2 : n ≤ 1000) (hm : m ≤ 15) (hw : ∀ x ∈ S, x.1 ≤ 1048576) :
    Calls Tryz.prog 82 #[sv, .int .i64 (m : Int)] w fun e w' => ∃ (B : Nat) (ms : List (Value × List Itm)), e = .returned (.slice (some ⟨B, 0, none⟩) m m) ∧ ms.length = m ∧ ms.map (·.2) = (List.range m).map (fun t => rowI S (t + 1)) ∧
      Held w0 w' (ownT 144 1 (.slice (some ⟨B, 0, none⟩) m m) m (ms.map (·.1)) :: itmT sv S :: (mT ms ++ Rs)) := by
  obtain ⟨i0, hi, hz0, hz1, hz2⟩ := info_parts infoRow
  obtain ⟨so, sc, rfl, hc1, hc2⟩ := itm_form h
  have HL : Hid (S.length = n ∧ ∀ x ∈ S, x.1 ≤ 1048576) := hid ⟨hn, hw⟩
  rw [hn] at h hc1 ⊢
  have H := hid h
  have hm0 : (0 : Int) ≤ (m : Int) := Int.natCast_nonneg _
  clear h hn hw
  go_enter Tryz.func82, Tryz.ntmps82
  go_wp2_with ((with_reducible show wpList _ _ _ (⟨some 9, _, _, _, _, _⟩ :: _) _ _); refine wpList_make_own rfl 149 (.tmp 8) (.tmp 8) rfl 144 i0 (.slice none 0 0) 1 Tryz.underlying149 hi hz0 hz1 .i64 m rfl rfl (by rw [hz2]; omega) (by unfold maxLen; omega) ?_; intro v1 w1 zs ho1 hm1 hf1 hv1 hzs; rw [made_cells _ _ rfl] at hzs; subst hzs; subst hv1; have HH1 := hid (H.out.pushOwn ho1 hm1 hf1); clear hm1 hf1 ho1)
  generalize w.heap.size = B at HH1 ⊢
  go_loopg [6, 12] (m + 1) (fun k t6 t12 wr => ∃ (i : Nat) (ms : List (Value × List Itm)), i ≤ m ∧ m - i < k ∧ t12 = .int .i64 (i : Int) ∧ Hid (ms.length = i ∧ ms.map (·.2) = (List.range i).map (fun t => rowI S (t + 1))) ∧
    Hid (Held w0 wr (ownT 144 1 (.slice (some ⟨B, 0, none⟩) m m) m (ms.map (·.1) ++ List.replicate (m - i) (.slice none 0 0)) :: itmT t6 (packI (rowI S i)) :: itmT (.slice so n sc) S :: (mT ms ++ Rs))))
  case atStart =>
    refine ⟨0, [], by omega, by omega, rfl, hid ⟨rfl, rfl⟩, ?_⟩
    have h := (HH1.out.nil 147 2).swap
    exact hid h
  case round =>
    obtain ⟨i, ms, him, hk, rfl, HE, HH⟩ := hrel
    have h1 : (0 : Int) ≤ (i : Int) := Int.natCast_nonneg _
    by_cases hlt : i < m
    · have hltI : (i : Int) < (m : Int) := by omega
      obtain ⟨po, pc, rfl, hp1, hp2⟩ := itm_form HH.out.swap
      obtain ⟨k, hk0⟩ : ∃ k, k = (packI (rowI S i)).length := ⟨_, rfl⟩
      rw [← hk0] at hp1 HH ⊢
      have hkk : k ≤ n := by
        have := rowI_length S i
        rw [packI_length] at hk0
        have := HL.out.1
        omega
      have hh := HH.out.lit 144 1 [.slice so n sc, .slice po k pc] 2 (by decide) rfl
      have HC0 := hid hh.fourth.fourth.swap.third
      have HK := hid hk0.symm
      clear hh hk0
      go_wp2_with fail
      refine (concat_any n k _ S (packI (rowI S i)) _ _ w0 _ _ HC0.out HL.out.1 HK.out hn0 (by omega)).mono ?_
      rintro e w2 ⟨v, rfl, hh⟩
      obtain ⟨N, hN⟩ : ∃ N, N = (S ++ packI (rowI S i)).length := ⟨_, rfl⟩
      have hNn : N ≤ 2 * n := by
        rw [List.length_append, HL.out.1, HK.out] at hN; omega
      obtain ⟨vo, vc, rfl, hv1, hv2⟩ := itm_form hh
      rw [← hN] at hv1 hh ⊢
      have HNN := hid hN.symm
      have HS := hid hh.swap.drop.third.drop.third
      clear hh HC0 HH hN
      obtain ⟨g, off, hg, hcell, hfr, hput⟩ := HS.out.own.site (by omega)
      simp only [Option.some.injEq, Addr.mk.injEq, and_true] at hg
      obtain ⟨rfl, rfl⟩ := hg
      have hl1 : (List.map (fun x : Value × List Itm => x.1) ms).length = i := by rw [List.length_map]; exact HE.out.1
      have hrep : List.replicate (m - i) (Value.slice none 0 0) = .slice none 0 0 :: List.replicate (m - (i + 1)) (.slice none 0 0) := by
        rw [show m - i = (m - (i + 1)) + 1 by omega, List.replicate_succ]
      have hci := hcell i _ (by rw [hrep, List.getElem?_append_right (by omega), hl1, Nat.sub_self]; rfl)
      have hfi := hfr i
      have HP := hid (HS.out.putOwn (hput i (.slice vo N vc) hlt) (Mod.set w2 B (0 + i) _))
      have HSET : Hid ((List.map (fun x : Value × List Itm => x.1) ms ++ List.replicate (m - i) (Value.slice none 0 0)).set i (.slice vo N vc) = List.map (fun x : Value × List Itm => x.1) ms ++ (.slice vo N vc :: List.replicate (m - (i + 1)) (.slice none 0 0))) := by
        rw [hrep]; exact hid (set_mid _ _ _ _ _ hl1)
      have HP2 := HP.out
      rw [HSET.out] at HP2
      simp only [Nat.zero_add] at HP2 hci hfi
      have HQ := hid HP2
      have HLI := hid hl1
      clear hcell hfr hput hrep HP HP2 HS hl1
      go_upto_region 7 with (fail)
      generalize w2.setCell ⟨B, i, none⟩ (.slice vo N vc) = w3 at HQ ⊢
      have c1 := HQ.out.rowAt (mid_get _ _ _ _ HLI.out) (by omega)
      clear hci hfi
      go_wp2_with fail
      refine (sortrow_any N _ _ w0 _ _ HQ.out.swap HNN.out (by omega)).mono ?_
      rintro e w4 ⟨rfl, hh⟩
      have HQ2 := hid hh.swap
      clear hh HQ c1
      have c1 := HQ2.out.rowAt (mid_get _ _ _ _ HLI.out) (by omega)
      have HWB : Hid (∀ x ∈ rowI S (i + 1), x.1 ≤ 1099511627776) := by
        refine hid fun x hx => ?_
        have h := rowI_le S HL.out.2 (i + 1) x hx
        have h2 : 2 ^ (i + 1) ≤ 2 ^ 15 := Nat.pow_le_pow_right (by decide) (by omega)
        have h3 : 1048576 * 2 ^ (i + 1) ≤ 1048576 * 2 ^ 15 := Nat.mul_le_mul_left _ h2
        omega
      go_wp2_with fail
      refine (pack_any N (ssort (S ++ packI (rowI S i))) _ w0 _ _ HQ2.out.swap (by rw [ssort_length]; exact HNN.out) (by omega) HWB.out).mono ?_
      rintro e w5 ⟨pv, rfl, hh⟩
      have h5 := hh.third
      have h6 := h5.perm ((((List.Perm.swap _ _ _).cons _).cons _).trans (((List.perm_middle.symm.cons _).cons _).cons _))
      have HF : Hid (Held w0 w5 (ownT 144 1 (.slice (some ⟨B, 0, none⟩) m m) m ((ms ++ [(Value.slice vo N vc, rowI S (i + 1))]).map (·.1) ++ List.replicate (m - (i + 1)) (.slice none 0 0)) :: itmT pv (packI (rowI S (i + 1))) :: itmT (.slice so n sc) S :: (mT (ms ++ [(Value.slice vo N vc, rowI S (i + 1))]) ++ Rs))) := by
        have e1 : (ms ++ [((.slice vo N vc : Value), rowI S (i + 1))]).map (·.1) ++ List.replicate (m - (i + 1)) (.slice none 0 0) = List.map (fun x : Value × List Itm => x.1) ms ++ .slice vo N vc :: List.replicate (m - (i + 1)) (.slice none 0 0) := by simp
        have e2 : mT (ms ++ [((.slice vo N vc : Value), rowI S (i + 1))]) ++ Rs = mT ms ++ itmT (.slice vo N vc) (rowI S (i + 1)) :: Rs := by simp [mT]
        rw [e1, e2]
        exact hid h6
      clear hh h5 h6 HQ2 c1
      go_wp2
      go_roundg (gk - 1)
      case measure => omega
      case rel =>
        refine ⟨i + 1, ms ++ [(Value.slice vo N vc, rowI S (i + 1))], by omega, by omega, by go_num, hid ⟨by simp; exact HE.out.1, ?_⟩, HF⟩
        rw [List.map_append, HE.out.2, List.range_succ, List.map_append]; rfl
    · have hltI : ¬ (i : Int) < (m : Int) := by omega
      obtain rfl : i = m := by omega
      have HF : Hid (Held w0 wr (ownT 144 1 (.slice (some ⟨B, 0, none⟩) i i) i (ms.map (·.1)) :: itmT (.slice so n sc) S :: (mT ms ++ Rs))) := by
        have h := HH.out
        rw [Nat.sub_self, List.replicate_zero, List.append_nil] at h
        exact hid h.swap.drop
      go_wp2
      go_ret
      exact ⟨B, rfl, ms, HE.out.1, HE.out.2, HF⟩
end Go.Proofs.YtdmnfjicjjlnnaaGreatDoor
/-
  The lengths shared out: the walk.
-/
namespace Go.Proofs.YtdmnfjicjjlnnaaGreatDoor
set_option maxRecDepth 5000
open Go.RowKit
attribute [local go_sem] Oper.semAt_some
def packsN (l : List Itm) : Nat := l.countP fun x => decide (x.2 = -1)
def symsN (l : List Itm) (i : Nat) : Nat := l.countP fun x => decide (x.2 = (i : Int))
def stS (rl : Nat → List Itm) (m K0 : Nat) : Nat → Nat × (Nat → Nat)
  | 0 => (K0, fun _ => 0)
  | k + 1 => (2 * packsN ((rl (m - 1 - k)).take (stS rl m K0 k).1), fun i => (stS rl m K0 k).2 i + symsN ((rl (m - 1 - k)).take (stS rl m K0 k).1) i)
def gNums (N : Nat) (G : Nat → Nat) : List Value := nums .i64 ((List.range N).map G)
theorem gNums_get (N : Nat) (G : Nat → Nat) (i : Nat) (h : i < N) : (gNums N G)[i]? = some (.int .i64 (G i : Int)) := by simp [gNums, nums_get, h]
theorem gNums_set (N : Nat) (G : Nat → Nat) (i u : Nat) : (gNums N G).set i (.int .i64 (u : Int)) = gNums N (fun j => if j = i then u else G j) := by
  unfold gNums
  rw [nums_set]
  congr 1
  refine List.ext_getElem? fun j => ?_
  rw [List.getElem?_set]
  by_cases hj : j < N
  · by_cases e : i = j
    · subst e
      rw [if_pos rfl, if_pos (by simpa using hj)]
      simp [hj]
    · rw [if_neg e]
      simp [hj, show ¬ j = i from fun h => e h.symm]
  · by_cases e : i = j
    · subst e
      rw [if_pos rfl, if_neg (by simpa using hj), List.getElem?_eq_none (by simp; omega)]
    · rw [if_neg e, List.getElem?_eq_none (by simp; omega), List.getElem?_eq_none (by simp; omega)]
theorem packsN_snoc (l : List Itm) (x : Itm) : packsN (l ++ [x]) = packsN l + (if x.2 = -1 then 1 else 0) := by
  unfold packsN; rw [List.countP_append]; simp [List.countP_cons]
theorem symsN_snoc (l : List Itm) (x : Itm) (i : Nat) : symsN (l ++ [x]) i = symsN l i + (if x.2 = (i : Int) then 1 else 0) := by
  unfold symsN; rw [List.countP_append]; simp [List.countP_cons]
theorem symsN_le (l : List Itm) (i : Nat) : symsN l i ≤ l.length := List.countP_le_length
theorem stS_le (rl : Nat → List Itm) (m K0 : Nat) (h : ∀ t, (rl t).length ≤ 1000) (i : Nat) : ∀ k, (stS rl m K0 k).2 i ≤ 1000 * k
  | 0 => Nat.le_refl _
  | k + 1 => by
    have h1 := stS_le rl m K0 h i k
    have h2 := symsN_le ((rl (m - 1 - k)).take (stS rl m K0 k).1) i
    have h3 := h (m - 1 - k)
    rw [List.length_take] at h2
    show (stS rl m K0 k).2 i + _ ≤ _
    omega
def ShI (w3 : World) (gl B3 N cap off : Nat) (st : Nat → Nat × (Nat → Nat)) (k : Nat) (W : World) : Prop :=
  Mod w3 W (fun j => j = gl ∨ j = B3) ∧ Own W 3 1 (.slice (some ⟨gl, off, none⟩) N cap) N (gNums N (st k).2) ∧ Blk W B3 [.int .i64 ((st k).1 : Int)] 3
theorem ShI.far {w3 : World} {gl B3 N cap off : Nat} {st : Nat → Nat × (Nat → Nat)} {k : Nat} {W W' : World} (h : ShI w3 gl B3 N cap off st k W) (hb : Below w3.heap.size W W') (h1 : gl < w3.heap.size) (h2 : B3 < w3.heap.size) : ShI w3 gl B3 N cap off st k W' := by
  obtain ⟨a, b, c⟩ := h
  have hm := Mod.of_below hb
  refine ⟨a.trans hm (fun j hj h => by omega), b.kept hm (fun j hj => ?_), c.kept hm (by omega)⟩
  simp only [Value.ownBlock, Option.some.injEq] at hj
  omega
set_option maxRecDepth 100000 in
set_option maxHeartbeats 3200000 in
theorem share_any (N m K0 gl off cap B : Nat) (vals : Nat → Value) (rl : Nat → List Itm) (w : World) (hN : N ≤ 1000) (hm : m ≤ 15)
    (hO : Own w 3 1 (.slice (some ⟨gl, off, none⟩) N cap) N (gNums N (fun _ => 0))) (hB : ∀ t, t < m → w.cell? ⟨B, t, none⟩ = some (vals t)) (hBl : B < w.heap.size) (hBg : B ≠ gl)
    (hV : ∀ t, ∃ a k c, vals t = .slice a k c) (hR : ∀ t, t < m → Own w 147 2 (vals t) (rl t).length (cellsI (rl t))) (hRg : ∀ t, t < m → (vals t).ownBlock ≠ some gl)
    (hOK : ∀ k, k < m → (stS rl m K0 k).1 ≤ (rl (m - 1 - k)).length) (hlen : ∀ t, (rl t).length ≤ 1000) (hpos : ∀ t, t < m → 0 < (rl t).length) (hsym : ∀ t, t < m → ∀ x ∈ rl t, x.2 = -1 ∨ ∃ s : Nat, s < N ∧ x.2 = (s : Int)) :
    Calls Tryz.prog 81 #[.slice (some ⟨gl, off, none⟩) N cap, .slice (some ⟨B, 0, none⟩) m m, .int .i64 (K0 : Int)] w fun e w' => e = .returned (.tuple #[]) ∧
      Own w' 3 1 (.slice (some ⟨gl, off, none⟩) N cap) N (gNums N (stS rl m K0 m).2) ∧ Mod w w' (fun j => j = gl) := by
  have hgl : gl < w.heap.size := hO.lt gl rfl
  refine (callsIn_wide (n := 3)).1 ?_
  refine callsIn_of_wp_marks Tryz.func81 rfl trivial ?_ rfl
  simp only [Tryz.ntmps81, List.size_toArray, List.length_cons, List.length_nil, Nat.reduceAdd, Nat.reduceSub, Array.replicate_succ, Array.replicate_zero, List.push_toArray, List.append_toArray, List.nil_append, List.cons_append]
  gi_wp2_with fail
  refine ⟨trivial, ?_⟩
  refine (callsIn_wide.2 (backward_any _ _ ⟨_, _, _, rfl⟩)).mono ?_
  rintro e w' ⟨rfl, rfl⟩
  have hsz : ((w.alloc (.cells #[.slice (some ⟨gl, off, none⟩) N cap] 32)).alloc (.cells #[.int .i64 (K0 : Int)] 3)).heap.size = w.heap.size + 2 := by simp
  rw [hsz]
  have b1 := (Blk.new w [.slice (some ⟨gl, off, none⟩) N cap] 32)
  obtain ⟨wa, hwa⟩ : ∃ wa, wa = w.alloc (.cells #[.slice (some ⟨gl, off, none⟩) N cap] 32) := ⟨_, rfl⟩
  rw [← hwa] at hsz ⊢
  have b2 := (Blk.new wa [.int .i64 (K0 : Int)] 3)
  obtain ⟨wb, hwb⟩ : ∃ wb, wb = wa.alloc (.cells #[.int .i64 (K0 : Int)] 3) := ⟨_, rfl⟩
  rw [← hwb] at hsz ⊢
  have b3 := (Blk.new wb [.slice (some ⟨B, 0, none⟩) m m] 149)
  obtain ⟨wc, hwc⟩ : ∃ wc, wc = wb.alloc (.cells #[.slice (some ⟨B, 0, none⟩) m m] 149) := ⟨_, rfl⟩
  rw [← hwc]
  have hszc : wc.heap.size = w.heap.size + 3 := by rw [hwc, World.size_alloc, hsz]
  have hsza : wa.heap.size = w.heap.size + 1 := by rw [hwa]; simp
  have hMc : Mod w wc (fun _ => False) := by rw [hwc, hwb, hwa]; exact ((((Mod.refl w _).alloc _).alloc _).alloc _)
  have k1 : Blk wc w.heap.size [.slice (some ⟨gl, off, none⟩) N cap] 32 := by
    rw [hwc, hwb]; exact (by rw [hwa]; exact (b1.alloc _).alloc _)
  have k2 : Blk wc (w.heap.size + 1) [.int .i64 (K0 : Int)] 3 := by
    rw [hwc, ← hsza]; exact (by rw [hwb]; exact b2.alloc _)
  have k3 : Blk wc (w.heap.size + 2) [.slice (some ⟨B, 0, none⟩) m m] 149 := by
    rw [hwc, ← hsz]; exact b3
  clear b1 b2 b3 hwa hwb hwc hsz hsza
  gi_wp2_with fail
  refine range_rounds (gf := 119) (lb := #[.pointer (some ⟨w.heap.size + 2, 0, none⟩)]) rfl (by decide) rfl trivial (enters_of Tryz.func119 (by kernel_rfl) rfl) m
    (fun k => #[.int .i64 ((m - 1 - k : Nat) : Int), vals (m - 1 - k)]) (fun _ => rfl) (ShI wc gl (w.heap.size + 1) N cap off (stS rl m K0)) ?far ?h0 ?hit
    (fun k => { tmps := #[.slice (some ⟨gl, off, none⟩) N cap, .slice (some ⟨B, 0, none⟩) m m, .int .i64 (K0 : Int), .pointer (some ⟨w.heap.size, 0, none⟩), undef, .pointer (some ⟨w.heap.size + 1, 0, none⟩), undef, vals (m - 1 - k), undef, undef, undef, .slice (some ⟨B, 0, none⟩) m m,
      .func (.func 119) #[] #[.pointer (some ⟨w.heap.size + 2, 0, none⟩)], .int .i64 ((m - 1 - k : Nat) : Int), vals (m - 1 - k), undef, undef, undef, undef, undef, undef, undef, undef, undef, undef, undef, undef, undef, undef, undef, undef, undef, undef, undef, undef, undef, undef, undef], defers := [] }) ?assign ?body ?done
  case far => exact fun k W W' h hb => h.far hb (by omega) (by omega)
  case h0 => exact ⟨Mod.refl _ _, hO.kept hMc (fun _ _ h => h), k2⟩
  case hit =>
    intro l J W hJI hY hJ0
    refine backward_in Fence.wide _ trivial rfl (by decide) l (w.heap.size + 2) B m vals hm hV J (fun k W h => ?_) hY W hJ0
    obtain ⟨i1, _, _⟩ := hJI k W h
    refine ⟨?_, fun t ht => ?_⟩
    · rw [i1.cell (p := ⟨w.heap.size + 2, 0, none⟩) (by show w.heap.size + 2 < _; omega) (by show ¬ (w.heap.size + 2 = gl ∨ w.heap.size + 2 = w.heap.size + 1); omega)]
      exact k3.cell (i := 0) rfl
    · rw [i1.cell (p := ⟨B, t, none⟩) (by show B < _; omega) (by show ¬ (B = gl ∨ B = w.heap.size + 1); omega), hMc.cell (p := ⟨B, t, none⟩) hBl (fun h => h)]
      exact hB t ht
  case assign =>
    intro l k W K hK
    obtain ⟨a, b, c, hv⟩ := hV (m - 1 - k)
    rw [hv] at hK ⊢
    gi_wp2
    exact hK
  case body =>
    intro l k W hk hI hWs
    obtain ⟨t, ht⟩ : ∃ t, t = m - 1 - k := ⟨_, rfl⟩
    have htm : t < m := by omega
    obtain ⟨K, hK⟩ : ∃ K, K = (stS rl m K0 k).1 := ⟨_, rfl⟩
    obtain ⟨G, hG⟩ : ∃ G, G = (stS rl m K0 k).2 := ⟨_, rfl⟩
    obtain ⟨i1, i2, i3⟩ := hI
    rw [← hG] at i2
    rw [← hK] at i3
    have hKR : K ≤ (rl t).length := by rw [hK, ht]; exact hOK k hk
    have hK1 : K ≤ 1000 := by have := hlen t; omega
    have hGb : ∀ i, G i ≤ 15000 := fun i => by
      have := stS_le rl m K0 hlen i k
      rw [← hG] at this; omega
    have hst : stS rl m K0 (k + 1) = (2 * packsN ((rl t).take K), fun i => G i + symsN ((rl t).take K) i) := by
      show (2 * packsN ((rl (m - 1 - k)).take (stS rl m K0 k).1), fun i => (stS rl m K0 k).2 i + symsN ((rl (m - 1 - k)).take (stS rl m K0 k).1) i) = _
      rw [← ht, ← hK, ← hG]
    have hrow : Own wc 147 2 (vals t) (rl t).length (cellsI (rl t)) := (hR t htm).kept hMc (fun _ _ h => h)
    obtain ⟨g, o, cp, hv, hl1, hl2, hcell, _, _⟩ := hrow.site2 (hpos t htm)
    have hgn : g ≠ gl := by
      intro e
      exact hRg t htm (by rw [hv, e]; rfl)
    have hglt : g < w.heap.size := (hR t htm).lt g (by rw [hv]; rfl)
    have cK := i3.cell (i := 0) rfl
    have cL : W.cell? ⟨w.heap.size, 0, none⟩ = some (.slice (some ⟨gl, off, none⟩) N cap) := by
      rw [i1.cell (p := ⟨w.heap.size, 0, none⟩) (by show w.heap.size < _; omega) (by show ¬ (w.heap.size = gl ∨ w.heap.size = w.heap.size + 1); omega)]
      exact k1.cell (i := 0) rfl
    rw [← ht, hv]
    have HK := hid hst
    have HR := hid (And.intro hcell hKR)
    have hK0' : (0 : Int) ≤ (K : Int) := Int.natCast_nonneg _
    have HI2 := hid i2
    have HI3 := hid i3
    have HI1 := hid i1
    have hKc : K ≤ cp := by omega
    have hsymt := hid (hsym t htm)
    have hKt : ∀ j, j < K → ∃ x, (rl t)[j]? = some x := fun j hj => ⟨_, List.getElem?_eq_getElem (by omega)⟩
    generalize (rl t).length = RL at *
    clear hst hcell hKR i1 i2 i3 hrow hv hK hG
    gi_wp2
    gi_loopg [8, 19] (K + 1) (fun q t8 t19 wr => ∃ (j p : Nat), j ≤ K ∧ K - j < q ∧ t19 = .int .i64 (j : Int) ∧ t8 = .int .i64 (p : Int) ∧ p ≤ j ∧ Hid (p = packsN ((rl t).take j)) ∧
      Hid (Mod wc wr (fun j => j = gl ∨ j = w.heap.size + 1) ∧ Own wr 3 1 (.slice (some ⟨gl, off, none⟩) N cap) N (gNums N (fun i => G i + symsN ((rl t).take j) i)) ∧ Blk wr (w.heap.size + 1) [.int .i64 (K : Int)] 3) ∧
      Hid (KeepsFrom wc.heap.size W wr ∧ wc.heap.size ≤ wr.heap.size))
    case atStart => exact ⟨0, 0, by omega, by omega, rfl, rfl, by omega, rfl, hid ⟨HI1.out, by simpa [symsN] using HI2.out, HI3.out⟩, hid ⟨KeepsFrom.refl _ _, hWs⟩⟩
    case round =>
      obtain ⟨j, p, hjK, hq, rfl, rfl, hpj, HP, HW, HF⟩ := hrel
      have hj0 : (0 : Int) ≤ (j : Int) := Int.natCast_nonneg _
      have hp0 : (0 : Int) ≤ (p : Int) := Int.natCast_nonneg _
      obtain ⟨j1, j2, j3⟩ := HW.out
      by_cases hlt : j < K
      · have hltI : (j : Int) < (K : Int) := by omega
        obtain ⟨x, hx⟩ := hKt j hlt
        have c1 := (HR.out.1 j x hx).1
        have c2 := (HR.out.1 j x hx).2
        rw [← j1.cell (p := ⟨g, o + j * 2, none⟩) (by show g < _; omega) (by show ¬ (g = gl ∨ g = w.heap.size + 1); omega)] at c1
        rw [← j1.cell (p := ⟨g, o + j * 2 + 1, none⟩) (by show g < _; omega) (by show ¬ (g = gl ∨ g = w.heap.size + 1); omega)] at c2
        have cL2 : wr.cell? ⟨w.heap.size, 0, none⟩ = some (.slice (some ⟨gl, off, none⟩) N cap) := by
          rw [j1.cell (p := ⟨w.heap.size, 0, none⟩) (by show w.heap.size < _; omega) (by show ¬ (w.heap.size = gl ∨ w.heap.size = w.heap.size + 1); omega)]
          exact k1.cell (i := 0) rfl
        have HT : Hid ((rl t).take (j + 1) = (rl t).take j ++ [x]) := by rw [List.take_add_one, hx]; exact hid rfl
        rcases hsymt.out x (List.mem_of_getElem? hx) with hs | ⟨s, hsN, hs⟩
        · rw [hs] at c2
          have HG : Hid ((fun i => G i + symsN ((rl t).take (j + 1)) i) = fun i => G i + symsN ((rl t).take j) i) := by
            refine hid (funext fun i => ?_)
            rw [HT.out, symsN_snoc, if_neg (by rw [hs]; omega)]; omega
          have HP2 : Hid (p + 1 = packsN ((rl t).take (j + 1))) := by
            rw [HT.out, packsN_snoc, if_pos hs, ← HP.out]; exact hid rfl
          gi_wp2
          gi_roundg (gk - 1)
          case measure => omega
          case rel =>
            refine ⟨j + 1, p + 1, by omega, by omega, by go_num, by go_num, by omega, HP2, hid ⟨j1.alloc _, ?_, j3.alloc _⟩, hid ⟨HF.out.1.trans ((KeepsOthers.alloc wr _).from _), by have := HF.out.2; simp; omega⟩⟩
            rw [HG.out]; exact j2.alloc _
        · rw [hs] at c2
          obtain ⟨gs, hgs⟩ : ∃ gs, gs = G s + symsN ((rl t).take j) s := ⟨_, rfl⟩
          have hgs1 : gs ≤ 16000 := by
            have h1 := hGb s
            have h2 := symsN_le ((rl t).take j) s
            rw [List.length_take] at h2
            omega
          have HG : Hid ((fun i => G i + symsN ((rl t).take (j + 1)) i) = fun i => if i = s then gs + 1 else G i + symsN ((rl t).take j) i) := by
            refine hid (funext fun i => ?_)
            rw [HT.out, symsN_snoc]
            by_cases e : i = s
            · subst e
              rw [if_pos hs, if_pos rfl, hgs]; omega
            · rw [if_neg (by rw [hs]; omega), if_neg e]; omega
          have HP2 : Hid (p = packsN ((rl t).take (j + 1))) := by
            rw [HT.out, packsN_snoc, if_neg (by rw [hs]; omega), ← HP.out]; exact hid (Nat.add_zero _).symm
          obtain ⟨g', o', hg', hcl, hfr, hput⟩ := (j2.alloc (.cells #[.int .i64 (x.1 : Int), .int .i64 (s : Int)] 147)).site (by omega)
          simp only [Option.some.injEq, Addr.mk.injEq, and_true] at hg'
          obtain ⟨rfl, rfl⟩ := hg'
          have c3 := hcl s _ (gNums_get N _ s hsN)
          rw [← hgs] at c3
          have f3 := hfr s
          have HPUT := hput s (.int .i64 ((gs + 1 : Nat) : Int)) hsN
          rw [gNums_set, ← HG.out] at HPUT
          have hs0 : (0 : Int) ≤ (s : Int) := Int.natCast_nonneg _
          have hsb : ((s : Int) == -1) = false := by simp
          have hs1 : ¬ (s : Int) = -1 := by omega
          have cL3 : (wr.alloc (.cells #[.int .i64 (x.1 : Int), .int .i64 (s : Int)] 147)).cell? ⟨w.heap.size, 0, none⟩ = some (.slice (some ⟨gl, off, none⟩) N cap) := by
            rw [((Mod.refl wr (fun _ => False)).alloc _).cell (p := ⟨w.heap.size, 0, none⟩) (by show w.heap.size < _; have := HF.out.2; omega) (fun h => h)]; exact cL2
          have HS := hid HPUT
          have HS2 := hid hs
          have HX := hid hx
          have HGS := hid hgs
          clear hcl hfr hput HPUT hs hx hgs
          gi_wp2
          gi_roundg (gk - 1)
          case measure => omega
          case rel =>
            have hcast : ((gs + 1 : Nat) : Int) = (gs : Int) + 1 := by omega
            have h2 := HS.out
            rw [hcast] at h2
            refine ⟨j + 1, p, by omega, by omega, by go_num, rfl, by omega, HP2, hid ⟨(j1.alloc _).setCell (p := ⟨gl, off + s, none⟩) (.inr (.inl rfl)) _, h2, (j3.alloc _).other (p := ⟨gl, off + s, none⟩) (by show w.heap.size + 1 ≠ gl; omega) _⟩,
              hid ⟨(HF.out.1.trans ((KeepsOthers.alloc wr _).from _)).trans ((KeepsOthers.setCell _ _ _).from _), by have := HF.out.2; simp [World.setCell]; omega⟩⟩
      · have hltI : ¬ (j : Int) < (K : Int) := by omega
        obtain rfl : j = K := by omega
        have cN := j3.cell (i := 0) rfl
        have fN := j3.frozen 0
        have hpn : p ≤ 1000 := by omega
        have HSET := hid (j3.set 0 (.int .i64 ((2 * p : Nat) : Int)))
        have hp2 : ((2 * p : Nat) : Int) = 2 * (p : Int) := by omega
        rw [hp2] at HSET
        gi_wp2
        refine ⟨by rw [← hszc]; exact HF.out.1.trans ((KeepsOthers.setCell _ _ _).from _), j1.setCell (p := ⟨w.heap.size + 1, 0, none⟩) (.inr (.inr rfl)) _, ?_, ?_⟩
        · rw [HK.out]
          exact j2.kept (Mod.setCell (S := fun k => k = w.heap.size + 1) (Mod.refl wr _) (p := ⟨w.heap.size + 1, 0, none⟩) (.inr rfl) _) (fun q hq => by
            simp only [Value.ownBlock, Option.some.injEq] at hq
            omega)
        · rw [HK.out, ← HP.out]
          have h := HSET.out
          rw [← hp2] at h
          exact h
  case done =>
    intro D W hD hI hK
    obtain ⟨i1, i2, i3⟩ := hI
    have HI1 := hid i1
    have HI2 := hid i2
    clear i1 i2 i3
    gi_wp2
    refine ⟨by simp, .inl ⟨_, _, rfl, run_takeDeferred hK, ?_⟩⟩
    have hM2 : Mod W (W.putObj D (.deferred none)) (fun j => j = D) := ⟨rfl, rfl, rfl, by simp, fun j hj hne => World.putObj_heap_other hne⟩
    have hM0 : Mod w wc (fun j => j = gl) := hMc.mono (fun _ _ h => h.elim)
    have hM1 : Mod w W (fun j => j = gl) := hM0.trans HI1.out (fun k hk h => by omega)
    refine ⟨_, results_none rfl _ _ _, rfl, HI2.out.kept hM2 (fun j hj => ?_), hM1.trans hM2 (fun k hk h => by omega)⟩
    simp only [Value.ownBlock, Option.some.injEq] at hj
    omega
end Go.Proofs.YtdmnfjicjjlnnaaGreatDoor
