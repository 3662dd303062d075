/-
  Items packed two by two.
-/
import Derived.Test.YtcmfccooipnmeaaConcat
namespace Go.Proofs.Ytcmfccooipnmeaa
open Go.RowKit

def packI : List Itm → List Itm
  | a :: b :: l => (a.1 + b.1, -1) :: packI l
  | _ => []
theorem packI_length : ∀ l : List Itm, (packI l).length = l.length / 2
  | [] => rfl
  | [a] => by simp [packI]
  | a :: b :: l => by rw [packI, List.length_cons, packI_length l, List.length_cons, List.length_cons]; omega
theorem packI_get : ∀ (l : List Itm) (i : Nat) (x y : Itm), l[2 * i]? = some x → l[2 * i + 1]? = some y → (packI l)[i]? = some (x.1 + y.1, -1)
  | [], i, x, y, h, _ => by simp at h
  | [a], i, x, y, h, h2 => by
    have := (List.getElem?_eq_some_iff.1 h2).1
    simp at this
  | a :: b :: l, 0, x, y, h, h2 => by
    obtain rfl : a = x := by simpa using h
    obtain rfl : b = y := by simpa using h2
    rfl
  | a :: b :: l, i + 1, x, y, h, h2 => by
    rw [show 2 * (i + 1) = 2 * i + 1 + 1 by omega] at h h2
    simpa [packI] using packI_get l i x y (by simpa using h) (by simpa using h2)
theorem made_items (n : Nat) : (madeCells (Value.cells (.agg #[.int .i64 0, .int .i64 0])) (n * 2)).toList = cellsI (List.replicate n (0, 0)) := by
  refine List.ext_getElem? fun j => ?_
  by_cases hj : j < n * 2
  · have h1 : (madeCells (Value.cells (.agg #[.int .i64 0, .int .i64 0])) (n * 2)).toList[j]? = some (.int .i64 0) := by
      have : j % 2 = 0 ∨ j % 2 = 1 := by omega
      rcases this with e | e <;> simp [madeCells, Value.cells, hj, e]
    rw [h1]
    have h2 : (List.replicate n ((0, 0) : Itm))[j / 2]? = some (0, 0) := by rw [List.getElem?_replicate, if_pos (by omega)]
    obtain ⟨g1, g2⟩ := cellsI_get _ _ _ h2
    have : j = j / 2 * 2 ∨ j = j / 2 * 2 + 1 := by omega
    rcases this with e | e
    · rw [e, g1]; rfl
    · rw [e, g2]
  · rw [List.getElem?_eq_none (by simp [madeCells]; omega), List.getElem?_eq_none (by rw [cellsI_length]; simp; omega)]
set_option maxHeartbeats 1600000 in
theorem pack_any (n : Nat) (l : List Itm) (v : Value) (w0 w : World) (Rs : List Thing) (h : Held w0 w (itmT v l :: Rs)) (hn : l.length = n) (hN2 : n ≤ 100000) (hw : ∀ x ∈ l, x.1 ≤ 1099511627776) :
    Calls Try.prog 24 #[v] w fun e w' => ∃ v', e = .returned v' ∧ Held w0 w' (itmT v' (packI l) :: itmT v l :: Rs) := by
  obtain ⟨i0, hi, hz0, hz1, hz2⟩ := info_parts infoItem
  obtain ⟨ao, cap, rfl, hc1, hc2⟩ := itm_form h
  rw [hn] at h hc1 ⊢
  have HL : Hid (l.length = n ∧ ∀ x ∈ l, x.1 ≤ 1099511627776) := hid ⟨hn, hw⟩
  have H := hid h
  have h0 : (0 : Int) ≤ (n : Int) := Int.natCast_nonneg _
  obtain ⟨k, hk⟩ : ∃ k, k = n / 2 := ⟨_, rfl⟩
  have hk1 : (n : Int) / 2 = (k : Int) := by omega
  have hk2 : Int.tdiv (n : Int) 2 = (k : Int) := by rw [Int.tdiv_eq_ediv_of_nonneg (by omega)]; exact hk1
  have hk0 : (0 : Int) ≤ (k : Int) := Int.natCast_nonneg _
  have hkn : 2 * k ≤ n := by omega
  have HK := hid hk
  clear h hn hw hk
  go_enter Try.func24, Try.ntmps24
  go_wp2_with ((with_reducible show wpList _ _ _ (⟨some 8, _, _, _, _, _⟩ :: _) _ _); refine wpList_make_own rfl 38 (.tmp 7) (.tmp 7) rfl 41 i0 (.agg #[.int .i64 0, .int .i64 0]) 2 Try.underlying38 hi hz0 hz1 .i64 k rfl rfl (by rw [hz2]; omega) (by unfold maxLen; omega) ?_; intro v1 w1 zs ho1 hm1 hf1 hv1 hzs; rw [made_items] at hzs; subst hzs; subst hv1; have HH1 := hid (H.out.pushOwn ho1 hm1 hf1); clear hm1 hf1 ho1)
  generalize w.heap.size = B at HH1 ⊢
  go_loopg [11] (k + 1) (fun q t11 wr => ∃ (i : Nat) (Q : List Itm), i ≤ k ∧ k - i < q ∧ t11 = .int .i64 (i : Int) ∧ Hid (Q.length = k ∧ ∀ j, j < i → Q[j]? = (packI l)[j]?) ∧
    Hid (Held w0 wr (ownT 41 2 (.slice (some ⟨B, 0, none⟩) k k) k (cellsI Q) :: itmT (.slice ao n cap) l :: Rs)))
  case atStart => exact ⟨0, List.replicate k (0, 0), by omega, by omega, rfl, hid ⟨by simp, fun j h => by omega⟩, HH1⟩
  case round =>
    obtain ⟨i, Q, hik, hq, rfl, HE, HH⟩ := hrel
    have h1 : (0 : Int) ≤ (i : Int) := Int.natCast_nonneg _
    by_cases hlt : i < k
    · have hltI : (i : Int) < (k : Int) := by omega
      obtain ⟨x, hx⟩ : ∃ x, l[2 * i]? = some x := ⟨l[2 * i]'(by have := HL.out.1; omega), List.getElem?_eq_getElem _⟩
      obtain ⟨y, hy⟩ : ∃ y, l[2 * i + 1]? = some y := ⟨l[2 * i + 1]'(by have := HL.out.1; omega), List.getElem?_eq_getElem _⟩
      have HX : Hid (l[2 * i]? = some x ∧ l[2 * i + 1]? = some y) := hid ⟨hx, hy⟩
      have hxm := HL.out.2 x (List.mem_of_getElem? hx)
      have hym := HL.out.2 y (List.mem_of_getElem? hy)
      obtain ⟨g, off, cap', hv, _, _, hcell, hfr, _⟩ := HH.out.swap.site2 (by have := HL.out.1; omega)
      simp only [Value.slice.injEq] at hv
      obtain ⟨rfl, _, rfl⟩ := hv
      have c1 := (hcell _ _ hx).1
      have c2 := (hcell _ _ hy).1
      have hQ : Held w0 wr (itmT (.slice (some ⟨B, 0, none⟩) k k) Q :: itmT (.slice (some ⟨g, off, none⟩) n cap) l :: Rs) := by
        have h := HH.out
        unfold itmT at *
        rw [HE.out.1]; exact h
      obtain ⟨q0, hq0⟩ : ∃ q0, Q[i]? = some q0 := ⟨Q[i]'(by have := HE.out.1; omega), List.getElem?_eq_getElem _⟩
      obtain ⟨g', off', cap', hv, _, _, hcell', hfr', hput⟩ := hQ.site2 (by have := HE.out.1; omega)
      simp only [Value.slice.injEq, Option.some.injEq, Addr.mk.injEq, and_true] at hv
      obtain ⟨⟨rfl, rfl⟩, _, _⟩ := hv
      have HP := hid (hput i (x.1 + y.1, -1) (by have := HE.out.1; omega))
      have c3 := (hcell' _ _ hq0).1
      have c4 := (hcell' _ _ hq0).2
      have hf1 := hfr' (0 + i * 2)
      have hf2 := hfr' (0 + i * 2 + 1)
      simp only [Nat.zero_add] at c3 c4 hf1 hf2 HP
      have HQ : Hid (∀ j, j < i + 1 → (Q.set i (x.1 + y.1, -1))[j]? = (packI l)[j]?) := by
        refine hid fun j hj => ?_
        rw [List.getElem?_set]
        by_cases e : i = j
        · subst e
          rw [if_pos rfl, if_pos (by have := HE.out.1; omega), packI_get l i x y hx hy]
        · rw [if_neg e]
          exact HE.out.2 j (by omega)
      clear hcell hfr hput hx hy hQ hcell' hfr' hq0
      have hin : 2 * i < n := by omega
      have hin2 : 2 * i + 1 < n := by omega
      go_wp2
      go_region
      go_wp2
      go_roundg (gk - 1)
      case measure => omega
      case rel =>
        refine ⟨i + 1, Q.set i (x.1 + y.1, -1), by omega, by omega, by go_num, hid ⟨by simp; exact HE.out.1, HQ.out⟩, ?_⟩
        have h := HP.out.drew
        unfold itmT at h ⊢
        rw [List.length_set, HE.out.1] at h
        exact hid h
    · have hltI : ¬ (i : Int) < (k : Int) := by omega
      obtain rfl : i = k := by omega
      have HF : Hid (Held w0 wr (itmT (.slice (some ⟨B, 0, none⟩) i i) (packI l) :: itmT (.slice ao n cap) l :: Rs)) := by
        have e : Q = packI l := by
          refine List.ext_getElem? fun j => ?_
          by_cases hj : j < i
          · exact HE.out.2 j hj
          · rw [List.getElem?_eq_none (by have := HE.out.1; omega), List.getElem?_eq_none (by rw [packI_length, HL.out.1]; have := HK.out; omega)]
        have h := HH.out
        rw [e] at h
        unfold itmT
        rw [packI_length, HL.out.1, ← HK.out]
        unfold itmT at h
        rw [HL.out.1] at h
        exact hid h
      go_wp2
      go_ret
      exact ⟨_, rfl, HF⟩
end Go.Proofs.Ytcmfccooipnmeaa
