/-
  The rows of items, each sorted: the symbols and the packages of the row before.
-/
import Derived.Test.YtcmfccooipnmeaaSyms
import Derived.Test.YtcmfccooipnmeaaMat
import Derived.Deep.DeepCutAuto
namespace Go.Proofs.Ytcmfccooipnmeaa
open Go.RowKit

def rowI (s : List Itm) : Nat → List Itm
  | 0 => []
  | t + 1 => ssort (s ++ packI (rowI s t))
theorem rowI_length (s : List Itm) : ∀ t, (rowI s t).length ≤ 2 * s.length
  | 0 => by simp [rowI]
  | t + 1 => by
    have := rowI_length s t
    rw [rowI, ssort_length, List.length_append, packI_length]; omega
theorem packI_mem : ∀ (l : List Itm) (x : Itm), x ∈ packI l → ∃ a b, a ∈ l ∧ b ∈ l ∧ x = (a.1 + b.1, -1)
  | [], x, h => by simp [packI] at h
  | [a], x, h => by simp [packI] at h
  | a :: b :: l, x, h => by
    rw [packI] at h
    rcases List.mem_cons.1 h with h | h
    · exact ⟨a, b, by simp, by simp, h⟩
    · obtain ⟨c, d, h1, h2, h3⟩ := packI_mem l x h
      exact ⟨c, d, by simp [h1], by simp [h2], h3⟩
theorem rowI_le (s : List Itm) (hs : ∀ x ∈ s, x.1 ≤ 1048576) : ∀ t, ∀ x ∈ rowI s t, x.1 ≤ 1048576 * 2 ^ t
  | 0, x, h => by simp [rowI] at h
  | t + 1, x, h => by
    rw [rowI] at h
    have hp : 1 ≤ 2 ^ t := Nat.one_le_two_pow
    rw [Nat.pow_succ]
    rcases List.mem_append.1 ((ssort_perm _).mem_iff.1 h) with h | h
    · have := hs x h; omega
    · obtain ⟨a, b, ha, hb, rfl⟩ := packI_mem _ _ h
      have h1 := rowI_le s hs t a ha
      have h2 := rowI_le s hs t b hb
      show a.1 + b.1 ≤ _
      omega
def mT (ms : List (Value × List Itm)) : List Thing := ms.map fun r => itmT r.1 r.2
theorem infoRow : (Try.prog.info? 38).map (fun i => (i.zero, i.size, i.bytes)) = some (some (.slice none 0 0), 1, 24) := by kernel_rfl
theorem set_mid (A C : List Value) (x y : Value) (n : Nat) (h : A.length = n) : (A ++ x :: C).set n y = A ++ y :: C := by
  rw [← h, List.set_append_right _ _ (Nat.le_refl _), Nat.sub_self]; rfl
theorem Held.rowAt {w0 w : World} {e : TypeId} {B m c : Nat} {xs : List Value} {Rs : List Thing} (h : Held w0 w (ownT e 1 (.slice (some ⟨B, 0, none⟩) m c) m xs :: Rs)) {i : Nat} {u : Value} (hu : xs[i]? = some u) (hm : 0 < m) : w.cell? ⟨B, i, none⟩ = some u := by
  obtain ⟨g, off, hg, hcell, _, _⟩ := h.own.site hm
  simp only [Option.some.injEq, Addr.mk.injEq, and_true] at hg
  obtain ⟨rfl, rfl⟩ := hg
  have := hcell i u hu
  rw [Nat.zero_add] at this; exact this
theorem mid_get (A C : List Value) (y : Value) (n : Nat) (h : A.length = n) : (A ++ y :: C)[n]? = some y := by
  rw [← h, List.getElem?_append_right (Nat.le_refl _), Nat.sub_self]; rfl
set_option maxHeartbeats 1600000 in
theorem rows_any (n m : Nat) (S : List Itm) (sv : Value) (w0 w : World) (Rs : List Thing) (h : Held w0 w (itmT sv S :: Rs)) (hn : S.length = n) (hn0 : 0 < n) (hN2 : n ≤ 1000) (hm : m ≤ 15) (hw : ∀ x ∈ S, x.1 ≤ 1048576) :
    Calls Try.prog 18 #[sv, .int .i64 (m : Int)] w fun e w' => ∃ (B : Nat) (ms : List (Value × List Itm)), e = .returned (.slice (some ⟨B, 0, none⟩) m m) ∧ ms.length = m ∧ ms.map (·.2) = (List.range m).map (fun t => rowI S (t + 1)) ∧
      Held w0 w' (ownT 38 1 (.slice (some ⟨B, 0, none⟩) m m) m (ms.map (·.1)) :: itmT sv S :: (mT ms ++ Rs)) := by
  obtain ⟨i0, hi, hz0, hz1, hz2⟩ := info_parts infoRow
  obtain ⟨so, sc, rfl, hc1, hc2⟩ := itm_form h
  have HL : Hid (S.length = n ∧ ∀ x ∈ S, x.1 ≤ 1048576) := hid ⟨hn, hw⟩
  rw [hn] at h hc1 ⊢
  have H := hid h
  have hm0 : (0 : Int) ≤ (m : Int) := Int.natCast_nonneg _
  clear h hn hw
  go_enter Try.func18, Try.ntmps18
  go_wp2_with ((with_reducible show wpList _ _ _ (⟨some 9, _, _, _, _, _⟩ :: _) _ _); refine wpList_make_own rfl 43 (.tmp 8) (.tmp 8) rfl 38 i0 (.slice none 0 0) 1 Try.underlying43 hi hz0 hz1 .i64 m rfl rfl (by rw [hz2]; omega) (by unfold maxLen; omega) ?_; intro v1 w1 zs ho1 hm1 hf1 hv1 hzs; rw [made_cells _ _ rfl] at hzs; subst hzs; subst hv1; have HH1 := hid (H.out.pushOwn ho1 hm1 hf1); clear hm1 hf1 ho1)
  generalize w.heap.size = B at HH1 ⊢
  go_loopg [6, 12] (m + 1) (fun k t6 t12 wr => ∃ (i : Nat) (ms : List (Value × List Itm)), i ≤ m ∧ m - i < k ∧ t12 = .int .i64 (i : Int) ∧ Hid (ms.length = i ∧ ms.map (·.2) = (List.range i).map (fun t => rowI S (t + 1))) ∧
    Hid (Held w0 wr (ownT 38 1 (.slice (some ⟨B, 0, none⟩) m m) m (ms.map (·.1) ++ List.replicate (m - i) (.slice none 0 0)) :: itmT t6 (packI (rowI S i)) :: itmT (.slice so n sc) S :: (mT ms ++ Rs))))
  case atStart =>
    refine ⟨0, [], by omega, by omega, rfl, hid ⟨rfl, rfl⟩, ?_⟩
    have h := (HH1.out.nil 41 2).swap
    exact hid h
  case round =>
    obtain ⟨i, ms, him, hk, rfl, HE, HH⟩ := hrel
    have h1 : (0 : Int) ≤ (i : Int) := Int.natCast_nonneg _
    by_cases hlt : i < m
    · have hltI : (i : Int) < (m : Int) := by omega
      obtain ⟨po, pc, rfl, hp1, hp2⟩ := itm_form HH.out.swap
      obtain ⟨k, hk0⟩ : ∃ k, k = (packI (rowI S i)).length := ⟨_, rfl⟩
      rw [← hk0] at hp1 HH ⊢
      have hkk : k ≤ n := by
        have := rowI_length S i
        rw [packI_length] at hk0
        have := HL.out.1
        omega
      have hh := HH.out.lit 38 1 [.slice so n sc, .slice po k pc] 2 (by decide) rfl
      have HC0 := hid hh.fourth.fourth.swap.third
      have HK := hid hk0.symm
      clear hh hk0
      go_wp2_with fail
      refine (concat_any n k _ S (packI (rowI S i)) _ _ w0 _ _ HC0.out HL.out.1 HK.out hn0 (by omega)).mono ?_
      rintro e w2 ⟨v, rfl, hh⟩
      obtain ⟨N, hN⟩ : ∃ N, N = (S ++ packI (rowI S i)).length := ⟨_, rfl⟩
      have hNn : N ≤ 2 * n := by
        rw [List.length_append, HL.out.1, HK.out] at hN; omega
      obtain ⟨vo, vc, rfl, hv1, hv2⟩ := itm_form hh
      rw [← hN] at hv1 hh ⊢
      have HNN := hid hN.symm
      have HS := hid hh.swap.drop.third.drop.third
      clear hh HC0 HH hN
      obtain ⟨g, off, hg, hcell, hfr, hput⟩ := HS.out.own.site (by omega)
      simp only [Option.some.injEq, Addr.mk.injEq, and_true] at hg
      obtain ⟨rfl, rfl⟩ := hg
      have hl1 : (List.map (fun x : Value × List Itm => x.1) ms).length = i := by rw [List.length_map]; exact HE.out.1
      have hrep : List.replicate (m - i) (Value.slice none 0 0) = .slice none 0 0 :: List.replicate (m - (i + 1)) (.slice none 0 0) := by
        rw [show m - i = (m - (i + 1)) + 1 by omega, List.replicate_succ]
      have hci := hcell i _ (by rw [hrep, List.getElem?_append_right (by omega), hl1, Nat.sub_self]; rfl)
      have hfi := hfr i
      have HP := hid (HS.out.putOwn (hput i (.slice vo N vc) hlt) (Mod.set w2 B (0 + i) _))
      have HSET : Hid ((List.map (fun x : Value × List Itm => x.1) ms ++ List.replicate (m - i) (Value.slice none 0 0)).set i (.slice vo N vc) = List.map (fun x : Value × List Itm => x.1) ms ++ (.slice vo N vc :: List.replicate (m - (i + 1)) (.slice none 0 0))) := by
        rw [hrep]; exact hid (set_mid _ _ _ _ _ hl1)
      have HP2 := HP.out
      rw [HSET.out] at HP2
      simp only [Nat.zero_add] at HP2 hci hfi
      have HQ := hid HP2
      have HLI := hid hl1
      clear hcell hfr hput hrep HP HP2 HS hl1
      go_upto_region 7 with (fail)
      generalize w2.setCell ⟨B, i, none⟩ (.slice vo N vc) = w3 at HQ ⊢
      have c1 := HQ.out.rowAt (mid_get _ _ _ _ HLI.out) (by omega)
      clear hci hfi
      go_wp2_with fail
      refine (sortrow_any N _ _ w0 _ _ HQ.out.swap HNN.out (by omega)).mono ?_
      rintro e w4 ⟨rfl, hh⟩
      have HQ2 := hid hh.swap
      clear hh HQ c1
      have c1 := HQ2.out.rowAt (mid_get _ _ _ _ HLI.out) (by omega)
      have HWB : Hid (∀ x ∈ rowI S (i + 1), x.1 ≤ 1099511627776) := by
        refine hid fun x hx => ?_
        have h := rowI_le S HL.out.2 (i + 1) x hx
        have h2 : 2 ^ (i + 1) ≤ 2 ^ 15 := Nat.pow_le_pow_right (by decide) (by omega)
        have h3 : 1048576 * 2 ^ (i + 1) ≤ 1048576 * 2 ^ 15 := Nat.mul_le_mul_left _ h2
        omega
      go_wp2_with fail
      refine (pack_any N (ssort (S ++ packI (rowI S i))) _ w0 _ _ HQ2.out.swap (by rw [ssort_length]; exact HNN.out) (by omega) HWB.out).mono ?_
      rintro e w5 ⟨pv, rfl, hh⟩
      have h5 := hh.third
      have h6 := h5.perm ((((List.Perm.swap _ _ _).cons _).cons _).trans (((List.perm_middle.symm.cons _).cons _).cons _))
      have HF : Hid (Held w0 w5 (ownT 38 1 (.slice (some ⟨B, 0, none⟩) m m) m ((ms ++ [(Value.slice vo N vc, rowI S (i + 1))]).map (·.1) ++ List.replicate (m - (i + 1)) (.slice none 0 0)) :: itmT pv (packI (rowI S (i + 1))) :: itmT (.slice so n sc) S :: (mT (ms ++ [(Value.slice vo N vc, rowI S (i + 1))]) ++ Rs))) := by
        have e1 : (ms ++ [((.slice vo N vc : Value), rowI S (i + 1))]).map (·.1) ++ List.replicate (m - (i + 1)) (.slice none 0 0) = List.map (fun x : Value × List Itm => x.1) ms ++ .slice vo N vc :: List.replicate (m - (i + 1)) (.slice none 0 0) := by simp
        have e2 : mT (ms ++ [((.slice vo N vc : Value), rowI S (i + 1))]) ++ Rs = mT ms ++ itmT (.slice vo N vc) (rowI S (i + 1)) :: Rs := by simp [mT]
        rw [e1, e2]
        exact hid h6
      clear hh h5 h6 HQ2 c1
      go_wp2
      go_roundg (gk - 1)
      case measure => omega
      case rel =>
        refine ⟨i + 1, ms ++ [(Value.slice vo N vc, rowI S (i + 1))], by omega, by omega, by go_num, hid ⟨by simp; exact HE.out.1, ?_⟩, HF⟩
        rw [List.map_append, HE.out.2, List.range_succ, List.map_append]; rfl
    · have hltI : ¬ (i : Int) < (m : Int) := by omega
      obtain rfl : i = m := by omega
      have HF : Hid (Held w0 wr (ownT 38 1 (.slice (some ⟨B, 0, none⟩) i i) i (ms.map (·.1)) :: itmT (.slice so n sc) S :: (mT ms ++ Rs))) := by
        have h := HH.out
        rw [Nat.sub_self, List.replicate_zero, List.append_nil] at h
        exact hid h.swap.drop
      go_wp2
      go_ret
      exact ⟨B, rfl, ms, HE.out.1, HE.out.2, HF⟩
end Go.Proofs.Ytcmfccooipnmeaa
