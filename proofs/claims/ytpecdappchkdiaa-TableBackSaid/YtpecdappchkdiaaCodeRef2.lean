/-
  The reference's Codes.
-/
import Derived.Test.YtpecdappchkdiaaCode2
namespace Go.Proofs.Ytpecdappchkdiaa
open Go.RowKit

/-- is symbol j, of lengths l, ahead of the i-th one in the round of length n -/
def ahead (l : List Int) (n i j : Nat) : Bool := match l[j]? with
  | some a => decide (a < (n : Int) ∨ a = (n : Int) ∧ j < i)
  | none => false
def outL (l : List Int) (n i : Nat) : List Nat := (List.range l.length).map fun (j : Nat) => if ahead l n i j = true then codeAt l j else 0
theorem outL_length (l : List Int) (n i : Nat) : (outL l n i).length = l.length := by simp [outL]
theorem outL_get (l : List Int) (n i j : Nat) (h : j < l.length) : (outL l n i)[j]? = some (if ahead l n i j = true then codeAt l j else 0) := by simp [outL, h]
theorem outL_congr {l : List Int} {n i n' i' : Nat} (h : ∀ j a, l[j]? = some a → isLen a = true → ahead l n i j = ahead l n' i' j) : outL l n i = outL l n' i' := by
  refine List.map_congr_left fun j hj => ?_
  have hj' : j < l.length := List.mem_range.1 hj
  have hg : l[j]? = some l[j] := List.getElem?_eq_getElem hj'
  cases ha : isLen l[j] with
  | true => rw [h j _ hg ha]
  | false => rw [codeAt_not l j _ hg ha]; simp
theorem outL_next (l : List Int) (n : Nat) : outL l n l.length = outL l (n + 1) 0 := by
  refine outL_congr fun j a hj ha => ?_
  have hjl := (List.getElem?_eq_some_iff.1 hj).1
  simp only [ahead, hj]
  congr 1
  apply propext
  omega
theorem outL_set (l : List Int) (n i : Nat) (h : l[i]? = some (n : Int)) : (outL l n i).set i (codeAt l i) = outL l n (i + 1) := by
  have hil := (List.getElem?_eq_some_iff.1 h).1
  refine List.ext_getElem? fun j => ?_
  rw [List.getElem?_set, outL_length]
  by_cases hj : j < l.length
  · rw [outL_get _ _ _ _ hj, outL_get _ _ _ _ hj]
    by_cases e : i = j
    · subst e
      rw [if_pos rfl, if_pos hil, if_pos]
      simp [ahead, h]
    · rw [if_neg e]
      have : ahead l n i j = ahead l n (i + 1) j := by
        unfold ahead
        cases l[j]? with
        | none => rfl
        | some a =>
          simp only
          congr 1
          apply propext
          omega
      rw [this]
  · rw [if_neg (by omega), List.getElem?_eq_none (by rw [outL_length]; omega), List.getElem?_eq_none (by rw [outL_length]; omega)]
theorem outL_skip (l : List Int) (n i : Nat) (a : Int) (h : l[i]? = some a) (hne : a ≠ (n : Int)) : outL l n (i + 1) = outL l n i := by
  refine outL_congr fun j b hj hb => ?_
  simp only [ahead, hj]
  congr 1
  apply propext
  have : j = i → b = a := fun e => by subst e; rw [h] at hj; injection hj with hj; exact hj.symm
  omega
theorem outL_none (l : List Int) : outL l 1 0 = List.replicate l.length 0 := by
  refine List.ext_getElem? fun j => ?_
  by_cases hj : j < l.length
  · rw [outL_get _ _ _ _ hj]
    have hg : l[j]? = some l[j] := List.getElem?_eq_getElem hj
    cases ha : isLen l[j] with
    | false => rw [codeAt_not l j _ hg ha]; simp [hj]
    | true =>
      have h1 : 1 ≤ l[j] ∧ l[j] ≤ 15 := by simpa [isLen] using ha
      rw [if_neg]
      · simp [hj]
      · simp only [ahead, hg, decide_eq_true_eq]; omega
  · rw [List.getElem?_eq_none (by rw [outL_length]; omega), List.getElem?_eq_none (by simp; omega)]
theorem outL_all (l : List Int) : outL l 16 0 = codesOf l := by
  refine List.map_congr_left fun j hj => ?_
  have hj' : j < l.length := List.mem_range.1 hj
  have hg : l[j]? = some l[j] := List.getElem?_eq_getElem hj'
  cases ha : isLen l[j] with
  | false => rw [codeAt_not l j _ hg ha]; simp
  | true =>
    have h1 : 1 ≤ l[j] ∧ l[j] ≤ 15 := by simpa [isLen] using ha
    rw [if_pos]
    simp only [ahead, hg, decide_eq_true_eq]; omega

theorem refcodes_none (v : Value) (n : Nat) (w : World) (xs : List Value) (hv : Rd w 1 v n xs) (hl : 288 < n) :
    Calls Try.prog 10 #[v] w fun e w' => e = .returned (.slice none 0 0) ∧ w = w' := by
  obtain ⟨ao, cap, rfl, _, _⟩ := hv.form
  have h1 : (288 : Int) < (n : Int) := by omega
  clear hv
  go_enter Try.func10, Try.ntmps10
  go_wp2
  go_ret
  exact ⟨rfl, rfl⟩

set_option maxRecDepth 20000 in
set_option maxHeartbeats 3200000 in
theorem refcodes_any (v : Value) (l : List Int) (w : World) (hv : Rd w 1 v l.length (ints l)) (hl : l.length ≤ 288) :
    Calls Try.prog 10 #[v] w fun e w' => ∃ v', e = .returned v' ∧ Own w' 53 1 v' l.length (nums .u32 (codesOf l)) ∧ (∀ k, v'.ownBlock = some k → w.heap.size ≤ k) ∧ Mod w w' (fun _ => False) := by
  obtain ⟨ao, cap, rfl, _, _⟩ := hv.form
  obtain ⟨n, hn⟩ : ∃ n, n = l.length := ⟨_, rfl⟩
  rw [← hn] at hv hl ⊢
  have HN := hid hn
  clear hn
  obtain ⟨i0, hi0, hz0, hz1, hz2⟩ := info_parts infoU32
  have hn288 : ¬ (288 : Int) < (n : Int) := by omega
  have hn0 : (0 : Int) ≤ (n : Int) := Int.natCast_nonneg _
  have HI0 := hid hi0
  go_enter Try.func10, Try.ntmps10
  go_wp2_with (refine wpList_make_own rfl 30 (.tmp 11) (.tmp 11) rfl 53 i0 (.int .u32 0) 1 Try.underlying30 HI0.out hz0 hz1 .i64 n rfl rfl (by rw [hz2]; omega) (by unfold maxLen; omega) ?_; intro v1 w4 zs ho1 hm1 hf1 hv1 hzs; have HM4 := hid hm1; have HF1 := hid hf1; have HV1 := hid hv1; have HO1 := hid ho1; have HZS := hid hzs; clear hm1 hf1 hv1 hzs ho1)
  have hHH : Held w w4 [ownT 53 1 v1 n (nums .u32 (outL l 1 0))] := by
    have h := (Held.start w).pushOwn (v := v1) (e := 53) (size := 1) (n := n) (xs := zs) HO1.out HM4.out HF1.out
    have e : zs = nums .u32 (outL l 1 0) := by rw [HZS.out, made_u32, outL_none, HN.out]
    rw [e] at h
    exact h
  obtain ⟨g, hg⟩ : ∃ g, g = w.heap.size := ⟨_, rfl⟩
  obtain rfl : v1 = .slice (some ⟨g, 0, none⟩) n n := by rw [hg]; exact HV1.out
  have HHH := hid hHH
  clear hHH hg
  go_loopg [4, 5] 17 (fun k t4 t5 wr => ∃ (m c : Nat), 1 ≤ m ∧ m ≤ 16 ∧ 16 - m < k ∧ t5 = .int .i64 (m : Int) ∧ t4 = .int .u32 (c : Int) ∧ c ≤ 16385 * 288 ∧ Hid (2 * c = fstC l m) ∧ Hid (Held w wr [ownT 53 1 (.slice (some ⟨g, 0, none⟩) n n) n (nums .u32 (outL l m 0))]))
  case atStart => exact ⟨1, 0, by omega, by omega, by omega, rfl, rfl, by omega, rfl, HHH⟩
  case round =>
    obtain ⟨m, c, hm1, hm, hk, rfl, rfl, hc, HC, HH⟩ := hrel
    obtain ⟨gx, rfl⟩ : ∃ g, g = gk := ⟨gk, rfl⟩
    by_cases hm15 : m ≤ 15
    · have hmI : (m : Int) ≤ 15 := by omega
      have HFL : Hid (fstC l m ≤ 16384 * n) := by unfold Hid; rw [HN.out]; exact fst_le l m hm15
      have hcI : c * 2 ≤ 16384 * n := by have := HFL.out; have := HC.out; omega
      go_wp2
      go_loopg [4, 6] (n + 1) (fun k t4 t6 wq => ∃ (i c : Nat), i ≤ n ∧ n - i < k ∧ t6 = .int .i64 (i : Int) ∧ t4 = .int .u32 (c : Int) ∧ c ≤ 16384 * n + i ∧ Hid (c = fstC l m + (l.take i).count (m : Int)) ∧ Hid (Held w wq [ownT 53 1 (.slice (some ⟨g, 0, none⟩) n n) n (nums .u32 (outL l m i))]))
      case atStart => exact ⟨0, c * 2, by omega, by omega, rfl, by go_num, by omega, by unfold Hid; rw [← HC.out]; simp; omega, HH⟩
      case round =>
        obtain ⟨i, c, hi, hk2, rfl, rfl, hc2, HC2, HH2⟩ := hrel
        by_cases hin : i < n
        · obtain ⟨g1, off, rfl, hcell⟩ := (HH2.out.old hv).spot (by omega)
          obtain ⟨a, hai⟩ : ∃ a, l[i]? = some a := ⟨l[i]'(by have := HN.out; omega), List.getElem?_eq_getElem _⟩
          have hc1 := hcell i _ (by rw [ints_get, hai]; rfl)
          have hi0' : (0 : Int) ≤ (i : Int) := Int.natCast_nonneg _
          have hi1 : (i : Int) < (n : Int) := by omega
          by_cases hae : a = (m : Int)
          · subst hae
            have HT : Hid ((l.take (i + 1)).count (m : Int) = (l.take i).count (m : Int) + 1) := by unfold Hid; rw [count_take_succ l i _ _ hai, if_pos rfl]
            have HCD : Hid (c = codeAt l i) := by unfold Hid; rw [codeAt_len l i _ hai (by simp [isLen]; omega), Int.toNat_natCast]; exact HC2.out
            obtain ⟨g', off', hgg, hocell, hofr, hoput⟩ := HH2.out.own.site (by omega)
            injection hgg with hgg
            injection hgg with hgg1 hgg2
            subst hgg1; subst hgg2
            obtain ⟨b0, hb0⟩ : ∃ b0, (outL l m i)[i]? = some b0 := ⟨_, List.getElem?_eq_getElem (by rw [outL_length]; have := HN.out; omega)⟩
            have hc3 := hocell i _ (by rw [nums_get, hb0]; rfl)
            have hf3 := hofr i
            have HS := hid (HH2.out.putOwn (hoput i (.int .u32 (c : Int)) hin) (Mod.set wr g (0 + i) _))
            have HR : Hid ((outL l m i).set i c = outL l m (i + 1)) := by unfold Hid; rw [HCD.out]; exact outL_set l m i hai
            simp only [Nat.zero_add] at hc3 hf3
            clear hcell hai hocell hofr hoput hb0
            go_wp2
            go_roundg (gk - 1)
            case measure => omega
            case rel => exact ⟨i + 1, c + 1, by omega, by omega, by go_num, by go_num, by omega, by unfold Hid; rw [HT.out, HC2.out]; omega, by unfold Hid; have h := HS.out; rw [nums_set, HR.out] at h; simpa using h⟩
          · have HT : Hid ((l.take (i + 1)).count (m : Int) = (l.take i).count (m : Int)) := by unfold Hid; rw [count_take_succ l i _ _ hai, if_neg hae]; rfl
            have HR : Hid (outL l m (i + 1) = outL l m i) := by unfold Hid; exact outL_skip l m i a hai hae
            clear hcell hai
            go_wp2
            go_roundg (gk - 1)
            case measure => omega
            case rel => exact ⟨i + 1, c, by omega, by omega, by go_num, rfl, by omega, by unfold Hid; rw [HT.out]; exact HC2.out, by unfold Hid; rw [HR.out]; exact HH2.out⟩
        · have hi1 : ¬ (i : Int) < (n : Int) := by omega
          have HE : Hid (i = l.length) := by unfold Hid; have := HN.out; omega
          have HE2 : Hid (l.take i = l) := by unfold Hid; exact List.take_of_length_le (by have := HE.out; omega)
          go_wp2
          go_roundg (gx - 1)
          case measure => omega
          case rel => exact ⟨m + 1, c, by omega, by omega, by omega, by go_num, rfl, by omega, by
              unfold Hid
              obtain ⟨q, rfl⟩ : ∃ q, m = q + 1 := ⟨m - 1, by omega⟩
              rw [fstC, HC2.out, HE2.out], by unfold Hid; rw [← outL_next, ← HE.out]; exact HH2.out⟩
    · obtain rfl : m = 16 := by omega
      have hmI : ¬ ((16 : Nat) : Int) ≤ 15 := by omega
      have HE : Hid (outL l 16 0 = codesOf l) := outL_all l
      rw [HE.out] at HH
      go_wp2
      go_ret
      exact ⟨_, rfl, HH.out.own, HH.out.fresh, HH.out.mod⟩
end Go.Proofs.Ytpecdappchkdiaa
