/-
  The program's first codes and codes.
-/
import Derived.Test.YthibpnkdhbkakaaDoorMd07
import Derived.Test.YthibpnkdhbkakaaDoorProg
import Derived.Test.YthibpnkdhbkakaaDoorMd01
import Derived.Test.YthibpnkdhbkakaaDoorMd03
namespace Go.Proofs.YthibpnkdhbkakaaDoor
set_option maxRecDepth 5000
open Go.RowKit

/-- the first codes, as far as the loop has come -/
def firsts (l : List Int) (i : Nat) : List Nat := (List.range 16).map fun (n : Nat) => if n < i then fstC l n else 0
theorem firsts_length (l : List Int) (i : Nat) : (firsts l i).length = 16 := by simp [firsts]
theorem firsts_get (l : List Int) (i n : Nat) (h : n < i) (hn : n < 16) : (firsts l i)[n]? = some (fstC l n) := by
  simp [firsts, List.getElem?_range hn, h]
theorem firsts_set (l : List Int) (i : Nat) (h : i < 16) : (firsts l i).set i (fstC l i) = firsts l (i + 1) := by
  refine List.ext_getElem? fun j => ?_
  rw [List.getElem?_set, firsts_length]
  by_cases hj : j < 16
  · by_cases e : i = j
    · subst e
      rw [if_pos rfl, if_pos h, firsts_get _ _ _ (by omega) h]
    · rw [if_neg e]
      simp only [firsts, List.getElem?_map, List.getElem?_range hj, Option.map_some]
      by_cases h1 : j < i
      · rw [if_pos h1, if_pos (by omega)]
      · rw [if_neg h1, if_neg (by omega)]
  · rw [if_neg (by omega), List.getElem?_eq_none (by rw [firsts_length]; omega), List.getElem?_eq_none (by rw [firsts_length]; omega)]
theorem firsts_two (l : List Int) : firsts l 2 = List.replicate 16 0 := rfl
theorem infoFz : (Tryd.prog.info? 130).map (·.zero) = some (some (arrV .u32 (List.replicate 16 0))) := by kernel_rfl
theorem infoFs : (Tryd.prog.info? 130).map (·.size) = some 16 := by kernel_rfl

set_option maxHeartbeats 1600000 in
theorem first_any (l : List Int) (w : World) (hl : l.length ≤ 288) :
    Calls Tryd.prog 68 #[arrV .i64 (cnts l)] w fun e w' => e = .returned (arrV .u32 (firsts l 16)) ∧ Mod w w' (fun _ => False) := by
  go_enter Tryd.func68, Tryd.ntmps68
  go_wp2_with (first
    | refine wpList_box_arr rfl _ _ rfl .i64 (cnts l) rfl ?_
    | refine wpList_alloc_arr rfl _ rfl .u32 _ infoFz ?_)
  have hH0 : Held w (((w.alloc (.cells (nums .i64 (cnts l)).toArray 92)).alloc (.cells (nums .u32 (List.replicate 16 0)).toArray 130)).alloc (.cells (nums .u32 (List.replicate 16 0)).toArray 130))
      [objT (w.heap.size + 1 + 1) (nums .u32 (firsts l 2)) 130, objT (w.heap.size + 1) (nums .u32 (List.replicate 16 0)) 130, objT w.heap.size (nums .i64 (cnts l)) 92] := by
    have h := (((Held.start w).newObj (nums .i64 (cnts l)) 92).newObj (nums .u32 (List.replicate 16 0)) 130).newObj (nums .u32 (List.replicate 16 0)) 130
    simpa [firsts_two] using h
  have HH0 := hid hH0
  clear hH0
  go_loopg [4] 17 (fun k t4 wr => ∃ (i : Nat), 2 ≤ i ∧ i ≤ 16 ∧ 16 - i < k ∧ t4 = .int .i64 (i : Int) ∧ Hid (Held w wr [objT (w.heap.size + 1 + 1) (nums .u32 (firsts l i)) 130, objT (w.heap.size + 1) (nums .u32 (List.replicate 16 0)) 130, objT w.heap.size (nums .i64 (cnts l)) 92]))
  case atStart => exact ⟨2, by omega, by omega, by omega, rfl, HH0⟩
  case round =>
    obtain ⟨i, hi2, hi, hk, rfl, HH⟩ := hrel
    by_cases hi1 : i < 16
    · have hi3 : (i : Int) < 16 := by omega
      have hi0 : (0 : Int) ≤ (i : Int) := Int.natCast_nonneg _
      obtain ⟨j, hij⟩ : ∃ j, i = j + 1 := ⟨i - 1, by omega⟩
      have hjI : (i : Int) - 1 = (j : Int) := by omega
      have hj0 : (0 : Int) ≤ (j : Int) := Int.natCast_nonneg _
      have hj1 : (j : Int) < 16 := by omega
      obtain ⟨f, hf⟩ : ∃ f, f = fstC l j := ⟨_, rfl⟩
      have hfl : f ≤ 16384 * 288 := by rw [hf]; have := fst_le l j (by omega); omega
      obtain ⟨x, hx⟩ : ∃ x, x = l.count (j : Int) := ⟨_, rfl⟩
      have hxl : x ≤ 288 := by rw [hx]; have := List.count_le_length (a := (j : Int)) (l := l); omega
      have hcell := HH.out.obj.cell (i := j) (v := .int .u32 (f : Int)) (by rw [nums_get, firsts_get _ _ _ (by omega) (by omega), hf]; rfl)
      have hcell2 := HH.out.third.obj.cell (i := j) (v := .int .i64 (x : Int)) (by rw [nums_get, cnts_get _ j (by omega) (by omega), hx]; rfl)
      have hfr := HH.out.obj.frozen i
      obtain ⟨b0, hb0⟩ : ∃ b0, (firsts l i)[i]? = some b0 := ⟨_, List.getElem?_eq_getElem (by rw [firsts_length]; exact hi1)⟩
      have hcell3 := HH.out.obj.cell (i := i) (v := .int .u32 (b0 : Int)) (by rw [nums_get, hb0]; rfl)
      have HR : Hid ((firsts l i).set i (2 * (f + x)) = firsts l (i + 1)) := by
        unfold Hid
        rw [← firsts_set l i hi1]; congr 1
        obtain ⟨q, rfl⟩ : ∃ q, j = q + 1 := ⟨j - 1, by omega⟩
        rw [hf, hx, hij, fstC]
      have HS := hid (HH.out.setObj i (.int .u32 ((2 * (f + x) : Nat) : Int)))
      clear hf hx hij hb0
      go_wp2
      go_region
      all_goals
        go_wp2
        go_roundg (gk - 1)
        case measure => omega
        case rel => exact ⟨i + 1, by omega, by omega, by omega, by go_num, by unfold Hid; have h := HS.out.drew; rw [nums_set, HR.out] at h; simpa using h⟩
    · obtain rfl : i = 16 := by omega
      have hi3 : ¬ ((16 : Nat) : Int) < 16 := by omega
      have hB := HH.out.obj
      have hB2 := HH.out.swap.obj
      have HL := hid (firsts_length l 16)
      have HL0 := hid (show (List.replicate 16 0).length = 16 from rfl)
      go_wp2_with (first
        | refine wpList_load_arr rfl _ _ rfl _ 16 (by rfl) rfl infoFs (w.heap.size + 1 + 1) .u32 (firsts l 16) _ rfl HL.out hB ?_
        | (refine wpList_store_arr rfl _ _ _ rfl 16 infoFs (w.heap.size + 1) .u32 (List.replicate 16 0) (firsts l 16) _ rfl rfl HL0.out HL.out hB2 ?_; intro w3 hB3 hM3))
      exact ret_arr rfl _ 16 (by rfl) rfl infoFs (w.heap.size + 1) .u32 (firsts l 16) _ rfl HL.out hB3 rfl ⟨rfl, (HH.out.swap.putObj hB3 hM3).mod⟩

/-! ### Codes -/
theorem infoU32 : (Tryd.prog.info? 23).map (fun i => (i.zero, i.size, i.bytes)) = some (some (Value.int .u32 0), 1, 4) := by kernel_rfl
/-- the codes of the first i symbols -/
def partC (l : List Int) (i : Nat) : List Nat := (List.range l.length).map fun (j : Nat) => if j < i then codeAt l j else 0
theorem partC_length (l : List Int) (i : Nat) : (partC l i).length = l.length := by simp [partC]
theorem partC_set (l : List Int) (i : Nat) (h : i < l.length) : (partC l i).set i (codeAt l i) = partC l (i + 1) := by
  refine List.ext_getElem? fun j => ?_
  rw [List.getElem?_set, partC_length]
  by_cases hj : j < l.length
  · simp only [partC, List.getElem?_map, List.getElem?_range hj, Option.map_some]
    by_cases e : i = j
    · subst e
      rw [if_pos rfl, if_pos h, if_pos (by omega)]
    · rw [if_neg e]
      by_cases h1 : j < i
      · rw [if_pos h1, if_pos (by omega)]
      · rw [if_neg h1, if_neg (by omega)]
  · rw [if_neg (by omega), List.getElem?_eq_none (by rw [partC_length]; omega), List.getElem?_eq_none (by rw [partC_length]; omega)]
theorem partC_skip (l : List Int) (i : Nat) (h : i < l.length) (h0 : codeAt l i = 0) : partC l (i + 1) = partC l i := by
  rw [← partC_set l i h, h0]
  refine List.ext_getElem? fun j => ?_
  rw [List.getElem?_set, partC_length]
  by_cases e : i = j
  · subst e
    rw [if_pos rfl, if_pos h]
    simp [partC, List.getElem?_range h]
  · rw [if_neg e]
theorem partC_all (l : List Int) : partC l l.length = codesOf l := by
  refine List.map_congr_left fun j hj => ?_
  rw [if_pos (List.mem_range.1 hj)]
theorem partC_none (l : List Int) : partC l 0 = List.replicate l.length 0 := by
  refine List.ext_getElem? fun j => ?_
  by_cases hj : j < l.length
  · simp [partC, hj]
  · rw [List.getElem?_eq_none (by rw [partC_length]; omega), List.getElem?_eq_none (by simp; omega)]
/-- the next code of each length -/
def nexts (l p : List Int) : List Nat := (List.range 16).map fun (n : Nat) => if n = 0 then 0 else fstC l n + p.count (n : Int)
theorem nexts_length (l p : List Int) : (nexts l p).length = 16 := by simp [nexts]
theorem nexts_get (l p : List Int) (n : Nat) (h1 : 1 ≤ n) (h : n ≤ 15) : (nexts l p)[n]? = some (fstC l n + p.count (n : Int)) := by
  simp only [nexts, List.getElem?_map, List.getElem?_range (show n < 16 by omega), Option.map_some]
  rw [if_neg (by omega)]
theorem nexts_zero (l p : List Int) : (nexts l p)[0]? = some 0 := by simp [nexts]
theorem nexts_nil (l : List Int) : nexts l [] = firsts l 16 := by
  refine List.map_congr_left fun n hn => ?_
  rw [if_pos (List.mem_range.1 hn)]
  by_cases h : n = 0
  · subst h; rfl
  · rw [if_neg h]; simp
theorem nexts_snoc (l p : List Int) (m : Nat) (h1 : 1 ≤ m) (h : m ≤ 15) : (nexts l p).set m (fstC l m + p.count (m : Int) + 1) = nexts l (p ++ [(m : Int)]) := by
  refine List.ext_getElem? fun j => ?_
  rw [List.getElem?_set, nexts_length]
  by_cases hj : j < 16
  · by_cases e : m = j
    · subst e
      rw [if_pos rfl, if_pos (by omega), nexts_get _ _ m h1 h]
      simp; omega
    · rw [if_neg e]
      by_cases h0 : j = 0
      · subst h0; rw [nexts_zero, nexts_zero]
      · rw [nexts_get _ _ j (by omega) (by omega), nexts_get _ _ j (by omega) (by omega), List.count_append, List.count_cons_of_ne (by omega)]
        simp
  · rw [if_neg (by omega), List.getElem?_eq_none (by rw [nexts_length]; omega), List.getElem?_eq_none (by rw [nexts_length]; omega)]
theorem nexts_skip (l p : List Int) (a : Int) (h : isLen a = false) : nexts l (p ++ [a]) = nexts l p := by
  refine List.ext_getElem? fun j => ?_
  by_cases hj : j < 16
  · by_cases h0 : j = 0
    · subst h0; rw [nexts_zero, nexts_zero]
    · have h' : ¬ (1 ≤ a ∧ a ≤ 15) := by simpa [isLen] using h
      rw [nexts_get _ _ j (by omega) (by omega), nexts_get _ _ j (by omega) (by omega), List.count_append, List.count_cons_of_ne (by omega)]
      simp
  · rw [List.getElem?_eq_none (by rw [nexts_length]; omega), List.getElem?_eq_none (by rw [nexts_length]; omega)]
theorem made_u32 (n : Nat) : (madeCells (Value.cells (.int .u32 0)) (n * 1)).toList = nums .u32 (List.replicate n 0) := by
  rw [nums_replicate, Nat.mul_one]
  refine List.ext_getElem? fun j => ?_
  by_cases hj : j < n
  · simp [madeCells, Value.cells, hj, Nat.mod_one]
  · rw [List.getElem?_eq_none (by simp [madeCells]; omega), List.getElem?_eq_none (by simp; omega)]

theorem codes_none (v : Value) (n : Nat) (w : World) (xs : List Value) (hv : Rd w 1 v n xs) (hl : 288 < n) :
    Calls Tryd.prog 53 #[v] w fun e w' => e = .returned (.slice none 0 0) ∧ w = w' := by
  obtain ⟨ao, cap, rfl, _, _⟩ := hv.form
  have h1 : (288 : Int) < (n : Int) := by omega
  clear hv
  go_enter Tryd.func53, Tryd.ntmps53
  go_wp2
  go_ret
  exact ⟨rfl, rfl⟩

set_option maxRecDepth 20000 in
set_option maxHeartbeats 3200000 in
theorem codes_any (v : Value) (l : List Int) (w : World) (hv : Rd w 1 v l.length (ints l)) (hl : l.length ≤ 288) :
    Calls Tryd.prog 53 #[v] w fun e w' => ∃ v', e = .returned v' ∧ Own w' 23 1 v' l.length (nums .u32 (codesOf l)) ∧ (∀ k, v'.ownBlock = some k → w.heap.size ≤ k) ∧ Mod w w' (fun _ => False) := by
  obtain ⟨ao, cap, rfl, _, _⟩ := hv.form
  have HC := hid (count_any _ l w hv (by omega))
  have HLN := hid hl
  obtain ⟨n, hn⟩ : ∃ n, n = l.length := ⟨_, rfl⟩
  rw [← hn] at hv HC hl ⊢
  have HN := hid hn
  clear hn
  obtain ⟨i0, hi0, hz0, hz1, hz2⟩ := info_parts infoU32
  have hn288 : ¬ (288 : Int) < (n : Int) := by omega
  have hn0 : (0 : Int) ≤ (n : Int) := Int.natCast_nonneg _
  have HI0 := hid hi0
  go_enter Tryd.func53, Tryd.ntmps53
  go_wp2_with fail
  refine HC.out.mono ?_
  rintro e w1 ⟨rfl, hM1⟩
  have HM1 := hid hM1
  clear hM1
  go_wp2_with fail
  refine (first_any l w1 HLN.out).mono ?_
  rintro e w2 ⟨rfl, hM2⟩
  have HM2 := hid (HM1.out.same hM2)
  have HL0 := hid (show (List.replicate 16 0).length = 16 from rfl)
  have HLF := hid (firsts_length l 16)
  have HH0 := hid (((Held.start w).same HM2.out).newObj (nums .u32 (List.replicate 16 0)) 130)
  clear hM2
  go_wp2_with (first
    | refine wpList_alloc_arr rfl _ rfl .u32 _ infoFz ?_
    | (refine wpList_store_arr rfl _ _ _ rfl 16 infoFs _ .u32 (List.replicate 16 0) (firsts l 16) _ rfl rfl HL0.out HLF.out HH0.out.obj ?_; intro w3 hB3 hM3; have HB3 := hid hB3; have HM3 := hid hM3; clear hB3 hM3)
    | (refine wpList_make_own rfl 106 (.tmp 14) (.tmp 14) rfl 23 i0 (.int .u32 0) 1 Tryd.underlying106 HI0.out hz0 hz1 .i64 n rfl rfl (by rw [hz2]; omega) (by unfold maxLen; omega) ?_; intro v1 w4 zs ho1 hm1 hf1 hv1 hzs; have HM4 := hid hm1; have HF1 := hid hf1; have HV1 := hid hv1; have HO1 := hid ho1; have HZS := hid hzs; clear hm1 hf1 hv1 hzs ho1))
  have hHH : Held w w4 [ownT 23 1 v1 n (nums .u32 (partC l 0)), objT w2.heap.size (nums .u32 (nexts l (l.take 0))) 130] := by
    have h := (HH0.out.putObj HB3.out HM3.out).pushOwn (v := v1) (e := 23) (size := 1) (n := n) (xs := zs) HO1.out HM4.out HF1.out
    have e : zs = nums .u32 (partC l 0) := by rw [HZS.out, made_u32, partC_none, HN.out]
    rw [e] at h
    rw [List.take_zero, nexts_nil]
    exact h
  obtain ⟨g, hg⟩ : ∃ g, g = w3.heap.size := ⟨_, rfl⟩
  obtain rfl : v1 = .slice (some ⟨g, 0, none⟩) n n := by rw [hg]; exact HV1.out
  have HHH := hid hHH
  clear hHH hg
  go_loopg [18] (n + 1) (fun k t18 wr => ∃ (i : Nat), i ≤ n ∧ n - i < k ∧ t18 = .int .i64 (i : Int) ∧ Hid (Held w wr [ownT 23 1 (.slice (some ⟨g, 0, none⟩) n n) n (nums .u32 (partC l i)), objT w2.heap.size (nums .u32 (nexts l (l.take i))) 130]))
  case atStart => exact ⟨0, by omega, by omega, rfl, HHH⟩
  case round =>
    obtain ⟨i, hi, hk, rfl, HH⟩ := hrel
    by_cases hin : i < n
    · obtain ⟨g1, off, rfl, hcell⟩ := (HH.out.old hv).spot (by omega)
      obtain ⟨a, hai⟩ : ∃ a, l[i]? = some a := ⟨l[i]'(by have := HN.out; omega), List.getElem?_eq_getElem _⟩
      have hc1 := hcell i _ (by rw [ints_get, hai]; rfl)
      have hi0' : (0 : Int) ≤ (i : Int) := Int.natCast_nonneg _
      have hi1 : (i : Int) < (n : Int) := by omega
      have HT := hid (take_snoc3 l i a hai)
      have HA := hid (isCode_any a wr)
      have HIL : Hid (i < l.length) := by unfold Hid; have := HN.out; omega
      cases hisl : isLen a with
      | true =>
        rw [hisl] at HA
        have h15 : 1 ≤ a ∧ a ≤ 15 := by simpa [isLen] using hisl
        have hcode := codeAt_len l i a hai hisl
        have hcl := codeAt_le l i
        obtain ⟨m, rfl⟩ := Int.eq_ofNat_of_zero_le (show 0 ≤ a by omega)
        rw [Int.toNat_natCast] at hcode
        obtain ⟨x, hx⟩ : ∃ x, x = codeAt l i := ⟨_, rfl⟩
        have hxl : x ≤ 16385 * 288 := by rw [hx]; have := HN.out; omega
        have hob := HH.out.swap.obj
        have hcell2 := hob.cell (i := m) (v := .int .u32 (x : Int)) (by rw [nums_get, nexts_get _ _ m (by omega) (by omega), hx, hcode]; rfl)
        have hfr := hob.frozen m
        have hne : g ≠ w2.heap.size := fun e => HH.out.swap.apart (by rw [e]; rfl)
        have hne2 : w2.heap.size ≠ g := fun e => hne e.symm
        obtain ⟨g', off', hgg, hocell, hofr, hoput⟩ := HH.out.own.site (by omega)
        injection hgg with hgg
        injection hgg with hgg1 hgg2
        subst hgg1; subst hgg2
        obtain ⟨b0, hb0⟩ : ∃ b0, (partC l i)[i]? = some b0 := ⟨_, List.getElem?_eq_getElem (by rw [partC_length]; exact HIL.out)⟩
        have hc3 := hocell i _ (by rw [nums_get, hb0]; rfl)
        have hf3 := hofr i
        have HS := hid (HH.out.putOwn (hoput i (.int .u32 (x : Int)) hin) (Mod.set wr g (0 + i) _))
        simp only [Nat.zero_add] at hc3 hf3
        have hm0 : (0 : Int) ≤ (m : Int) := Int.natCast_nonneg _
        have hm1 : (m : Int) < 16 := by omega
        have HX := hid hx
        have HCO := hid hcode
        clear hcell hai hisl hx hcl hcode hob hocell hofr hoput hb0
        go_wp2_with fail
        refine HA.out.mono ?_
        rintro e w5 ⟨rfl, rfl⟩
        have HS2 := hid (HS.out.swap.setObj m (.int .u32 ((x + 1 : Nat) : Int)))
        have HR : Hid ((nexts l (l.take i)).set m (x + 1) = nexts l (l.take (i + 1))) := by unfold Hid; rw [HT.out, ← nexts_snoc _ _ m (by omega) (by omega), HX.out, HCO.out]
        have HR2 : Hid ((partC l i).set i x = partC l (i + 1)) := by unfold Hid; rw [HX.out]; exact partC_set l i HIL.out
        go_wp2
        go_roundg (gk - 1)
        case measure => omega
        case rel => exact ⟨i + 1, by omega, by omega, by go_num, by unfold Hid; have h := HS2.out.swap; rw [nums_set, nums_set, HR.out, HR2.out] at h; simpa using h⟩
      | false =>
        rw [hisl] at HA
        have HR : Hid (nexts l (l.take (i + 1)) = nexts l (l.take i)) := by unfold Hid; rw [HT.out]; exact nexts_skip _ _ _ hisl
        have HR2 : Hid (partC l (i + 1) = partC l i) := by unfold Hid; exact partC_skip l i HIL.out (codeAt_not l i a hai hisl)
        clear hcell hai hisl
        go_wp2_with fail
        refine HA.out.mono ?_
        rintro e w1 ⟨rfl, rfl⟩
        go_wp2
        go_roundg (gk - 1)
        case measure => omega
        case rel => exact ⟨i + 1, by omega, by omega, by go_num, by unfold Hid; rw [HR.out, HR2.out]; exact HH.out⟩
    · have hi2 : ¬ (i : Int) < (n : Int) := by omega
      have HE : Hid (partC l i = codesOf l) := by unfold Hid; rw [show i = l.length by have := HN.out; omega]; exact partC_all l
      rw [HE.out] at HH
      go_wp2
      go_ret
      exact ⟨_, rfl, HH.out.own, HH.out.fresh, HH.out.mod⟩
end Go.Proofs.YthibpnkdhbkakaaDoor
/-
  The reference's Codes.
-/
namespace Go.Proofs.YthibpnkdhbkakaaDoor
set_option maxRecDepth 5000
open Go.RowKit

/-- is symbol j, of lengths l, ahead of the i-th one in the round of length n -/
def ahead (l : List Int) (n i j : Nat) : Bool := match l[j]? with
  | some a => decide (a < (n : Int) ∨ a = (n : Int) ∧ j < i)
  | none => false
def outL (l : List Int) (n i : Nat) : List Nat := (List.range l.length).map fun (j : Nat) => if ahead l n i j = true then codeAt l j else 0
theorem outL_length (l : List Int) (n i : Nat) : (outL l n i).length = l.length := by simp [outL]
theorem outL_get (l : List Int) (n i j : Nat) (h : j < l.length) : (outL l n i)[j]? = some (if ahead l n i j = true then codeAt l j else 0) := by simp [outL, h]
theorem outL_congr {l : List Int} {n i n' i' : Nat} (h : ∀ j a, l[j]? = some a → isLen a = true → ahead l n i j = ahead l n' i' j) : outL l n i = outL l n' i' := by
  refine List.map_congr_left fun j hj => ?_
  have hj' : j < l.length := List.mem_range.1 hj
  have hg : l[j]? = some l[j] := List.getElem?_eq_getElem hj'
  cases ha : isLen l[j] with
  | true => rw [h j _ hg ha]
  | false => rw [codeAt_not l j _ hg ha]; simp
theorem outL_next (l : List Int) (n : Nat) : outL l n l.length = outL l (n + 1) 0 := by
  refine outL_congr fun j a hj ha => ?_
  have hjl := (List.getElem?_eq_some_iff.1 hj).1
  simp only [ahead, hj]
  congr 1
  apply propext
  omega
theorem outL_set (l : List Int) (n i : Nat) (h : l[i]? = some (n : Int)) : (outL l n i).set i (codeAt l i) = outL l n (i + 1) := by
  have hil := (List.getElem?_eq_some_iff.1 h).1
  refine List.ext_getElem? fun j => ?_
  rw [List.getElem?_set, outL_length]
  by_cases hj : j < l.length
  · rw [outL_get _ _ _ _ hj, outL_get _ _ _ _ hj]
    by_cases e : i = j
    · subst e
      rw [if_pos rfl, if_pos hil, if_pos]
      simp [ahead, h]
    · rw [if_neg e]
      have : ahead l n i j = ahead l n (i + 1) j := by
        unfold ahead
        cases l[j]? with
        | none => rfl
        | some a =>
          simp only
          congr 1
          apply propext
          omega
      rw [this]
  · rw [if_neg (by omega), List.getElem?_eq_none (by rw [outL_length]; omega), List.getElem?_eq_none (by rw [outL_length]; omega)]
theorem outL_skip (l : List Int) (n i : Nat) (a : Int) (h : l[i]? = some a) (hne : a ≠ (n : Int)) : outL l n (i + 1) = outL l n i := by
  refine outL_congr fun j b hj hb => ?_
  simp only [ahead, hj]
  congr 1
  apply propext
  have : j = i → b = a := fun e => by subst e; rw [h] at hj; injection hj with hj; exact hj.symm
  omega
theorem outL_none (l : List Int) : outL l 1 0 = List.replicate l.length 0 := by
  refine List.ext_getElem? fun j => ?_
  by_cases hj : j < l.length
  · rw [outL_get _ _ _ _ hj]
    have hg : l[j]? = some l[j] := List.getElem?_eq_getElem hj
    cases ha : isLen l[j] with
    | false => rw [codeAt_not l j _ hg ha]; simp [hj]
    | true =>
      have h1 : 1 ≤ l[j] ∧ l[j] ≤ 15 := by simpa [isLen] using ha
      rw [if_neg]
      · simp [hj]
      · simp only [ahead, hg, decide_eq_true_eq]; omega
  · rw [List.getElem?_eq_none (by rw [outL_length]; omega), List.getElem?_eq_none (by simp; omega)]
theorem outL_all (l : List Int) : outL l 16 0 = codesOf l := by
  refine List.map_congr_left fun j hj => ?_
  have hj' : j < l.length := List.mem_range.1 hj
  have hg : l[j]? = some l[j] := List.getElem?_eq_getElem hj'
  cases ha : isLen l[j] with
  | false => rw [codeAt_not l j _ hg ha]; simp
  | true =>
    have h1 : 1 ≤ l[j] ∧ l[j] ≤ 15 := by simpa [isLen] using ha
    rw [if_pos]
    simp only [ahead, hg, decide_eq_true_eq]; omega

end Go.Proofs.YthibpnkdhbkakaaDoor
/-
  The contracts of the reference package's functions on bits: Of, Number, Bits, Bytes, Even, Same.
-/
namespace Go.Proofs.YthibpnkdhbkakaaDoor
set_option maxRecDepth 5000
open Go.RowKit

theorem Tryd.infoByteR : (Tryd.prog.info? 5).map (fun i => (i.zero, i.size, i.bytes)) = some (some (.int .u8 0), 1, 1) := by kernel_rfl

/-- a slice of the call's own that holds these bytes -/
def Built (w w' : World) (v : Value) (l : List Nat) : Prop :=
  Own w' 5 1 v l.length (u8s l) ∧ Mod w w' (fun _ => False) ∧ ∀ k, v.ownBlock = some k → w.heap.size ≤ k
theorem Built.start (w : World) : Built w w (.slice none 0 0) [] := ⟨Own.nil _ _ _, Mod.refl _ _, by simp [Value.ownBlock]⟩
theorem Built.form {w w' : World} {v : Value} {l : List Nat} (h : Built w w' v l) : ∃ ao cap, v = .slice ao l.length cap := by
  obtain ⟨ao, cap, hv, _⟩ := h.1.form
  exact ⟨ao, cap, hv⟩
/-- one byte more -/
theorem Built.snoc {w wr w1 : World} {l : List Nat} {ao ao1 : Option Addr} {cap cap1 n : Nat} {o : Obj} {x : Int} {b : Nat} (h : Built w wr (.slice ao n cap) l) (hn : n = l.length) (hx : x = (b : Int))
    (hown1 : Own w1 5 1 (.slice ao1 (n + 1) cap1) (n + 1) (u8s l ++ [.int .u8 x])) (hgrow : (wr.alloc o).grownBy w1 (Value.ownBlock (.slice ao n cap)))
    (hat : Value.ownBlock (.slice ao1 (n + 1) cap1) = Value.ownBlock (.slice ao n cap) ∨ Value.ownBlock (.slice ao1 (n + 1) cap1) = some (wr.alloc o).heap.size) : Built w w1 (.slice ao1 (n + 1) cap1) (l ++ [b]) := by
  subst hn
  obtain ⟨h1, h2⟩ := fresh_app h.2.1 h.2.2 hgrow hat
  refine ⟨?_, h1, h2⟩
  rw [u8s_append, List.length_append, List.length_singleton]
  subst hx
  exact hown1

theorem ret_intR {k : IntKind} {a b : Int} (h : a = b) : Ending.returned (.int k a) = .returned (.int k b) := by rw [h]
theorem bit_val (b j : Nat) : ((b : Int) / 2 ^ j).tmod 2 = ((b / 2 ^ j % 2 : Nat) : Int) := by
  have h : ((2 : Int) ^ j) = ((2 ^ j : Nat) : Int) := by simp
  have e : (b : Int) / ((2 ^ j : Nat) : Int) = ((b / 2 ^ j : Nat) : Int) := (Int.natCast_ediv b (2 ^ j)).symm
  rw [h, e]
  generalize b / 2 ^ j = t
  rw [Int.tmod_eq_emod_of_nonneg (by omega)]; omega
theorem bitsOf_snoc (k v : Nat) : bitsOf (k + 1) v = bitsOf k v ++ [v / 2 ^ k % 2] := by
  rw [bitsOf_add]; rfl
theorem u8_bit (x : Nat) (h : x ≤ 1) : IntKind.u8.wrap (x : Int) = (x : Int) := IntWalk.u8_in _ (by omega)

theorem numOf_drop (l : List Nat) (i : Nat) (b : Nat) (h : l[i]? = some b) : numOf (l.drop i) = b + 2 * numOf (l.drop (i + 1)) := by
  have hi := (List.getElem?_eq_some_iff.1 h).1
  have hb := (List.getElem?_eq_some_iff.1 h).2
  rw [List.drop_eq_getElem_cons hi, hb]; rfl
theorem bits8_snoc (l : List Nat) (b : Nat) : bits8 (l ++ [b]) = bits8 l ++ bitsOf 8 b := by rw [bits8_append, bits8_cons, bits8_nil, List.append_nil]
theorem take_snoc' (l : List Nat) (k b : Nat) (h : l[k]? = some b) : l.take (k + 1) = l.take k ++ [b] := by
  have hi := (List.getElem?_eq_some_iff.1 h).1
  have hb := (List.getElem?_eq_some_iff.1 h).2
  rw [List.take_succ_eq_append_getElem hi, hb]
/-! ### Bytes -/
theorem bytesOf_snoc (l : List Nat) (k : Nat) (h : 8 * k + 8 ≤ l.length) : (bytesOf l).take (k + 1) = (bytesOf l).take k ++ [numOf ((l.drop (8 * k)).take 8)] :=
  take_snoc' _ _ _ (bytesOf_get l k (by omega))
/-! ### Even -/
theorem evenN_step (l : List Nat) (j : Nat) : (l ++ List.replicate j 0) ++ [0] = l ++ List.replicate (j + 1) 0 := by
  rw [List.append_assoc, ← List.replicate_succ']
/-! ### Same -/
theorem same_len {a b : List Nat} (h : a.length ≠ b.length) : a ≠ b := fun e => h (by rw [e])
set_option maxHeartbeats 800000 in
theorem same_any (v u : Value) (a b : List Nat) (w : World) (hv : Rd w 1 v a.length (u8s a)) (hu : Rd w 1 u b.length (u8s b)) (hal : a.length < 8000000000) :
    Calls Tryd.prog 12 #[v, u] w fun e w' => e = .returned (.bool (decide (a = b))) ∧ ∃ n, w' = w.drewN n := by
  obtain ⟨ao, cap, rfl, _, _⟩ := hv.form
  obtain ⟨bo, cbp, rfl, _, _⟩ := hu.form
  by_cases hab : a.length = b.length
  · obtain ⟨n, hn⟩ : ∃ n, n = a.length := ⟨_, rfl⟩
    rw [← hab] at hu
    rw [← hn] at hv hu hal
    rw [← hab, ← hn]
    have HN := hid hn
    have HM := hid hab
    clear hn hab
    have hne : ((n : Int) != (n : Int)) = false := by simp
    go_enter Tryd.func12, Tryd.ntmps12
    go_wp2
    go_loopw [5] (fun t5 wr => ∃ k c : Nat, k ≤ n ∧ t5 = .int .i64 (k : Int) ∧ Hid (a.take k = b.take k) ∧ Hid (wr = w.drewN c)) (fun t5 _ => n - (intOf t5).toNat)
    case atStart => exact ⟨0, 0, Nat.zero_le _, rfl, rfl, rfl⟩
    case round =>
      obtain ⟨k, c, hk, rfl, HT, HW⟩ := hrel
      obtain rfl := HW.out
      by_cases hkn : k < n
      · obtain ⟨x, hx⟩ : ∃ x, a[k]? = some x := ⟨a[k]'(by have := HN.out; omega), List.getElem?_eq_getElem _⟩
        obtain ⟨y, hy⟩ : ∃ y, b[k]? = some y := ⟨b[k]'(by have := HN.out; have := HM.out; omega), List.getElem?_eq_getElem _⟩
        obtain ⟨g, off, rfl, hcell⟩ := hv.spot (by omega)
        obtain ⟨g2, off2, rfl, hcell2⟩ := hu.spot (by omega)
        have hc : w.cell? ⟨g, off + k, none⟩ = some (.int .u8 (x : Int)) := hcell k _ (by rw [u8s_get, hx]; rfl)
        have hc2 : w.cell? ⟨g2, off2 + k, none⟩ = some (.int .u8 (y : Int)) := hcell2 k _ (by rw [u8s_get, hy]; rfl)
        have hk0 : (0 : Int) ≤ (k : Int) := Int.natCast_nonneg _
        have hk1 : (k : Int) < (n : Int) := by omega
        have HX := hid hx
        have HY := hid hy
        clear hcell hcell2 hx hy
        by_cases hxy : x = y
        · have hd : ((x : Int) != (y : Int)) = false := by simp [hxy]
          have HXY := hid hxy
          clear hxy
          go_wp2
          go_quiet (fail)
          go_wp2
          go_roundw
          case rel => exact ⟨k + 1, _, by omega, by go_num, by rw [Hid, take_snoc' _ _ _ HX.out, take_snoc' _ _ _ HY.out, HT.out, HXY.out], rfl⟩
          case measure => simp [intOf]; omega
        · have hd : ((x : Int) != (y : Int)) = true := by simp; omega
          have HXY := hid hxy
          clear hxy
          go_wp2
          go_quiet (fail)
          go_wp2
          go_ret
          refine ⟨?_, _, World.drewN_drewN ..⟩
          rw [decide_eq_false]
          · rfl
          · intro e
            have h1 := HX.out
            rw [e, HY.out] at h1
            exact HXY.out (Option.some.inj h1).symm
      · go_wp2
        go_ret
        refine ⟨?_, _, rfl⟩
        have h1 := HT.out
        rw [List.take_of_length_le (by have := HN.out; omega), List.take_of_length_le (by have := HN.out; have := HM.out; omega)] at h1
        rw [decide_eq_true h1]
        rfl
  · have hd : ((a.length : Int) != (b.length : Int)) = true := by simp; omega
    have HN := hid hab
    clear hab
    go_enter Tryd.func12, Tryd.ntmps12
    go_wp2
    go_ret
    exact ⟨by rw [decide_eq_false (same_len HN.out)]; rfl, 0, rfl⟩
end Go.Proofs.YthibpnkdhbkakaaDoor
