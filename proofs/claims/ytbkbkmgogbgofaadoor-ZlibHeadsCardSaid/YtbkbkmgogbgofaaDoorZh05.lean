/-
  The program's counts of lengths, their sum, the first code of each length.
-/
import Derived.Test.YtbkbkmgogbgofaaDoorProg
import Derived.Test.YtbkbkmgogbgofaaDoorZh02
import Derived.Test.YtbkbkmgogbgofaaDoorZh04
import Derived.StillTailTactics
namespace Go.Proofs.YtbkbkmgogbgofaaDoor
set_option maxRecDepth 5000
open Go.RowKit
theorem isCode_any (a : Int) (w : World) :
    Calls Tryd.prog 85 #[.int .i64 a] w fun e w' => e = .returned (.bool (isLen a)) ∧ w = w' := by
  have h3 : a < 1 ∨ 1 ≤ a ∧ a ≤ 15 ∨ 1 ≤ a ∧ 15 < a := by omega
  rcases h3 with h | ⟨h, h2⟩ | ⟨h, h2⟩
  · have h1 : ¬ 1 ≤ a := by omega
    have HI : Hid (isLen a = false) := by unfold Hid isLen; simp; omega
    go_enter Tryd.func85, Tryd.ntmps85
    go_wp2
    go_ret
    exact ⟨by rw [HI.out]; rfl, rfl⟩
  · have HI : Hid (isLen a = true) := by unfold Hid isLen; simp; omega
    go_enter Tryd.func85, Tryd.ntmps85
    go_wp2
    go_ret
    exact ⟨by rw [HI.out]; rfl, rfl⟩
  · have h1 : ¬ a ≤ 15 := by omega
    have HI : Hid (isLen a = false) := by unfold Hid isLen; simp; omega
    go_enter Tryd.func85, Tryd.ntmps85
    go_wp2
    go_ret
    exact ⟨by rw [HI.out]; rfl, rfl⟩
/-! ### how many lengths are each -/
def cnts (l : List Int) : List Nat := (List.range 16).map fun (n : Nat) => if n = 0 then 0 else l.count (n : Int)
theorem cnts_length (l : List Int) : (cnts l).length = 16 := by simp [cnts]
theorem cnts_get (l : List Int) (n : Nat) (h1 : 1 ≤ n) (h : n ≤ 15) : (cnts l)[n]? = some (l.count (n : Int)) := by
  simp only [cnts, List.getElem?_map, List.getElem?_range (show n < 16 by omega), Option.map_some]
  rw [if_neg (by omega)]
theorem cnts_zero (l : List Int) : (cnts l)[0]? = some 0 := by simp [cnts]
theorem cnts_snoc (l : List Int) (m : Nat) (h1 : 1 ≤ m) (h : m ≤ 15) : (cnts l).set m (l.count (m : Int) + 1) = cnts (l ++ [(m : Int)]) := by
  refine List.ext_getElem? fun j => ?_
  rw [List.getElem?_set, cnts_length]
  by_cases hj : j < 16
  · by_cases e : m = j
    · subst e
      rw [if_pos rfl, if_pos (by omega), cnts_get _ m h1 h]
      simp
    · rw [if_neg e]
      by_cases h0 : j = 0
      · subst h0; rw [cnts_zero, cnts_zero]
      · rw [cnts_get _ j (by omega) (by omega), cnts_get _ j (by omega) (by omega), List.count_append, List.count_cons_of_ne (by omega)]
        simp
  · rw [if_neg (by omega), List.getElem?_eq_none (by rw [cnts_length]; omega), List.getElem?_eq_none (by rw [cnts_length]; omega)]
theorem cnts_skip (l : List Int) (a : Int) (h : isLen a = false) : cnts (l ++ [a]) = cnts l := by
  refine List.ext_getElem? fun j => ?_
  by_cases hj : j < 16
  · by_cases h0 : j = 0
    · subst h0; rw [cnts_zero, cnts_zero]
    · have h' : ¬ (1 ≤ a ∧ a ≤ 15) := by simpa [isLen] using h
      rw [cnts_get _ j (by omega) (by omega), cnts_get _ j (by omega) (by omega), List.count_append, List.count_cons_of_ne (by omega)]
      simp
  · rw [List.getElem?_eq_none (by rw [cnts_length]; omega), List.getElem?_eq_none (by rw [cnts_length]; omega)]
theorem infoCz : (Tryd.prog.info? 95).map (·.zero) = some (some (arrV .i64 (cnts []))) := by kernel_rfl
theorem infoCs : (Tryd.prog.info? 95).map (·.size) = some 16 := by kernel_rfl
set_option maxHeartbeats 1600000 in
theorem count_any (v : Value) (l : List Int) (w : World) (hv : Rd w 1 v l.length (ints l)) (hl : l.length < 1000000) :
    Calls Tryd.prog 65 #[v] w fun e w' => e = .returned (arrV .i64 (cnts l)) ∧ Mod w w' (fun _ => False) := by
  obtain ⟨ao, cap, rfl, _, _⟩ := hv.form
  obtain ⟨n, hn⟩ : ∃ n, n = l.length := ⟨_, rfl⟩
  rw [← hn] at hv hl ⊢
  have HN := hid hn
  clear hn
  go_enter Tryd.func65, Tryd.ntmps65
  go_wp2_with (refine wpList_alloc_arr rfl _ rfl .i64 _ infoCz ?_)
  have hH0 : Held w ((w.alloc (.cells (nums .i64 (cnts [])).toArray 95)).alloc (.cells (nums .i64 (cnts [])).toArray 95)) [objT (w.heap.size + 1) (nums .i64 (cnts [])) 95, objT w.heap.size (nums .i64 (cnts [])) 95] := by
    have h := ((Held.start w).newObj (nums .i64 (cnts [])) 95).newObj (nums .i64 (cnts [])) 95
    simpa using h
  have HH0 := hid hH0
  clear hH0
  go_loopg [8] (n + 1) (fun k t8 wr => ∃ (i : Nat), i ≤ n ∧ n - i < k ∧ t8 = .int .i64 (i : Int) ∧ Hid (Held w wr [objT (w.heap.size + 1) (nums .i64 (cnts (l.take i))) 95, objT w.heap.size (nums .i64 (cnts [])) 95]))
  case atStart => exact ⟨0, by omega, by omega, rfl, HH0⟩
  case round =>
    obtain ⟨i, hi, hk, rfl, HH⟩ := hrel
    by_cases hin : i < n
    · obtain ⟨g, off, rfl, hcell⟩ := (HH.out.old hv).spot (by omega)
      obtain ⟨a, hai⟩ : ∃ a, l[i]? = some a := ⟨l[i]'(by have := HN.out; omega), List.getElem?_eq_getElem _⟩
      have hc1 := hcell i _ (by rw [ints_get, hai]; rfl)
      have hi0 : (0 : Int) ≤ (i : Int) := Int.natCast_nonneg _
      have hi1 : (i : Int) < (n : Int) := by omega
      have HT := hid (take_snoc3 l i a hai)
      have HA := hid (isCode_any a wr)
      have hcl : (l.take i).count a ≤ n := Nat.le_trans (List.count_le_length) (by simp; have := HN.out; omega)
      cases hisl : isLen a with
      | true =>
        rw [hisl] at HA
        have h15 : 1 ≤ a ∧ a ≤ 15 := by simpa [isLen] using hisl
        obtain ⟨m, rfl⟩ := Int.eq_ofNat_of_zero_le (show 0 ≤ a by omega)
        obtain ⟨x, hx⟩ : ∃ x, x = (l.take i).count ((m : Nat) : Int) := ⟨_, rfl⟩
        have hxn : x ≤ n := by rw [hx]; exact hcl
        have hcell2 := HH.out.obj.cell (i := m) (v := .int .i64 (x : Int)) (by rw [nums_get, cnts_get _ m (by omega) (by omega), hx]; rfl)
        have hfr := HH.out.obj.frozen m
        have hm0 : (0 : Int) ≤ (m : Int) := Int.natCast_nonneg _
        have hm1 : (m : Int) < 16 := by omega
        have HX := hid hx
        have HS := hid (HH.out.setObj m (.int .i64 ((x + 1 : Nat) : Int)))
        have HR : Hid (nums .i64 ((cnts (l.take i)).set m (x + 1)) = nums .i64 (cnts (l.take (i + 1)))) := by unfold Hid; rw [HT.out, ← cnts_snoc _ m (by omega) (by omega), HX.out]
        clear hcell hai hisl hx hcl
        go_wp2_with fail
        refine HA.out.mono ?_
        rintro e w1 ⟨rfl, rfl⟩
        go_wp2
        go_roundg (gk - 1)
        case measure => omega
        case rel => exact ⟨i + 1, by omega, by omega, by go_num, by unfold Hid; have h := HS.out; rw [nums_set, HR.out] at h; simpa using h⟩
      | false =>
        rw [hisl] at HA
        have HR : Hid (cnts (l.take (i + 1)) = cnts (l.take i)) := by unfold Hid; rw [HT.out]; exact cnts_skip _ _ hisl
        clear hcell hai hisl
        go_wp2_with fail
        refine HA.out.mono ?_
        rintro e w1 ⟨rfl, rfl⟩
        go_wp2
        go_roundg (gk - 1)
        case measure => omega
        case rel => exact ⟨i + 1, by omega, by omega, by go_num, by unfold Hid; rw [HR.out]; exact HH.out⟩
    · have hi2 : ¬ (i : Int) < (n : Int) := by omega
      have HE : Hid (l.take i = l) := by unfold Hid; exact List.take_of_length_le (by have := HN.out; omega)
      rw [HE.out] at HH
      have hB := HH.out.obj
      have hB2 := HH.out.swap.obj
      have HL := hid (cnts_length l)
      have HL0 := hid (cnts_length [])
      go_wp2_with (first
        | refine wpList_load_arr rfl _ _ rfl _ 16 (by rfl) rfl infoCs (w.heap.size + 1) .i64 (cnts l) _ rfl HL.out hB ?_
        | (refine wpList_store_arr rfl _ _ _ rfl 16 infoCs w.heap.size .i64 (cnts []) (cnts l) _ rfl rfl HL0.out HL.out hB2 ?_; intro w3 hB3 hM3))
      exact ret_arr rfl _ 16 (by rfl) rfl infoCs w.heap.size .i64 (cnts l) _ rfl HL.out hB3 rfl ⟨rfl, (HH.out.swap.putObj hB3 hM3).mod⟩
theorem part_sum (l : List Int) (i x : Nat) (h : (cnts l)[i]? = some x) (hi : i ≤ 15) : tot l (i - 1) + x * 2 ^ (15 - i) = tot l i := by
  match i with
  | 0 =>
    rw [cnts_zero] at h; injection h with h; subst h
    simp [tot]
  | n + 1 =>
    rw [cnts_get l (n + 1) (by omega) hi] at h; injection h with h; subst h
    rw [tot]; congr 2; congr 1; omega
theorem shl_nat (x m : Nat) (h : x * 2 ^ m < 9223372036854775808) : wrap64 ((x : Int) * 2 ^ m) = ((x * 2 ^ m : Nat) : Int) := by
  rw [two_pow_int, show ((x : Int) * ((2 ^ m : Nat) : Int)) = ((x * 2 ^ m : Nat) : Int) by simp]
  generalize x * 2 ^ m = z at h ⊢
  unfold wrap64; omega
set_option maxHeartbeats 1600000 in
theorem csum_any (l : List Int) (w : World) (hl : l.length < 1000000) :
    Calls Tryd.prog 66 #[arrV .i64 (cnts l)] w fun e w' => e = .returned (.int .i64 ((sumOf l : Nat) : Int)) ∧ Mod w w' (fun _ => False) := by
  have HL := hid (cnts_length l)
  go_enter Tryd.func66, Tryd.ntmps66
  have hB : Blk (w.alloc (.cells (nums .i64 (cnts l)).toArray 95)) w.heap.size (nums .i64 (cnts l)) 95 := Blk.new _ _ _
  have HM : Hid (Mod w (w.alloc (.cells (nums .i64 (cnts l)).toArray 95)) (fun _ => False)) := (Mod.refl w _).alloc _
  obtain ⟨w1, hw1⟩ : ∃ w1, w1 = w.alloc (.cells (nums .i64 (cnts l)).toArray 95) := ⟨_, rfl⟩
  rw [← hw1] at hB HM
  have HW1 := hid hw1
  clear hw1
  go_wp2_with (first
    | (refine wpList_box_arr rfl _ _ rfl .i64 (cnts l) rfl ?_; rw [← HW1.out])
    | refine wpList_load_arr rfl _ _ rfl _ 16 (by rfl) rfl infoCs w.heap.size .i64 (cnts l) _ rfl HL.out hB ?_)
  go_loopg [3, 7] 17 (fun k t3 t7 wr => ∃ (i s : Nat), i ≤ 16 ∧ 16 - i < k ∧ t7 = .int .i64 (i : Int) ∧ t3 = .int .i64 (s : Int) ∧ Hid (s = tot l (i - 1)) ∧ s < 16385000000 ∧ wr = w1)
  case atStart => exact ⟨0, 0, by omega, by omega, rfl, rfl, rfl, by omega, rfl⟩
  case round =>
    obtain ⟨i, s, hi, hk, rfl, rfl, HS, hs, rfl⟩ := hrel
    by_cases hi1 : i < 16
    · have hi2 : (i : Int) < 16 := by omega
      have hi0 : (0 : Int) ≤ (i : Int) := Int.natCast_nonneg _
      obtain ⟨x, hx⟩ : ∃ x, (cnts l)[i]? = some x := ⟨_, List.getElem?_eq_getElem (by have := HL.out; omega)⟩
      obtain ⟨m, hm⟩ : ∃ m, m = 15 - i := ⟨_, rfl⟩
      have hmI : (15 : Int) - (i : Int) = (m : Int) := by omega
      have hp := part_sum l i x hx (by omega)
      have ht := tot_le l i (by omega)
      rw [← hm, ← HS.out] at hp
      obtain ⟨y, hy⟩ : ∃ y, y = x * 2 ^ m := ⟨_, rfl⟩
      rw [← hy] at hp
      have hyI : wrap64 ((x : Int) * 2 ^ (15 - i)) = (y : Int) := by rw [hy, hm]; rw [hm] at hy; exact shl_nat x (15 - i) (by omega)
      have hsy : s + y < 16385000000 := by omega
      have HP := hid hp
      have HX := hid hx
      clear hx hp hy ht
      go_wp2_with (refine wpList_index_arr rfl _ _ _ rfl _ 16 _ (by rfl) (by rfl) rfl (by kernel_rfl) .i64 (cnts l) .i64 i x rfl rfl hi1 HX.out ?_)
      go_roundg (gk - 1)
      case measure => omega
      case rel => exact ⟨i + 1, s + y, by omega, by omega, by go_num, by go_num, by unfold Hid; rw [Nat.add_sub_cancel]; exact HP.out, hsy, rfl⟩
    · obtain rfl : i = 16 := by omega
      have hi2 : ¬ ((16 : Nat) : Int) < 16 := by omega
      go_wp2
      go_ret
      exact ⟨ret_int (by rw [HS.out]; rfl), HM.out⟩
theorem sum_any (v : Value) (l : List Int) (w : World) (hv : Rd w 1 v l.length (ints l)) (hl : l.length < 1000000) :
    Calls Tryd.prog 52 #[v] w fun e w' => e = .returned (.int .i64 ((sumOf l : Nat) : Int)) ∧ Mod w w' (fun _ => False) := by
  obtain ⟨ao, cap, rfl, _, _⟩ := hv.form
  have HC := hid (count_any _ l w hv hl)
  have HL := hid hl
  generalize l.length = n at HC hv ⊢
  clear hv hl
  go_enter Tryd.func52, Tryd.ntmps52
  go_wp2_with fail
  refine HC.out.mono ?_
  rintro e w1 ⟨rfl, hM⟩
  have HM := hid hM
  clear hM
  go_wp2_with fail
  refine (csum_any l w1 HL.out).mono ?_
  rintro e w2 ⟨rfl, hM2⟩
  have HM2 := hid hM2
  clear hM2
  go_wp2
  go_ret
  exact ⟨rfl, HM.out.same HM2.out⟩
end Go.Proofs.YtbkbkmgogbgofaaDoor
/-
  The program's first codes and codes.
-/
namespace Go.Proofs.YtbkbkmgogbgofaaDoor
set_option maxRecDepth 5000
open Go.RowKit
def firsts (l : List Int) (i : Nat) : List Nat := (List.range 16).map fun (n : Nat) => if n < i then fstC l n else 0
theorem firsts_length (l : List Int) (i : Nat) : (firsts l i).length = 16 := by simp [firsts]
theorem firsts_get (l : List Int) (i n : Nat) (h : n < i) (hn : n < 16) : (firsts l i)[n]? = some (fstC l n) := by
  simp [firsts, List.getElem?_range hn, h]
theorem firsts_set (l : List Int) (i : Nat) (h : i < 16) : (firsts l i).set i (fstC l i) = firsts l (i + 1) := by
  refine List.ext_getElem? fun j => ?_
  rw [List.getElem?_set, firsts_length]
  by_cases hj : j < 16
  · by_cases e : i = j
    · subst e
      rw [if_pos rfl, if_pos h, firsts_get _ _ _ (by omega) h]
    · rw [if_neg e]
      simp only [firsts, List.getElem?_map, List.getElem?_range hj, Option.map_some]
      by_cases h1 : j < i
      · rw [if_pos h1, if_pos (by omega)]
      · rw [if_neg h1, if_neg (by omega)]
  · rw [if_neg (by omega), List.getElem?_eq_none (by rw [firsts_length]; omega), List.getElem?_eq_none (by rw [firsts_length]; omega)]
theorem firsts_two (l : List Int) : firsts l 2 = List.replicate 16 0 := rfl
theorem infoFz : (Tryd.prog.info? 124).map (·.zero) = some (some (arrV .u32 (List.replicate 16 0))) := by kernel_rfl
theorem infoFs : (Tryd.prog.info? 124).map (·.size) = some 16 := by kernel_rfl
set_option maxHeartbeats 1600000 in
theorem first_any (l : List Int) (w : World) (hl : l.length ≤ 288) :
    Calls Tryd.prog 87 #[arrV .i64 (cnts l)] w fun e w' => e = .returned (arrV .u32 (firsts l 16)) ∧ Mod w w' (fun _ => False) := by
  go_enter Tryd.func87, Tryd.ntmps87
  go_wp2_with (first
    | refine wpList_box_arr rfl _ _ rfl .i64 (cnts l) rfl ?_
    | refine wpList_alloc_arr rfl _ rfl .u32 _ infoFz ?_)
  have hH0 : Held w (((w.alloc (.cells (nums .i64 (cnts l)).toArray 95)).alloc (.cells (nums .u32 (List.replicate 16 0)).toArray 124)).alloc (.cells (nums .u32 (List.replicate 16 0)).toArray 124))
      [objT (w.heap.size + 1 + 1) (nums .u32 (firsts l 2)) 124, objT (w.heap.size + 1) (nums .u32 (List.replicate 16 0)) 124, objT w.heap.size (nums .i64 (cnts l)) 95] := by
    have h := (((Held.start w).newObj (nums .i64 (cnts l)) 95).newObj (nums .u32 (List.replicate 16 0)) 124).newObj (nums .u32 (List.replicate 16 0)) 124
    simpa [firsts_two] using h
  have HH0 := hid hH0
  clear hH0
  go_loopg [4] 17 (fun k t4 wr => ∃ (i : Nat), 2 ≤ i ∧ i ≤ 16 ∧ 16 - i < k ∧ t4 = .int .i64 (i : Int) ∧ Hid (Held w wr [objT (w.heap.size + 1 + 1) (nums .u32 (firsts l i)) 124, objT (w.heap.size + 1) (nums .u32 (List.replicate 16 0)) 124, objT w.heap.size (nums .i64 (cnts l)) 95]))
  case atStart => exact ⟨2, by omega, by omega, by omega, rfl, HH0⟩
  case round =>
    obtain ⟨i, hi2, hi, hk, rfl, HH⟩ := hrel
    by_cases hi1 : i < 16
    · have hi3 : (i : Int) < 16 := by omega
      have hi0 : (0 : Int) ≤ (i : Int) := Int.natCast_nonneg _
      obtain ⟨j, hij⟩ : ∃ j, i = j + 1 := ⟨i - 1, by omega⟩
      have hjI : (i : Int) - 1 = (j : Int) := by omega
      have hj0 : (0 : Int) ≤ (j : Int) := Int.natCast_nonneg _
      have hj1 : (j : Int) < 16 := by omega
      obtain ⟨f, hf⟩ : ∃ f, f = fstC l j := ⟨_, rfl⟩
      have hfl : f ≤ 16384 * 288 := by rw [hf]; have := fst_le l j (by omega); omega
      obtain ⟨x, hx⟩ : ∃ x, x = l.count (j : Int) := ⟨_, rfl⟩
      have hxl : x ≤ 288 := by rw [hx]; have := List.count_le_length (a := (j : Int)) (l := l); omega
      have hcell := HH.out.obj.cell (i := j) (v := .int .u32 (f : Int)) (by rw [nums_get, firsts_get _ _ _ (by omega) (by omega), hf]; rfl)
      have hcell2 := HH.out.third.obj.cell (i := j) (v := .int .i64 (x : Int)) (by rw [nums_get, cnts_get _ j (by omega) (by omega), hx]; rfl)
      have hfr := HH.out.obj.frozen i
      obtain ⟨b0, hb0⟩ : ∃ b0, (firsts l i)[i]? = some b0 := ⟨_, List.getElem?_eq_getElem (by rw [firsts_length]; exact hi1)⟩
      have hcell3 := HH.out.obj.cell (i := i) (v := .int .u32 (b0 : Int)) (by rw [nums_get, hb0]; rfl)
      have HR : Hid ((firsts l i).set i (2 * (f + x)) = firsts l (i + 1)) := by
        unfold Hid
        rw [← firsts_set l i hi1]; congr 1
        obtain ⟨q, rfl⟩ : ∃ q, j = q + 1 := ⟨j - 1, by omega⟩
        rw [hf, hx, hij, fstC]
      have HS := hid (HH.out.setObj i (.int .u32 ((2 * (f + x) : Nat) : Int)))
      clear hf hx hij hb0
      go_wp2
      go_region
      all_goals
        go_wp2
        go_roundg (gk - 1)
        case measure => omega
        case rel => exact ⟨i + 1, by omega, by omega, by omega, by go_num, by unfold Hid; have h := HS.out.drew; rw [nums_set, HR.out] at h; simpa using h⟩
    · obtain rfl : i = 16 := by omega
      have hi3 : ¬ ((16 : Nat) : Int) < 16 := by omega
      have hB := HH.out.obj
      have hB2 := HH.out.swap.obj
      have HL := hid (firsts_length l 16)
      have HL0 := hid (show (List.replicate 16 0).length = 16 from rfl)
      go_wp2_with (first
        | refine wpList_load_arr rfl _ _ rfl _ 16 (by rfl) rfl infoFs (w.heap.size + 1 + 1) .u32 (firsts l 16) _ rfl HL.out hB ?_
        | (refine wpList_store_arr rfl _ _ _ rfl 16 infoFs (w.heap.size + 1) .u32 (List.replicate 16 0) (firsts l 16) _ rfl rfl HL0.out HL.out hB2 ?_; intro w3 hB3 hM3))
      exact ret_arr rfl _ 16 (by rfl) rfl infoFs (w.heap.size + 1) .u32 (firsts l 16) _ rfl HL.out hB3 rfl ⟨rfl, (HH.out.swap.putObj hB3 hM3).mod⟩
/-! ### Codes -/
theorem infoU32 : (Tryd.prog.info? 33).map (fun i => (i.zero, i.size, i.bytes)) = some (some (Value.int .u32 0), 1, 4) := by kernel_rfl
def partC (l : List Int) (i : Nat) : List Nat := (List.range l.length).map fun (j : Nat) => if j < i then codeAt l j else 0
theorem partC_length (l : List Int) (i : Nat) : (partC l i).length = l.length := by simp [partC]
theorem partC_set (l : List Int) (i : Nat) (h : i < l.length) : (partC l i).set i (codeAt l i) = partC l (i + 1) := by
  refine List.ext_getElem? fun j => ?_
  rw [List.getElem?_set, partC_length]
  by_cases hj : j < l.length
  · simp only [partC, List.getElem?_map, List.getElem?_range hj, Option.map_some]
    by_cases e : i = j
    · subst e
      rw [if_pos rfl, if_pos h, if_pos (by omega)]
    · rw [if_neg e]
      by_cases h1 : j < i
      · rw [if_pos h1, if_pos (by omega)]
      · rw [if_neg h1, if_neg (by omega)]
  · rw [if_neg (by omega), List.getElem?_eq_none (by rw [partC_length]; omega), List.getElem?_eq_none (by rw [partC_length]; omega)]
theorem partC_skip (l : List Int) (i : Nat) (h : i < l.length) (h0 : codeAt l i = 0) : partC l (i + 1) = partC l i := by
  rw [← partC_set l i h, h0]
  refine List.ext_getElem? fun j => ?_
  rw [List.getElem?_set, partC_length]
  by_cases e : i = j
  · subst e
    rw [if_pos rfl, if_pos h]
    simp [partC, List.getElem?_range h]
  · rw [if_neg e]
theorem partC_all (l : List Int) : partC l l.length = codesOf l := by
  refine List.map_congr_left fun j hj => ?_
  rw [if_pos (List.mem_range.1 hj)]
theorem partC_none (l : List Int) : partC l 0 = List.replicate l.length 0 := by
  refine List.ext_getElem? fun j => ?_
  by_cases hj : j < l.length
  · simp [partC, hj]
  · rw [List.getElem?_eq_none (by rw [partC_length]; omega), List.getElem?_eq_none (by simp; omega)]
def nexts (l p : List Int) : List Nat := (List.range 16).map fun (n : Nat) => if n = 0 then 0 else fstC l n + p.count (n : Int)
theorem nexts_length (l p : List Int) : (nexts l p).length = 16 := by simp [nexts]
theorem nexts_get (l p : List Int) (n : Nat) (h1 : 1 ≤ n) (h : n ≤ 15) : (nexts l p)[n]? = some (fstC l n + p.count (n : Int)) := by
  simp only [nexts, List.getElem?_map, List.getElem?_range (show n < 16 by omega), Option.map_some]
  rw [if_neg (by omega)]
theorem nexts_zero (l p : List Int) : (nexts l p)[0]? = some 0 := by simp [nexts]
theorem nexts_nil (l : List Int) : nexts l [] = firsts l 16 := by
  refine List.map_congr_left fun n hn => ?_
  rw [if_pos (List.mem_range.1 hn)]
  by_cases h : n = 0
  · subst h; rfl
  · rw [if_neg h]; simp
theorem nexts_snoc (l p : List Int) (m : Nat) (h1 : 1 ≤ m) (h : m ≤ 15) : (nexts l p).set m (fstC l m + p.count (m : Int) + 1) = nexts l (p ++ [(m : Int)]) := by
  refine List.ext_getElem? fun j => ?_
  rw [List.getElem?_set, nexts_length]
  by_cases hj : j < 16
  · by_cases e : m = j
    · subst e
      rw [if_pos rfl, if_pos (by omega), nexts_get _ _ m h1 h]
      simp; omega
    · rw [if_neg e]
      by_cases h0 : j = 0
      · subst h0; rw [nexts_zero, nexts_zero]
      · rw [nexts_get _ _ j (by omega) (by omega), nexts_get _ _ j (by omega) (by omega), List.count_append, List.count_cons_of_ne (by omega)]
        simp
  · rw [if_neg (by omega), List.getElem?_eq_none (by rw [nexts_length]; omega), List.getElem?_eq_none (by rw [nexts_length]; omega)]
theorem nexts_skip (l p : List Int) (a : Int) (h : isLen a = false) : nexts l (p ++ [a]) = nexts l p := by
  refine List.ext_getElem? fun j => ?_
  by_cases hj : j < 16
  · by_cases h0 : j = 0
    · subst h0; rw [nexts_zero, nexts_zero]
    · have h' : ¬ (1 ≤ a ∧ a ≤ 15) := by simpa [isLen] using h
      rw [nexts_get _ _ j (by omega) (by omega), nexts_get _ _ j (by omega) (by omega), List.count_append, List.count_cons_of_ne (by omega)]
      simp
  · rw [List.getElem?_eq_none (by rw [nexts_length]; omega), List.getElem?_eq_none (by rw [nexts_length]; omega)]
theorem made_u32 (n : Nat) : (madeCells (Value.cells (.int .u32 0)) (n * 1)).toList = nums .u32 (List.replicate n 0) := by
  rw [nums_replicate, Nat.mul_one]
  refine List.ext_getElem? fun j => ?_
  by_cases hj : j < n
  · simp [madeCells, Value.cells, hj, Nat.mod_one]
  · rw [List.getElem?_eq_none (by simp [madeCells]; omega), List.getElem?_eq_none (by simp; omega)]
set_option maxRecDepth 20000 in
set_option maxHeartbeats 3200000 in
theorem codes_any (v : Value) (l : List Int) (w : World) (hv : Rd w 1 v l.length (ints l)) (hl : l.length ≤ 288) :
    Calls Tryd.prog 69 #[v] w fun e w' => ∃ v', e = .returned v' ∧ Own w' 33 1 v' l.length (nums .u32 (codesOf l)) ∧ (∀ k, v'.ownBlock = some k → w.heap.size ≤ k) ∧ Mod w w' (fun _ => False) := by
  obtain ⟨ao, cap, rfl, _, _⟩ := hv.form
  have HC := hid (count_any _ l w hv (by omega))
  have HLN := hid hl
  obtain ⟨n, hn⟩ : ∃ n, n = l.length := ⟨_, rfl⟩
  rw [← hn] at hv HC hl ⊢
  have HN := hid hn
  clear hn
  obtain ⟨i0, hi0, hz0, hz1, hz2⟩ := info_parts infoU32
  have hn288 : ¬ (288 : Int) < (n : Int) := by omega
  have hn0 : (0 : Int) ≤ (n : Int) := Int.natCast_nonneg _
  have HI0 := hid hi0
  go_enter Tryd.func69, Tryd.ntmps69
  go_wp2_with fail
  refine HC.out.mono ?_
  rintro e w1 ⟨rfl, hM1⟩
  have HM1 := hid hM1
  clear hM1
  go_wp2_with fail
  refine (first_any l w1 HLN.out).mono ?_
  rintro e w2 ⟨rfl, hM2⟩
  have HM2 := hid (HM1.out.same hM2)
  have HL0 := hid (show (List.replicate 16 0).length = 16 from rfl)
  have HLF := hid (firsts_length l 16)
  have HH0 := hid (((Held.start w).same HM2.out).newObj (nums .u32 (List.replicate 16 0)) 124)
  clear hM2
  go_wp2_with (first
    | refine wpList_alloc_arr rfl _ rfl .u32 _ infoFz ?_
    | (refine wpList_store_arr rfl _ _ _ rfl 16 infoFs _ .u32 (List.replicate 16 0) (firsts l 16) _ rfl rfl HL0.out HLF.out HH0.out.obj ?_; intro w3 hB3 hM3; have HB3 := hid hB3; have HM3 := hid hM3; clear hB3 hM3)
    | (refine wpList_make_own rfl 99 (.tmp 14) (.tmp 14) rfl 33 i0 (.int .u32 0) 1 Tryd.underlying99 HI0.out hz0 hz1 .i64 n rfl rfl (by rw [hz2]; omega) (by unfold maxLen; omega) ?_; intro v1 w4 zs ho1 hm1 hf1 hv1 hzs; have HM4 := hid hm1; have HF1 := hid hf1; have HV1 := hid hv1; have HO1 := hid ho1; have HZS := hid hzs; clear hm1 hf1 hv1 hzs ho1))
  have hHH : Held w w4 [ownT 33 1 v1 n (nums .u32 (partC l 0)), objT w2.heap.size (nums .u32 (nexts l (l.take 0))) 124] := by
    have h := (HH0.out.putObj HB3.out HM3.out).pushOwn (v := v1) (e := 33) (size := 1) (n := n) (xs := zs) HO1.out HM4.out HF1.out
    have e : zs = nums .u32 (partC l 0) := by rw [HZS.out, made_u32, partC_none, HN.out]
    rw [e] at h
    rw [List.take_zero, nexts_nil]
    exact h
  obtain ⟨g, hg⟩ : ∃ g, g = w3.heap.size := ⟨_, rfl⟩
  obtain rfl : v1 = .slice (some ⟨g, 0, none⟩) n n := by rw [hg]; exact HV1.out
  have HHH := hid hHH
  clear hHH hg
  go_loopg [18] (n + 1) (fun k t18 wr => ∃ (i : Nat), i ≤ n ∧ n - i < k ∧ t18 = .int .i64 (i : Int) ∧ Hid (Held w wr [ownT 33 1 (.slice (some ⟨g, 0, none⟩) n n) n (nums .u32 (partC l i)), objT w2.heap.size (nums .u32 (nexts l (l.take i))) 124]))
  case atStart => exact ⟨0, by omega, by omega, rfl, HHH⟩
  case round =>
    obtain ⟨i, hi, hk, rfl, HH⟩ := hrel
    by_cases hin : i < n
    · obtain ⟨g1, off, rfl, hcell⟩ := (HH.out.old hv).spot (by omega)
      obtain ⟨a, hai⟩ : ∃ a, l[i]? = some a := ⟨l[i]'(by have := HN.out; omega), List.getElem?_eq_getElem _⟩
      have hc1 := hcell i _ (by rw [ints_get, hai]; rfl)
      have hi0' : (0 : Int) ≤ (i : Int) := Int.natCast_nonneg _
      have hi1 : (i : Int) < (n : Int) := by omega
      have HT := hid (take_snoc3 l i a hai)
      have HA := hid (isCode_any a wr)
      have HIL : Hid (i < l.length) := by unfold Hid; have := HN.out; omega
      cases hisl : isLen a with
      | true =>
        rw [hisl] at HA
        have h15 : 1 ≤ a ∧ a ≤ 15 := by simpa [isLen] using hisl
        have hcode := codeAt_len l i a hai hisl
        have hcl := codeAt_le l i
        obtain ⟨m, rfl⟩ := Int.eq_ofNat_of_zero_le (show 0 ≤ a by omega)
        rw [Int.toNat_natCast] at hcode
        obtain ⟨x, hx⟩ : ∃ x, x = codeAt l i := ⟨_, rfl⟩
        have hxl : x ≤ 16385 * 288 := by rw [hx]; have := HN.out; omega
        have hob := HH.out.swap.obj
        have hcell2 := hob.cell (i := m) (v := .int .u32 (x : Int)) (by rw [nums_get, nexts_get _ _ m (by omega) (by omega), hx, hcode]; rfl)
        have hfr := hob.frozen m
        have hne : g ≠ w2.heap.size := fun e => HH.out.swap.apart (by rw [e]; rfl)
        have hne2 : w2.heap.size ≠ g := fun e => hne e.symm
        obtain ⟨g', off', hgg, hocell, hofr, hoput⟩ := HH.out.own.site (by omega)
        injection hgg with hgg
        injection hgg with hgg1 hgg2
        subst hgg1; subst hgg2
        obtain ⟨b0, hb0⟩ : ∃ b0, (partC l i)[i]? = some b0 := ⟨_, List.getElem?_eq_getElem (by rw [partC_length]; exact HIL.out)⟩
        have hc3 := hocell i _ (by rw [nums_get, hb0]; rfl)
        have hf3 := hofr i
        have HS := hid (HH.out.putOwn (hoput i (.int .u32 (x : Int)) hin) (Mod.set wr g (0 + i) _))
        simp only [Nat.zero_add] at hc3 hf3
        have hm0 : (0 : Int) ≤ (m : Int) := Int.natCast_nonneg _
        have hm1 : (m : Int) < 16 := by omega
        have HX := hid hx
        have HCO := hid hcode
        clear hcell hai hisl hx hcl hcode hob hocell hofr hoput hb0
        go_wp2_with fail
        refine HA.out.mono ?_
        rintro e w5 ⟨rfl, rfl⟩
        have HS2 := hid (HS.out.swap.setObj m (.int .u32 ((x + 1 : Nat) : Int)))
        have HR : Hid ((nexts l (l.take i)).set m (x + 1) = nexts l (l.take (i + 1))) := by unfold Hid; rw [HT.out, ← nexts_snoc _ _ m (by omega) (by omega), HX.out, HCO.out]
        have HR2 : Hid ((partC l i).set i x = partC l (i + 1)) := by unfold Hid; rw [HX.out]; exact partC_set l i HIL.out
        go_wp2
        go_roundg (gk - 1)
        case measure => omega
        case rel => exact ⟨i + 1, by omega, by omega, by go_num, by unfold Hid; have h := HS2.out.swap; rw [nums_set, nums_set, HR.out, HR2.out] at h; simpa using h⟩
      | false =>
        rw [hisl] at HA
        have HR : Hid (nexts l (l.take (i + 1)) = nexts l (l.take i)) := by unfold Hid; rw [HT.out]; exact nexts_skip _ _ _ hisl
        have HR2 : Hid (partC l (i + 1) = partC l i) := by unfold Hid; exact partC_skip l i HIL.out (codeAt_not l i a hai hisl)
        clear hcell hai hisl
        go_wp2_with fail
        refine HA.out.mono ?_
        rintro e w1 ⟨rfl, rfl⟩
        go_wp2
        go_roundg (gk - 1)
        case measure => omega
        case rel => exact ⟨i + 1, by omega, by omega, by go_num, by unfold Hid; rw [HR.out, HR2.out]; exact HH.out⟩
    · have hi2 : ¬ (i : Int) < (n : Int) := by omega
      have HE : Hid (partC l i = codesOf l) := by unfold Hid; rw [show i = l.length by have := HN.out; omega]; exact partC_all l
      rw [HE.out] at HH
      go_wp2
      go_ret
      exact ⟨_, rfl, HH.out.own, HH.out.fresh, HH.out.mod⟩
end Go.Proofs.YtbkbkmgogbgofaaDoor
