/-
  The program's counts of lengths, their sum, the first code of each length.
-/
import Derived.Test.YtpecdappchkdiaaProg
import Derived.Test.YtpecdappchkdiaaCodeMath
import Derived.Test.YtpecdappchkdiaaInts
import Derived.Test.YtpecdappchkdiaaArr
import Derived.Test.YtpecdappchkdiaaSlices
import Derived.Test.YtpecdappchkdiaaPut
import Derived.StillTailTactics
namespace Go.Proofs.Ytpecdappchkdiaa
open Go.RowKit

theorem isCode_any (a : Int) (w : World) :
    Calls Try.prog 42 #[.int .i64 a] w fun e w' => e = .returned (.bool (isLen a)) ∧ w = w' := by
  have h3 : a < 1 ∨ 1 ≤ a ∧ a ≤ 15 ∨ 1 ≤ a ∧ 15 < a := by omega
  rcases h3 with h | ⟨h, h2⟩ | ⟨h, h2⟩
  · have h1 : ¬ 1 ≤ a := by omega
    have HI : Hid (isLen a = false) := by unfold Hid isLen; simp; omega
    go_enter Try.func42, Try.ntmps42
    go_wp2
    go_ret
    exact ⟨by rw [HI.out]; rfl, rfl⟩
  · have HI : Hid (isLen a = true) := by unfold Hid isLen; simp; omega
    go_enter Try.func42, Try.ntmps42
    go_wp2
    go_ret
    exact ⟨by rw [HI.out]; rfl, rfl⟩
  · have h1 : ¬ a ≤ 15 := by omega
    have HI : Hid (isLen a = false) := by unfold Hid isLen; simp; omega
    go_enter Try.func42, Try.ntmps42
    go_wp2
    go_ret
    exact ⟨by rw [HI.out]; rfl, rfl⟩

/-! ### how many lengths are each -/
def cnts (l : List Int) : List Nat := (List.range 16).map fun (n : Nat) => if n = 0 then 0 else l.count (n : Int)
theorem cnts_length (l : List Int) : (cnts l).length = 16 := by simp [cnts]
theorem cnts_get (l : List Int) (n : Nat) (h1 : 1 ≤ n) (h : n ≤ 15) : (cnts l)[n]? = some (l.count (n : Int)) := by
  simp only [cnts, List.getElem?_map, List.getElem?_range (show n < 16 by omega), Option.map_some]
  rw [if_neg (by omega)]
theorem cnts_zero (l : List Int) : (cnts l)[0]? = some 0 := by simp [cnts]
theorem cnts_snoc (l : List Int) (m : Nat) (h1 : 1 ≤ m) (h : m ≤ 15) : (cnts l).set m (l.count (m : Int) + 1) = cnts (l ++ [(m : Int)]) := by
  refine List.ext_getElem? fun j => ?_
  rw [List.getElem?_set, cnts_length]
  by_cases hj : j < 16
  · by_cases e : m = j
    · subst e
      rw [if_pos rfl, if_pos (by omega), cnts_get _ m h1 h]
      simp
    · rw [if_neg e]
      by_cases h0 : j = 0
      · subst h0; rw [cnts_zero, cnts_zero]
      · rw [cnts_get _ j (by omega) (by omega), cnts_get _ j (by omega) (by omega), List.count_append, List.count_cons_of_ne (by omega)]
        simp
  · rw [if_neg (by omega), List.getElem?_eq_none (by rw [cnts_length]; omega), List.getElem?_eq_none (by rw [cnts_length]; omega)]
theorem cnts_skip (l : List Int) (a : Int) (h : isLen a = false) : cnts (l ++ [a]) = cnts l := by
  refine List.ext_getElem? fun j => ?_
  by_cases hj : j < 16
  · by_cases h0 : j = 0
    · subst h0; rw [cnts_zero, cnts_zero]
    · have h' : ¬ (1 ≤ a ∧ a ≤ 15) := by simpa [isLen] using h
      rw [cnts_get _ j (by omega) (by omega), cnts_get _ j (by omega) (by omega), List.count_append, List.count_cons_of_ne (by omega)]
      simp
  · rw [List.getElem?_eq_none (by rw [cnts_length]; omega), List.getElem?_eq_none (by rw [cnts_length]; omega)]
theorem infoCz : (Try.prog.info? 75).map (·.zero) = some (some (arrV .i64 (cnts []))) := by kernel_rfl
theorem infoCs : (Try.prog.info? 75).map (·.size) = some 16 := by kernel_rfl

set_option maxHeartbeats 1600000 in
theorem count_any (v : Value) (l : List Int) (w : World) (hv : Rd w 1 v l.length (ints l)) (hl : l.length < 1000000) :
    Calls Try.prog 39 #[v] w fun e w' => e = .returned (arrV .i64 (cnts l)) ∧ Mod w w' (fun _ => False) := by
  obtain ⟨ao, cap, rfl, _, _⟩ := hv.form
  obtain ⟨n, hn⟩ : ∃ n, n = l.length := ⟨_, rfl⟩
  rw [← hn] at hv hl ⊢
  have HN := hid hn
  clear hn
  go_enter Try.func39, Try.ntmps39
  go_wp2_with (refine wpList_alloc_arr rfl _ rfl .i64 _ infoCz ?_)
  have hH0 : Held w ((w.alloc (.cells (nums .i64 (cnts [])).toArray 75)).alloc (.cells (nums .i64 (cnts [])).toArray 75)) [objT (w.heap.size + 1) (nums .i64 (cnts [])) 75, objT w.heap.size (nums .i64 (cnts [])) 75] := by
    have h := ((Held.start w).newObj (nums .i64 (cnts [])) 75).newObj (nums .i64 (cnts [])) 75
    simpa using h
  have HH0 := hid hH0
  clear hH0
  go_loopg [8] (n + 1) (fun k t8 wr => ∃ (i : Nat), i ≤ n ∧ n - i < k ∧ t8 = .int .i64 (i : Int) ∧ Hid (Held w wr [objT (w.heap.size + 1) (nums .i64 (cnts (l.take i))) 75, objT w.heap.size (nums .i64 (cnts [])) 75]))
  case atStart => exact ⟨0, by omega, by omega, rfl, HH0⟩
  case round =>
    obtain ⟨i, hi, hk, rfl, HH⟩ := hrel
    by_cases hin : i < n
    · obtain ⟨g, off, rfl, hcell⟩ := (HH.out.old hv).spot (by omega)
      obtain ⟨a, hai⟩ : ∃ a, l[i]? = some a := ⟨l[i]'(by have := HN.out; omega), List.getElem?_eq_getElem _⟩
      have hc1 := hcell i _ (by rw [ints_get, hai]; rfl)
      have hi0 : (0 : Int) ≤ (i : Int) := Int.natCast_nonneg _
      have hi1 : (i : Int) < (n : Int) := by omega
      have HT := hid (take_snoc3 l i a hai)
      have HA := hid (isCode_any a wr)
      have hcl : (l.take i).count a ≤ n := Nat.le_trans (List.count_le_length) (by simp; have := HN.out; omega)
      cases hisl : isLen a with
      | true =>
        rw [hisl] at HA
        have h15 : 1 ≤ a ∧ a ≤ 15 := by simpa [isLen] using hisl
        obtain ⟨m, rfl⟩ := Int.eq_ofNat_of_zero_le (show 0 ≤ a by omega)
        obtain ⟨x, hx⟩ : ∃ x, x = (l.take i).count ((m : Nat) : Int) := ⟨_, rfl⟩
        have hxn : x ≤ n := by rw [hx]; exact hcl
        have hcell2 := HH.out.obj.cell (i := m) (v := .int .i64 (x : Int)) (by rw [nums_get, cnts_get _ m (by omega) (by omega), hx]; rfl)
        have hfr := HH.out.obj.frozen m
        have hm0 : (0 : Int) ≤ (m : Int) := Int.natCast_nonneg _
        have hm1 : (m : Int) < 16 := by omega
        have HX := hid hx
        have HS := hid (HH.out.setObj m (.int .i64 ((x + 1 : Nat) : Int)))
        have HR : Hid (nums .i64 ((cnts (l.take i)).set m (x + 1)) = nums .i64 (cnts (l.take (i + 1)))) := by unfold Hid; rw [HT.out, ← cnts_snoc _ m (by omega) (by omega), HX.out]
        clear hcell hai hisl hx hcl
        go_wp2_with fail
        refine HA.out.mono ?_
        rintro e w1 ⟨rfl, rfl⟩
        go_wp2
        go_roundg (gk - 1)
        case measure => omega
        case rel => exact ⟨i + 1, by omega, by omega, by go_num, by unfold Hid; have h := HS.out; rw [nums_set, HR.out] at h; simpa using h⟩
      | false =>
        rw [hisl] at HA
        have HR : Hid (cnts (l.take (i + 1)) = cnts (l.take i)) := by unfold Hid; rw [HT.out]; exact cnts_skip _ _ hisl
        clear hcell hai hisl
        go_wp2_with fail
        refine HA.out.mono ?_
        rintro e w1 ⟨rfl, rfl⟩
        go_wp2
        go_roundg (gk - 1)
        case measure => omega
        case rel => exact ⟨i + 1, by omega, by omega, by go_num, by unfold Hid; rw [HR.out]; exact HH.out⟩
    · have hi2 : ¬ (i : Int) < (n : Int) := by omega
      have HE : Hid (l.take i = l) := by unfold Hid; exact List.take_of_length_le (by have := HN.out; omega)
      rw [HE.out] at HH
      have hB := HH.out.obj
      have hB2 := HH.out.swap.obj
      have HL := hid (cnts_length l)
      have HL0 := hid (cnts_length [])
      go_wp2_with (first
        | refine wpList_load_arr rfl _ _ rfl _ 16 (by rfl) rfl infoCs (w.heap.size + 1) .i64 (cnts l) _ rfl HL.out hB ?_
        | (refine wpList_store_arr rfl _ _ _ rfl 16 infoCs w.heap.size .i64 (cnts []) (cnts l) _ rfl rfl HL0.out HL.out hB2 ?_; intro w3 hB3 hM3))
      exact ret_arr rfl _ 16 (by rfl) rfl infoCs w.heap.size .i64 (cnts l) _ rfl HL.out hB3 rfl ⟨rfl, (HH.out.swap.putObj hB3 hM3).mod⟩

theorem part_sum (l : List Int) (i x : Nat) (h : (cnts l)[i]? = some x) (hi : i ≤ 15) : tot l (i - 1) + x * 2 ^ (15 - i) = tot l i := by
  match i with
  | 0 =>
    rw [cnts_zero] at h; injection h with h; subst h
    simp [tot]
  | n + 1 =>
    rw [cnts_get l (n + 1) (by omega) hi] at h; injection h with h; subst h
    rw [tot]; congr 2; congr 1; omega
theorem shl_nat (x m : Nat) (h : x * 2 ^ m < 9223372036854775808) : wrap64 ((x : Int) * 2 ^ m) = ((x * 2 ^ m : Nat) : Int) := by
  rw [two_pow_int, show ((x : Int) * ((2 ^ m : Nat) : Int)) = ((x * 2 ^ m : Nat) : Int) by simp]
  generalize x * 2 ^ m = z at h ⊢
  unfold wrap64; omega
set_option maxHeartbeats 1600000 in
theorem csum_any (l : List Int) (w : World) (hl : l.length < 1000000) :
    Calls Try.prog 40 #[arrV .i64 (cnts l)] w fun e w' => e = .returned (.int .i64 ((sumOf l : Nat) : Int)) ∧ Mod w w' (fun _ => False) := by
  have HL := hid (cnts_length l)
  go_enter Try.func40, Try.ntmps40
  have hB : Blk (w.alloc (.cells (nums .i64 (cnts l)).toArray 75)) w.heap.size (nums .i64 (cnts l)) 75 := Blk.new _ _ _
  have HM : Hid (Mod w (w.alloc (.cells (nums .i64 (cnts l)).toArray 75)) (fun _ => False)) := (Mod.refl w _).alloc _
  obtain ⟨w1, hw1⟩ : ∃ w1, w1 = w.alloc (.cells (nums .i64 (cnts l)).toArray 75) := ⟨_, rfl⟩
  rw [← hw1] at hB HM
  have HW1 := hid hw1
  clear hw1
  go_wp2_with (first
    | (refine wpList_box_arr rfl _ _ rfl .i64 (cnts l) rfl ?_; rw [← HW1.out])
    | refine wpList_load_arr rfl _ _ rfl _ 16 (by rfl) rfl infoCs w.heap.size .i64 (cnts l) _ rfl HL.out hB ?_)
  go_loopg [3, 7] 17 (fun k t3 t7 wr => ∃ (i s : Nat), i ≤ 16 ∧ 16 - i < k ∧ t7 = .int .i64 (i : Int) ∧ t3 = .int .i64 (s : Int) ∧ Hid (s = tot l (i - 1)) ∧ s < 16385000000 ∧ wr = w1)
  case atStart => exact ⟨0, 0, by omega, by omega, rfl, rfl, rfl, by omega, rfl⟩
  case round =>
    obtain ⟨i, s, hi, hk, rfl, rfl, HS, hs, rfl⟩ := hrel
    by_cases hi1 : i < 16
    · have hi2 : (i : Int) < 16 := by omega
      have hi0 : (0 : Int) ≤ (i : Int) := Int.natCast_nonneg _
      obtain ⟨x, hx⟩ : ∃ x, (cnts l)[i]? = some x := ⟨_, List.getElem?_eq_getElem (by have := HL.out; omega)⟩
      obtain ⟨m, hm⟩ : ∃ m, m = 15 - i := ⟨_, rfl⟩
      have hmI : (15 : Int) - (i : Int) = (m : Int) := by omega
      have hp := part_sum l i x hx (by omega)
      have ht := tot_le l i (by omega)
      rw [← hm, ← HS.out] at hp
      obtain ⟨y, hy⟩ : ∃ y, y = x * 2 ^ m := ⟨_, rfl⟩
      rw [← hy] at hp
      have hyI : wrap64 ((x : Int) * 2 ^ (15 - i)) = (y : Int) := by rw [hy, hm]; rw [hm] at hy; exact shl_nat x (15 - i) (by omega)
      have hsy : s + y < 16385000000 := by omega
      have HP := hid hp
      have HX := hid hx
      clear hx hp hy ht
      go_wp2_with (refine wpList_index_arr rfl _ _ _ rfl _ 16 _ (by rfl) (by rfl) rfl (by kernel_rfl) .i64 (cnts l) .i64 i x rfl rfl hi1 HX.out ?_)
      go_roundg (gk - 1)
      case measure => omega
      case rel => exact ⟨i + 1, s + y, by omega, by omega, by go_num, by go_num, by unfold Hid; rw [Nat.add_sub_cancel]; exact HP.out, hsy, rfl⟩
    · obtain rfl : i = 16 := by omega
      have hi2 : ¬ ((16 : Nat) : Int) < 16 := by omega
      go_wp2
      go_ret
      exact ⟨ret_int (by rw [HS.out]; rfl), HM.out⟩

end Go.Proofs.Ytpecdappchkdiaa
