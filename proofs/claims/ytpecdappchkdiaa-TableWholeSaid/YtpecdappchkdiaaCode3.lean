/-
  The program's Check.
-/
import Derived.Test.YtpecdappchkdiaaCode1
namespace Go.Proofs.Ytpecdappchkdiaa
open Go.RowKit

set_option maxHeartbeats 800000 in
theorem within_any (v : Value) (l : List Int) (most : Int) (w : World) (hv : Rd w 1 v l.length (ints l)) (hl : l.length < 1000000) :
    Calls Try.prog 38 #[v, .int .i64 most] w fun e w' => e = .returned (.bool (allIn l most)) ∧ w = w' := by
  obtain ⟨ao, cap, rfl, _, _⟩ := hv.form
  obtain ⟨n, hn⟩ : ∃ n, n = l.length := ⟨_, rfl⟩
  rw [← hn] at hv hl
  have HN := hid hn
  clear hn
  have HGO : Hid (Rd w 1 (.slice ao n cap) n (ints l)) := hv
  rw [show l.length = n from HN.out.symm]
  go_enter Try.func38, Try.ntmps38
  go_wp2
  go_loopg [9] (n + 1) (fun k t9 wr => ∃ (i : Nat), i ≤ n ∧ n - i < k ∧ t9 = .int .i64 (i : Int) ∧ Hid (allIn (l.take i) most = true) ∧ wr = w)
  case atStart => exact ⟨0, by omega, by omega, rfl, rfl, rfl⟩
  case round =>
    obtain ⟨i, hi, hk, rfl, HA, rfl⟩ := hrel
    by_cases hin : i < n
    · obtain ⟨g, off, rfl, hcell⟩ := hv.spot (by omega)
      obtain ⟨a, hai⟩ : ∃ a, l[i]? = some a := ⟨l[i]'(by have := HN.out; omega), List.getElem?_eq_getElem _⟩
      have hc1 := hcell i _ (by rw [ints_get, hai]; rfl)
      have hi0 : (0 : Int) ≤ (i : Int) := Int.natCast_nonneg _
      have hi1 : (i : Int) < (n : Int) := by omega
      have HT := hid (take_snoc3 l i a hai)
      have h3 : a < 0 ∨ 0 ≤ a ∧ most < a ∨ 0 ≤ a ∧ a ≤ most := by omega
      rcases h3 with h | ⟨h, h2⟩ | ⟨h, h2⟩
      · have HF : Hid (allIn l most = false) := by unfold Hid; refine allIn_take l (i + 1) most ?_; rw [HT.out, allIn_snoc, HA.out]; simp; omega
        clear hcell hai
        go_wp2
        go_ret
        exact ⟨by rw [HF.out]; rfl, rfl⟩
      · have HF : Hid (allIn l most = false) := by unfold Hid; refine allIn_take l (i + 1) most ?_; rw [HT.out, allIn_snoc, HA.out]; simp; omega
        clear hcell hai
        go_wp2
        go_ret
        exact ⟨by rw [HF.out]; rfl, rfl⟩
      · have HF : Hid (allIn (l.take (i + 1)) most = true) := by unfold Hid; rw [HT.out, allIn_snoc, HA.out]; simp; omega
        clear hcell hai
        go_wp2
        go_roundg (gk - 1)
        case measure => omega
        case rel => exact ⟨i + 1, by omega, by omega, by go_num, HF, rfl⟩
    · have hi1 : ¬ (i : Int) < (n : Int) := by omega
      have HF : Hid (allIn l most = true) := by unfold Hid; have h := HA.out; rwa [List.take_of_length_le (by have := HN.out; omega)] at h
      go_wp2
      go_ret
      exact ⟨by rw [HF.out]; rfl, rfl⟩

set_option maxRecDepth 20000 in
set_option maxHeartbeats 1600000 in
theorem check_any (v : Value) (l : List Int) (most : Int) (w : World) (hv : Rd w 1 v l.length (ints l)) (hl : l.length < 1000000) :
    Calls Try.prog 27 #[v, .int .i64 most] w fun e w' => e = .returned (.int .i64 ((checkOf l most : Nat) : Int)) ∧ Mod w w' (fun _ => False) := by
  obtain ⟨ao, cap, rfl, _, _⟩ := hv.form
  have HCC := hid (count_any _ l w hv hl)
  have HWI := hid (within_any _ l most w hv hl)
  have HLN := hid hl
  obtain ⟨n, hn⟩ : ∃ n, n = l.length := ⟨_, rfl⟩
  rw [← hn] at hv hl HCC HWI
  rw [← hn]
  have HN := hid hn
  clear hn hv
  have hn0 : (0 : Int) ≤ (n : Int) := Int.natCast_nonneg _
  have h4 : most < 1 ∨ 1 ≤ most ∧ 15 < most ∨ 1 ≤ most ∧ most ≤ 15 ∧ 288 < n ∨ 1 ≤ most ∧ most ≤ 15 ∧ n ≤ 288 := by omega
  rcases h4 with h | ⟨h, h2⟩ | ⟨h, h2, h3⟩ | ⟨h, h2, h3⟩
  · have HF : Hid (checkOf l most = 1) := by unfold Hid checkOf; rw [if_pos]; simp [argBad]; omega
    go_enter Try.func27, Try.ntmps27
    go_wp2
    go_ret
    exact ⟨by rw [HF.out]; rfl, Mod.refl _ _⟩
  · have HF : Hid (checkOf l most = 1) := by unfold Hid checkOf; rw [if_pos]; simp [argBad]; omega
    go_enter Try.func27, Try.ntmps27
    go_wp2
    go_ret
    exact ⟨by rw [HF.out]; rfl, Mod.refl _ _⟩
  · have HF : Hid (checkOf l most = 1) := by unfold Hid checkOf; rw [if_pos]; have := HN.out; simp [argBad]; omega
    have h3I : (288 : Int) < (n : Int) := by omega
    go_enter Try.func27, Try.ntmps27
    go_wp2
    go_ret
    exact ⟨by rw [HF.out]; rfl, Mod.refl _ _⟩
  · have h3I : ¬ (288 : Int) < (n : Int) := by omega
    have h15 : ¬ 15 < most := by omega
    have h1 : ¬ most < 1 := by omega
    have HA1 : Hid (argBad l most = !allIn l most) := by
      unfold Hid argBad
      have := HN.out
      rw [decide_eq_false (by omega)]; rfl
    cases hA : allIn l most with
    | false =>
      rw [hA] at HWI
      have HF : Hid (checkOf l most = 1) := by unfold Hid checkOf; rw [HA1.out, hA]; rfl
      clear hA
      go_enter Try.func27, Try.ntmps27
      go_wp2_with fail
      refine HWI.out.mono ?_
      rintro e w1 ⟨rfl, rfl⟩
      go_wp2
      go_ret
      exact ⟨by rw [HF.out]; rfl, Mod.refl _ _⟩
    | true =>
      rw [hA] at HWI
      have HF : Hid (checkOf l most = if sumOf l = 0 ∨ sumOf l = 32768 ∨ sumOf l = 16384 ∧ l.count 1 = 1 then 0 else 3) := by
        unfold Hid checkOf; rw [HA1.out, hA]; rfl
      clear hA
      have HL := hid (cnts_length l)
      have HL0 := hid (cnts_length [])
      go_enter Try.func27, Try.ntmps27
      go_wp2_with fail
      refine HWI.out.mono ?_
      rintro e w0 ⟨rfl, rfl⟩
      go_wp2_with fail
      refine HCC.out.mono ?_
      rintro e w1 ⟨rfl, hM1⟩
      have HH0 := hid (((Held.start w).same hM1).newObj (nums .i64 (cnts [])) 75)
      clear hM1
      go_wp2_with (first
        | refine wpList_alloc_arr rfl _ rfl .i64 _ infoCz ?_
        | (refine wpList_store_arr rfl _ _ _ rfl 16 infoCs _ .i64 (cnts []) (cnts l) _ rfl rfl HL0.out HL.out HH0.out.obj ?_; intro w3 hB3 hM3; have HB3 := hid hB3; have HM3 := hid hM3; clear hM3)
        | refine wpList_load_arr rfl _ _ rfl _ 16 (by rfl) rfl infoCs w1.heap.size .i64 (cnts l) _ rfl HL.out HB3.out ?_)
      refine (csum_any l w3 HLN.out).mono ?_
      rintro e w4 ⟨rfl, hM4⟩
      have HH := hid ((HH0.out.putObj HB3.out HM3.out).same hM4)
      have hcell := HH.out.obj.cell (i := 1) (v := .int .i64 ((l.count 1 : Nat) : Int)) (by rw [nums_get, cnts_get _ 1 (by omega) (by omega)]; rfl)
      clear hM4 hB3
      obtain ⟨s, hs⟩ : ∃ s, s = sumOf l := ⟨_, rfl⟩
      obtain ⟨c, hc⟩ : ∃ c, c = l.count 1 := ⟨_, rfl⟩
      rw [← hc] at HF hcell
      rw [← hs] at HF ⊢
      clear hs hc
      have h5 : s = 0 ∨ s = 32768 ∨ s = 16384 ∧ c = 1 ∨ s = 16384 ∧ c ≠ 1 ∨ s ≠ 0 ∧ s ≠ 32768 ∧ s ≠ 16384 := by omega
      rcases h5 with rfl | rfl | ⟨rfl, rfl⟩ | ⟨rfl, hc1⟩ | ⟨hs0, hs1, hs2⟩
      · go_wp2
        go_ret
        exact ⟨by rw [HF.out]; rfl, HH.out.mod⟩
      · go_wp2
        go_ret
        exact ⟨by rw [HF.out]; rfl, HH.out.mod⟩
      · go_wp2
        go_ret
        exact ⟨by rw [HF.out]; rfl, HH.out.mod⟩
      · have hcI : ¬ (c : Int) = 1 := by omega
        go_wp2
        go_ret
        exact ⟨by rw [HF.out, if_neg (by omega)]; rfl, HH.out.mod⟩
      · have hcI : ¬ (s : Int) = 0 := by omega
        have hcI2 : ¬ (s : Int) = 32768 := by omega
        have hcI3 : ¬ (s : Int) = 16384 := by omega
        go_wp2
        go_ret
        exact ⟨by rw [HF.out, if_neg (by omega)]; rfl, HH.out.mod⟩
end Go.Proofs.Ytpecdappchkdiaa
