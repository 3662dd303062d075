/-
  The reference's Sum and Check.
-/
import Derived.Test.YtpecdappchkdiaaProg
import Derived.Test.YtpecdappchkdiaaInts
import Derived.StillTailTactics
namespace Go.Proofs.Ytpecdappchkdiaa
open Go.RowKit

set_option maxHeartbeats 1600000 in
theorem refsum_any (v : Value) (l : List Int) (w : World) (hv : Rd w 1 v l.length (ints l)) (hl : l.length < 1000000) :
    Calls Try.prog 26 #[v] w fun e w' => e = .returned (.int .i64 ((sumOf l : Nat) : Int)) ∧ w = w' := by
  obtain ⟨ao, cap, rfl, _, _⟩ := hv.form
  obtain ⟨n, hn⟩ : ∃ n, n = l.length := ⟨_, rfl⟩
  rw [← hn] at hv hl ⊢
  have HN := hid hn
  clear hn
  go_enter Try.func26, Try.ntmps26
  go_wp2
  go_loopg [3, 4] (n + 1) (fun k t3 t4 wr => ∃ (i s : Nat), i ≤ n ∧ n - i < k ∧ t4 = .int .i64 (i : Int) ∧ t3 = .int .i64 (s : Int) ∧ Hid (s = sumOf (l.take i)) ∧ s ≤ 16384 * i ∧ wr = w)
  case atStart => exact ⟨0, 0, by omega, by omega, rfl, rfl, by simp [Hid, sumOf, tot_nil], by omega, rfl⟩
  case round =>
    obtain ⟨i, s, hi, hk, rfl, rfl, HS, hs, rfl⟩ := hrel
    obtain ⟨gx, rfl⟩ : ∃ g, g = gk := ⟨gk, rfl⟩
    by_cases hin : i < n
    · obtain ⟨g, off, rfl, hcell⟩ := hv.spot (by omega)
      obtain ⟨a, hai⟩ : ∃ a, l[i]? = some a := ⟨l[i]'(by have := HN.out; omega), List.getElem?_eq_getElem _⟩
      have hc1 := hcell i _ (by rw [ints_get, hai]; rfl)
      have hi0 : (0 : Int) ≤ (i : Int) := Int.natCast_nonneg _
      have hi1 : (i : Int) < (n : Int) := by omega
      have HT := hid (sum_take_snoc l i a hai)
      clear hcell hai
      have h3 : a < 1 ∨ 1 ≤ a ∧ 15 < a ∨ 1 ≤ a ∧ a ≤ 15 := by omega
      rcases h3 with h | ⟨h, h2⟩ | ⟨h, h2⟩
      · have HW : Hid (wtTo 15 a = 0) := by unfold Hid wtTo; rw [if_neg (by omega)]
        go_wp2
        go_roundg (gx - 1)
        case measure => omega
        case rel => exact ⟨i + 1, s, by omega, by omega, by go_num, rfl, by unfold Hid; rw [HT.out, HW.out]; exact HS.out, by omega, rfl⟩
      · have HW : Hid (wtTo 15 a = 0) := by unfold Hid wtTo; rw [if_neg (by omega)]
        go_wp2
        go_roundg (gx - 1)
        case measure => omega
        case rel => exact ⟨i + 1, s, by omega, by omega, by go_num, rfl, by unfold Hid; rw [HT.out, HW.out]; exact HS.out, by omega, rfl⟩
      · obtain ⟨m, rfl⟩ := Int.eq_ofNat_of_zero_le (show 0 ≤ a by omega)
        have HW : Hid (wtTo 15 (m : Int) = 2 ^ (15 - m)) := by unfold Hid wtTo; rw [if_pos (by omega)]; rfl
        have hm15 : m ≤ 15 := by omega
        have hm1 : 1 ≤ m := by omega
        go_wp2
        go_loopg [5, 6] (m + 1) (fun k t5 t6 wq => ∃ (j p : Nat), j ≤ m ∧ m - j < k ∧ t6 = .int .i64 (j : Int) ∧ t5 = .int .i64 (p : Int) ∧ Hid (p = 2 ^ (15 - j)) ∧ p ≤ 32768 ∧ wq = wr)
        case atStart => exact ⟨0, 32768, by omega, by omega, rfl, rfl, rfl, by omega, rfl⟩
        case round =>
          obtain ⟨j, p, hj, hk2, rfl, rfl, HP, hp, rfl⟩ := hrel
          by_cases hjm : j < m
          · have hjI : (j : Int) < (m : Int) := by omega
            obtain ⟨q, hq⟩ : ∃ q, q = 2 ^ (15 - (j + 1)) := ⟨_, rfl⟩
            have hpq : p = 2 * q := by rw [HP.out, hq, show 15 - j = (15 - (j + 1)) + 1 by omega, Nat.pow_succ, Nat.mul_comm]
            have hqI : (p : Int) / 2 = (q : Int) := by omega
            have HQ := hid hq
            clear hq hpq
            go_wp2
            go_roundg (gk - 1)
            case measure => omega
            case rel => exact ⟨j + 1, q, by omega, by omega, by go_num, rfl, HQ, by omega, rfl⟩
          · obtain rfl : j = m := by omega
            have hjI : ¬ (j : Int) < (j : Int) := by omega
            have hsp : p ≤ 16384 := by rw [HP.out]; have h14 : 15 - j ≤ 14 := by omega
                                       exact Nat.pow_le_pow_right (n := 2) (by decide) h14
            go_wp2
            go_roundg (gx - 1)
            case measure => omega
            case rel => exact ⟨i + 1, s + p, by omega, by omega, by go_num, by go_num, by unfold Hid; rw [HT.out, HW.out, HP.out, HS.out], by omega, rfl⟩
    · have hi1 : ¬ (i : Int) < (n : Int) := by omega
      go_wp2
      go_ret
      exact ⟨ret_int (by rw [HS.out, List.take_of_length_le (by have := HN.out; omega)]), rfl⟩

set_option maxRecDepth 100000 in
set_option maxHeartbeats 1600000 in
theorem refcheck_any (v : Value) (l : List Int) (most : Int) (w : World) (hv : Rd w 1 v l.length (ints l)) (hl : l.length < 1000000) :
    Calls Try.prog 9 #[v, .int .i64 most] w fun e w' => e = .returned (.int .i64 ((checkOf l most : Nat) : Int)) ∧ w = w' := by
  obtain ⟨ao, cap, rfl, _, _⟩ := hv.form
  have HRS := hid (refsum_any _ l w hv hl)
  obtain ⟨n, hn⟩ : ∃ n, n = l.length := ⟨_, rfl⟩
  rw [← hn] at hv hl HRS
  rw [← hn]
  have HN := hid hn
  clear hn
  have hn0 : (0 : Int) ≤ (n : Int) := Int.natCast_nonneg _
  have h4 : most < 1 ∨ 1 ≤ most ∧ 15 < most ∨ 1 ≤ most ∧ most ≤ 15 ∧ 288 < n ∨ 1 ≤ most ∧ most ≤ 15 ∧ n ≤ 288 := by omega
  rcases h4 with h | ⟨h, h2⟩ | ⟨h, h2, h3⟩ | ⟨h, h2, h3⟩
  · have HF : Hid (checkOf l most = 1) := by unfold Hid checkOf; rw [if_pos]; simp [argBad]; omega
    clear hv
    go_enter Try.func9, Try.ntmps9
    go_wp2
    go_ret
    exact ⟨by rw [HF.out]; rfl, rfl⟩
  · have HF : Hid (checkOf l most = 1) := by unfold Hid checkOf; rw [if_pos]; simp [argBad]; omega
    clear hv
    go_enter Try.func9, Try.ntmps9
    go_wp2
    go_ret
    exact ⟨by rw [HF.out]; rfl, rfl⟩
  · have HF : Hid (checkOf l most = 1) := by unfold Hid checkOf; rw [if_pos]; have := HN.out; simp [argBad]; omega
    have h3I : (288 : Int) < (n : Int) := by omega
    clear hv
    go_enter Try.func9, Try.ntmps9
    go_wp2
    go_ret
    exact ⟨by rw [HF.out]; rfl, rfl⟩
  · have h3I : ¬ (288 : Int) < (n : Int) := by omega
    have h15 : ¬ 15 < most := by omega
    have h1 : ¬ most < 1 := by omega
    have HA1 : Hid (argBad l most = !allIn l most) := by
      unfold Hid argBad
      have := HN.out
      rw [decide_eq_false (by omega)]; rfl
    go_enter Try.func9, Try.ntmps9
    go_wp2
    go_loopg [5, 6, 7] (n + 1) (fun k t5 t6 t7 wr => ∃ (i c o : Nat), i ≤ n ∧ n - i < k ∧ t7 = .int .i64 (i : Int) ∧ t5 = .int .i64 (c : Int) ∧ t6 = .int .i64 (o : Int) ∧ c ≤ i ∧ o ≤ i ∧ Hid (allIn (l.take i) most = true) ∧ Hid (c = coded (l.take i)) ∧ Hid (o = (l.take i).count 1) ∧ wr = w)
    case atStart => exact ⟨0, 0, 0, by omega, by omega, rfl, rfl, rfl, by omega, by omega, rfl, rfl, rfl, rfl⟩
    case round =>
      obtain ⟨i, c, o, hi, hk, rfl, rfl, rfl, hc, ho, HA, HC, HO, rfl⟩ := hrel
      by_cases hin : i < n
      · obtain ⟨g, off, rfl, hcell⟩ := hv.spot (by omega)
        obtain ⟨a, hai⟩ : ∃ a, l[i]? = some a := ⟨l[i]'(by have := HN.out; omega), List.getElem?_eq_getElem _⟩
        have hc1 := hcell i _ (by rw [ints_get, hai]; rfl)
        have hi0 : (0 : Int) ≤ (i : Int) := Int.natCast_nonneg _
        have hi1 : (i : Int) < (n : Int) := by omega
        have HT := hid (take_snoc3 l i a hai)
        clear hcell hai
        have h5 : a < 0 ∨ 0 ≤ a ∧ most < a ∨ 0 ≤ a ∧ a ≤ most := by omega
        rcases h5 with h5 | ⟨h5, h6⟩ | ⟨h5, h6⟩
        · have HF : Hid (checkOf l most = 1) := by unfold Hid; refine check_bad (allIn_take l (i + 1) most ?_); rw [HT.out, allIn_snoc, HA.out]; simp; omega
          go_wp2
          go_ret
          exact ⟨by rw [HF.out]; rfl, rfl⟩
        · have HF : Hid (checkOf l most = 1) := by unfold Hid; refine check_bad (allIn_take l (i + 1) most ?_); rw [HT.out, allIn_snoc, HA.out]; simp; omega
          go_wp2
          go_ret
          exact ⟨by rw [HF.out]; rfl, rfl⟩
        · have HF : Hid (allIn (l.take (i + 1)) most = true) := by unfold Hid; rw [HT.out, allIn_snoc, HA.out]; simp; omega
          have h7 : a = 0 ∨ a = 1 ∨ 1 < a := by omega
          rcases h7 with rfl | rfl | h7
          · have HC2 : Hid (c = coded (l.take (i + 1))) := by unfold Hid; rw [HT.out, coded_snoc, ← HC.out]; rfl
            have HO2 : Hid (o = (l.take (i + 1)).count 1) := by unfold Hid; rw [HT.out, count1_snoc, ← HO.out]; rfl
            go_wp2
            go_roundg (gk - 1)
            case measure => omega
            case rel => exact ⟨i + 1, c, o, by omega, by omega, by go_num, rfl, rfl, by omega, by omega, HF, HC2, HO2, rfl⟩
          · have HC2 : Hid (c + 1 = coded (l.take (i + 1))) := by unfold Hid; rw [HT.out, coded_snoc, ← HC.out]; rfl
            have HO2 : Hid (o + 1 = (l.take (i + 1)).count 1) := by unfold Hid; rw [HT.out, count1_snoc, ← HO.out]; rfl
            go_wp2
            go_roundg (gk - 1)
            case measure => omega
            case rel => exact ⟨i + 1, c + 1, o + 1, by omega, by omega, by go_num, by go_num, by go_num, by omega, by omega, HF, HC2, HO2, rfl⟩
          · have HC2 : Hid (c + 1 = coded (l.take (i + 1))) := by unfold Hid; rw [HT.out, coded_snoc, ← HC.out, if_pos (by omega)]
            have HO2 : Hid (o = (l.take (i + 1)).count 1) := by unfold Hid; rw [HT.out, count1_snoc, ← HO.out, if_neg (by omega)]; rfl
            go_wp2
            go_roundg (gk - 1)
            case measure => omega
            case rel => exact ⟨i + 1, c + 1, o, by omega, by omega, by go_num, by go_num, rfl, by omega, by omega, HF, HC2, HO2, rfl⟩
      · have hi1 : ¬ (i : Int) < (n : Int) := by omega
        have HE : Hid (l.take i = l) := by unfold Hid; exact List.take_of_length_le (by have := HN.out; omega)
        rw [HE.out] at HA HC HO
        have HB : Hid (argBad l most = false) := by unfold Hid; rw [HA1.out, HA.out]; rfl
        have HR := hid (check_ref l most HB.out)
        have HF : Hid (checkOf l most = if sumOf l = 0 ∨ sumOf l = 32768 ∨ sumOf l = 16384 ∧ l.count 1 = 1 then 0 else 3) := by
          unfold Hid checkOf; rw [HB.out]; rfl
        rw [← HC.out, ← HO.out] at HR
        rw [← HO.out] at HF
        go_wp2_with fail
        refine HRS.out.mono ?_
        rintro e w1 ⟨rfl, rfl⟩
        obtain ⟨s, hs⟩ : ∃ s, s = sumOf l := ⟨_, rfl⟩
        rw [← hs] at HF HR ⊢
        clear hs
        have h5 : 32768 < s ∨ s = 32768 ∨ s < 32768 ∧ c = 0 ∨ s < 32768 ∧ c = 1 ∧ o = 1 ∨ s < 32768 ∧ c = 1 ∧ o ≠ 1 ∨ s < 32768 ∧ c ≠ 1 ∧ c ≠ 0 := by omega
        rcases h5 with h5 | h5 | ⟨h5, h6⟩ | ⟨h5, h6, h7⟩ | ⟨h5, h7, h6⟩ | ⟨h5, h6, h7⟩
        · have HZ : Hid (checkOf l most = 3) := by unfold Hid; rw [HF.out, if_neg (HR.out.1 (by omega))]
          have hb0 : decide ((32768 : Int) < (s : Int)) = true := by simp; omega
          go_wp2
          go_ret
          exact ⟨by rw [HZ.out]; rfl, rfl⟩
        · have HZ : Hid (checkOf l most = 0) := by unfold Hid; rw [HF.out, if_pos (by have := HR.out; omega)]
          have hb0 : decide ((32768 : Int) < (s : Int)) = false := by simp; omega
          have hb1 : decide ((s : Int) < 32768) = false := by simp; omega
          go_wp2
          go_ret
          exact ⟨by rw [HZ.out]; rfl, rfl⟩
        · have HZ : Hid (checkOf l most = 0) := by unfold Hid; rw [HF.out, if_pos (by have := HR.out; omega)]
          have hb0 : decide ((32768 : Int) < (s : Int)) = false := by simp; omega
          have hb1 : decide ((s : Int) < 32768) = true := by simp; omega
          have hb2 : (((c : Nat) : Int) == 0) = true := by simp; omega
          go_wp2
          go_ret
          exact ⟨by rw [HZ.out]; rfl, rfl⟩
        · have HZ : Hid (checkOf l most = 0) := by unfold Hid; rw [HF.out, if_pos (by have := HR.out; omega)]
          have hb0 : decide ((32768 : Int) < (s : Int)) = false := by simp; omega
          have hb1 : decide ((s : Int) < 32768) = true := by simp; omega
          have hb2 : (((c : Nat) : Int) == 0) = false := by simp; omega
          have hb3 : (((c : Nat) : Int) == 1) = true := by simp; omega
          have hb4 : (((o : Nat) : Int) == 1) = true := by simp; omega
          go_wp2
          go_ret
          exact ⟨by rw [HZ.out]; rfl, rfl⟩
        · have HZ : Hid (checkOf l most = 3) := by unfold Hid; rw [HF.out, if_neg (HR.out.1 (by omega))]
          have hb0 : decide ((32768 : Int) < (s : Int)) = false := by simp; omega
          have hb1 : decide ((s : Int) < 32768) = true := by simp; omega
          have hb2 : (((c : Nat) : Int) == 0) = false := by simp; omega
          have hb3 : (((c : Nat) : Int) == 1) = true := by simp; omega
          have hb4 : (((o : Nat) : Int) == 1) = false := by simp; omega
          go_wp2
          go_ret
          exact ⟨by rw [HZ.out]; rfl, rfl⟩
        · have HZ : Hid (checkOf l most = 3) := by unfold Hid; rw [HF.out, if_neg (HR.out.1 (by omega))]
          have hb0 : decide ((32768 : Int) < (s : Int)) = false := by simp; omega
          have hb1 : decide ((s : Int) < 32768) = true := by simp; omega
          have hb2 : (((c : Nat) : Int) == 0) = false := by simp; omega
          have hb3 : (((c : Nat) : Int) == 1) = false := by simp; omega
          go_wp2
          go_ret
          exact ⟨by rw [HZ.out]; rfl, rfl⟩
end Go.Proofs.Ytpecdappchkdiaa
