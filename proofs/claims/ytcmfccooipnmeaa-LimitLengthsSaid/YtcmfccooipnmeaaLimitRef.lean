/-
  The reference's MayLimit.
-/
import Derived.Test.YtcmfccooipnmeaaProg
import Derived.Test.YtcmfccooipnmeaaInts
import Derived.StillTailTactics
namespace Go.Proofs.Ytcmfccooipnmeaa
open Go.RowKit

def frqIn (f : List Int) : Bool := f.all fun a => decide (0 ≤ a ∧ a ≤ 1048576)
theorem frqIn_iff (f : List Int) : frqIn f = true ↔ ∀ a ∈ f, 0 ≤ a ∧ a ≤ 1048576 := by simp [frqIn]
theorem frqIn_snoc (l : List Int) (a : Int) : frqIn (l ++ [a]) = (frqIn l && decide (0 ≤ a ∧ a ≤ 1048576)) := by simp [frqIn]
theorem frqIn_take (l : List Int) (i : Nat) (h : frqIn (l.take i) = false) : frqIn l = false := by
  rw [← List.take_append_drop i l]
  unfold frqIn at *
  rw [List.all_append, h]; rfl
/-- what MayLimit returns -/
def mayOf (f : List Int) (most : Int) : Nat :=
  if 288 < f.length ∨ most < 1 ∨ 15 < most ∨ frqIn f = false then 1 else if 2 ^ most.toNat < coded f then 3 else 0
theorem mayOf_ok {f : List Int} {most : Int} (h : mayOf f most = 0) : f.length ≤ 288 ∧ 1 ≤ most ∧ most ≤ 15 ∧ (∀ a ∈ f, 0 ≤ a ∧ a ≤ 1048576) ∧ coded f ≤ 2 ^ most.toNat := by
  unfold mayOf at h
  split at h
  · cases h
  · rename_i h1
    split at h
    · cases h
    · rename_i h2
      have h3 : frqIn f = true := by
        cases hf : frqIn f with
        | true => rfl
        | false => exact absurd (.inr (.inr (.inr hf))) h1
      exact ⟨by omega, by omega, by omega, (frqIn_iff f).1 h3, by omega⟩
set_option maxRecDepth 20000 in
set_option maxHeartbeats 1600000 in
theorem refmay_any (v : Value) (f : List Int) (most : Int) (w : World) (n : Nat) (hn : n = f.length) (hv : Rd w 1 v n (ints f)) (hl : n < 1000000) :
    Calls Try.prog 9 #[v, .int .i64 most] w fun e w' => e = .returned (.int .i64 ((mayOf f most : Nat) : Int)) ∧ w = w' := by
  obtain ⟨ao, cap, rfl, _, _⟩ := hv.form
  have HN := hid hn
  clear hn
  have hn0 : (0 : Int) ≤ (n : Int) := Int.natCast_nonneg _
  have h4 : 288 < n ∨ n ≤ 288 ∧ most < 1 ∨ n ≤ 288 ∧ 1 ≤ most ∧ 15 < most ∨ n ≤ 288 ∧ 1 ≤ most ∧ most ≤ 15 := by omega
  rcases h4 with h | ⟨h, h2⟩ | ⟨h, h2, h3⟩ | ⟨h, h2, h3⟩
  · have HF : Hid (mayOf f most = 1) := by unfold Hid mayOf; rw [if_pos]; have := HN.out; omega
    have hb0 : decide ((288 : Int) < (n : Int)) = true := by simp; omega
    clear hv
    go_enter Try.func9, Try.ntmps9
    go_wp2
    go_ret
    exact ⟨by rw [HF.out]; rfl, rfl⟩
  · have HF : Hid (mayOf f most = 1) := by unfold Hid mayOf; rw [if_pos]; omega
    have hb0 : decide ((288 : Int) < (n : Int)) = false := by simp; omega
    have hb1 : decide (most < 1) = true := by simp; omega
    clear hv
    go_enter Try.func9, Try.ntmps9
    go_wp2
    go_ret
    exact ⟨by rw [HF.out]; rfl, rfl⟩
  · have HF : Hid (mayOf f most = 1) := by unfold Hid mayOf; rw [if_pos]; omega
    have hb0 : decide ((288 : Int) < (n : Int)) = false := by simp; omega
    have hb1 : decide (most < 1) = false := by simp; omega
    have hb2 : decide ((15 : Int) < most) = true := by simp; omega
    clear hv
    go_enter Try.func9, Try.ntmps9
    go_wp2
    go_ret
    exact ⟨by rw [HF.out]; rfl, rfl⟩
  · have hb0 : decide ((288 : Int) < (n : Int)) = false := by simp; omega
    obtain ⟨m, rfl⟩ := Int.eq_ofNat_of_zero_le (show 0 ≤ most by omega)
    have hb1 : decide ((m : Int) < 1) = false := by simp; omega
    have hb2 : decide ((15 : Int) < (m : Int)) = false := by simp; omega
    go_enter Try.func9, Try.ntmps9
    go_wp2
    go_loopg [5, 6] (n + 1) (fun k t5 t6 wr => ∃ (i c : Nat), i ≤ n ∧ n - i < k ∧ t6 = .int .i64 (i : Int) ∧ t5 = .int .i64 (c : Int) ∧ c ≤ i ∧ Hid (frqIn (f.take i) = true) ∧ Hid (c = coded (f.take i)) ∧ wr = w)
    case atStart => exact ⟨0, 0, by omega, by omega, rfl, rfl, by omega, rfl, rfl, rfl⟩
    case round =>
      obtain ⟨i, c, hi, hk, rfl, rfl, hc, HA, HC, rfl⟩ := hrel
      by_cases hin : i < n
      · obtain ⟨g, off, rfl, hcell⟩ := hv.spot (by omega)
        obtain ⟨a, hai⟩ : ∃ a, f[i]? = some a := ⟨f[i]'(by have := HN.out; omega), List.getElem?_eq_getElem _⟩
        have hc1 := hcell i _ (by rw [ints_get, hai]; rfl)
        have hi0 : (0 : Int) ≤ (i : Int) := Int.natCast_nonneg _
        have hi1 : (i : Int) < (n : Int) := by omega
        have HT := hid (take_snoc3 f i a hai)
        clear hcell hai
        have h5 : a < 0 ∨ 0 ≤ a ∧ 1048576 < a ∨ 0 ≤ a ∧ a ≤ 1048576 := by omega
        rcases h5 with h5 | ⟨h5, h6⟩ | ⟨h5, h6⟩
        · have HF : Hid (mayOf f (m : Int) = 1) := by
            unfold Hid mayOf
            rw [if_pos]
            right; right; right
            refine frqIn_take f (i + 1) ?_
            rw [HT.out, frqIn_snoc, HA.out]; simp; omega
          have hb3 : decide (a < 0) = true := by simp; omega
          go_wp2
          go_ret
          exact ⟨by rw [HF.out]; rfl, rfl⟩
        · have HF : Hid (mayOf f (m : Int) = 1) := by
            unfold Hid mayOf
            rw [if_pos]
            right; right; right
            refine frqIn_take f (i + 1) ?_
            rw [HT.out, frqIn_snoc, HA.out]; simp; omega
          have hb3 : decide (a < 0) = false := by simp; omega
          have hb4 : decide ((1048576 : Int) < a) = true := by simp; omega
          go_wp2
          go_ret
          exact ⟨by rw [HF.out]; rfl, rfl⟩
        · have HF : Hid (frqIn (f.take (i + 1)) = true) := by unfold Hid; rw [HT.out, frqIn_snoc, HA.out]; simp; omega
          have hb3 : decide (a < 0) = false := by simp; omega
          have hb4 : decide ((1048576 : Int) < a) = false := by simp; omega
          by_cases h7 : 0 < a
          · have HC2 : Hid (c + 1 = coded (f.take (i + 1))) := by unfold Hid; rw [HT.out, coded_snoc, ← HC.out, if_pos h7]
            go_wp2
            go_roundg (gk - 1)
            case measure => omega
            case rel => exact ⟨i + 1, c + 1, by omega, by omega, by go_num, by go_num, by omega, HF, HC2, rfl⟩
          · have HC2 : Hid (c = coded (f.take (i + 1))) := by unfold Hid; rw [HT.out, coded_snoc, ← HC.out, if_neg h7]; rfl
            go_wp2
            go_roundg (gk - 1)
            case measure => omega
            case rel => exact ⟨i + 1, c, by omega, by omega, by go_num, rfl, by omega, HF, HC2, rfl⟩
      · have hi1 : ¬ (i : Int) < (n : Int) := by omega
        have HE : Hid (f.take i = f) := by unfold Hid; exact List.take_of_length_le (by have := HN.out; omega)
        rw [HE.out] at HA HC
        have HF : Hid (mayOf f (m : Int) = if 2 ^ m < c then 3 else 0) := by
          unfold Hid mayOf
          have := HN.out
          rw [if_neg, ← HC.out, Int.toNat_natCast]
          rw [HA.out]; simp; omega
        go_wp2
        go_loopg [7, 8] (m + 1) (fun k t7 t8 wq => ∃ (j p : Nat), j ≤ m ∧ m - j < k ∧ t8 = .int .i64 (j : Int) ∧ t7 = .int .i64 (p : Int) ∧ p ≤ 32768 ∧ Hid (p = 2 ^ j) ∧ wq = wr)
        case atStart => exact ⟨0, 1, by omega, by omega, rfl, rfl, by omega, rfl, rfl⟩
        case round =>
          obtain ⟨j, p, hj, hk2, rfl, rfl, hp, HP, rfl⟩ := hrel
          by_cases hjm : j < m
          · have hjI : (j : Int) < (m : Int) := by omega
            have HP2 : Hid (p * 2 = 2 ^ (j + 1)) := by unfold Hid; rw [HP.out, Nat.pow_succ]
            have hp2 : p * 2 ≤ 32768 := by rw [HP2.out]; exact Nat.pow_le_pow_right (n := 2) (by decide) (show j + 1 ≤ 15 by omega)
            go_wp2
            go_roundg (gk - 1)
            case measure => omega
            case rel => exact ⟨j + 1, p * 2, by omega, by omega, by go_num, by go_num, hp2, HP2, rfl⟩
          · obtain rfl : j = m := by omega
            have hjI : ¬ (j : Int) < (j : Int) := by omega
            rw [← HP.out] at HF
            by_cases hpc : p < c
            · have hpI : (p : Int) < (c : Int) := by omega
              have HZ : Hid (mayOf f (j : Int) = 3) := by unfold Hid; rw [HF.out, if_pos hpc]
              go_wp2
              go_ret
              exact ⟨by rw [HZ.out]; rfl, rfl⟩
            · have hpI : ¬ (p : Int) < (c : Int) := by omega
              have HZ : Hid (mayOf f (j : Int) = 0) := by unfold Hid; rw [HF.out, if_neg hpc]
              go_wp2
              go_ret
              exact ⟨by rw [HZ.out]; rfl, rfl⟩
end Go.Proofs.Ytcmfccooipnmeaa
