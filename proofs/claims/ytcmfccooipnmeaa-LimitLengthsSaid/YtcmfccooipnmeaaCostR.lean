/-
  The reference's Cost.
-/
import Derived.Test.YtcmfccooipnmeaaProg
import Derived.Test.YtcmfccooipnmeaaInts
import Derived.StillTailTactics
namespace Go.Proofs.Ytcmfccooipnmeaa
open Go.RowKit

set_option maxRecDepth 100000 in
set_option maxHeartbeats 1600000 in
theorem refcost_any (v u : Value) (l f : List Int) (w : World) (hv : Rd w 1 v l.length (ints l)) (hu : Rd w 1 u f.length (ints f)) (hl : l.length < 1000000) :
    Calls Try.prog 11 #[v, u] w fun e w' => e = .returned (.int .i64 ((costTo l f (min l.length f.length) : Nat) : Int)) ∧ ∃ c, w' = w.drewN c := by
  obtain ⟨ao, cap, rfl, _, _⟩ := hv.form
  obtain ⟨bo, cap2, rfl, _, _⟩ := hu.form
  obtain ⟨n, hn⟩ : ∃ n, n = l.length := ⟨_, rfl⟩
  obtain ⟨m, hm⟩ : ∃ m, m = f.length := ⟨_, rfl⟩
  obtain ⟨q, hq⟩ : ∃ q, q = min l.length f.length := ⟨_, rfl⟩
  rw [← hq]
  rw [← hn] at hv hl hq ⊢
  rw [← hm] at hu hq ⊢
  have HN := hid hn
  have HM := hid hm
  have hqn : q ≤ n := by omega
  have hqm : q ≤ m := by omega
  have HQ := hid hq
  clear hn hm hq
  go_enter Try.func11, Try.ntmps11
  go_wp2
  go_loopg [5, 6] (q + 1) (fun k t5 t6 wr => ∃ (i s c : Nat), i ≤ q ∧ q - i < k ∧ t6 = .int .i64 (i : Int) ∧ t5 = .int .i64 (s : Int) ∧ Hid (s = costTo l f i) ∧ s ≤ 1099511627776 * i ∧ Hid (wr = w.drewN c))
  case atStart => exact ⟨0, 0, 0, by omega, by omega, rfl, rfl, rfl, by omega, rfl⟩
  case round =>
    obtain ⟨i, s, c, hi, hk, rfl, rfl, HS, hs, HW⟩ := hrel
    obtain rfl := HW.out
    have hi0 : (0 : Int) ≤ (i : Int) := Int.natCast_nonneg _
    by_cases hin : i < q
    · obtain ⟨g, off, rfl, hcell⟩ := hv.spot (by omega)
      obtain ⟨g2, off2, rfl, hcell2⟩ := hu.spot (by omega)
      obtain ⟨a, hai⟩ : ∃ a, l[i]? = some a := ⟨l[i]'(by have := HN.out; omega), List.getElem?_eq_getElem _⟩
      obtain ⟨b, hbi⟩ : ∃ b, f[i]? = some b := ⟨f[i]'(by have := HM.out; omega), List.getElem?_eq_getElem _⟩
      have hc1 : w.cell? ⟨g, off + i, none⟩ = some (.int .i64 a) := hcell i _ (by rw [ints_get, hai]; rfl)
      have hc2 : w.cell? ⟨g2, off2 + i, none⟩ = some (.int .i64 b) := hcell2 i _ (by rw [ints_get, hbi]; rfl)
      have hi2 : (i : Int) < (n : Int) := by omega
      have hi3 : (i : Int) < (m : Int) := by omega
      have HST : Hid (costTo l f (i + 1) = costTo l f i + valOf a * valOf b) := by unfold Hid; rw [costTo, getD_of hai, getD_of hbi]
      clear hcell hcell2 hai hbi
      have h5 : a ≤ 0 ∨ 0 < a ∧ b ≤ 0 ∨ 0 < a ∧ 0 < b ∧ 1048576 < b ∨ 0 < a ∧ 0 < b ∧ b ≤ 1048576 ∧ 1048576 < a ∨ 0 < a ∧ 0 < b ∧ b ≤ 1048576 ∧ a ≤ 1048576 := by omega
      rcases h5 with h5 | ⟨h5, h6⟩ | ⟨h5, h6, h7⟩ | ⟨h5, h6, h7, h8⟩ | ⟨h5, h6, h7, h8⟩
      · have HV : Hid (valOf a * valOf b = 0) := by
          unfold Hid; have : valOf a = 0 := by unfold valOf; split <;> omega
          rw [this, Nat.zero_mul]
        have hb0 : decide ((0 : Int) < a) = false := by simp; omega
        go_wp2
        go_roundg (gk - 1)
        case measure => omega
        case rel => exact ⟨i + 1, s, c, by omega, by omega, by go_num, rfl, by unfold Hid; rw [HST.out, HV.out, ← HS.out]; rfl, by omega, rfl⟩
      · have HV : Hid (valOf a * valOf b = 0) := by
          unfold Hid; have : valOf b = 0 := by unfold valOf; split <;> omega
          rw [this, Nat.mul_zero]
        have hb0 : decide ((0 : Int) < a) = true := by simp; omega
        have hb1 : decide ((0 : Int) < b) = false := by simp; omega
        go_wp2
        go_roundg (gk - 1)
        case measure => omega
        case rel => exact ⟨i + 1, s, c, by omega, by omega, by go_num, rfl, by unfold Hid; rw [HST.out, HV.out, ← HS.out]; rfl, by omega, rfl⟩
      · have HV : Hid (valOf a * valOf b = 0) := by
          unfold Hid; have : valOf b = 0 := by unfold valOf; split <;> omega
          rw [this, Nat.mul_zero]
        have hb0 : decide ((0 : Int) < a) = true := by simp; omega
        have hb1 : decide ((0 : Int) < b) = true := by simp; omega
        have hb2 : decide (b ≤ (1048576 : Int)) = false := by simp; omega
        go_wp2
        go_roundg (gk - 1)
        case measure => omega
        case rel => exact ⟨i + 1, s, c, by omega, by omega, by go_num, rfl, by unfold Hid; rw [HST.out, HV.out, ← HS.out]; rfl, by omega, rfl⟩
      · have HV : Hid (valOf a * valOf b = 0) := by
          unfold Hid; have : valOf a = 0 := by unfold valOf; split <;> omega
          rw [this, Nat.zero_mul]
        have hb0 : decide ((0 : Int) < a) = true := by simp; omega
        have hb1 : decide ((0 : Int) < b) = true := by simp; omega
        have hb2 : decide (b ≤ (1048576 : Int)) = true := by simp; omega
        have hb3 : decide (a ≤ (1048576 : Int)) = false := by simp; omega
        go_wp2
        go_roundg (gk - 1)
        case measure => omega
        case rel => exact ⟨i + 1, s, c, by omega, by omega, by go_num, rfl, by unfold Hid; rw [HST.out, HV.out, ← HS.out]; rfl, by omega, rfl⟩
      · obtain ⟨x, rfl⟩ := Int.eq_ofNat_of_zero_le (show 0 ≤ a by omega)
        obtain ⟨y, rfl⟩ := Int.eq_ofNat_of_zero_le (show 0 ≤ b by omega)
        obtain ⟨z, hz⟩ : ∃ z, z = x * y := ⟨_, rfl⟩
        have hle : z ≤ 1099511627776 := by rw [hz]; exact Nat.mul_le_mul (show x ≤ 1048576 by omega) (show y ≤ 1048576 by omega)
        have HV : Hid (valOf (x : Int) * valOf (y : Int) = z) := by
          unfold Hid valOf; rw [if_pos (by omega), if_pos (by omega), Int.toNat_natCast, Int.toNat_natCast, hz]
        have hb0 : decide ((0 : Int) < (x : Int)) = true := by simp; omega
        have hb1 : decide ((0 : Int) < (y : Int)) = true := by simp; omega
        have hb2 : decide ((y : Int) ≤ (1048576 : Int)) = true := by simp; omega
        have hb3 : decide ((x : Int) ≤ (1048576 : Int)) = true := by simp; omega
        have hzI : IntKind.i64.wrap ((x : Int) * (y : Int)) = (z : Int) := by
          rw [show ((x : Int) * (y : Int)) = ((z : Nat) : Int) by rw [hz]; simp]
          exact wrap_nat z (by omega)
        have hsI : IntKind.i64.wrap ((s : Int) + (z : Int)) = ((s : Int) + (z : Int)) := by
          have := wrap_nat (s + z) (by omega)
          simpa using this
        clear hz
        go_wp2
        go_quiet (fail)
        go_wp2
        go_roundg (gk - 1)
        case measure => omega
        case rel => exact ⟨i + 1, s + z, _, by omega, by omega, by go_num, by go_num, by unfold Hid; rw [HST.out, HV.out, ← HS.out], by omega, rfl⟩
    · obtain rfl : i = q := by omega
      have HF : Hid (Ending.returned (Value.int .i64 (s : Int)) = .returned (.int .i64 ((costTo l f i : Nat) : Int))) := by unfold Hid; rw [HS.out]
      by_cases hn : i < n
      · have hi2 : decide ((i : Int) < (n : Int)) = true := by simp; omega
        have hi3 : decide ((i : Int) < (m : Int)) = false := by have := HQ.out; simp; omega
        have hi4 : ¬ (i : Int) < (m : Int) := by have := HQ.out; omega
        go_wp2
        all_goals first
          | (exfalso; omega)
          | (go_ret
             exact ⟨HF.out, _, rfl⟩)
      · have hi2 : decide ((i : Int) < (n : Int)) = false := by simp; omega
        go_wp2
        go_ret
        exact ⟨HF.out, _, rfl⟩

end Go.Proofs.Ytcmfccooipnmeaa
