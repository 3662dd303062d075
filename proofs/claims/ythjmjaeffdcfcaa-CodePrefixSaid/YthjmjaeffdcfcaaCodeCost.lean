/-
  Cost, the program's and the reference's; the reference's Ints.
-/
import Derived.Test.YthjmjaeffdcfcaaCode1
namespace Go.Proofs.Ythjmjaeffdcfcaa
open Go.RowKit

/-- what a length or a frequency counts as -/
def valOf (a : Int) : Nat := if 0 ≤ a ∧ a ≤ 1048576 then a.toNat else 0
def costTo (l f : List Int) : Nat → Nat
  | 0 => 0
  | k + 1 => costTo l f k + valOf (l.getD k 0) * valOf (f.getD k 0)
theorem valOf_le (a : Int) : valOf a ≤ 1048576 := by unfold valOf; split <;> omega
theorem val_mul (a b : Int) : valOf a * valOf b ≤ 1099511627776 := Nat.mul_le_mul (valOf_le a) (valOf_le b)
theorem costTo_le (l f : List Int) (k : Nat) : costTo l f k ≤ 1099511627776 * k := by
  induction k with
  | zero => simp [costTo]
  | succ k ih => rw [costTo]; have := val_mul (l.getD k 0) (f.getD k 0); omega

theorem valueOf_any (a : Int) (w : World) :
    Calls Try.prog 23 #[.int .i64 a] w fun e w' => e = .returned (.int .i64 ((valOf a : Nat) : Int)) ∧ w = w' := by
  have h3 : a < 0 ∨ 0 ≤ a ∧ 1048576 < a ∨ 0 ≤ a ∧ a ≤ 1048576 := by omega
  rcases h3 with h | ⟨h, h2⟩ | ⟨h, h2⟩
  · have HI : Hid (valOf a = 0) := by unfold Hid valOf; rw [if_neg (by omega)]
    go_enter Try.func23, Try.ntmps23
    go_wp2
    go_ret
    exact ⟨by rw [HI.out]; rfl, rfl⟩
  · have HI : Hid (valOf a = 0) := by unfold Hid valOf; rw [if_neg (by omega)]
    go_enter Try.func23, Try.ntmps23
    go_wp2
    go_ret
    exact ⟨by rw [HI.out]; rfl, rfl⟩
  · have HI : Hid ((valOf a : Int) = a) := by unfold Hid valOf; rw [if_pos ⟨h, h2⟩]; omega
    have h2' : ¬ 1048576 < a := by omega
    go_enter Try.func23, Try.ntmps23
    go_wp2
    go_ret
    exact ⟨by rw [HI.out]; rfl, rfl⟩

theorem valueOf_quiet (a : Int) (w : World) :
    Calls Try.prog 23 #[.int .i64 a] w fun e w' => e = .returned (.int .i64 ((valOf a : Nat) : Int)) ∧ w' = w :=
  (valueOf_any a w).mono fun _ _ ⟨h1, h2⟩ => ⟨h1, h2.symm⟩
theorem wrapEq (x : Int) : IntKind.i64.wrap x = wrap64 x := by rw [IntKind.wrap_i64]; unfold wrap64; rfl
theorem wrap_nat (z : Nat) (h : z < 9223372036854775808) : IntKind.i64.wrap (z : Int) = (z : Int) := by rw [wrapEq]; unfold wrap64; omega
theorem getD_of {l : List Int} {i : Nat} {a : Int} (h : l[i]? = some a) : l.getD i 0 = a := by simp [List.getD, h]

set_option maxHeartbeats 1600000 in
theorem cost_any (v u : Value) (l f : List Int) (w : World) (hv : Rd w 1 v l.length (ints l)) (hu : Rd w 1 u f.length (ints f)) (hl : l.length < 1000000) :
    Calls Try.prog 15 #[v, u] w fun e w' => e = .returned (.int .i64 ((costTo l f (min l.length f.length) : Nat) : Int)) ∧ ∃ c, w' = w.drewN c := by
  obtain ⟨ao, cap, rfl, _, _⟩ := hv.form
  obtain ⟨bo, cap2, rfl, _, _⟩ := hu.form
  obtain ⟨n, hn⟩ : ∃ n, n = l.length := ⟨_, rfl⟩
  obtain ⟨m, hm⟩ : ∃ m, m = f.length := ⟨_, rfl⟩
  obtain ⟨q, hq⟩ : ∃ q, q = min l.length f.length := ⟨_, rfl⟩
  rw [← hq]
  rw [← hn] at hv hl hq ⊢
  rw [← hm] at hu hq ⊢
  have HN := hid hn
  have HM := hid hm
  have hqn : q ≤ n := by omega
  have hqm : q ≤ m := by omega
  have hmn : ((m : Int) < (n : Int) ∧ Hid ((m : Int) = (q : Int))) ∨ (¬ (m : Int) < (n : Int) ∧ Hid ((n : Int) = (q : Int))) := by unfold Hid; omega
  clear hn hm hq
  rcases hmn with ⟨hmn, HQ⟩ | ⟨hmn, HQ⟩
  all_goals
    go_enter Try.func15, Try.ntmps15
    go_wp2
    rw [HQ.out]
    go_loopg [5, 12] (q + 1) (fun k t5 t12 wr => ∃ (i s c : Nat), i ≤ q ∧ q - i < k ∧ t12 = .int .i64 (i : Int) ∧ t5 = .int .i64 (s : Int) ∧ Hid (s = costTo l f i) ∧ s ≤ 1099511627776 * i ∧ Hid (wr = w.drewN c))
    case atStart => exact ⟨0, 0, 0, by omega, by omega, rfl, rfl, rfl, by omega, rfl⟩
    case round =>
      obtain ⟨i, s, c, hi, hk, rfl, rfl, HS, hs, HW⟩ := hrel
      obtain rfl := HW.out
      by_cases hin : i < q
      · obtain ⟨g, off, rfl, hcell⟩ := hv.spot (by omega)
        obtain ⟨g2, off2, rfl, hcell2⟩ := hu.spot (by omega)
        obtain ⟨a, hai⟩ : ∃ a, l[i]? = some a := ⟨l[i]'(by have := HN.out; omega), List.getElem?_eq_getElem _⟩
        obtain ⟨b, hbi⟩ : ∃ b, f[i]? = some b := ⟨f[i]'(by have := HM.out; omega), List.getElem?_eq_getElem _⟩
        have hc1 : w.cell? ⟨g, off + i, none⟩ = some (.int .i64 a) := hcell i _ (by rw [ints_get, hai]; rfl)
        have hc2 : w.cell? ⟨g2, off2 + i, none⟩ = some (.int .i64 b) := hcell2 i _ (by rw [ints_get, hbi]; rfl)
        have hi0 : (0 : Int) ≤ (i : Int) := Int.natCast_nonneg _
        have hi1 : (i : Int) < (q : Int) := by omega
        have hi2 : (i : Int) < (n : Int) := by omega
        have hi3 : (i : Int) < (m : Int) := by omega
        have HST : Hid (costTo l f (i + 1) = costTo l f i + valOf a * valOf b) := by unfold Hid; rw [costTo, getD_of hai, getD_of hbi]
        have hle := val_mul a b
        obtain ⟨z, hz⟩ : ∃ z, z = valOf a * valOf b := ⟨_, rfl⟩
        rw [← hz] at hle HST
        have hzI : IntKind.i64.wrap ((valOf a : Int) * (valOf b : Int)) = (z : Int) := by
          rw [show ((valOf a : Int) * (valOf b : Int)) = ((z : Nat) : Int) by rw [hz]; simp]
          exact wrap_nat z (by omega)
        have hsI : IntKind.i64.wrap ((s : Int) + (z : Int)) = ((s : Int) + (z : Int)) := by
          have := wrap_nat (s + z) (by omega)
          simpa using this
        clear hcell hcell2 hai hbi hz
        go_wp2
        go_quiet ((go_at_call 23; exact (valueOf_quiet _ _).mono fun _ _ h => ⟨h.1, _, h.2⟩))
        go_wp2
        go_roundg (gk - 1)
        case measure => omega
        case rel => exact ⟨i + 1, s + z, _, by omega, by omega, by go_num, by go_num, by unfold Hid; rw [HST.out, ← HS.out], by omega, rfl⟩
      · have hi1 : ¬ (i : Int) < (q : Int) := by omega
        obtain rfl : i = q := by omega
        go_wp2
        go_ret
        exact ⟨ret_int (by rw [HS.out]), _, rfl⟩

set_option maxRecDepth 100000 in
set_option maxHeartbeats 1600000 in
theorem refcost_any (v u : Value) (l f : List Int) (w : World) (hv : Rd w 1 v l.length (ints l)) (hu : Rd w 1 u f.length (ints f)) (hl : l.length < 1000000) :
    Calls Try.prog 16 #[v, u] w fun e w' => e = .returned (.int .i64 ((costTo l f (min l.length f.length) : Nat) : Int)) ∧ ∃ c, w' = w.drewN c := by
  obtain ⟨ao, cap, rfl, _, _⟩ := hv.form
  obtain ⟨bo, cap2, rfl, _, _⟩ := hu.form
  obtain ⟨n, hn⟩ : ∃ n, n = l.length := ⟨_, rfl⟩
  obtain ⟨m, hm⟩ : ∃ m, m = f.length := ⟨_, rfl⟩
  obtain ⟨q, hq⟩ : ∃ q, q = min l.length f.length := ⟨_, rfl⟩
  rw [← hq]
  rw [← hn] at hv hl hq ⊢
  rw [← hm] at hu hq ⊢
  have HN := hid hn
  have HM := hid hm
  have hqn : q ≤ n := by omega
  have hqm : q ≤ m := by omega
  have HQ := hid hq
  clear hn hm hq
  go_enter Try.func16, Try.ntmps16
  go_wp2
  go_loopg [5, 6] (q + 1) (fun k t5 t6 wr => ∃ (i s c : Nat), i ≤ q ∧ q - i < k ∧ t6 = .int .i64 (i : Int) ∧ t5 = .int .i64 (s : Int) ∧ Hid (s = costTo l f i) ∧ s ≤ 1099511627776 * i ∧ Hid (wr = w.drewN c))
  case atStart => exact ⟨0, 0, 0, by omega, by omega, rfl, rfl, rfl, by omega, rfl⟩
  case round =>
    obtain ⟨i, s, c, hi, hk, rfl, rfl, HS, hs, HW⟩ := hrel
    obtain rfl := HW.out
    have hi0 : (0 : Int) ≤ (i : Int) := Int.natCast_nonneg _
    by_cases hin : i < q
    · obtain ⟨g, off, rfl, hcell⟩ := hv.spot (by omega)
      obtain ⟨g2, off2, rfl, hcell2⟩ := hu.spot (by omega)
      obtain ⟨a, hai⟩ : ∃ a, l[i]? = some a := ⟨l[i]'(by have := HN.out; omega), List.getElem?_eq_getElem _⟩
      obtain ⟨b, hbi⟩ : ∃ b, f[i]? = some b := ⟨f[i]'(by have := HM.out; omega), List.getElem?_eq_getElem _⟩
      have hc1 : w.cell? ⟨g, off + i, none⟩ = some (.int .i64 a) := hcell i _ (by rw [ints_get, hai]; rfl)
      have hc2 : w.cell? ⟨g2, off2 + i, none⟩ = some (.int .i64 b) := hcell2 i _ (by rw [ints_get, hbi]; rfl)
      have hi2 : (i : Int) < (n : Int) := by omega
      have hi3 : (i : Int) < (m : Int) := by omega
      have HST : Hid (costTo l f (i + 1) = costTo l f i + valOf a * valOf b) := by unfold Hid; rw [costTo, getD_of hai, getD_of hbi]
      clear hcell hcell2 hai hbi
      have h5 : a ≤ 0 ∨ 0 < a ∧ b ≤ 0 ∨ 0 < a ∧ 0 < b ∧ 1048576 < b ∨ 0 < a ∧ 0 < b ∧ b ≤ 1048576 ∧ 1048576 < a ∨ 0 < a ∧ 0 < b ∧ b ≤ 1048576 ∧ a ≤ 1048576 := by omega
      rcases h5 with h5 | ⟨h5, h6⟩ | ⟨h5, h6, h7⟩ | ⟨h5, h6, h7, h8⟩ | ⟨h5, h6, h7, h8⟩
      · have HV : Hid (valOf a * valOf b = 0) := by
          unfold Hid; have : valOf a = 0 := by unfold valOf; split <;> omega
          rw [this, Nat.zero_mul]
        have hb0 : decide ((0 : Int) < a) = false := by simp; omega
        go_wp2
        go_roundg (gk - 1)
        case measure => omega
        case rel => exact ⟨i + 1, s, c, by omega, by omega, by go_num, rfl, by unfold Hid; rw [HST.out, HV.out, ← HS.out]; rfl, by omega, rfl⟩
      · have HV : Hid (valOf a * valOf b = 0) := by
          unfold Hid; have : valOf b = 0 := by unfold valOf; split <;> omega
          rw [this, Nat.mul_zero]
        have hb0 : decide ((0 : Int) < a) = true := by simp; omega
        have hb1 : decide ((0 : Int) < b) = false := by simp; omega
        go_wp2
        go_roundg (gk - 1)
        case measure => omega
        case rel => exact ⟨i + 1, s, c, by omega, by omega, by go_num, rfl, by unfold Hid; rw [HST.out, HV.out, ← HS.out]; rfl, by omega, rfl⟩
      · have HV : Hid (valOf a * valOf b = 0) := by
          unfold Hid; have : valOf b = 0 := by unfold valOf; split <;> omega
          rw [this, Nat.mul_zero]
        have hb0 : decide ((0 : Int) < a) = true := by simp; omega
        have hb1 : decide ((0 : Int) < b) = true := by simp; omega
        have hb2 : decide (b ≤ (1048576 : Int)) = false := by simp; omega
        go_wp2
        go_roundg (gk - 1)
        case measure => omega
        case rel => exact ⟨i + 1, s, c, by omega, by omega, by go_num, rfl, by unfold Hid; rw [HST.out, HV.out, ← HS.out]; rfl, by omega, rfl⟩
      · have HV : Hid (valOf a * valOf b = 0) := by
          unfold Hid; have : valOf a = 0 := by unfold valOf; split <;> omega
          rw [this, Nat.zero_mul]
        have hb0 : decide ((0 : Int) < a) = true := by simp; omega
        have hb1 : decide ((0 : Int) < b) = true := by simp; omega
        have hb2 : decide (b ≤ (1048576 : Int)) = true := by simp; omega
        have hb3 : decide (a ≤ (1048576 : Int)) = false := by simp; omega
        go_wp2
        go_roundg (gk - 1)
        case measure => omega
        case rel => exact ⟨i + 1, s, c, by omega, by omega, by go_num, rfl, by unfold Hid; rw [HST.out, HV.out, ← HS.out]; rfl, by omega, rfl⟩
      · obtain ⟨x, rfl⟩ := Int.eq_ofNat_of_zero_le (show 0 ≤ a by omega)
        obtain ⟨y, rfl⟩ := Int.eq_ofNat_of_zero_le (show 0 ≤ b by omega)
        obtain ⟨z, hz⟩ : ∃ z, z = x * y := ⟨_, rfl⟩
        have hle : z ≤ 1099511627776 := by rw [hz]; exact Nat.mul_le_mul (show x ≤ 1048576 by omega) (show y ≤ 1048576 by omega)
        have HV : Hid (valOf (x : Int) * valOf (y : Int) = z) := by
          unfold Hid valOf; rw [if_pos (by omega), if_pos (by omega), Int.toNat_natCast, Int.toNat_natCast, hz]
        have hb0 : decide ((0 : Int) < (x : Int)) = true := by simp; omega
        have hb1 : decide ((0 : Int) < (y : Int)) = true := by simp; omega
        have hb2 : decide ((y : Int) ≤ (1048576 : Int)) = true := by simp; omega
        have hb3 : decide ((x : Int) ≤ (1048576 : Int)) = true := by simp; omega
        have hzI : IntKind.i64.wrap ((x : Int) * (y : Int)) = (z : Int) := by
          rw [show ((x : Int) * (y : Int)) = ((z : Nat) : Int) by rw [hz]; simp]
          exact wrap_nat z (by omega)
        have hsI : IntKind.i64.wrap ((s : Int) + (z : Int)) = ((s : Int) + (z : Int)) := by
          have := wrap_nat (s + z) (by omega)
          simpa using this
        clear hz
        go_wp2
        go_quiet (fail)
        go_wp2
        go_roundg (gk - 1)
        case measure => omega
        case rel => exact ⟨i + 1, s + z, _, by omega, by omega, by go_num, by go_num, by unfold Hid; rw [HST.out, HV.out, ← HS.out], by omega, rfl⟩
    · obtain rfl : i = q := by omega
      have HF : Hid (Ending.returned (Value.int .i64 (s : Int)) = .returned (.int .i64 ((costTo l f i : Nat) : Int))) := by unfold Hid; rw [HS.out]
      by_cases hn : i < n
      · have hi2 : decide ((i : Int) < (n : Int)) = true := by simp; omega
        have hi3 : decide ((i : Int) < (m : Int)) = false := by have := HQ.out; simp; omega
        have hi4 : ¬ (i : Int) < (m : Int) := by have := HQ.out; omega
        go_wp2
        all_goals first
          | (exfalso; omega)
          | (go_ret
             exact ⟨HF.out, _, rfl⟩)
      · have hi2 : decide ((i : Int) < (n : Int)) = false := by simp; omega
        go_wp2
        go_ret
        exact ⟨HF.out, _, rfl⟩

/-! ### Ints -/
set_option maxHeartbeats 800000 in
theorem ints_same (v u : Value) (a : List Int) (w : World) (hv : Rd w 1 v a.length (ints a)) (hu : Rd w 1 u a.length (ints a)) (hal : a.length < 1000000) :
    Calls Try.prog 17 #[v, u] w fun e w' => e = .returned (.bool true) ∧ ∃ n, w' = w.drewN n := by
  obtain ⟨ao, cap, rfl, _, _⟩ := hv.form
  obtain ⟨bo, cbp, rfl, _, _⟩ := hu.form
  obtain ⟨n, hn⟩ : ∃ n, n = a.length := ⟨_, rfl⟩
  rw [← hn] at hv hu hal ⊢
  have HN := hid hn
  clear hn
  have hne : ((n : Int) != (n : Int)) = false := by simp
  go_enter Try.func17, Try.ntmps17
  go_wp2
  go_loopw [5] (fun t5 wr => ∃ k c : Nat, k ≤ n ∧ t5 = .int .i64 (k : Int) ∧ Hid (wr = w.drewN c)) (fun t5 _ => n - (intOf t5).toNat)
  case atStart => exact ⟨0, 0, Nat.zero_le _, rfl, rfl⟩
  case round =>
    obtain ⟨k, c, hk, rfl, HW⟩ := hrel
    obtain rfl := HW.out
    by_cases hkn : k < n
    · obtain ⟨x, hx⟩ : ∃ x, a[k]? = some x := ⟨a[k]'(by have := HN.out; omega), List.getElem?_eq_getElem _⟩
      obtain ⟨g, off, rfl, hcell⟩ := hv.spot (by omega)
      obtain ⟨g2, off2, rfl, hcell2⟩ := hu.spot (by omega)
      have hc : w.cell? ⟨g, off + k, none⟩ = some (.int .i64 x) := hcell k _ (by rw [ints_get, hx]; rfl)
      have hc2 : w.cell? ⟨g2, off2 + k, none⟩ = some (.int .i64 x) := hcell2 k _ (by rw [ints_get, hx]; rfl)
      have hk0 : (0 : Int) ≤ (k : Int) := Int.natCast_nonneg _
      have hk1 : (k : Int) < (n : Int) := by omega
      have hd : ((x : Int) != (x : Int)) = false := by simp
      clear hcell hcell2 hx
      go_wp2
      go_quiet (fail)
      go_wp2
      go_roundw
      case rel => exact ⟨k + 1, _, by omega, by go_num, rfl⟩
      case measure => simp [intOf]; omega
    · go_wp2
      go_ret
      exact ⟨rfl, _, rfl⟩
end Go.Proofs.Ythjmjaeffdcfcaa
