/-
  The program's Cost.
-/
import Derived.Test.YtcmfccooipnmeaaProg
import Derived.Test.YtcmfccooipnmeaaInts
import Derived.StillTailTactics
namespace Go.Proofs.Ytcmfccooipnmeaa
open Go.RowKit

theorem valueOf_any (a : Int) (w : World) :
    Calls Try.prog 20 #[.int .i64 a] w fun e w' => e = .returned (.int .i64 ((valOf a : Nat) : Int)) ∧ w = w' := by
  have h3 : a < 0 ∨ 0 ≤ a ∧ 1048576 < a ∨ 0 ≤ a ∧ a ≤ 1048576 := by omega
  rcases h3 with h | ⟨h, h2⟩ | ⟨h, h2⟩
  · have HI : Hid (valOf a = 0) := by unfold Hid valOf; rw [if_neg (by omega)]
    go_enter Try.func20, Try.ntmps20
    go_wp2
    go_ret
    exact ⟨by rw [HI.out]; rfl, rfl⟩
  · have HI : Hid (valOf a = 0) := by unfold Hid valOf; rw [if_neg (by omega)]
    go_enter Try.func20, Try.ntmps20
    go_wp2
    go_ret
    exact ⟨by rw [HI.out]; rfl, rfl⟩
  · have HI : Hid ((valOf a : Int) = a) := by unfold Hid valOf; rw [if_pos ⟨h, h2⟩]; omega
    have h2' : ¬ 1048576 < a := by omega
    go_enter Try.func20, Try.ntmps20
    go_wp2
    go_ret
    exact ⟨by rw [HI.out]; rfl, rfl⟩

theorem valueOf_quiet (a : Int) (w : World) :
    Calls Try.prog 20 #[.int .i64 a] w fun e w' => e = .returned (.int .i64 ((valOf a : Nat) : Int)) ∧ w' = w :=
  (valueOf_any a w).mono fun _ _ ⟨h1, h2⟩ => ⟨h1, h2.symm⟩
set_option maxHeartbeats 1600000 in
theorem cost_any (v u : Value) (l f : List Int) (w : World) (hv : Rd w 1 v l.length (ints l)) (hu : Rd w 1 u f.length (ints f)) (hl : l.length < 1000000) :
    Calls Try.prog 14 #[v, u] w fun e w' => e = .returned (.int .i64 ((costTo l f (min l.length f.length) : Nat) : Int)) ∧ ∃ c, w' = w.drewN c := by
  obtain ⟨ao, cap, rfl, _, _⟩ := hv.form
  obtain ⟨bo, cap2, rfl, _, _⟩ := hu.form
  obtain ⟨n, hn⟩ : ∃ n, n = l.length := ⟨_, rfl⟩
  obtain ⟨m, hm⟩ : ∃ m, m = f.length := ⟨_, rfl⟩
  obtain ⟨q, hq⟩ : ∃ q, q = min l.length f.length := ⟨_, rfl⟩
  rw [← hq]
  rw [← hn] at hv hl hq ⊢
  rw [← hm] at hu hq ⊢
  have HN := hid hn
  have HM := hid hm
  have hqn : q ≤ n := by omega
  have hqm : q ≤ m := by omega
  have hmn : ((m : Int) < (n : Int) ∧ Hid ((m : Int) = (q : Int))) ∨ (¬ (m : Int) < (n : Int) ∧ Hid ((n : Int) = (q : Int))) := by unfold Hid; omega
  clear hn hm hq
  rcases hmn with ⟨hmn, HQ⟩ | ⟨hmn, HQ⟩
  all_goals
    go_enter Try.func14, Try.ntmps14
    go_wp2
    rw [HQ.out]
    go_loopg [5, 12] (q + 1) (fun k t5 t12 wr => ∃ (i s c : Nat), i ≤ q ∧ q - i < k ∧ t12 = .int .i64 (i : Int) ∧ t5 = .int .i64 (s : Int) ∧ Hid (s = costTo l f i) ∧ s ≤ 1099511627776 * i ∧ Hid (wr = w.drewN c))
    case atStart => exact ⟨0, 0, 0, by omega, by omega, rfl, rfl, rfl, by omega, rfl⟩
    case round =>
      obtain ⟨i, s, c, hi, hk, rfl, rfl, HS, hs, HW⟩ := hrel
      obtain rfl := HW.out
      by_cases hin : i < q
      · obtain ⟨g, off, rfl, hcell⟩ := hv.spot (by omega)
        obtain ⟨g2, off2, rfl, hcell2⟩ := hu.spot (by omega)
        obtain ⟨a, hai⟩ : ∃ a, l[i]? = some a := ⟨l[i]'(by have := HN.out; omega), List.getElem?_eq_getElem _⟩
        obtain ⟨b, hbi⟩ : ∃ b, f[i]? = some b := ⟨f[i]'(by have := HM.out; omega), List.getElem?_eq_getElem _⟩
        have hc1 : w.cell? ⟨g, off + i, none⟩ = some (.int .i64 a) := hcell i _ (by rw [ints_get, hai]; rfl)
        have hc2 : w.cell? ⟨g2, off2 + i, none⟩ = some (.int .i64 b) := hcell2 i _ (by rw [ints_get, hbi]; rfl)
        have hi0 : (0 : Int) ≤ (i : Int) := Int.natCast_nonneg _
        have hi1 : (i : Int) < (q : Int) := by omega
        have hi2 : (i : Int) < (n : Int) := by omega
        have hi3 : (i : Int) < (m : Int) := by omega
        have HST : Hid (costTo l f (i + 1) = costTo l f i + valOf a * valOf b) := by unfold Hid; rw [costTo, getD_of hai, getD_of hbi]
        have hle := val_mul a b
        obtain ⟨z, hz⟩ : ∃ z, z = valOf a * valOf b := ⟨_, rfl⟩
        rw [← hz] at hle HST
        have hzI : IntKind.i64.wrap ((valOf a : Int) * (valOf b : Int)) = (z : Int) := by
          rw [show ((valOf a : Int) * (valOf b : Int)) = ((z : Nat) : Int) by rw [hz]; simp]
          exact wrap_nat z (by omega)
        have hsI : IntKind.i64.wrap ((s : Int) + (z : Int)) = ((s : Int) + (z : Int)) := by
          have := wrap_nat (s + z) (by omega)
          simpa using this
        clear hcell hcell2 hai hbi hz
        go_wp2
        go_quiet ((go_at_call 20; exact (valueOf_quiet _ _).mono fun _ _ h => ⟨h.1, _, h.2⟩))
        go_wp2
        go_roundg (gk - 1)
        case measure => omega
        case rel => exact ⟨i + 1, s + z, _, by omega, by omega, by go_num, by go_num, by unfold Hid; rw [HST.out, ← HS.out], by omega, rfl⟩
      · have hi1 : ¬ (i : Int) < (q : Int) := by omega
        obtain rfl : i = q := by omega
        go_wp2
        go_ret
        exact ⟨ret_int (by rw [HS.out]), _, rfl⟩

end Go.Proofs.Ytcmfccooipnmeaa
