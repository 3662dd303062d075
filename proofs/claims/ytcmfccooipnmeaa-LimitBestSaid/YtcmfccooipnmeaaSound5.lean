/-
  The law's own check of lengths.
-/
import Derived.Test.YtcmfccooipnmeaaCodeRef
import Derived.Test.YtcmfccooipnmeaaLimitMath
import Derived.Test.YtcmfccooipnmeaaArr
namespace Go.Proofs.Ytcmfccooipnmeaa
open Go.RowKit

theorem nums_ints (l : List Nat) : nums .i64 l = ints (l.map fun (n : Nat) => (n : Int)) := by simp [nums, ints]
theorem codedN_snoc (l : List Nat) (a : Nat) : codedN (l ++ [a]) = codedN l + (if 0 < a then 1 else 0) := by
  induction l with
  | nil => simp [codedN]
  | cons b l ih => rw [List.cons_append, codedN, codedN, ih]; omega
theorem codedN_take (l : List Nat) (i a : Nat) (h : l[i]? = some a) : codedN (l.take (i + 1)) = codedN (l.take i) + (if 0 < a then 1 else 0) := by
  rw [List.take_add_one, h]; exact codedN_snoc _ _
theorem codedN_le : ∀ l : List Nat, codedN l ≤ l.length
  | [] => Nat.le_refl _
  | a :: l => by have := codedN_le l; rw [codedN, List.length_cons]; split <;> omega
set_option maxRecDepth 20000 in
set_option maxHeartbeats 1600000 in
theorem sound_any (v u : Value) (l f : List Nat) (m n : Nat) (w : World) (hv : Rd w 1 v n (nums .i64 l)) (hu : Rd w 1 u n (nums .i64 f)) (hn : n ≤ 288)
    (hs : ∀ (i a b : Nat), l[i]? = some a → f[i]? = some b → (0 < a ↔ 0 < b)) (hm : ∀ a ∈ l, a ≤ m) (hk : if codedN f < 2 then kr l = 16384 * codedN f else kr l = 32768) :
    Calls Try.prog 10 #[v, u, .int .i64 (m : Int)] w fun e w' => e = .returned (.bool true) ∧ ∃ c, w' = w.drewN c := by
  obtain ⟨ao, cap, rfl, _, _⟩ := hv.form
  obtain ⟨bo, cap2, rfl, _, _⟩ := hu.form
  have HLL : Hid (n = l.length) := by have h := hv.1; simp [nums] at h; exact h.symm
  have HFL : Hid (n = f.length) := by have h := hu.1; simp [nums] at h; exact h.symm
  have HSS := hid hs
  have HMM := hid hm
  have HKK := hid hk
  have hnn : ((n : Int) != (n : Int)) = false := by simp
  clear hs hm hk
  go_enter Try.func10, Try.ntmps10
  go_wp2
  go_loopg [7, 8] (n + 1) (fun k t7 t8 wr => ∃ (i c q : Nat), i ≤ n ∧ n - i < k ∧ t8 = .int .i64 (i : Int) ∧ t7 = .int .i64 (c : Int) ∧ c ≤ i ∧ Hid (c = codedN (f.take i)) ∧ Hid (wr = w.drewN q))
  case atStart => exact ⟨0, 0, 0, by omega, by omega, rfl, rfl, by omega, rfl, rfl⟩
  case round =>
    obtain ⟨i, c, q, hi, hk, rfl, rfl, hc, HC, HW⟩ := hrel
    obtain rfl := HW.out
    have hi0 : (0 : Int) ≤ (i : Int) := Int.natCast_nonneg _
    by_cases hin : i < n
    · obtain ⟨g, off, rfl, hcell⟩ := hv.spot (by omega)
      obtain ⟨g2, off2, rfl, hcell2⟩ := hu.spot (by omega)
      obtain ⟨a, hai⟩ : ∃ a, l[i]? = some a := ⟨l[i]'(by have := HLL.out; omega), List.getElem?_eq_getElem _⟩
      obtain ⟨b, hbi⟩ : ∃ b, f[i]? = some b := ⟨f[i]'(by have := HFL.out; omega), List.getElem?_eq_getElem _⟩
      have hc1 : w.cell? ⟨g, off + i, none⟩ = some (.int .i64 (a : Int)) := hcell i _ (by rw [nums_get, hai]; rfl)
      have hc2 : w.cell? ⟨g2, off2 + i, none⟩ = some (.int .i64 (b : Int)) := hcell2 i _ (by rw [nums_get, hbi]; rfl)
      have hi1 : (i : Int) < (n : Int) := by omega
      have hab := HSS.out i a b hai hbi
      have ham := HMM.out a (List.mem_of_getElem? hai)
      have HT := hid (codedN_take f i b hbi)
      have hb5 : decide ((a : Int) < 0) = false := by simp
      have hb6 : decide ((m : Int) < (a : Int)) = false := by simp; omega
      have hb7 : decide (m < a) = false := by simp; omega
      clear hcell hcell2 hai hbi
      by_cases hb : 0 < b
      · have hb1 : decide ((0 : Int) < (a : Int)) = true := by simp; omega
        have hb2 : decide ((0 : Int) < (b : Int)) = true := by simp; omega
        have hb3 : decide (0 < a) = true := by simp; omega
        have hb4 : decide (0 < b) = true := by simp; omega
        have hbI : (0 : Int) < (b : Int) := by omega
        have HC2 : Hid (c + 1 = codedN (f.take (i + 1))) := by unfold Hid; rw [HT.out, if_pos hb, ← HC.out]
        clear hab
        go_wp2
        go_quiet (fail)
        go_wp2
        go_roundg (gk - 1)
        case measure => omega
        case rel => exact ⟨i + 1, c + 1, _, by omega, by omega, by go_num, by go_num, by omega, HC2, rfl⟩
      · have hb1 : decide ((0 : Int) < (a : Int)) = false := by simp; omega
        have hb2 : decide ((0 : Int) < (b : Int)) = false := by simp; omega
        have hb3 : decide (0 < a) = false := by simp; omega
        have hb4 : decide (0 < b) = false := by simp; omega
        have hbI : ¬ (0 : Int) < (b : Int) := by omega
        have HC2 : Hid (c = codedN (f.take (i + 1))) := by unfold Hid; rw [HT.out, if_neg hb, ← HC.out]; rfl
        clear hab
        go_wp2
        go_quiet (fail)
        go_wp2
        go_roundg (gk - 1)
        case measure => omega
        case rel => exact ⟨i + 1, c, _, by omega, by omega, by go_num, rfl, by omega, HC2, rfl⟩
    · have hi1 : ¬ (i : Int) < (n : Int) := by omega
      have HE : Hid (c = codedN f) := by unfold Hid; rw [HC.out, List.take_of_length_le (by have := HFL.out; omega)]
      have hv2 : Rd (w.drewN q) 1 (.slice ao n cap) l.length (ints (l.map fun (n : Nat) => (n : Int))) := by rw [← nums_ints, ← HLL.out]; exact hv.drewTo rfl
      have HR := hid (refsum_any _ (l.map fun (n : Nat) => (n : Int)) (w.drewN q) (by simpa using hv2) (by rw [List.length_map]; have := HLL.out; omega))
      rw [kr_sum] at HR
      have hk2 := HKK.out
      by_cases hc2 : c < 2
      · have hcI : (c : Int) < 2 := by omega
        rw [← HE.out, if_pos hc2] at hk2
        rw [hk2] at HR
        clear hk2 hv2
        obtain ⟨y, hy⟩ : ∃ y, y = 16384 * c := ⟨_, rfl⟩
        rw [← hy] at HR
        have hyI : (16384 : Int) * (c : Int) = (y : Int) := by omega
        have hyy : ((y : Int) == (y : Int)) = true := by simp
        have hyb : y ≤ 32768 := by omega
        clear hy
        go_wp2_with fail
        refine HR.out.mono ?_
        rintro e w1 ⟨rfl, rfl⟩
        go_wp2
        go_ret
        exact ⟨rfl, _, rfl⟩
      · have hcI : ¬ (c : Int) < 2 := by omega
        rw [← HE.out, if_neg hc2] at hk2
        rw [hk2] at HR
        clear hk2 hv2
        go_wp2_with fail
        refine HR.out.mono ?_
        rintro e w1 ⟨rfl, rfl⟩
        go_wp2
        go_ret
        exact ⟨rfl, _, rfl⟩
end Go.Proofs.Ytcmfccooipnmeaa
