/-
  The program's step and its eight steps of a byte.
-/
import Derived.Test.YtkdmdbojcdonpaaGreatDoorRef2
namespace Go.Proofs.YtkdmdbojcdonpaaGreatDoor
set_option maxRecDepth 5000
open Go.RowKit

theorem pstep_any (x : Nat) (w : World) (hx : x < 4294967296) :
    Calls Tryz.prog 109 #[.int .u32 (x : Int)] w fun e w' => e = .returned (.int .u32 ((stp x : Nat) : Int)) ∧ w = w' := by
  obtain ⟨y, hy⟩ : ∃ y, y = x / 2 := ⟨_, rfl⟩
  have hyI : (x : Int) / 2 = (y : Int) := by omega
  have hy32 : y < 4294967296 := by omega
  have HY := hid hy
  have ha := u32_and_nat x 1 hx (by decide)
  rw [nat_mask1] at ha
  clear hy
  by_cases h : x % 2 = 1
  · rw [h] at ha
    have ha1 : bits .and .u32 (x : Int) 1 = 1 := ha
    have hs : Hid (stp x = y ^^^ 3988292384) := by unfold Hid stp; rw [if_pos h, HY.out]
    have hb := u32_xor_nat y 3988292384 hy32 (by decide)
    have HB := hid hb
    clear h hb ha
    go_enter Tryz.func109, Tryz.ntmps109
    go_wp2
    go_ret
    exact ⟨ret_intS (by rw [hs.out]; exact HB.out), rfl⟩
  · have h0 : x % 2 = 0 := by omega
    rw [h0] at ha
    have ha1 : bits .and .u32 (x : Int) 1 = 0 := ha
    have hs : Hid (stp x = y) := by unfold Hid stp; rw [if_neg h, HY.out]
    clear h h0 ha
    go_enter Tryz.func109, Tryz.ntmps109
    go_wp2
    go_ret
    exact ⟨ret_intS (by rw [hs.out]), rfl⟩

theorem bsteps_any (x : Nat) (w : World) (hx : x < 4294967296) :
    Calls Tryz.prog 85 #[.int .u32 (x : Int)] w fun e w' => e = .returned (.int .u32 ((stps 8 x : Nat) : Int)) ∧ w = w' := by
  go_enter Tryz.func85, Tryz.ntmps85
  go_wp2
  go_loopg [0, 3] 9 (fun k t0 t3 wr => ∃ (j y : Nat), j ≤ 8 ∧ 8 - j < k ∧ t3 = .int .i64 (j : Int) ∧ t0 = .int .u32 (y : Int) ∧ y < 4294967296 ∧ Hid (y = stps j x) ∧ wr = w)
  case atStart => exact ⟨0, x, by omega, by omega, rfl, rfl, hx, rfl, rfl⟩
  case round =>
    obtain ⟨j, y, hj, hk2, rfl, rfl, hy32, HY, rfl⟩ := hrel
    by_cases hj8 : j < 8
    · have hj1 : (j : Int) < 8 := by omega
      obtain ⟨y2, hy2⟩ : ∃ y2, y2 = stp y := ⟨_, rfl⟩
      have hy232 : y2 < 4294967296 := by rw [hy2]; exact stp_lt hy32
      have HY2 := hid hy2
      clear hy2
      go_wp2_with (go_at_call 109; refine (pstep_any y _ hy32).mono ?_; rw [← HY2.out]; rintro e w' ⟨rfl, rfl⟩)
      go_roundg (gk - 1)
      case measure => omega
      case rel => exact ⟨j + 1, y2, by omega, by omega, by go_num, rfl, hy232, by unfold Hid; rw [HY2.out, HY.out, stps_succ], rfl⟩
    · have hj1 : ¬ (j : Int) < 8 := by omega
      obtain rfl : j = 8 := by omega
      go_wp2
      go_ret
      exact ⟨ret_intS (by rw [HY.out]), rfl⟩

set_option maxHeartbeats 1600000 in
theorem bysteps_any (c : Nat) (v : Value) (l : List Nat) (w : World) (hc : c < 4294967296) (hv : Rd w 1 v l.length (u8s l)) (hb : ∀ b ∈ l, b < 256) (hl : l.length < 1000000000) :
    Calls Tryz.prog 60 #[.int .u32 (c : Int), v] w fun e w' => e = .returned (.int .u32 ((crcs c l : Nat) : Int)) ∧ w = w' := by
  obtain ⟨ao, cap, rfl, _, _⟩ := hv.form
  obtain ⟨n, hn⟩ : ∃ n, n = l.length := ⟨_, rfl⟩
  rw [← hn] at hv hl ⊢
  have HN := hid hn
  clear hn
  go_enter Tryz.func60, Tryz.ntmps60
  go_wp2
  go_loopg [0, 9] (n + 1) (fun k t0 t9 wr => ∃ (i x : Nat), i ≤ n ∧ n - i < k ∧ t9 = .int .i64 (i : Int) ∧ t0 = .int .u32 (x : Int) ∧ x < 4294967296 ∧ Hid (x = crcs c (l.take i)) ∧ wr = w)
  case atStart => exact ⟨0, c, by omega, by omega, rfl, rfl, hc, rfl, rfl⟩
  case round =>
    obtain ⟨i, x, hi, hk, rfl, rfl, hx32, HXX, rfl⟩ := hrel
    by_cases hin : i < n
    · obtain ⟨g, off, rfl, hcell⟩ := hv.spot (by omega)
      obtain ⟨b, hbi⟩ : ∃ b, l[i]? = some b := ⟨l[i]'(by have := HN.out; omega), List.getElem?_eq_getElem _⟩
      have hb256 := hb b (List.mem_of_getElem? hbi)
      have hc1 := hcell i _ (by rw [u8s_get, hbi]; rfl)
      have hi0 : (0 : Int) ≤ (i : Int) := Int.natCast_nonneg _
      have hi1 : (i : Int) < (n : Int) := by omega
      obtain ⟨z, hz⟩ : ∃ z, z = x ^^^ b := ⟨_, rfl⟩
      have hz32 : z < 4294967296 := by rw [hz]; exact Nat.xor_lt_two_pow (n := 32) hx32 (by omega)
      have hzI : bits .xor .u32 (x : Int) (b : Int) = (z : Int) := by rw [hz]; exact u32_xor_nat x b hx32 (by omega)
      have HT := hid (take_snoc'' l i b hbi)
      have HZ := hid hz
      obtain ⟨y, hy⟩ : ∃ y, y = stps 8 z := ⟨_, rfl⟩
      have hy32 : y < 4294967296 := by rw [hy]; exact stps_lt 8 hz32
      have HY := hid hy
      clear hcell hbi hz hy
      go_wp2_with (go_at_call 85; refine (bsteps_any z _ hz32).mono ?_; rw [← HY.out]; rintro e w' ⟨rfl, rfl⟩)
      go_roundg (gk - 1)
      case measure => omega
      case rel => exact ⟨i + 1, y, by omega, by omega, by go_num, rfl, hy32, by unfold Hid; rw [HT.out, crcs_snoc, ← HXX.out, ← HZ.out]; exact HY.out, rfl⟩
    · have hi1 : ¬ (i : Int) < (n : Int) := by omega
      go_wp2
      go_ret
      exact ⟨ret_intS (by rw [HXX.out, List.take_of_length_le (by have := HN.out; omega)]), rfl⟩

end Go.Proofs.YtkdmdbojcdonpaaGreatDoor
