/-
  What the reference's checksums answer: step, CRC and Adler, for any bytes that are read.
-/
import Derived.Test.YtkdmdbojcdonpaaGreatDoorProg
import Derived.Test.YtkdmdbojcdonpaaGreatDoorOwn2
import Derived.Test.YtkdmdbojcdonpaaGreatDoorBitsMath
import Derived.Test.YtkdmdbojcdonpaaGreatDoorSumsMath
import Derived.Laws.BitsAllLaws
import Derived.Deep.LoopGhost
namespace Go.Proofs.YtkdmdbojcdonpaaGreatDoor
set_option maxRecDepth 5000
open Go.RowKit

theorem ret_intS {k : IntKind} {a b : Int} (h : a = b) : Ending.returned (.int k a) = .returned (.int k b) := by rw [h]

theorem step_any (x : Nat) (w : World) (hx : x < 4294967296) :
    Calls Tryz.prog 54 #[.int .u32 (x : Int)] w fun e w' => e = .returned (.int .u32 ((stp x : Nat) : Int)) ∧ w = w' := by
  obtain ⟨y, hy⟩ : ∃ y, y = x / 2 := ⟨_, rfl⟩
  have hyI : (x : Int) / 2 = (y : Int) := by omega
  have hy32 : y < 4294967296 := by omega
  have HY := hid hy
  clear hy
  by_cases h : x % 2 = 1
  · have h1 : (x : Int) % 2 = 1 := by omega
    have hs : Hid (stp x = y ^^^ 3988292384) := by unfold Hid stp; rw [if_pos h, HY.out]
    have hb := u32_xor_nat y 3988292384 hy32 (by decide)
    have HB := hid hb
    clear h hb
    go_enter Tryz.func54, Tryz.ntmps54
    go_wp2
    go_ret
    exact ⟨ret_intS (by rw [hs.out]; exact HB.out), rfl⟩
  · have h1 : (x : Int) % 2 = 0 := by omega
    have hs : Hid (stp x = y) := by unfold Hid stp; rw [if_neg h, HY.out]
    clear h
    go_enter Tryz.func54, Tryz.ntmps54
    go_wp2
    go_ret
    exact ⟨ret_intS (by rw [hs.out]), rfl⟩

theorem take_snoc'' (l : List Nat) (k b : Nat) (h : l[k]? = some b) : l.take (k + 1) = l.take k ++ [b] := by
  rw [List.take_add_one, h]; rfl
set_option maxHeartbeats 1600000 in
theorem refcrc_any (c : Nat) (v : Value) (l : List Nat) (w : World) (hc : c < 4294967296) (hv : Rd w 1 v l.length (u8s l)) (hb : ∀ b ∈ l, b < 256) (hl : l.length < 1000000000) :
    Calls Tryz.prog 32 #[.int .u32 (c : Int), v] w fun e w' => e = .returned (.int .u32 ((crcOf c l : Nat) : Int)) ∧ w = w' := by
  obtain ⟨ao, cap, rfl, _, _⟩ := hv.form
  obtain ⟨n, hn⟩ : ∃ n, n = l.length := ⟨_, rfl⟩
  rw [← hn] at hv hl ⊢
  have HN := hid hn
  clear hn
  obtain ⟨x0, hx0⟩ : ∃ x0, x0 = c ^^^ 4294967295 := ⟨_, rfl⟩
  have hx032 : x0 < 4294967296 := by rw [hx0]; exact Nat.xor_lt_two_pow (n := 32) hc (by decide)
  have hm : bits .xor .u32 IntKind.u32.max (c : Int) = (x0 : Int) := by
    rw [hx0, Nat.xor_comm]; exact u32_xor_nat 4294967295 c (by decide) hc
  have HX := hid hx0
  clear hx0
  go_enter Tryz.func32, Tryz.ntmps32
  go_wp2
  go_loopg [5, 6] (n + 1) (fun k t5 t6 wr => ∃ (i x : Nat), i ≤ n ∧ n - i < k ∧ t6 = .int .i64 (i : Int) ∧ t5 = .int .u32 (x : Int) ∧ x < 4294967296 ∧ Hid (x = crcs x0 (l.take i)) ∧ wr = w)
  case atStart => exact ⟨0, x0, by omega, by omega, rfl, rfl, hx032, rfl, rfl⟩
  case round =>
    obtain ⟨i, x, hi, hk, rfl, rfl, hx32, HXX, rfl⟩ := hrel
    by_cases hin : i < n
    · obtain ⟨g, off, rfl, hcell⟩ := hv.spot (by omega)
      obtain ⟨b, hbi⟩ : ∃ b, l[i]? = some b := ⟨l[i]'(by have := HN.out; omega), List.getElem?_eq_getElem _⟩
      have hb256 := hb b (List.mem_of_getElem? hbi)
      have hc1 := hcell i _ (by rw [u8s_get, hbi]; rfl)
      have hi0 : (0 : Int) ≤ (i : Int) := Int.natCast_nonneg _
      have hi1 : (i : Int) < (n : Int) := by omega
      obtain ⟨z, hz⟩ : ∃ z, z = x ^^^ b := ⟨_, rfl⟩
      have hz32 : z < 4294967296 := by rw [hz]; exact Nat.xor_lt_two_pow (n := 32) hx32 (by omega)
      have hzI : bits .xor .u32 (x : Int) (b : Int) = (z : Int) := by rw [hz]; exact u32_xor_nat x b hx32 (by omega)
      have HT := hid (take_snoc'' l i b hbi)
      have HZ := hid hz
      clear hcell hbi hz
      go_wp2
      obtain ⟨gx, rfl⟩ : ∃ g, g = gk := ⟨gk, rfl⟩
      go_loopg [5, 7] 9 (fun k t5 t7 wr' => ∃ (j y : Nat), j ≤ 8 ∧ 8 - j < k ∧ t7 = .int .i64 (j : Int) ∧ t5 = .int .u32 (y : Int) ∧ y < 4294967296 ∧ Hid (y = stps j z) ∧ wr' = wr)
      case atStart => exact ⟨0, z, by omega, by omega, rfl, rfl, hz32, rfl, rfl⟩
      case round =>
        obtain ⟨j, y, hj, hk2, rfl, rfl, hy32, HY, rfl⟩ := hrel
        by_cases hj8 : j < 8
        · have hj1 : (j : Int) < 8 := by omega
          obtain ⟨y2, hy2⟩ : ∃ y2, y2 = stp y := ⟨_, rfl⟩
          have hy232 : y2 < 4294967296 := by rw [hy2]; exact stp_lt hy32
          have HY2 := hid hy2
          clear hy2
          go_wp2_with (go_at_call 54; refine (step_any y _ hy32).mono ?_; rw [← HY2.out]; rintro e w' ⟨rfl, rfl⟩)
          go_roundg (gk - 1)
          case measure => omega
          case rel => exact ⟨j + 1, y2, by omega, by omega, by go_num, rfl, hy232, by unfold Hid; rw [HY2.out, HY.out, stps_succ], rfl⟩
        · have hj1 : ¬ (j : Int) < 8 := by omega
          obtain rfl : j = 8 := by omega
          go_wp2
          go_roundg (gx - 1)
          case measure => omega
          case rel => exact ⟨i + 1, y, by omega, by omega, by go_num, rfl, hy32, by unfold Hid; rw [HT.out, crcs_snoc, ← HXX.out, ← HZ.out]; exact HY.out, rfl⟩
    · have hi1 : ¬ (i : Int) < (n : Int) := by omega
      obtain ⟨z, hz⟩ : ∃ z, z = x ^^^ 4294967295 := ⟨_, rfl⟩
      have hzI : bits .xor .u32 IntKind.u32.max (x : Int) = (z : Int) := by
        rw [hz, Nat.xor_comm]; exact u32_xor_nat 4294967295 x (by decide) hx32
      have HZ := hid hz
      clear hz
      go_wp2
      go_ret
      exact ⟨ret_intS (by rw [HZ.out, HXX.out, List.take_of_length_le (by have := HN.out; omega), HX.out]; rfl), rfl⟩

end Go.Proofs.YtkdmdbojcdonpaaGreatDoor
