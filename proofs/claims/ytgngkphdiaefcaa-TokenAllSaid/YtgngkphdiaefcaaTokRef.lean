/-
  The reference's codes of lengths and distances.
-/
import Derived.Test.YtgngkphdiaefcaaTokCodes
namespace Go.Proofs.Ytgngkphdiaefcaa
open Go.RowKit

theorem lX_form (k : Nat) (hk : k < 28) : (k < 8 ∧ lX k = 0) ∨ (8 ≤ k ∧ lX k = (k - 4) / 4) := by
  unfold lX sx
  rw [if_neg (by omega)]
  by_cases h : k < 4
  · rw [if_pos h]; omega
  · rw [if_neg h]; omega
theorem dX_form (k : Nat) (hk : k < 30) : (k < 4 ∧ dX k = 0) ∨ (4 ≤ k ∧ dX k = (k - 2) / 2) := by
  unfold dX sx
  by_cases h : k < 2
  · rw [if_pos h]; omega
  · rw [if_neg h]; omega
theorem lB_sum : ∀ k, k < 28 → lB k + 2 ^ lX k ≤ 1000 := by decide +kernel
theorem dB_sum : ∀ k, k < 30 → dB k + 2 ^ dX k ≤ 100000 := by decide +kernel
theorem refLens_any (code : Int) (w : World) :
    Calls Try.prog 13 #[.int .i64 code] w fun e w' => e = .returned (lensOf code) ∧ w = w' := by
  go_enter Try.func13, Try.ntmps13
  go_wp2
  go_loopg [5, 6] (30) (fun g t5 t6 wr => ∃ k b c : Nat, k ≤ 28 ∧ 28 - k < g ∧ t6 = .int .i64 (c : Int) ∧ c = 257 + k ∧ t5 = .int .i64 (b : Int) ∧ Hid (k < 28 → b = lB k) ∧ b ≤ 1000 ∧ (code < 257 ∨ (c : Int) ≤ code) ∧ wr = w)
  case atStart => exact ⟨0, 3, 257, by omega, by omega, rfl, rfl, rfl, hid (fun _ => by decide), by omega, by omega, rfl⟩
  case round =>
    obtain ⟨k, b, c, hk, hg, rfl, hc, rfl, HB, hb, hcode, rfl⟩ := hrel
    have hc0 : (0 : Int) ≤ (c : Int) := Int.natCast_nonneg _
    by_cases hk28 : k < 28
    · have hcI : (c : Int) ≤ 284 := by omega
      have hbk := HB.out hk28
      have hx5 := lX_le k (by omega)
      obtain ⟨x, hx⟩ : ∃ x, x = lX k := ⟨_, rfl⟩
      have HX := hid hx
      have hx5' : x ≤ 5 := by omega
      have hst : Hid (k + 1 < 28 → b + 2 ^ x = lB (k + 1)) := hid (fun h => by rw [lB_step k (by omega), ← hbk, hx])
      have hy : 2 ^ x ≤ 2 ^ 5 := Nat.pow_le_pow_right (by decide) hx5'
      obtain ⟨y, hyy⟩ : ∃ y, y = 2 ^ x := ⟨_, rfl⟩
      have hyI : (2 : Int) ^ x = (y : Int) := by rw [hyy]; push_cast; rfl
      rw [← hyy] at hy hst
      have hy32 : y ≤ 32 := by omega
      have hw1 : wrap64 (y : Int) = (y : Int) := by unfold wrap64; omega
      have hx0 : (0 : Int) ≤ (x : Int) := Int.natCast_nonneg _
      have hy0 : (0 : Int) ≤ (y : Int) := Int.natCast_nonneg _
      have hb0 : (0 : Int) ≤ (b : Int) := Int.natCast_nonneg _
      have HBD : Hid (b + y ≤ 1000) := hid (by rw [hyy, hbk, hx]; exact lB_sum k hk28)
      rcases lX_form k hk28 with ⟨hk8, hx1⟩ | ⟨hk8, hx1⟩
      · have hcI2 : ¬ 265 ≤ (c : Int) := by omega
        have hx00 : x = 0 := by omega
        have hy1 : y = 1 := by rw [hyy, hx00]
        subst hx00
        subst hy1
        by_cases hcc : (c : Int) = code
        · have HL : Hid (lensOf code = .tuple #[.int .i64 (b : Int), .int .i64 0, .bool true]) := hid (by rw [← hcc, hc, lens_at k (by omega), hbk, hx1]; rfl)
          clear hx hbk hyy HB hc
          subst hcc
          go_wp2
          go_ret3
          exact ⟨by rw [HL.out]; rfl, rfl⟩
        · have hcb : ((c : Int) == code) = false := by simp; exact hcc
          have hco : code < 257 ∨ ((c + 1 : Nat) : Int) ≤ code := by omega
          have hc1 : c + 1 = 257 + (k + 1) := by omega
          clear hx hbk hyy HB hc hcode
          go_wp2
          go_roundg (gk - 1)
          case measure => omega
          case rel => exact ⟨k + 1, b + 1, c + 1, by omega, by omega, by go_num, hc1, by go_num, hst, HBD.out, hco, rfl⟩
      · have hcI2 : 265 ≤ (c : Int) := by omega
        obtain ⟨r, hr⟩ : ∃ r : Nat, r = k - 4 := ⟨_, rfl⟩
        have hrI : (c : Int) - 261 = (r : Int) := by omega
        have hq : (r : Int) / 4 = (x : Int) := by omega
        have hr0 : (0 : Int) ≤ (r : Int) := Int.natCast_nonneg _
        clear hr
        by_cases hcc : (c : Int) = code
        · have HL : Hid (lensOf code = .tuple #[.int .i64 (b : Int), .int .i64 (x : Int), .bool true]) := hid (by rw [← hcc, hc, lens_at k (by omega), hbk, HX.out])
          clear hx hbk hyy HB hc
          subst hcc
          go_wp2
          go_ret3
          exact ⟨by rw [HL.out]; rfl, rfl⟩
        · have hcb : ((c : Int) == code) = false := by simp; exact hcc
          have hco : code < 257 ∨ ((c + 1 : Nat) : Int) ≤ code := by omega
          have hc1 : c + 1 = 257 + (k + 1) := by omega
          clear hx hbk hyy HB hc hcode
          go_wp2
          go_roundg (gk - 1)
          case measure => omega
          case rel => exact ⟨k + 1, b + y, c + 1, by omega, by omega, by go_num, hc1, by go_num, hst, HBD.out, hco, rfl⟩
    · have hcI : ¬ (c : Int) ≤ 284 := by omega
      by_cases hcc : code = 285
      · subst hcc
        have HL : Hid (lensOf 285 = .tuple #[.int .i64 258, .int .i64 0, .bool true]) := hid (by
          have := lens_at 28 (by decide)
          rw [show lB 28 = 258 by decide, show lX 28 = 0 by decide] at this
          exact this)
        go_wp2
        go_ret3
        exact ⟨by rw [HL.out]; rfl, rfl⟩
      · have hcb : (code == 285) = false := by simp; exact hcc
        have HL : Hid (lensOf code = .tuple #[.int .i64 0, .int .i64 0, .bool false]) := hid (if_pos (by omega))
        clear hcode
        go_wp2
        go_ret3
        exact ⟨by rw [HL.out]; rfl, rfl⟩
theorem refDists_any (code : Int) (w : World) :
    Calls Try.prog 15 #[.int .i64 code] w fun e w' => e = .returned (distsOf code) ∧ w = w' := by
  go_enter Try.func15, Try.ntmps15
  go_wp2
  go_loopg [5, 6] (32) (fun g t5 t6 wr => ∃ k b c : Nat, k ≤ 30 ∧ 30 - k < g ∧ t6 = .int .i64 (c : Int) ∧ c = k ∧ t5 = .int .i64 (b : Int) ∧ Hid (k < 30 → b = dB k) ∧ b ≤ 100000 ∧ (code < 0 ∨ (c : Int) ≤ code) ∧ wr = w)
  case atStart => exact ⟨0, 1, 0, by omega, by omega, rfl, rfl, rfl, hid (fun _ => by decide), by omega, by omega, rfl⟩
  case round =>
    obtain ⟨k, b, c, hk, hg, rfl, hc, rfl, HB, hb, hcode, rfl⟩ := hrel
    have hc0 : (0 : Int) ≤ (c : Int) := Int.natCast_nonneg _
    by_cases hk30 : k < 30
    · have hcI : (c : Int) < 30 := by omega
      have hbk := HB.out hk30
      have hx5 := dX_le k (by omega)
      obtain ⟨x, hx⟩ : ∃ x, x = dX k := ⟨_, rfl⟩
      have HX := hid hx
      have hx5' : x ≤ 13 := by omega
      have hst : Hid (k + 1 < 30 → b + 2 ^ x = dB (k + 1)) := hid (fun h => by rw [dB_step k (by omega), ← hbk, hx])
      have hy : 2 ^ x ≤ 2 ^ 13 := Nat.pow_le_pow_right (by decide) hx5'
      obtain ⟨y, hyy⟩ : ∃ y, y = 2 ^ x := ⟨_, rfl⟩
      have hyI : (2 : Int) ^ x = (y : Int) := by rw [hyy]; push_cast; rfl
      rw [← hyy] at hy hst
      have hy32 : y ≤ 8192 := by omega
      have hw1 : wrap64 (y : Int) = (y : Int) := by unfold wrap64; omega
      have hx0 : (0 : Int) ≤ (x : Int) := Int.natCast_nonneg _
      have hy0 : (0 : Int) ≤ (y : Int) := Int.natCast_nonneg _
      have hb0 : (0 : Int) ≤ (b : Int) := Int.natCast_nonneg _
      have HBD : Hid (b + y ≤ 100000) := hid (by rw [hyy, hbk, hx]; exact dB_sum k hk30)
      rcases dX_form k hk30 with ⟨hk4, hx1⟩ | ⟨hk4, hx1⟩
      · have hcI2 : ¬ 4 ≤ (c : Int) := by omega
        have hx00 : x = 0 := by omega
        have hy1 : y = 1 := by rw [hyy, hx00]
        subst hx00
        subst hy1
        by_cases hcc : (c : Int) = code
        · have HL : Hid (distsOf code = .tuple #[.int .i64 (b : Int), .int .i64 0, .bool true]) := hid (by rw [← hcc, hc, dists_at k (by omega), hbk, hx1]; rfl)
          clear hx hbk hyy HB hc
          subst hcc
          go_wp2
          go_ret3
          exact ⟨by rw [HL.out]; rfl, rfl⟩
        · have hcb : ((c : Int) == code) = false := by simp; exact hcc
          have hco : code < 0 ∨ ((c + 1 : Nat) : Int) ≤ code := by omega
          have hc1 : c + 1 = (k + 1) := by omega
          clear hx hbk hyy HB hc hcode
          go_wp2
          go_roundg (gk - 1)
          case measure => omega
          case rel => exact ⟨k + 1, b + 1, c + 1, by omega, by omega, by go_num, hc1, by go_num, hst, HBD.out, hco, rfl⟩
      · have hcI2 : 4 ≤ (c : Int) := by omega
        obtain ⟨r, hr⟩ : ∃ r : Nat, r = k - 2 := ⟨_, rfl⟩
        have hrI : (c : Int) - 2 = (r : Int) := by omega
        have hq : (r : Int) / 2 = (x : Int) := by omega
        have hr0 : (0 : Int) ≤ (r : Int) := Int.natCast_nonneg _
        clear hr
        by_cases hcc : (c : Int) = code
        · have HL : Hid (distsOf code = .tuple #[.int .i64 (b : Int), .int .i64 (x : Int), .bool true]) := hid (by rw [← hcc, hc, dists_at k (by omega), hbk, HX.out])
          clear hx hbk hyy HB hc
          subst hcc
          go_wp2
          go_ret3
          exact ⟨by rw [HL.out]; rfl, rfl⟩
        · have hcb : ((c : Int) == code) = false := by simp; exact hcc
          have hco : code < 0 ∨ ((c + 1 : Nat) : Int) ≤ code := by omega
          have hc1 : c + 1 = (k + 1) := by omega
          clear hx hbk hyy HB hc hcode
          go_wp2
          go_roundg (gk - 1)
          case measure => omega
          case rel => exact ⟨k + 1, b + y, c + 1, by omega, by omega, by go_num, hc1, by go_num, hst, HBD.out, hco, rfl⟩
    · have hcI : ¬ (c : Int) < 30 := by omega
      have HL : Hid (distsOf code = .tuple #[.int .i64 0, .int .i64 0, .bool false]) := hid (if_pos (by omega))
      clear hcode
      go_wp2
      go_ret3
      exact ⟨by rw [HL.out]; rfl, rfl⟩
theorem lens_at' (q k : Nat) (hq : q = 257 + k) (hk : k < 29) : lensOf (q : Int) = .tuple #[.int .i64 ((lB k : Nat) : Int), .int .i64 ((lX k : Nat) : Int), .bool true] := by subst hq; exact lens_at k hk
theorem dists_at' (q k : Nat) (hq : q = 0 + k) (hk : k < 30) : distsOf (q : Int) = .tuple #[.int .i64 ((dB k : Nat) : Int), .int .i64 ((dX k : Nat) : Int), .bool true] := by subst hq; rw [Nat.zero_add]; exact dists_at k hk
set_option maxHeartbeats 800000 in
theorem refLenCode_any (n : Int) (w : World) :
    Calls Try.prog 8 #[.int .i64 n] w fun e w' => (∃ v, e = .returned v ∧ IsLenCode n v) ∧ w = w' := by
  rcases (by omega : n < 3 ∨ (3 ≤ n ∧ 258 < n) ∨ (3 ≤ n ∧ n ≤ 258)) with h | ⟨h, h2⟩ | ⟨h, h2⟩
  · have HS : Hid (IsLenCode n (.tuple #[.int .i64 0, .int .i64 0, .int .i64 0])) := hid (.inl ⟨.inl h, rfl⟩)
    go_enter Try.func8, Try.ntmps8
    go_wp2
    go_ret3
    exact ⟨⟨_, rfl, HS.out⟩, rfl⟩
  · have HS : Hid (IsLenCode n (.tuple #[.int .i64 0, .int .i64 0, .int .i64 0])) := hid (.inl ⟨.inr h2, rfl⟩)
    have h0 : ¬ n < 3 := by omega
    go_enter Try.func8, Try.ntmps8
    go_wp2
    go_ret3
    exact ⟨⟨_, rfl, HS.out⟩, rfl⟩
  · obtain ⟨v, rfl⟩ := Int.eq_ofNat_of_zero_le (show 0 ≤ n by omega)
    have h0 : ¬ (v : Int) < 3 := by omega
    have h1 : ¬ 258 < (v : Int) := by omega
    have hv0 : (0 : Int) ≤ (v : Int) := Int.natCast_nonneg _
    go_enter Try.func8, Try.ntmps8
    go_wp2
    go_loopg [5, 6] (29 + 2) (fun g t5 t6 wr => ∃ k c b q : Nat, k ≤ 29 ∧ 29 - k < g ∧ t6 = .int .i64 (q : Int) ∧ q = 257 + k ∧ t5 = .int .i64 (b : Int) ∧ b ≤ 300 ∧ Hid (k ≠ 0 → b = 257 + c ∧ c < k ∧ lB c ≤ v ∧ ∀ d, c < d → d < k → v < lB d) ∧ wr = w)
    case atStart => exact ⟨0, 0, 0, 257, by omega, by omega, rfl, rfl, rfl, by omega, hid (fun h => absurd rfl h), rfl⟩
    case round =>
      obtain ⟨k, c, b, q, hk, hg, rfl, hq, rfl, hb, HI, rfl⟩ := hrel
      have hq0 : (0 : Int) ≤ (q : Int) := Int.natCast_nonneg _
      by_cases hkm : k < 29
      · have hqI : (q : Int) ≤ 285 := by omega
        have HC := refLens_any ((q : Nat) : Int) wr
        have hqq : ((q : Nat) : Int) = ((257 + k : Nat) : Int) := by omega
        rw [lens_at' q k hq hkm] at HC
        have HC := hid HC
        have hbk := lB_le k hkm
        obtain ⟨y, hy⟩ : ∃ y, y = lB k := ⟨_, rfl⟩
        have HY := hid hy
        rw [← hy] at HC hbk
        have hy0 : (0 : Int) ≤ (y : Int) := Int.natCast_nonneg _
        have HH : Hid (q + 1 = 257 + (k + 1)) := hid (by omega)
        have HQ := hid hq
        clear hy hqq hq
        by_cases hyv : y ≤ v
        · have hyI : (y : Int) ≤ (v : Int) := by omega
          go_wp2_with fail
          refine HC.out.mono ?_
          rintro e w1 ⟨rfl, rfl⟩
          go_wp2
          go_roundg (gk - 1)
          case measure => omega
          case rel => exact ⟨k + 1, k, q, q + 1, by omega, by omega, by go_num, HH.out, rfl, by have := HQ.out; omega, hid (fun _ => ⟨HQ.out, by omega, by rw [← HY.out]; exact hyv, fun d h1 h2 => by omega⟩), rfl⟩
        · have hyI : ¬ (y : Int) ≤ (v : Int) := by omega
          have hk0 : k ≠ 0 := by
            rintro rfl
            have := HY.out
            have e : lB 0 = 3 := by decide
            omega
          go_wp2_with fail
          refine HC.out.mono ?_
          rintro e w1 ⟨rfl, rfl⟩
          go_wp2
          go_roundg (gk - 1)
          case measure => omega
          case rel =>
            obtain ⟨i1, i2, i3, i4⟩ := HI.out hk0
            refine ⟨k + 1, c, b, q + 1, by omega, by omega, by go_num, HH.out, rfl, hb, hid (fun _ => ⟨i1, by omega, i3, fun d h1 h2 => ?_⟩), rfl⟩
            rcases Nat.lt_or_ge d k with h | h
            · exact i4 d h1 h
            · obtain rfl : d = k := by omega
              rw [← HY.out]; omega
      · have hqI : ¬ (q : Int) ≤ 285 := by omega
        obtain rfl : k = 29 := by omega
        obtain ⟨i1, i2, i3, i4⟩ := HI.out (by decide)
        have HC := refLens_any ((b : Nat) : Int) wr
        rw [lens_at' b c i1 i2] at HC
        obtain ⟨y, hy⟩ : ∃ y, y = lB c := ⟨_, rfl⟩
        obtain ⟨x, hx⟩ : ∃ x, x = lX c := ⟨_, rfl⟩
        have HY := hid hy
        have HX := hid hx
        rw [← hy, ← hx] at HC
        rw [← hy] at i3
        have HC := hid HC
        have HB := hid i1
        have hyI : (v : Int) - (y : Int) = ((v - y : Nat) : Int) := by omega
        have HS : Hid (CodeIs lB 29 v c) := hid ⟨i2, by rw [← hy]; exact i3, i4⟩
        have HZ : Hid (v - y = v - lB c) := hid (by rw [hy])
        have HR : Hid (3 ≤ v ∧ v ≤ 258) := hid (by omega)
        have hy0 : (0 : Int) ≤ (y : Int) := Int.natCast_nonneg _
        clear hy hx i1 i2 i4 HI
        go_wp2_with fail
        refine HC.out.mono ?_
        rintro e w1 ⟨rfl, rfl⟩
        go_wp2
        go_ret3
        exact ⟨⟨_, rfl, .inr ⟨v, c, b, x, v - y, rfl, HR.out.1, HR.out.2, HS.out, HB.out, HX.out, HZ.out, rfl⟩⟩, rfl⟩
set_option maxHeartbeats 800000 in
theorem refDistCode_any (n : Int) (w : World) :
    Calls Try.prog 10 #[.int .i64 n] w fun e w' => (∃ v, e = .returned v ∧ IsDistCode n v) ∧ w = w' := by
  rcases (by omega : n < 1 ∨ (1 ≤ n ∧ 32768 < n) ∨ (1 ≤ n ∧ n ≤ 32768)) with h | ⟨h, h2⟩ | ⟨h, h2⟩
  · have HS : Hid (IsDistCode n (.tuple #[.int .i64 0, .int .i64 0, .int .i64 0])) := hid (.inl ⟨.inl h, rfl⟩)
    go_enter Try.func10, Try.ntmps10
    go_wp2
    go_ret3
    exact ⟨⟨_, rfl, HS.out⟩, rfl⟩
  · have HS : Hid (IsDistCode n (.tuple #[.int .i64 0, .int .i64 0, .int .i64 0])) := hid (.inl ⟨.inr h2, rfl⟩)
    have h0 : ¬ n < 1 := by omega
    go_enter Try.func10, Try.ntmps10
    go_wp2
    go_ret3
    exact ⟨⟨_, rfl, HS.out⟩, rfl⟩
  · obtain ⟨v, rfl⟩ := Int.eq_ofNat_of_zero_le (show 0 ≤ n by omega)
    have h0 : ¬ (v : Int) < 1 := by omega
    have h1 : ¬ 32768 < (v : Int) := by omega
    have hv0 : (0 : Int) ≤ (v : Int) := Int.natCast_nonneg _
    go_enter Try.func10, Try.ntmps10
    go_wp2
    go_loopg [5, 6] (30 + 2) (fun g t5 t6 wr => ∃ k c b q : Nat, k ≤ 30 ∧ 30 - k < g ∧ t6 = .int .i64 (q : Int) ∧ q = 0 + k ∧ t5 = .int .i64 (b : Int) ∧ b ≤ 300 ∧ Hid (k ≠ 0 → b = 0 + c ∧ c < k ∧ dB c ≤ v ∧ ∀ d, c < d → d < k → v < dB d) ∧ wr = w)
    case atStart => exact ⟨0, 0, 0, 0, by omega, by omega, rfl, rfl, rfl, by omega, hid (fun h => absurd rfl h), rfl⟩
    case round =>
      obtain ⟨k, c, b, q, hk, hg, rfl, hq, rfl, hb, HI, rfl⟩ := hrel
      have hq0 : (0 : Int) ≤ (q : Int) := Int.natCast_nonneg _
      by_cases hkm : k < 30
      · have hqI : (q : Int) < 30 := by omega
        have HC := refDists_any ((q : Nat) : Int) wr
        have hqq : ((q : Nat) : Int) = ((0 + k : Nat) : Int) := by omega
        rw [dists_at' q k hq hkm] at HC
        have HC := hid HC
        have hbk := dB_le k hkm
        obtain ⟨y, hy⟩ : ∃ y, y = dB k := ⟨_, rfl⟩
        have HY := hid hy
        rw [← hy] at HC hbk
        have hy0 : (0 : Int) ≤ (y : Int) := Int.natCast_nonneg _
        have HH : Hid (q + 1 = 0 + (k + 1)) := hid (by omega)
        have HQ := hid hq
        clear hy hqq hq
        by_cases hyv : y ≤ v
        · have hyI : (y : Int) ≤ (v : Int) := by omega
          go_wp2_with fail
          refine HC.out.mono ?_
          rintro e w1 ⟨rfl, rfl⟩
          go_wp2
          go_roundg (gk - 1)
          case measure => omega
          case rel => exact ⟨k + 1, k, q, q + 1, by omega, by omega, by go_num, HH.out, rfl, by have := HQ.out; omega, hid (fun _ => ⟨HQ.out, by omega, by rw [← HY.out]; exact hyv, fun d h1 h2 => by omega⟩), rfl⟩
        · have hyI : ¬ (y : Int) ≤ (v : Int) := by omega
          have hk0 : k ≠ 0 := by
            rintro rfl
            have := HY.out
            have e : dB 0 = 1 := by decide
            omega
          go_wp2_with fail
          refine HC.out.mono ?_
          rintro e w1 ⟨rfl, rfl⟩
          go_wp2
          go_roundg (gk - 1)
          case measure => omega
          case rel =>
            obtain ⟨i1, i2, i3, i4⟩ := HI.out hk0
            refine ⟨k + 1, c, b, q + 1, by omega, by omega, by go_num, HH.out, rfl, hb, hid (fun _ => ⟨i1, by omega, i3, fun d h1 h2 => ?_⟩), rfl⟩
            rcases Nat.lt_or_ge d k with h | h
            · exact i4 d h1 h
            · obtain rfl : d = k := by omega
              rw [← HY.out]; omega
      · have hqI : ¬ (q : Int) < 30 := by omega
        obtain rfl : k = 30 := by omega
        obtain ⟨i1, i2, i3, i4⟩ := HI.out (by decide)
        have HC := refDists_any ((b : Nat) : Int) wr
        rw [dists_at' b c i1 i2] at HC
        obtain ⟨y, hy⟩ : ∃ y, y = dB c := ⟨_, rfl⟩
        obtain ⟨x, hx⟩ : ∃ x, x = dX c := ⟨_, rfl⟩
        have HY := hid hy
        have HX := hid hx
        rw [← hy, ← hx] at HC
        rw [← hy] at i3
        have HC := hid HC
        have HB := hid i1
        have hyI : (v : Int) - (y : Int) = ((v - y : Nat) : Int) := by omega
        have HS : Hid (CodeIs dB 30 v c) := hid ⟨i2, by rw [← hy]; exact i3, i4⟩
        have HZ : Hid (v - y = v - dB c) := hid (by rw [hy])
        have HR : Hid (1 ≤ v ∧ v ≤ 32768) := hid (by omega)
        have hy0 : (0 : Int) ≤ (y : Int) := Int.natCast_nonneg _
        clear hy hx i1 i2 i4 HI
        go_wp2_with fail
        refine HC.out.mono ?_
        rintro e w1 ⟨rfl, rfl⟩
        go_wp2
        go_ret3
        exact ⟨⟨_, rfl, .inr ⟨v, c, b, x, v - y, rfl, HR.out.1, HR.out.2, HS.out, HB.out, HX.out, HZ.out, rfl⟩⟩, rfl⟩
end Go.Proofs.Ytgngkphdiaefcaa
