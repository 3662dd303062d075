/-
  The model of tokens, case by case. No program is named here.
-/
import Derived.Test.YtmmfkppkmgjljaaDoorZE04
import Derived.Test.YtmmfkppkmgjljaaDoorZE03
import Derived.Test.YtmmfkppkmgjljaaDoorZE08
import Derived.Deep.RegionHeld3
namespace Go.Proofs.YtmmfkppkmgjljaaDoor
set_option maxRecDepth 5000
section
variable {lit dist : List Int} {bs : List Nat} {M a k n e : Nat} {out : List Nat} {tk : List Tok}
theorem step_err (h : symF lit (bs.drop a) = (k, n, e)) (he : e ≠ 0) : stepF lit dist bs M a out tk = (true, e, a, out, tk) := by
  unfold stepF; rw [h]; exact if_pos he
theorem step_end (h : symF lit (bs.drop a) = (256, n, 0)) : stepF lit dist bs M a out tk = (true, 0, a + n, out, tk) := by
  unfold stepF; rw [h]; rfl
theorem step_litcap (h : symF lit (bs.drop a) = (k, n, 0)) (hk : k < 256) (hM : M ≤ out.length) : stepF lit dist bs M a out tk = (true, 6, a + n, out, tk ++ [((k : Int), 0, 0)]) := by
  unfold stepF; rw [h]
  dsimp only
  rw [if_neg (fun h => h rfl), if_neg (by omega), if_pos hk, if_pos hM]
theorem step_lit (h : symF lit (bs.drop a) = (k, n, 0)) (hk : k < 256) (hM : ¬ M ≤ out.length) : stepF lit dist bs M a out tk = (false, 0, a + n, out ++ [k], tk ++ [((k : Int), 0, 0)]) := by
  unfold stepF; rw [h]
  dsimp only
  rw [if_neg (fun h => h rfl), if_neg (by omega), if_pos hk, if_neg hM]
theorem step_badlen (h : symF lit (bs.drop a) = (k, n, 0)) (hk : 285 < k) : stepF lit dist bs M a out tk = (true, 3, a + n, out, tk) := by
  unfold stepF; rw [h]
  dsimp only
  rw [if_neg (fun h => h rfl), if_neg (by omega), if_neg (by omega), if_pos hk]
theorem step_len (h : symF lit (bs.drop a) = (k, n, 0)) (hk : 256 < k) (hk2 : k ≤ 285) : stepF lit dist bs M a out tk = stepF.matchF dist bs M (a + n) (k - 257) out tk := by
  unfold stepF; rw [h]
  dsimp only
  rw [if_neg (fun h => h rfl), if_neg (by omega), if_neg (by omega), if_neg (by omega)]
variable {a1 c more k2 n2 e2 : Nat}
theorem match_end (ht : takeM bs a1 (lX c) = none) : stepF.matchF dist bs M a1 c out tk = (true, 5, a1, out, tk) := by
  unfold stepF.matchF; rw [ht]
theorem match_err (ht : takeM bs a1 (lX c) = some more) (h2 : symF dist (bs.drop (a1 + lX c)) = (k2, n2, e2)) (he : e2 ≠ 0) : stepF.matchF dist bs M a1 c out tk = (true, e2, a1 + lX c, out, tk) := by
  unfold stepF.matchF; rw [ht, h2]; exact if_pos he
theorem match_far (ht : takeM bs a1 (lX c) = some more) (h2 : symF dist (bs.drop (a1 + lX c)) = (k2, n2, 0)) : stepF.matchF dist bs M a1 c out tk = stepF.farF bs M (a1 + lX c + n2) k2 (lB c + more) out tk := by
  unfold stepF.matchF; rw [ht, h2]; exact if_neg (fun h => h rfl)
variable {a3 q L far : Nat}
theorem far_bad (h : 29 < q) : stepF.farF bs M a3 q L out tk = (true, 3, a3, out, tk) := by
  unfold stepF.farF; exact if_pos h
theorem far_end (h : ¬ 29 < q) (ht : takeM bs a3 (dX q) = none) : stepF.farF bs M a3 q L out tk = (true, 5, a3, out, tk) := by
  unfold stepF.farF; rw [if_neg h, ht]
theorem far_far (h : ¬ 29 < q) (ht : takeM bs a3 (dX q) = some far) (hd : out.length < dB q + far) : stepF.farF bs M a3 q L out tk = (true, 3, a3 + dX q, out, tk) := by
  unfold stepF.farF; rw [if_neg h, ht]; exact if_pos hd
theorem far_cap (h : ¬ 29 < q) (ht : takeM bs a3 (dX q) = some far) (hd : ¬ out.length < dB q + far) (hM : M < out.length + L) : stepF.farF bs M a3 q L out tk = (true, 6, a3 + dX q, ext out (dB q + far) (M - out.length), tk ++ [(0, (L : Int), ((dB q + far : Nat) : Int))]) := by
  unfold stepF.farF; rw [if_neg h, ht]
  dsimp only
  rw [if_neg hd, if_pos hM]
theorem far_ok (h : ¬ 29 < q) (ht : takeM bs a3 (dX q) = some far) (hd : ¬ out.length < dB q + far) (hM : ¬ M < out.length + L) : stepF.farF bs M a3 q L out tk = (false, 0, a3 + dX q, ext out (dB q + far) L, tk ++ [(0, (L : Int), ((dB q + far : Nat) : Int))]) := by
  unfold stepF.farF; rw [if_neg h, ht]
  dsimp only
  rw [if_neg hd, if_neg hM]
end
end Go.Proofs.YtmmfkppkmgjljaaDoor
/-
  The reference's codes of lengths and distances.
-/
namespace Go.Proofs.YtmmfkppkmgjljaaDoor
set_option maxRecDepth 5000
open Go.RowKit
theorem lX_form (k : Nat) (hk : k < 28) : (k < 8 ∧ lX k = 0) ∨ (8 ≤ k ∧ lX k = (k - 4) / 4) := by
  unfold lX sx
  rw [if_neg (by omega)]
  by_cases h : k < 4
  · rw [if_pos h]; omega
  · rw [if_neg h]; omega
theorem dX_form (k : Nat) (hk : k < 30) : (k < 4 ∧ dX k = 0) ∨ (4 ≤ k ∧ dX k = (k - 2) / 2) := by
  unfold dX sx
  by_cases h : k < 2
  · rw [if_pos h]; omega
  · rw [if_neg h]; omega
theorem lB_sum : ∀ k, k < 28 → lB k + 2 ^ lX k ≤ 1000 := by decide +kernel
theorem dB_sum : ∀ k, k < 30 → dB k + 2 ^ dX k ≤ 100000 := by decide +kernel
theorem refLens_any (code : Int) (w : World) :
    Calls Tryd.prog 38 #[.int .i64 code] w fun e w' => e = .returned (lensOf code) ∧ w = w' := by
  go_enter Tryd.func38, Tryd.ntmps38
  go_wp2
  go_loopg [5, 6] (30) (fun g t5 t6 wr => ∃ k b c : Nat, k ≤ 28 ∧ 28 - k < g ∧ t6 = .int .i64 (c : Int) ∧ c = 257 + k ∧ t5 = .int .i64 (b : Int) ∧ Hid (k < 28 → b = lB k) ∧ b ≤ 1000 ∧ (code < 257 ∨ (c : Int) ≤ code) ∧ wr = w)
  case atStart => exact ⟨0, 3, 257, by omega, by omega, rfl, rfl, rfl, hid (fun _ => by decide), by omega, by omega, rfl⟩
  case round =>
    obtain ⟨k, b, c, hk, hg, rfl, hc, rfl, HB, hb, hcode, rfl⟩ := hrel
    have hc0 : (0 : Int) ≤ (c : Int) := Int.natCast_nonneg _
    by_cases hk28 : k < 28
    · have hcI : (c : Int) ≤ 284 := by omega
      have hbk := HB.out hk28
      have hx5 := lX_le k (by omega)
      obtain ⟨x, hx⟩ : ∃ x, x = lX k := ⟨_, rfl⟩
      have HX := hid hx
      have hx5' : x ≤ 5 := by omega
      have hst : Hid (k + 1 < 28 → b + 2 ^ x = lB (k + 1)) := hid (fun h => by rw [lB_step k (by omega), ← hbk, hx])
      have hy : 2 ^ x ≤ 2 ^ 5 := Nat.pow_le_pow_right (by decide) hx5'
      obtain ⟨y, hyy⟩ : ∃ y, y = 2 ^ x := ⟨_, rfl⟩
      have hyI : (2 : Int) ^ x = (y : Int) := by rw [hyy]; push_cast; rfl
      rw [← hyy] at hy hst
      have hy32 : y ≤ 32 := by omega
      have hw1 : wrap64 (y : Int) = (y : Int) := by unfold wrap64; omega
      have hx0 : (0 : Int) ≤ (x : Int) := Int.natCast_nonneg _
      have hy0 : (0 : Int) ≤ (y : Int) := Int.natCast_nonneg _
      have hb0 : (0 : Int) ≤ (b : Int) := Int.natCast_nonneg _
      have HBD : Hid (b + y ≤ 1000) := hid (by rw [hyy, hbk, hx]; exact lB_sum k hk28)
      rcases lX_form k hk28 with ⟨hk8, hx1⟩ | ⟨hk8, hx1⟩
      · have hcI2 : ¬ 265 ≤ (c : Int) := by omega
        have hx00 : x = 0 := by omega
        have hy1 : y = 1 := by rw [hyy, hx00]
        subst hx00
        subst hy1
        by_cases hcc : (c : Int) = code
        · have HL : Hid (lensOf code = .tuple #[.int .i64 (b : Int), .int .i64 0, .bool true]) := hid (by rw [← hcc, hc, lens_at k (by omega), hbk, hx1]; rfl)
          clear hx hbk hyy HB hc
          subst hcc
          go_wp2
          go_ret3
          exact ⟨by rw [HL.out]; rfl, rfl⟩
        · have hcb : ((c : Int) == code) = false := by simp; exact hcc
          have hco : code < 257 ∨ ((c + 1 : Nat) : Int) ≤ code := by omega
          have hc1 : c + 1 = 257 + (k + 1) := by omega
          clear hx hbk hyy HB hc hcode
          go_wp2
          go_roundg (gk - 1)
          case measure => omega
          case rel => exact ⟨k + 1, b + 1, c + 1, by omega, by omega, by go_num, hc1, by go_num, hst, HBD.out, hco, rfl⟩
      · have hcI2 : 265 ≤ (c : Int) := by omega
        obtain ⟨r, hr⟩ : ∃ r : Nat, r = k - 4 := ⟨_, rfl⟩
        have hrI : (c : Int) - 261 = (r : Int) := by omega
        have hq : (r : Int) / 4 = (x : Int) := by omega
        have hr0 : (0 : Int) ≤ (r : Int) := Int.natCast_nonneg _
        clear hr
        by_cases hcc : (c : Int) = code
        · have HL : Hid (lensOf code = .tuple #[.int .i64 (b : Int), .int .i64 (x : Int), .bool true]) := hid (by rw [← hcc, hc, lens_at k (by omega), hbk, HX.out])
          clear hx hbk hyy HB hc
          subst hcc
          go_wp2
          go_ret3
          exact ⟨by rw [HL.out]; rfl, rfl⟩
        · have hcb : ((c : Int) == code) = false := by simp; exact hcc
          have hco : code < 257 ∨ ((c + 1 : Nat) : Int) ≤ code := by omega
          have hc1 : c + 1 = 257 + (k + 1) := by omega
          clear hx hbk hyy HB hc hcode
          go_wp2
          go_roundg (gk - 1)
          case measure => omega
          case rel => exact ⟨k + 1, b + y, c + 1, by omega, by omega, by go_num, hc1, by go_num, hst, HBD.out, hco, rfl⟩
    · have hcI : ¬ (c : Int) ≤ 284 := by omega
      by_cases hcc : code = 285
      · subst hcc
        have HL : Hid (lensOf 285 = .tuple #[.int .i64 258, .int .i64 0, .bool true]) := hid (by
          have := lens_at 28 (by decide)
          rw [show lB 28 = 258 by decide, show lX 28 = 0 by decide] at this
          exact this)
        go_wp2
        go_ret3
        exact ⟨by rw [HL.out]; rfl, rfl⟩
      · have hcb : (code == 285) = false := by simp; exact hcc
        have HL : Hid (lensOf code = .tuple #[.int .i64 0, .int .i64 0, .bool false]) := hid (if_pos (by omega))
        clear hcode
        go_wp2
        go_ret3
        exact ⟨by rw [HL.out]; rfl, rfl⟩
theorem refDists_any (code : Int) (w : World) :
    Calls Tryd.prog 39 #[.int .i64 code] w fun e w' => e = .returned (distsOf code) ∧ w = w' := by
  go_enter Tryd.func39, Tryd.ntmps39
  go_wp2
  go_loopg [5, 6] (32) (fun g t5 t6 wr => ∃ k b c : Nat, k ≤ 30 ∧ 30 - k < g ∧ t6 = .int .i64 (c : Int) ∧ c = k ∧ t5 = .int .i64 (b : Int) ∧ Hid (k < 30 → b = dB k) ∧ b ≤ 100000 ∧ (code < 0 ∨ (c : Int) ≤ code) ∧ wr = w)
  case atStart => exact ⟨0, 1, 0, by omega, by omega, rfl, rfl, rfl, hid (fun _ => by decide), by omega, by omega, rfl⟩
  case round =>
    obtain ⟨k, b, c, hk, hg, rfl, hc, rfl, HB, hb, hcode, rfl⟩ := hrel
    have hc0 : (0 : Int) ≤ (c : Int) := Int.natCast_nonneg _
    by_cases hk30 : k < 30
    · have hcI : (c : Int) < 30 := by omega
      have hbk := HB.out hk30
      have hx5 := dX_le k (by omega)
      obtain ⟨x, hx⟩ : ∃ x, x = dX k := ⟨_, rfl⟩
      have HX := hid hx
      have hx5' : x ≤ 13 := by omega
      have hst : Hid (k + 1 < 30 → b + 2 ^ x = dB (k + 1)) := hid (fun h => by rw [dB_step k (by omega), ← hbk, hx])
      have hy : 2 ^ x ≤ 2 ^ 13 := Nat.pow_le_pow_right (by decide) hx5'
      obtain ⟨y, hyy⟩ : ∃ y, y = 2 ^ x := ⟨_, rfl⟩
      have hyI : (2 : Int) ^ x = (y : Int) := by rw [hyy]; push_cast; rfl
      rw [← hyy] at hy hst
      have hy32 : y ≤ 8192 := by omega
      have hw1 : wrap64 (y : Int) = (y : Int) := by unfold wrap64; omega
      have hx0 : (0 : Int) ≤ (x : Int) := Int.natCast_nonneg _
      have hy0 : (0 : Int) ≤ (y : Int) := Int.natCast_nonneg _
      have hb0 : (0 : Int) ≤ (b : Int) := Int.natCast_nonneg _
      have HBD : Hid (b + y ≤ 100000) := hid (by rw [hyy, hbk, hx]; exact dB_sum k hk30)
      rcases dX_form k hk30 with ⟨hk4, hx1⟩ | ⟨hk4, hx1⟩
      · have hcI2 : ¬ 4 ≤ (c : Int) := by omega
        have hx00 : x = 0 := by omega
        have hy1 : y = 1 := by rw [hyy, hx00]
        subst hx00
        subst hy1
        by_cases hcc : (c : Int) = code
        · have HL : Hid (distsOf code = .tuple #[.int .i64 (b : Int), .int .i64 0, .bool true]) := hid (by rw [← hcc, hc, dists_at k (by omega), hbk, hx1]; rfl)
          clear hx hbk hyy HB hc
          subst hcc
          go_wp2
          go_ret3
          exact ⟨by rw [HL.out]; rfl, rfl⟩
        · have hcb : ((c : Int) == code) = false := by simp; exact hcc
          have hco : code < 0 ∨ ((c + 1 : Nat) : Int) ≤ code := by omega
          have hc1 : c + 1 = (k + 1) := by omega
          clear hx hbk hyy HB hc hcode
          go_wp2
          go_roundg (gk - 1)
          case measure => omega
          case rel => exact ⟨k + 1, b + 1, c + 1, by omega, by omega, by go_num, hc1, by go_num, hst, HBD.out, hco, rfl⟩
      · have hcI2 : 4 ≤ (c : Int) := by omega
        obtain ⟨r, hr⟩ : ∃ r : Nat, r = k - 2 := ⟨_, rfl⟩
        have hrI : (c : Int) - 2 = (r : Int) := by omega
        have hq : (r : Int) / 2 = (x : Int) := by omega
        have hr0 : (0 : Int) ≤ (r : Int) := Int.natCast_nonneg _
        clear hr
        by_cases hcc : (c : Int) = code
        · have HL : Hid (distsOf code = .tuple #[.int .i64 (b : Int), .int .i64 (x : Int), .bool true]) := hid (by rw [← hcc, hc, dists_at k (by omega), hbk, HX.out])
          clear hx hbk hyy HB hc
          subst hcc
          go_wp2
          go_ret3
          exact ⟨by rw [HL.out]; rfl, rfl⟩
        · have hcb : ((c : Int) == code) = false := by simp; exact hcc
          have hco : code < 0 ∨ ((c + 1 : Nat) : Int) ≤ code := by omega
          have hc1 : c + 1 = (k + 1) := by omega
          clear hx hbk hyy HB hc hcode
          go_wp2
          go_roundg (gk - 1)
          case measure => omega
          case rel => exact ⟨k + 1, b + y, c + 1, by omega, by omega, by go_num, hc1, by go_num, hst, HBD.out, hco, rfl⟩
    · have hcI : ¬ (c : Int) < 30 := by omega
      have HL : Hid (distsOf code = .tuple #[.int .i64 0, .int .i64 0, .bool false]) := hid (if_pos (by omega))
      clear hcode
      go_wp2
      go_ret3
      exact ⟨by rw [HL.out]; rfl, rfl⟩
theorem lens_at' (q k : Nat) (hq : q = 257 + k) (hk : k < 29) : lensOf (q : Int) = .tuple #[.int .i64 ((lB k : Nat) : Int), .int .i64 ((lX k : Nat) : Int), .bool true] := by subst hq; exact lens_at k hk
theorem dists_at' (q k : Nat) (hq : q = 0 + k) (hk : k < 30) : distsOf (q : Int) = .tuple #[.int .i64 ((dB k : Nat) : Int), .int .i64 ((dX k : Nat) : Int), .bool true] := by subst hq; rw [Nat.zero_add]; exact dists_at k hk
set_option maxHeartbeats 800000 in
theorem refLenCode_any (n : Int) (w : World) :
    Calls Tryd.prog 31 #[.int .i64 n] w fun e w' => (∃ v, e = .returned v ∧ IsLenCode n v) ∧ w = w' := by
  rcases (by omega : n < 3 ∨ (3 ≤ n ∧ 258 < n) ∨ (3 ≤ n ∧ n ≤ 258)) with h | ⟨h, h2⟩ | ⟨h, h2⟩
  · have HS : Hid (IsLenCode n (.tuple #[.int .i64 0, .int .i64 0, .int .i64 0])) := hid (.inl ⟨.inl h, rfl⟩)
    go_enter Tryd.func31, Tryd.ntmps31
    go_wp2
    go_ret3
    exact ⟨⟨_, rfl, HS.out⟩, rfl⟩
  · have HS : Hid (IsLenCode n (.tuple #[.int .i64 0, .int .i64 0, .int .i64 0])) := hid (.inl ⟨.inr h2, rfl⟩)
    have h0 : ¬ n < 3 := by omega
    go_enter Tryd.func31, Tryd.ntmps31
    go_wp2
    go_ret3
    exact ⟨⟨_, rfl, HS.out⟩, rfl⟩
  · obtain ⟨v, rfl⟩ := Int.eq_ofNat_of_zero_le (show 0 ≤ n by omega)
    have h0 : ¬ (v : Int) < 3 := by omega
    have h1 : ¬ 258 < (v : Int) := by omega
    have hv0 : (0 : Int) ≤ (v : Int) := Int.natCast_nonneg _
    go_enter Tryd.func31, Tryd.ntmps31
    go_wp2
    go_loopg [5, 6] (29 + 2) (fun g t5 t6 wr => ∃ k c b q : Nat, k ≤ 29 ∧ 29 - k < g ∧ t6 = .int .i64 (q : Int) ∧ q = 257 + k ∧ t5 = .int .i64 (b : Int) ∧ b ≤ 300 ∧ Hid (k ≠ 0 → b = 257 + c ∧ c < k ∧ lB c ≤ v ∧ ∀ d, c < d → d < k → v < lB d) ∧ wr = w)
    case atStart => exact ⟨0, 0, 0, 257, by omega, by omega, rfl, rfl, rfl, by omega, hid (fun h => absurd rfl h), rfl⟩
    case round =>
      obtain ⟨k, c, b, q, hk, hg, rfl, hq, rfl, hb, HI, rfl⟩ := hrel
      have hq0 : (0 : Int) ≤ (q : Int) := Int.natCast_nonneg _
      by_cases hkm : k < 29
      · have hqI : (q : Int) ≤ 285 := by omega
        have HC := refLens_any ((q : Nat) : Int) wr
        have hqq : ((q : Nat) : Int) = ((257 + k : Nat) : Int) := by omega
        rw [lens_at' q k hq hkm] at HC
        have HC := hid HC
        have hbk := lB_le k hkm
        obtain ⟨y, hy⟩ : ∃ y, y = lB k := ⟨_, rfl⟩
        have HY := hid hy
        rw [← hy] at HC hbk
        have hy0 : (0 : Int) ≤ (y : Int) := Int.natCast_nonneg _
        have HH : Hid (q + 1 = 257 + (k + 1)) := hid (by omega)
        have HQ := hid hq
        clear hy hqq hq
        by_cases hyv : y ≤ v
        · have hyI : (y : Int) ≤ (v : Int) := by omega
          go_wp2_with fail
          refine HC.out.mono ?_
          rintro e w1 ⟨rfl, rfl⟩
          go_wp2
          go_roundg (gk - 1)
          case measure => omega
          case rel => exact ⟨k + 1, k, q, q + 1, by omega, by omega, by go_num, HH.out, rfl, by have := HQ.out; omega, hid (fun _ => ⟨HQ.out, by omega, by rw [← HY.out]; exact hyv, fun d h1 h2 => by omega⟩), rfl⟩
        · have hyI : ¬ (y : Int) ≤ (v : Int) := by omega
          have hk0 : k ≠ 0 := by
            rintro rfl
            have := HY.out
            have e : lB 0 = 3 := by decide
            omega
          go_wp2_with fail
          refine HC.out.mono ?_
          rintro e w1 ⟨rfl, rfl⟩
          go_wp2
          go_roundg (gk - 1)
          case measure => omega
          case rel =>
            obtain ⟨i1, i2, i3, i4⟩ := HI.out hk0
            refine ⟨k + 1, c, b, q + 1, by omega, by omega, by go_num, HH.out, rfl, hb, hid (fun _ => ⟨i1, by omega, i3, fun d h1 h2 => ?_⟩), rfl⟩
            rcases Nat.lt_or_ge d k with h | h
            · exact i4 d h1 h
            · obtain rfl : d = k := by omega
              rw [← HY.out]; omega
      · have hqI : ¬ (q : Int) ≤ 285 := by omega
        obtain rfl : k = 29 := by omega
        obtain ⟨i1, i2, i3, i4⟩ := HI.out (by decide)
        have HC := refLens_any ((b : Nat) : Int) wr
        rw [lens_at' b c i1 i2] at HC
        obtain ⟨y, hy⟩ : ∃ y, y = lB c := ⟨_, rfl⟩
        obtain ⟨x, hx⟩ : ∃ x, x = lX c := ⟨_, rfl⟩
        have HY := hid hy
        have HX := hid hx
        rw [← hy, ← hx] at HC
        rw [← hy] at i3
        have HC := hid HC
        have HB := hid i1
        have hyI : (v : Int) - (y : Int) = ((v - y : Nat) : Int) := by omega
        have HS : Hid (CodeIs lB 29 v c) := hid ⟨i2, by rw [← hy]; exact i3, i4⟩
        have HZ : Hid (v - y = v - lB c) := hid (by rw [hy])
        have HR : Hid (3 ≤ v ∧ v ≤ 258) := hid (by omega)
        have hy0 : (0 : Int) ≤ (y : Int) := Int.natCast_nonneg _
        clear hy hx i1 i2 i4 HI
        go_wp2_with fail
        refine HC.out.mono ?_
        rintro e w1 ⟨rfl, rfl⟩
        go_wp2
        go_ret3
        exact ⟨⟨_, rfl, .inr ⟨v, c, b, x, v - y, rfl, HR.out.1, HR.out.2, HS.out, HB.out, HX.out, HZ.out, rfl⟩⟩, rfl⟩
set_option maxHeartbeats 800000 in
theorem refDistCode_any (n : Int) (w : World) :
    Calls Tryd.prog 33 #[.int .i64 n] w fun e w' => (∃ v, e = .returned v ∧ IsDistCode n v) ∧ w = w' := by
  rcases (by omega : n < 1 ∨ (1 ≤ n ∧ 32768 < n) ∨ (1 ≤ n ∧ n ≤ 32768)) with h | ⟨h, h2⟩ | ⟨h, h2⟩
  · have HS : Hid (IsDistCode n (.tuple #[.int .i64 0, .int .i64 0, .int .i64 0])) := hid (.inl ⟨.inl h, rfl⟩)
    go_enter Tryd.func33, Tryd.ntmps33
    go_wp2
    go_ret3
    exact ⟨⟨_, rfl, HS.out⟩, rfl⟩
  · have HS : Hid (IsDistCode n (.tuple #[.int .i64 0, .int .i64 0, .int .i64 0])) := hid (.inl ⟨.inr h2, rfl⟩)
    have h0 : ¬ n < 1 := by omega
    go_enter Tryd.func33, Tryd.ntmps33
    go_wp2
    go_ret3
    exact ⟨⟨_, rfl, HS.out⟩, rfl⟩
  · obtain ⟨v, rfl⟩ := Int.eq_ofNat_of_zero_le (show 0 ≤ n by omega)
    have h0 : ¬ (v : Int) < 1 := by omega
    have h1 : ¬ 32768 < (v : Int) := by omega
    have hv0 : (0 : Int) ≤ (v : Int) := Int.natCast_nonneg _
    go_enter Tryd.func33, Tryd.ntmps33
    go_wp2
    go_loopg [5, 6] (30 + 2) (fun g t5 t6 wr => ∃ k c b q : Nat, k ≤ 30 ∧ 30 - k < g ∧ t6 = .int .i64 (q : Int) ∧ q = 0 + k ∧ t5 = .int .i64 (b : Int) ∧ b ≤ 300 ∧ Hid (k ≠ 0 → b = 0 + c ∧ c < k ∧ dB c ≤ v ∧ ∀ d, c < d → d < k → v < dB d) ∧ wr = w)
    case atStart => exact ⟨0, 0, 0, 0, by omega, by omega, rfl, rfl, rfl, by omega, hid (fun h => absurd rfl h), rfl⟩
    case round =>
      obtain ⟨k, c, b, q, hk, hg, rfl, hq, rfl, hb, HI, rfl⟩ := hrel
      have hq0 : (0 : Int) ≤ (q : Int) := Int.natCast_nonneg _
      by_cases hkm : k < 30
      · have hqI : (q : Int) < 30 := by omega
        have HC := refDists_any ((q : Nat) : Int) wr
        have hqq : ((q : Nat) : Int) = ((0 + k : Nat) : Int) := by omega
        rw [dists_at' q k hq hkm] at HC
        have HC := hid HC
        have hbk := dB_le k hkm
        obtain ⟨y, hy⟩ : ∃ y, y = dB k := ⟨_, rfl⟩
        have HY := hid hy
        rw [← hy] at HC hbk
        have hy0 : (0 : Int) ≤ (y : Int) := Int.natCast_nonneg _
        have HH : Hid (q + 1 = 0 + (k + 1)) := hid (by omega)
        have HQ := hid hq
        clear hy hqq hq
        by_cases hyv : y ≤ v
        · have hyI : (y : Int) ≤ (v : Int) := by omega
          go_wp2_with fail
          refine HC.out.mono ?_
          rintro e w1 ⟨rfl, rfl⟩
          go_wp2
          go_roundg (gk - 1)
          case measure => omega
          case rel => exact ⟨k + 1, k, q, q + 1, by omega, by omega, by go_num, HH.out, rfl, by have := HQ.out; omega, hid (fun _ => ⟨HQ.out, by omega, by rw [← HY.out]; exact hyv, fun d h1 h2 => by omega⟩), rfl⟩
        · have hyI : ¬ (y : Int) ≤ (v : Int) := by omega
          have hk0 : k ≠ 0 := by
            rintro rfl
            have := HY.out
            have e : dB 0 = 1 := by decide
            omega
          go_wp2_with fail
          refine HC.out.mono ?_
          rintro e w1 ⟨rfl, rfl⟩
          go_wp2
          go_roundg (gk - 1)
          case measure => omega
          case rel =>
            obtain ⟨i1, i2, i3, i4⟩ := HI.out hk0
            refine ⟨k + 1, c, b, q + 1, by omega, by omega, by go_num, HH.out, rfl, hb, hid (fun _ => ⟨i1, by omega, i3, fun d h1 h2 => ?_⟩), rfl⟩
            rcases Nat.lt_or_ge d k with h | h
            · exact i4 d h1 h
            · obtain rfl : d = k := by omega
              rw [← HY.out]; omega
      · have hqI : ¬ (q : Int) < 30 := by omega
        obtain rfl : k = 30 := by omega
        obtain ⟨i1, i2, i3, i4⟩ := HI.out (by decide)
        have HC := refDists_any ((b : Nat) : Int) wr
        rw [dists_at' b c i1 i2] at HC
        obtain ⟨y, hy⟩ : ∃ y, y = dB c := ⟨_, rfl⟩
        obtain ⟨x, hx⟩ : ∃ x, x = dX c := ⟨_, rfl⟩
        have HY := hid hy
        have HX := hid hx
        rw [← hy, ← hx] at HC
        rw [← hy] at i3
        have HC := hid HC
        have HB := hid i1
        have hyI : (v : Int) - (y : Int) = ((v - y : Nat) : Int) := by omega
        have HS : Hid (CodeIs dB 30 v c) := hid ⟨i2, by rw [← hy]; exact i3, i4⟩
        have HZ : Hid (v - y = v - dB c) := hid (by rw [hy])
        have HR : Hid (1 ≤ v ∧ v ≤ 32768) := hid (by omega)
        have hy0 : (0 : Int) ≤ (y : Int) := Int.natCast_nonneg _
        clear hy hx i1 i2 i4 HI
        go_wp2_with fail
        refine HC.out.mono ?_
        rintro e w1 ⟨rfl, rfl⟩
        go_wp2
        go_ret3
        exact ⟨⟨_, rfl, .inr ⟨v, c, b, x, v - y, rfl, HR.out.1, HR.out.2, HS.out, HB.out, HX.out, HZ.out, rfl⟩⟩, rfl⟩
end Go.Proofs.YtmmfkppkmgjljaaDoor
/-
  The reference's stream: a block's tokens.
-/
namespace Go.Proofs.YtmmfkppkmgjljaaDoor
set_option maxRecDepth 5000
open Go.RowKit
section
variable {w0 w : World} {Rs : List Thing}
theorem Held.fifth {R1 R2 R3 R4 R5 : Thing} (h : Held w0 w (R1 :: R2 :: R3 :: R4 :: R5 :: Rs)) : Held w0 w (R5 :: R1 :: R2 :: R3 :: R4 :: Rs) := h.perm (List.perm_middle (l₁ := [R1, R2, R3, R4]))
theorem Held.seventh {R1 R2 R3 R4 R5 R6 R7 : Thing} (h : Held w0 w (R1 :: R2 :: R3 :: R4 :: R5 :: R6 :: R7 :: Rs)) : Held w0 w (R7 :: R1 :: R2 :: R3 :: R4 :: R5 :: R6 :: Rs) := h.perm (List.perm_middle (l₁ := [R1, R2, R3, R4, R5, R6]))
theorem Held.back5 {R1 R2 R3 R4 R5 : Thing} (h : Held w0 w (R5 :: R1 :: R2 :: R3 :: R4 :: Rs)) : Held w0 w (R1 :: R2 :: R3 :: R4 :: R5 :: Rs) := h.perm (List.perm_middle (l₁ := [R1, R2, R3, R4])).symm
theorem Held.back7 {R1 R2 R3 R4 R5 R6 R7 : Thing} (h : Held w0 w (R7 :: R1 :: R2 :: R3 :: R4 :: R5 :: R6 :: Rs)) : Held w0 w (R1 :: R2 :: R3 :: R4 :: R5 :: R6 :: R7 :: Rs) := h.perm (List.perm_middle (l₁ := [R1, R2, R3, R4, R5, R6])).symm
theorem h_codes10 (h : Held w0 w Rs) (v : Value) (l : List Int) (n : Nat) (hv : Rd w 1 v n (ints l)) (hn : n = l.length) (hn2 : n ≤ 288) :
    Calls Tryd.prog 36 #[v] w fun e w' => ∃ v', e = .returned v' ∧ Held w0 w' (ownT 44 1 v' n (nums .u32 (codesOf l)) :: Rs) := by
  subst hn
  exact (refcodes_any v l w hv hn2).mono fun _ _ ⟨v', h1, h2, h3, h4⟩ => ⟨v', h1, h.pushOwn h2 h4 h3⟩
theorem infoTok10 : (Tryd.prog.info? 78).map (fun i => (i.zero, i.size, i.bytes)) = some (some (.agg #[.int .u8 0, .int .i64 0, .int .i64 0]), 3, 24) := by kernel_rfl
def TokEnd (w0 w' : World) (Rs : List Thing) (S : Nat × Nat × List Nat × List Tok) (B : Nat) (r kk s : Value) (bo : Option Addr) (bc m M nl nd : Nat) (li di : Value) (lit dist : List Int) (all : List Nat) : Prop :=
  ∃ (oo' : Option Addr) (oc' k' a' : Nat) (to' : Option Addr) (tc' nt' : Nat) (lcv dcv : Value), k' = S.2.2.1.length ∧ nt' = S.2.2.2.length ∧ (S.1 = 0 → a' = S.2.1) ∧
    Held w0 w' (strT B (.slice oo' k' oc') S.1 r kk s (.slice bo m bc) a' (M : Int) li di lcv dcv (.slice to' nt' tc') :: rdT 1 (.slice bo m bc) m (u8s all) :: rdT 1 lcv nl (nums .u32 (codesOf lit)) :: rdT 1 dcv nd (nums .u32 (codesOf dist)) :: ownT 5 1 (.slice oo' k' oc') k' (u8s S.2.2.1) :: rd2T 1 li nl (ints lit) di nd (ints dist) :: ownT 78 3 (.slice to' nt' tc') nt' (toksV S.2.2.2) :: Rs)
theorem sym_facts {l : List Int} {r : List Nat} {k n : Nat} (h : symF l r = (k, n, 0)) : k < l.length ∧ 1 ≤ n ∧ n ≤ r.length := by
  have hh := symF_hit (l := l) (r := r) (by rw [h])
  rw [h] at hh
  exact ⟨(List.getElem?_eq_some_iff.1 hh.1).1, hh.2.1, hh.2.2.1⟩
theorem lB_more : ∀ c, c < 29 → lB c + 2 ^ lX c ≤ 259 := by decide +kernel
theorem dB_more : ∀ c, c < 30 → dB c + 2 ^ dX c ≤ 32769 := by decide +kernel
set_option maxRecDepth 100000 in
set_option maxHeartbeats 6400000 in
theorem tokens_any (B : Nat) (oo : Option Addr) (oc k : Nat) (r kk s : Value) (bo : Option Addr) (bc m a M : Nat) (li di lc0 dc0 : Value) (to : Option Addr) (ntk tc nl nd : Nat) (lit dist : List Int) (all out : List Nat) (tk : List Tok)
    (h : Held w0 w (strT B (.slice oo k oc) 0 r kk s (.slice bo m bc) a (M : Int) li di lc0 dc0 (.slice to ntk tc) :: rdT 1 (.slice bo m bc) m (u8s all) :: ownT 5 1 (.slice oo k oc) k (u8s out) :: rd2T 1 li nl (ints lit) di nd (ints dist) :: ownT 78 3 (.slice to ntk tc) ntk (toksV tk) :: Rs))
    (hb : isBits all) (ha : a ≤ m) (hm2 : m < 1000000000) (hkM : k ≤ M) (hk : k + 258 * (m - a) ≤ 1000000000) (hnt : ntk + (m - a) ≤ 1000000000) (hll : nl = lit.length) (hdl : nd = dist.length) (hl2 : nl ≤ 288) (hd2 : nd ≤ 288) (hl : ∀ y ∈ lit, 0 ≤ y ∧ y ≤ 15) (hd : ∀ y ∈ dist, 0 ≤ y ∧ y ≤ 15) :
    Calls Tryd.prog 23 #[ptrV B] w fun e' w' => e' = .returned (.bool (decide ((tokF lit dist all M (m + 1) a out tk).1 = 0))) ∧ TokEnd w0 w' Rs (tokF lit dist all M (m + 1) a out tk) B r kk s bo bc m M nl nd li di lit dist all := by
  obtain ⟨i1, hj0, hy0, hy1, hy2⟩ := info_parts infoTok10
  have hm : m = all.length := by have := h.drop.rdv.1; rw [u8s_length] at this; omega
  have hkl : k = out.length := by have := h.drop.drop.own.rd.1; rw [u8s_length] at this; omega
  have hntl : ntk = tk.length := by have := h.drop.drop.drop.drop.own.rd.1; rw [toksV_length] at this; omega
  have HML := hid (And.intro hm (And.intro hkl hntl))
  have HLD := hid (And.intro hll (And.intro hdl (And.intro hl hd)))
  have HBT := hid hb
  have H := hid h
  generalize hS : tokF lit dist all M (m + 1) a out tk = S at *
  have HS := hid hS
  have hb' := h.obj
  have c8 := hb'.cell (i := 8) rfl
  have c9 := hb'.cell (i := 9) rfl
  have c10 := hb'.cell (i := 10) rfl
  have f10 := hb'.frozen 10
  have HC1 := hid (h_codes10 h li lit nl h.drop.drop.drop.rdv2.1 hll hl2)
  unfold ptrV
  clear h hb hm hkl hntl hS hll hdl hl hd hb'
  go_enter Tryd.func23, Tryd.ntmps23
  go_wp2_with fail
  refine HC1.out.mono ?_
  rintro e' w1 ⟨lcv, rfl, hh⟩
  obtain ⟨lo, lcc, rfl, _, _⟩ := hh.own.form
  have hb' := hh.swap.obj
  have d10 := hb'.cell (i := 10) rfl
  have g10 := hb'.frozen 10
  have h1 := hh.swap.setObj 10 (.slice lo nl lcc)
  have hb'' := h1.obj
  have d9 := hb''.cell (i := 9) rfl
  have HC2 := hid (h_codes10 h1 di dist nd h1.drop.drop.drop.drop.rdv2.2 HLD.out.2.1 hd2)
  clear hh hb' hb'' h1 HC1 c8 c9 c10 f10 H
  go_wp2_with fail
  refine HC2.out.mono ?_
  rintro e' w2 ⟨dcv, rfl, hh⟩
  obtain ⟨dd, dcc, rfl, _, _⟩ := hh.own.form
  have hb' := hh.swap.obj
  have e11 := hb'.cell (i := 11) rfl
  have k11 := hb'.frozen 11
  have h3 := (hh.swap.setObj 11 (.slice dd nd dcc)).swap.toRd.third.toRd.third.fourth.swap
  have H3 := hid h3
  clear hb' hh HC2 h3
  go_wp2
  go_loopg [] (m + 3) (fun g wr => ∃ (p k1 nt f : Nat) (O : List Nat) (T : List Tok) (o1 : Option Addr) (c1 : Nat) (t1 : Option Addr) (tc1 : Nat), p ≤ m ∧ m - p < f ∧ f < g ∧ k1 ≤ M ∧ k1 + 258 * (m - p) ≤ 1000000000 ∧ nt + (m - p) ≤ 1000000000 ∧ Hid (k1 = O.length ∧ nt = T.length ∧ S = tokF lit dist all M f p O T) ∧
    Hid (Held w0 wr (strT B (.slice o1 k1 c1) 0 r kk s (.slice bo m bc) p (M : Int) li di (.slice lo nl lcc) (.slice dd nd dcc) (.slice t1 nt tc1) :: rdT 1 (.slice bo m bc) m (u8s all) :: rdT 1 (.slice lo nl lcc) nl (nums .u32 (codesOf lit)) :: rdT 1 (.slice dd nd dcc) nd (nums .u32 (codesOf dist)) :: ownT 5 1 (.slice o1 k1 c1) k1 (u8s O) :: rd2T 1 li nl (ints lit) di nd (ints dist) :: ownT 78 3 (.slice t1 nt tc1) nt (toksV T) :: Rs)))
  case atStart => exact ⟨a, k, ntk, m + 1, out, tk, oo, oc, to, tc, by omega, by omega, by omega, by omega, by omega, by omega, hid ⟨HML.out.2.1, HML.out.2.2, HS.out.symm⟩, H3⟩
  case round =>
    obtain ⟨p, k1, nt, f, O, T, o1, c1, t1, tc1, hp, hpf, hfg, hk1M, hk1, hnt1, HO, HH⟩ := hrel
    obtain ⟨gx, rfl⟩ : ∃ g, g = gk := ⟨gk, rfl⟩
    have hb' := HH.out.obj
    have c8 := hb'.cell (i := 8) rfl
    have c10 := hb'.cell (i := 10) rfl
    obtain ⟨f, rfl⟩ : ∃ f', f = f' + 1 := ⟨f - 1, by omega⟩
    obtain ⟨⟨ks, ns, es⟩, hsy⟩ : ∃ sy, symF lit (all.drop p) = sy := ⟨_, rfl⟩
    have HC := symbol_any B _ 0 r kk s bo bc m p (M : Int) li di _ _ _ all li _ lit nl HH.out.drew HH.out.drew.drop.drop.drop.drop.drop.rdv2.1 HH.out.drew.drop.drop.rdv HLD.out.1 HLD.out.2.2.1 hl2 HBT.out hp hm2
    rw [hsy] at HC
    simp only at HC
    unfold ptrV at HC
    clear hb'
    by_cases hes : es = 0
    · subst hes
      obtain ⟨hkl, hn1, hnr⟩ := sym_facts hsy
      rw [← HLD.out.1] at hkl
      rw [List.length_drop, ← HML.out.1] at hnr
      have HCs := hid (HC.mono fun _ _ h => (h.resolve_right fun h => h.1 rfl).2)
      have HSY := hid hsy
      obtain ⟨p1, hp1⟩ : ∃ p1, p1 = p + ns := ⟨_, rfl⟩
      rw [← hp1] at HCs
      have hp1m : p1 ≤ m := by omega
      have HP1 := hid hp1
      have hks0 : (0 : Int) ≤ (ks : Int) := Int.natCast_nonneg _
      have hpp : p + 1 ≤ p1 := by omega
      clear hsy HC hnr hn1 hp1
      go_wp2
      go_region_held3 (fun w' => w'.cell? ⟨B, 8, none⟩ = some li ∧ w'.cell? ⟨B, 10, none⟩ = some (.slice lo nl lcc)) (first | exact ⟨d8, d10⟩ | exact ⟨c8, c10⟩ | go_keep)
        ((go_at_call 37; go_must (refine HCs.out.mono ?_); rintro e' w4 ⟨rfl, hh⟩; have hb' := hh.obj; have d8 := hb'.cell (i := 8) rfl; have d10 := hb'.cell (i := 10) rfl; have H5 := hid hh; clear hh hb'))
      all_goals
        rcases (by omega : ks = 256 ∨ ks < 256 ∨ (256 < ks ∧ ks ≤ 285) ∨ 285 < ks) with hk4 | hk4 | ⟨hk4, hk5⟩ | hk4
        · subst hk4
          have HSe : Hid (S = (0, p1, O, T)) := hid (by rw [HO.out.2.2, tokF_over (step_end HSY.out), HP1.out])
          go_wp2
          go_ret
          refine ⟨by rw [HSe.out]; rfl, ⟨o1, c1, k1, p1, t1, tc1, nt, .slice lo nl lcc, .slice dd nd dcc, ?_, ?_, ?_, ?_⟩⟩
          · rw [HSe.out]; exact HO.out.1
          · rw [HSe.out]; exact HO.out.2.1
          · rw [HSe.out]; first | (intro h; cases h; done) | exact fun _ => rfl
          · rw [HSe.out]; exact H5.out
        · have hkI : (ks : Int) < 256 := by omega
          have hkI2 : ((ks : Int) == 256) = false := by simp; omega
          have hcw : (ks : Int) % 256 = (ks : Int) := by omega
          have hb' := H5.out.obj
          have d12 := hb'.cell (i := 12) rfl
          clear hb'
          by_cases hM : M ≤ k1
          · have HSe : Hid (S = (6, p1, O, T ++ [((ks : Int), 0, 0)])) := hid (by rw [HO.out.2.2, tokF_over (step_litcap HSY.out hk4 (by rw [← HO.out.1]; exact hM)), HP1.out])
            go_wp2_with ((with_reducible show wpList _ _ _ (⟨some 55, _, _, _, _, _⟩ :: _) _ _); go_must (refine wpList_app_held rfl (.tmp 50) (.tmp 54) 30 rfl 78 i1 (.agg #[.int .u8 0, .int .i64 0, .int .i64 0]) 3 24 Tryd.underlying30 hj0 hy0 hy1 hy2 rfl (by decide) _ nt (toksV T) rfl (H5.out.seventh.alloc _) _ 1 (toksV [((ks : Int), 0, 0)]) rfl (Rd.lit _ [_, _, _] _ 3 1 (by decide) rfl) (toksV_one _) (nt + 1) rfl (by unfold maxLen; omega) (by omega) ?_); intro t2 tc2 w5 h5; rw [← toksV_app] at h5; have hb' := h5.swap.obj; have e12 := hb'.cell (i := 12) rfl; have g12 := hb'.frozen 12; have H6 := hid ((h5.swap.setObj 12 (.slice t2 (nt + 1) tc2)).swap.back7); clear h5 hb')
            have hE := emit_no B o1 c1 k1 0 r kk s (.slice bo m bc) p1 (M : Int) (ks : Int) li di _ _ _ O H6.out.fifth.swap (by omega)
            unfold ptrV at hE
            have HE := hid hE
            clear hE H5
            refine HE.out.mono ?_
            rintro e' w6 ⟨rfl, hh⟩
            have H7 := hid hh.swap.back5
            clear hh HE H6
            go_wp2
            go_ret
            refine ⟨by rw [HSe.out]; rfl, ⟨o1, c1, k1, p1, t2, tc2, nt + 1, .slice lo nl lcc, .slice dd nd dcc, ?_, ?_, ?_, ?_⟩⟩
            · rw [HSe.out]; exact HO.out.1
            · rw [HSe.out]; exact (by rw [List.length_append, ← HO.out.2.1]; rfl)
            · rw [HSe.out]; first | (intro h; cases h; done) | exact fun _ => rfl
            · rw [HSe.out]; exact H7.out
          · have HSe : Hid (S = tokF lit dist all M f p1 (O ++ [ks]) (T ++ [((ks : Int), 0, 0)])) := hid (by rw [HO.out.2.2, tokF_on (step_lit HSY.out hk4 (by rw [← HO.out.1]; exact hM)), HP1.out])
            go_wp2_with ((with_reducible show wpList _ _ _ (⟨some 55, _, _, _, _, _⟩ :: _) _ _); go_must (refine wpList_app_held rfl (.tmp 50) (.tmp 54) 30 rfl 78 i1 (.agg #[.int .u8 0, .int .i64 0, .int .i64 0]) 3 24 Tryd.underlying30 hj0 hy0 hy1 hy2 rfl (by decide) _ nt (toksV T) rfl (H5.out.seventh.alloc _) _ 1 (toksV [((ks : Int), 0, 0)]) rfl (Rd.lit _ [_, _, _] _ 3 1 (by decide) rfl) (toksV_one _) (nt + 1) rfl (by unfold maxLen; omega) (by omega) ?_); intro t2 tc2 w5 h5; rw [← toksV_app] at h5; have hb' := h5.swap.obj; have e12 := hb'.cell (i := 12) rfl; have g12 := hb'.frozen 12; have H6 := hid ((h5.swap.setObj 12 (.slice t2 (nt + 1) tc2)).swap.back7); clear h5 hb')
            have hE := emit_yes B o1 c1 k1 0 r kk s (.slice bo m bc) p1 (M : Int) ks li di _ _ _ O H6.out.fifth.swap (by omega) (by omega)
            unfold ptrV at hE
            have HE := hid hE
            clear hE H5
            refine HE.out.mono ?_
            rintro e' w6 ⟨rfl, o2, c2, hh⟩
            have H7 := hid hh.swap.back5
            clear hh HE H6
            go_wp2
            go_roundg (gx - 1)
            case measure => omega
            case rel => exact ⟨p1, k1 + 1, nt + 1, f, O ++ [ks], T ++ [((ks : Int), 0, 0)], o2, c2, _, _, hp1m, by omega, by omega, by omega, by omega, by omega, hid ⟨by rw [List.length_append, ← HO.out.1]; rfl, by rw [List.length_append, ← HO.out.2.1]; rfl, HSe.out⟩, H7⟩
        · have hkI : ¬ (ks : Int) < 256 := by omega
          have hkI2 : ((ks : Int) == 256) = false := by simp; omega
          obtain ⟨c, hc⟩ : ∃ c, c = ks - 257 := ⟨_, rfl⟩
          have hc29 : c < 29 := by omega
          have hL := refLens_any (ks : Int)
          rw [lens_at' ks c (by omega) hc29] at hL
          have hLb := lB_more c hc29
          have HM0 : Hid (stepF lit dist all M p O T = stepF.matchF dist all M p1 c O T) := hid (by rw [step_len HSY.out hk4 hk5, HP1.out, hc])
          have hx60 := lX_le c hc29
          generalize hyB : lB c = y at hL hLb
          generalize hxX : lX c = x at hL hLb hx60
          have HYX := hid (And.intro hyB hxX)
          have HL := hid hL
          have hyy0 : (0 : Int) ≤ (y : Int) := Int.natCast_nonneg _
          clear hc hL hyB hxX
          cases ht : takeM all p1 x with
          | none =>
            have hT := take_no B _ 0 r kk s bo bc m p1 x (M : Int) li di _ _ _ all H5.out ht (by omega) (by omega)
            unfold ptrV at hT
            have HT := hid hT
            have HSe : Hid (S = (5, p1, O, T)) := hid (by rw [HO.out.2.2, tokF_over (by rw [HM0.out]; exact match_end (by rw [HYX.out.2]; exact ht))])
            clear hT ht
            go_wp2_with fail
            refine (HL.out _).mono ?_
            rintro e' w5 ⟨rfl, rfl⟩
            go_wp2_with fail
            refine HT.out.mono ?_
            rintro e' w5 ⟨rfl, hh⟩
            have H6 := hid hh
            clear hh HT H5
            go_wp2
            go_ret
            refine ⟨by rw [HSe.out]; rfl, ⟨o1, c1, k1, p1, t1, tc1, nt, .slice lo nl lcc, .slice dd nd dcc, ?_, ?_, ?_, ?_⟩⟩
            · rw [HSe.out]; exact HO.out.1
            · rw [HSe.out]; exact HO.out.2.1
            · rw [HSe.out]; first | (intro h; cases h; done) | exact fun _ => rfl
            · rw [HSe.out]; exact H6.out
          | some more =>
            obtain ⟨htl, htv⟩ := take_some ht
            have hmore : more < 2 ^ x := by rw [htv]; exact num16_lt HBT.out p1 x
            have hT := take_yes B _ 0 r kk s bo bc m p1 x more (M : Int) li di _ _ _ all H5.out ht HBT.out (by omega) (by omega)
            unfold ptrV at hT
            obtain ⟨p2, hp2⟩ : ∃ p2, p2 = p1 + x := ⟨_, rfl⟩
            rw [← hp2] at hT htl
            have hp2m : p2 ≤ m := by rw [HML.out.1]; exact htl
            have HT := hid hT
            obtain ⟨L, hL⟩ : ∃ L, L = y + more := ⟨_, rfl⟩
            have hLI : (y : Int) + (more : Int) = (L : Int) := by omega
            have hL258 : L ≤ 258 := by omega
            have hL0 : (0 : Int) ≤ (L : Int) := Int.natCast_nonneg _
            have hmore0 : (0 : Int) ≤ (more : Int) := Int.natCast_nonneg _
            have hmb : more ≤ 258 := by omega
            have hpp2 : p1 ≤ p2 := by omega
            have HTS : Hid (takeM all p1 (lX c) = some more ∧ p1 + lX c = p2 ∧ lB c + more = L) := hid (by rw [HYX.out.1, HYX.out.2]; exact ⟨ht, hp2.symm, hL.symm⟩)
            clear hT ht htv htl hp2 hL hmore hLb
            obtain ⟨⟨k2, n2, e2⟩, hsy2⟩ : ∃ sy, symF dist (all.drop p2) = sy := ⟨_, rfl⟩
            have HS2 := hid (fun w1 (hh : Held w0 w1 (strT B (.slice o1 k1 c1) 0 r kk s (.slice bo m bc) p2 (M : Int) li di (.slice lo nl lcc) (.slice dd nd dcc) (.slice t1 nt tc1) :: rdT 1 (.slice bo m bc) m (u8s all) :: rdT 1 (.slice lo nl lcc) nl (nums .u32 (codesOf lit)) :: rdT 1 (.slice dd nd dcc) nd (nums .u32 (codesOf dist)) :: ownT 5 1 (.slice o1 k1 c1) k1 (u8s O) :: rd2T 1 li nl (ints lit) di nd (ints dist) :: ownT 78 3 (.slice t1 nt tc1) nt (toksV T) :: Rs)) => symbol_any B _ 0 r kk s bo bc m p2 (M : Int) li di _ _ _ all di _ dist nd hh.drew hh.drew.drop.drop.drop.drop.drop.rdv2.2 hh.drew.drop.drop.drop.rdv HLD.out.2.1 HLD.out.2.2.2 hd2 HBT.out hp2m hm2)
            rw [hsy2] at HS2
            simp only at HS2
            unfold ptrV at HS2
            go_wp2_with fail
            refine (HL.out _).mono ?_
            rintro e' w5 ⟨rfl, rfl⟩
            go_wp2_with fail
            refine HT.out.mono ?_
            rintro e' w5 ⟨rfl, hh⟩
            have hb' := hh.obj
            have j9 := hb'.cell (i := 9) rfl
            have j11 := hb'.cell (i := 11) rfl
            have hC2 := HS2.out w5 hh
            clear hh HT H5 HS2 hb' c8 c10 d8 d10
            by_cases he2 : e2 = 0
            · subst he2
              obtain ⟨hkl2, hn21, hnr2⟩ := sym_facts hsy2
              rw [← HLD.out.2.1] at hkl2
              rw [List.length_drop, ← HML.out.1] at hnr2
              have HC2 := hid (hC2.mono fun _ _ h => (h.resolve_right fun h => h.1 rfl).2)
              obtain ⟨p3, hp3⟩ : ∃ p3, p3 = p2 + n2 := ⟨_, rfl⟩
              rw [← hp3] at HC2
              have hp3m : p3 ≤ m := by omega
              have hpp3 : p2 ≤ p3 := by omega
              have hk20 : (0 : Int) ≤ (k2 : Int) := Int.natCast_nonneg _
              have HM1 : Hid (stepF lit dist all M p O T = stepF.farF all M p3 k2 L O T) := hid (by rw [HM0.out, match_far HTS.out.1 (by rw [HTS.out.2.1]; exact hsy2), HTS.out.2.1, HTS.out.2.2, hp3])
              clear hsy2 hC2 hnr2 hn21 hp3
              go_wp2
              go_region_held3 (fun w' => w'.cell? ⟨B, 9, none⟩ = some di ∧ w'.cell? ⟨B, 11, none⟩ = some (.slice dd nd dcc)) (first | exact ⟨k9, k11'⟩ | exact ⟨j9, j11⟩ | go_keep)
                ((go_at_call 37; go_must (refine HC2.out.mono ?_); rintro e' w6 ⟨rfl, hh⟩; have hb' := hh.obj; have k9 := hb'.cell (i := 9) rfl; have k11' := hb'.cell (i := 11) rfl; have H6 := hid hh; clear hh hb'))
              all_goals
                by_cases hk30 : 29 < k2
                · have hD := refDists_any (k2 : Int)
                  rw [show distsOf (k2 : Int) = .tuple #[.int .i64 0, .int .i64 0, .bool false] from if_pos (by omega)] at hD
                  have HD := hid hD
                  have HSe : Hid (S = (3, p3, O, T)) := hid (by rw [HO.out.2.2, tokF_over (by rw [HM1.out]; exact far_bad hk30)])
                  have hb' := H6.out.obj
                  have l1 := hb'.cell (i := 1) rfl
                  have m1 := hb'.frozen 1
                  clear hb' hD
                  go_wp2_with fail
                  refine (HD.out _).mono ?_
                  rintro e' w7 ⟨rfl, rfl⟩
                  go_wp2
                  go_ret
                  refine ⟨by rw [HSe.out]; rfl, ⟨o1, c1, k1, p3, t1, tc1, nt, .slice lo nl lcc, .slice dd nd dcc, ?_, ?_, ?_, ?_⟩⟩
                  · rw [HSe.out]; exact HO.out.1
                  · rw [HSe.out]; exact HO.out.2.1
                  · rw [HSe.out]; first | (intro h; cases h; done) | exact fun _ => rfl
                  · rw [HSe.out]; exact H6.out.setObj 1 _
                · have hD := refDists_any (k2 : Int)
                  rw [dists_at' k2 k2 (by omega) (by omega)] at hD
                  have hDb := dB_more k2 (by omega)
                  have hx60' := dX_le k2 (by omega)
                  generalize hyB : dB k2 = y2 at hD hDb
                  generalize hxX : dX k2 = x2 at hD hDb hx60'
                  have HYX2 := hid (And.intro hyB hxX)
                  have HD := hid hD
                  have hyy20 : (0 : Int) ≤ (y2 : Int) := Int.natCast_nonneg _
                  clear hD hyB hxX
                  cases ht : takeM all p3 x2 with
                  | none =>
                    have hT := take_no B _ 0 r kk s bo bc m p3 x2 (M : Int) li di _ _ _ all H6.out ht (by omega) (by omega)
                    unfold ptrV at hT
                    have HT := hid hT
                    have HSe : Hid (S = (5, p3, O, T)) := hid (by rw [HO.out.2.2, tokF_over (by rw [HM1.out]; exact far_end hk30 (by rw [HYX2.out.2]; exact ht))])
                    clear hT ht
                    go_wp2_with fail
                    refine (HD.out _).mono ?_
                    rintro e' w7 ⟨rfl, rfl⟩
                    go_wp2_with fail
                    refine HT.out.mono ?_
                    rintro e' w7 ⟨rfl, hh⟩
                    have H7 := hid hh
                    clear hh HT H6
                    go_wp2
                    go_ret
                    refine ⟨by rw [HSe.out]; rfl, ⟨o1, c1, k1, p3, t1, tc1, nt, .slice lo nl lcc, .slice dd nd dcc, ?_, ?_, ?_, ?_⟩⟩
                    · rw [HSe.out]; exact HO.out.1
                    · rw [HSe.out]; exact HO.out.2.1
                    · rw [HSe.out]; first | (intro h; cases h; done) | exact fun _ => rfl
                    · rw [HSe.out]; exact H7.out
                  | some far =>
                    obtain ⟨htl, htv⟩ := take_some ht
                    have hfar : far < 2 ^ x2 := by rw [htv]; exact num16_lt HBT.out p3 x2
                    have hT := take_yes B _ 0 r kk s bo bc m p3 x2 far (M : Int) li di _ _ _ all H6.out ht HBT.out (by omega) (by omega)
                    unfold ptrV at hT
                    obtain ⟨p4, hp4⟩ : ∃ p4, p4 = p3 + x2 := ⟨_, rfl⟩
                    rw [← hp4] at hT htl
                    have hp4m : p4 ≤ m := by rw [HML.out.1]; exact htl
                    have hpp4 : p3 ≤ p4 := by omega
                    have HT := hid hT
                    obtain ⟨D, hD2⟩ : ∃ D, D = y2 + far := ⟨_, rfl⟩
                    have hDI : (y2 : Int) + (far : Int) = (D : Int) := by omega
                    have hD0 : (0 : Int) ≤ (D : Int) := Int.natCast_nonneg _
                    have hfar0 : (0 : Int) ≤ (far : Int) := Int.natCast_nonneg _
                    have hDle : D ≤ 40000 := by omega
                    have hD1 : 1 ≤ D := by
                      have h1 := (dB_le k2 (by omega)).1
                      rw [HYX2.out.1] at h1
                      omega
                    have hfb : far ≤ 40000 := by omega
                    have HTS2 : Hid (takeM all p3 (dX k2) = some far ∧ p3 + dX k2 = p4 ∧ dB k2 + far = D) := hid (by rw [HYX2.out.1, HYX2.out.2]; exact ⟨ht, hp4.symm, hD2.symm⟩)
                    clear hT ht htv htl hp4 hD2 hfar hDb
                    go_wp2_with fail
                    refine (HD.out _).mono ?_
                    rintro e' w7 ⟨rfl, rfl⟩
                    go_wp2_with fail
                    refine HT.out.mono ?_
                    rintro e' w7 ⟨rfl, hh⟩
                    have hb' := hh.obj
                    have l0 := hb'.cell (i := 0) rfl
                    have l1 := hb'.cell (i := 1) rfl
                    have m1 := hb'.frozen 1
                    have l12 := hb'.cell (i := 12) rfl
                    have H8 := hid hh
                    clear hh hb' HT H6 k9 k11' j9 j11 HL HD
                    have hk10 : (0 : Int) ≤ (k1 : Int) := Int.natCast_nonneg _
                    by_cases hd : k1 < D
                    · have HSe : Hid (S = (3, p4, O, T)) := hid (by rw [HO.out.2.2, tokF_over (by rw [HM1.out, far_far hk30 HTS2.out.1 (by rw [HTS2.out.2.2, ← HO.out.1]; exact hd), HTS2.out.2.1])])
                      have hdI : (k1 : Int) < (D : Int) := by omega
                      go_wp2
                      go_ret
                      refine ⟨by rw [HSe.out]; rfl, ⟨o1, c1, k1, p4, t1, tc1, nt, .slice lo nl lcc, .slice dd nd dcc, ?_, ?_, ?_, ?_⟩⟩
                      · rw [HSe.out]; exact HO.out.1
                      · rw [HSe.out]; exact HO.out.2.1
                      · rw [HSe.out]; first | (intro h; cases h; done) | exact fun _ => rfl
                      · rw [HSe.out]; exact H8.out.setObj 1 _
                    · have hdI : ¬ (k1 : Int) < (D : Int) := by omega
                      have hdI2 : decide (k1 < D) = false := decide_eq_false hd
                      have hdI3 : decide ((k1 : Int) < (D : Int)) = false := decide_eq_false hdI
                      have HCap : Hid (M < k1 + L → S = (6, p4, ext O D (M - k1), T ++ [(0, (L : Int), (D : Int))])) := hid (fun hM => by
                        have h1 := far_cap (L := L) (tk := T) hk30 HTS2.out.1 (by rw [HTS2.out.2.2, ← HO.out.1]; exact hd) (by rw [← HO.out.1]; exact hM)
                        rw [HTS2.out.2.1, HTS2.out.2.2, ← HO.out.1] at h1
                        rw [HO.out.2.2, tokF_over (by rw [HM1.out]; exact h1)])
                      have HOk : Hid (¬ M < k1 + L → S = tokF lit dist all M f p4 (ext O D L) (T ++ [(0, (L : Int), (D : Int))])) := hid (fun hM => by
                        have h1 := far_ok (L := L) (tk := T) hk30 HTS2.out.1 (by rw [HTS2.out.2.2, ← HO.out.1]; exact hd) (by rw [← HO.out.1]; exact hM)
                        rw [HTS2.out.2.1, HTS2.out.2.2] at h1
                        rw [HO.out.2.2, tokF_on (by rw [HM1.out]; exact h1)])
                      have hdk : D ≤ k1 := by omega
                      clear hd
                      go_wp2_with ((with_reducible show wpList _ _ _ (⟨some 141, _, _, _, _, _⟩ :: _) _ _); go_must (refine wpList_app_held rfl (.tmp 136) (.tmp 140) 30 rfl 78 i1 (.agg #[.int .u8 0, .int .i64 0, .int .i64 0]) 3 24 Tryd.underlying30 hj0 hy0 hy1 hy2 rfl (by decide) _ nt (toksV T) rfl (H8.out.seventh.alloc _) _ 1 (toksV [(0, (L : Int), (D : Int))]) rfl (Rd.lit _ [_, _, _] _ 3 1 (by decide) rfl) (toksV_one _) (nt + 1) rfl (by unfold maxLen; omega) (by omega) ?_); intro t2 tc2 w8 h5; rw [← toksV_app] at h5; have hb' := h5.swap.obj; have e12 := hb'.cell (i := 12) rfl; have g12 := hb'.frozen 12; have H9 := hid ((h5.swap.setObj 12 (.slice t2 (nt + 1) tc2)).swap.back7); clear h5 hb')
                      go_loopg [10] (L + 2) (fun g2 t10 wq => ∃ (j : Nat) (o2 : Option Addr) (c2 : Nat), j ≤ L ∧ L - j < g2 ∧ t10 = .int .i64 (j : Int) ∧ k1 + j ≤ M ∧ Hid (Held w0 wq (strT B (.slice o2 (k1 + j) c2) 0 r kk s (.slice bo m bc) p4 (M : Int) li di (.slice lo nl lcc) (.slice dd nd dcc) (.slice t2 (nt + 1) tc2) :: rdT 1 (.slice bo m bc) m (u8s all) :: rdT 1 (.slice lo nl lcc) nl (nums .u32 (codesOf lit)) :: rdT 1 (.slice dd nd dcc) nd (nums .u32 (codesOf dist)) :: ownT 5 1 (.slice o2 (k1 + j) c2) (k1 + j) (u8s (ext O D j)) :: rd2T 1 li nl (ints lit) di nd (ints dist) :: ownT 78 3 (.slice t2 (nt + 1) tc2) (nt + 1) (toksV (T ++ [(0, (L : Int), (D : Int))])) :: Rs)))
                      case atStart => exact ⟨0, o1, c1, by omega, by omega, rfl, by omega, H9⟩
                      case round =>
                        obtain ⟨j, o2, c2, hj, hg2, rfl, hjM, HQ⟩ := hrel
                        have hjj : (0 : Int) ≤ (j : Int) := Int.natCast_nonneg _
                        by_cases hjL : j < L
                        · have hjI : (j : Int) < (L : Int) := by omega
                          obtain ⟨N, hN⟩ : ∃ N, N = k1 + j := ⟨_, rfl⟩
                          rw [← hN] at HQ hjM
                          obtain ⟨q, hq⟩ : ∃ q, q = N - D := ⟨_, rfl⟩
                          have hel : (ext O D j).length = N := by rw [ext_length, ← HO.out.1, hN]
                          obtain ⟨b, hb1⟩ : ∃ b, (ext O D j)[q]? = some b := ⟨(ext O D j)[q]'(by omega), List.getElem?_eq_getElem _⟩
                          have hES : ext O D j ++ [b] = ext O D (j + 1) := by
                            rw [ext, ← HO.out.1, show k1 + j - D = q by omega, hb1]; rfl
                          obtain ⟨g3, of3, ho3, hcell, _, _⟩ := HQ.out.drop.drop.drop.drop.own.site (by omega)
                          subst ho3
                          have n1 := hcell q (.int .u8 (b : Int)) (by rw [u8s_get, hb1]; rfl)
                          have hb' := HQ.out.obj
                          have n0 := hb'.cell (i := 0) rfl
                          have hqI : (N : Int) - (D : Int) = (q : Int) := by omega
                          have hq0 : (0 : Int) ≤ (q : Int) := Int.natCast_nonneg _
                          have hN0 : (0 : Int) ≤ (N : Int) := Int.natCast_nonneg _
                          have hqN : (q : Int) < (N : Int) := by omega
                          have hqN2 : q < N := by omega
                          have HES := hid hES
                          have HN := hid hN
                          have hNb : N ≤ 1000000000 := by omega
                          clear hb' hcell hb1 hES hel hq hN
                          by_cases hMj : M ≤ N
                          · have hE := emit_no B (some ⟨g3, of3, none⟩) c2 N 0 r kk s (.slice bo m bc) p4 (M : Int) (b : Int) li di _ _ _ (ext O D j) HQ.out.drew.fifth.swap (by omega)
                            unfold ptrV at hE
                            have HE := hid hE
                            have HSe : Hid (S = (6, p4, ext O D j, T ++ [(0, (L : Int), (D : Int))])) := hid (by
                              have h1 := HN.out
                              rw [HCap.out (by omega), show M - k1 = j by omega])
                            have hqw : IntKind.i64.wrap (q : Int) = (q : Int) := IntWalk.i64_in _ (by omega)
                            clear hE
                            go_wp2
                            go_still_tail 14, (by kernel_rfl)
                            change wpList _ _ _ _ _ wr.drew
                            generalize wr.drew = wz at HE ⊢
                            go_wp2_with fail
                            refine HE.out.mono ?_
                            rintro e' w9 ⟨rfl, hh⟩
                            have H10 := hid hh.swap.back5
                            clear hh HE HQ hqw
                            go_wp2
                            go_ret
                            refine ⟨by rw [HSe.out]; rfl, ⟨some ⟨g3, of3, none⟩, c2, N, p4, t2, tc2, nt + 1, .slice lo nl lcc, .slice dd nd dcc, ?_, ?_, ?_, ?_⟩⟩
                            · rw [HSe.out]; exact (by rw [ext_length, ← HO.out.1]; exact HN.out)
                            · rw [HSe.out]; exact (by rw [List.length_append, ← HO.out.2.1]; rfl)
                            · rw [HSe.out]; first | (intro h; cases h; done) | exact fun _ => rfl
                            · rw [HSe.out]; exact H10.out
                          · have hE := emit_yes B (some ⟨g3, of3, none⟩) c2 N 0 r kk s (.slice bo m bc) p4 (M : Int) b li di _ _ _ (ext O D j) HQ.out.drew.fifth.swap (by omega) hNb
                            unfold ptrV at hE
                            have HE := hid hE
                            have hqw : IntKind.i64.wrap (q : Int) = (q : Int) := IntWalk.i64_in _ (by omega)
                            clear hE
                            go_wp2
                            go_still_tail 14, (by kernel_rfl)
                            change wpList _ _ _ _ _ wr.drew
                            generalize wr.drew = wz at HE ⊢
                            go_wp2_with fail
                            refine HE.out.mono ?_
                            rintro e' w9 ⟨rfl, o3, c3, hh⟩
                            rw [HES.out] at hh
                            have H10 := hid hh.swap.back5
                            clear hh HE HQ hqw
                            go_wp2
                            go_roundg (gk - 1)
                            case measure => omega
                            case rel =>
                              have hNj : N + 1 = k1 + (j + 1) := by have := HN.out; omega
                              refine ⟨j + 1, o3, c3, by omega, by omega, by go_num, by omega, hid ?_⟩
                              rw [← hNj]
                              exact H10.out
                        · obtain rfl : j = L := by omega
                          have hjI : ¬ (j : Int) < (j : Int) := by omega
                          have HSe := hid (HOk.out (by omega))
                          go_wp2
                          go_roundg (gx - 1)
                          case measure => omega
                          case rel => exact ⟨p4, k1 + j, nt + 1, f, ext O D j, T ++ [(0, (j : Int), (D : Int))], o2, c2, _, _, hp4m, by omega, by omega, hjM, by omega, by omega, hid ⟨by rw [ext_length, ← HO.out.1], by rw [List.length_append, ← HO.out.2.1]; rfl, HSe.out⟩, HQ⟩
            · have HC2 := hid (hC2.mono fun _ _ h => (h.resolve_left fun h => he2 h.1).2)
              have HSe : Hid (S = (e2, p2, O, T) ∧ e2 ≠ 0) := hid ⟨by rw [HO.out.2.2, tokF_over (by rw [HM0.out, match_err HTS.out.1 (by rw [HTS.out.2.1]; exact hsy2) he2, HTS.out.2.1])], he2⟩
              clear hsy2 hC2 he2
              go_wp2
              go_region_held3 (fun w' => w'.cell? ⟨B, 9, none⟩ = some di ∧ w'.cell? ⟨B, 11, none⟩ = some (.slice dd nd dcc)) (first | exact ⟨k9, k11'⟩ | exact ⟨j9, j11⟩ | go_keep)
                ((go_at_call 37; go_must (refine HC2.out.mono ?_); rintro e' w6 ⟨rfl, hh⟩; have hb' := hh.obj; have k9 := hb'.cell (i := 9) rfl; have k11' := hb'.cell (i := 11) rfl; have H6 := hid hh; clear hh hb'))
              all_goals
                go_wp2
                go_ret
                refine ⟨by rw [HSe.out.1]; simp [HSe.out.2], ⟨o1, c1, k1, p2, t1, tc1, nt, .slice lo nl lcc, .slice dd nd dcc, ?_, ?_, ?_, ?_⟩⟩
                · rw [HSe.out.1]; exact HO.out.1
                · rw [HSe.out.1]; exact HO.out.2.1
                · rw [HSe.out.1]; exact fun _ => rfl
                · rw [HSe.out.1]; exact H6.out
        · have hkI : ¬ (ks : Int) < 256 := by omega
          have hkI2 : ((ks : Int) == 256) = false := by simp; omega
          have HSe : Hid (S = (3, p1, O, T)) := hid (by rw [HO.out.2.2, tokF_over (step_badlen HSY.out hk4), HP1.out])
          have hL := refLens_any (ks : Int)
          rw [show lensOf (ks : Int) = .tuple #[.int .i64 0, .int .i64 0, .bool false] from if_pos (by omega)] at hL
          have HL := hid hL
          have hb' := H5.out.obj
          have c1' := hb'.cell (i := 1) rfl
          have f1' := hb'.frozen 1
          clear hb' hL
          go_wp2_with fail
          refine (HL.out _).mono ?_
          rintro e' w5 ⟨rfl, rfl⟩
          go_wp2
          go_ret
          refine ⟨by rw [HSe.out]; rfl, ⟨o1, c1, k1, p1, t1, tc1, nt, .slice lo nl lcc, .slice dd nd dcc, ?_, ?_, ?_, ?_⟩⟩
          · rw [HSe.out]; exact HO.out.1
          · rw [HSe.out]; exact HO.out.2.1
          · rw [HSe.out]; first | (intro h; cases h; done) | exact fun _ => rfl
          · rw [HSe.out]; exact H5.out.setObj 1 _
    · have HCs := hid (HC.mono fun _ _ h => (h.resolve_left fun h => hes h.1).2)
      have HSe : Hid (S = (es, p, O, T) ∧ es ≠ 0) := hid ⟨by rw [HO.out.2.2, tokF_over (step_err hsy hes)], hes⟩
      clear hsy HC hes
      go_wp2
      go_region_held3 (fun w' => w'.cell? ⟨B, 8, none⟩ = some li ∧ w'.cell? ⟨B, 10, none⟩ = some (.slice lo nl lcc)) (first | exact ⟨d8, d10⟩ | exact ⟨c8, c10⟩ | go_keep)
        ((go_at_call 37; go_must (refine HCs.out.mono ?_); rintro e' w4 ⟨rfl, hh⟩; have hb' := hh.obj; have d8 := hb'.cell (i := 8) rfl; have d10 := hb'.cell (i := 10) rfl; have H5 := hid hh; clear hh hb'))
      all_goals
        go_wp2
        go_ret
        refine ⟨by rw [HSe.out.1]; simp [HSe.out.2], ⟨o1, c1, k1, p, t1, tc1, nt, .slice lo nl lcc, .slice dd nd dcc, ?_, ?_, ?_, ?_⟩⟩
        · rw [HSe.out.1]; exact HO.out.1
        · rw [HSe.out.1]; exact HO.out.2.1
        · rw [HSe.out.1]; exact fun _ => rfl
        · rw [HSe.out.1]; exact H5.out
end
end Go.Proofs.YtmmfkppkmgjljaaDoor
