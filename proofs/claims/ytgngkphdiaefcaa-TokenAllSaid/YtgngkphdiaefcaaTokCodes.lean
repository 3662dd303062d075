/-
  The program's codes of lengths and distances.
-/
import Derived.Test.YtgngkphdiaefcaaProg
import Derived.Test.YtgngkphdiaefcaaTokMath
import Derived.Test.YtgngkphdiaefcaaOwn2
import Derived.StillTailTactics
namespace Go.Proofs.Ytgngkphdiaefcaa
open Go.RowKit

theorem start_any (c g : Nat) (hc : c < 1000) (hg : 1 ≤ g) (hg2 : g ≤ 4) (he : c / g ≤ 15) (w : World) :
    Calls Try.prog 24 #[.int .i64 (c : Int), .int .i64 (g : Int)] w fun e w' => e = .returned (.tuple #[.int .i64 ((sb g c : Nat) : Int), .int .i64 ((sx g c : Nat) : Int)]) ∧ w = w' := by
  have hc0 : (0 : Int) ≤ (c : Int) := Int.natCast_nonneg _
  have hg0 : (0 : Int) ≤ (g : Int) := Int.natCast_nonneg _
  rcases Nat.lt_or_ge c g with h | h
  · have e1 : sb g c = c := if_pos h
    have e2 : sx g c = 0 := if_pos h
    rw [e1, e2]
    have hI : (c : Int) < (g : Int) := by omega
    go_enter Try.func24, Try.ntmps24
    go_wp2
    go_ret2
    exact ⟨rfl, rfl⟩
  · have hI : ¬ (c : Int) < (g : Int) := by omega
    obtain ⟨x, hx⟩ : ∃ x, x = c / g - 1 := ⟨_, rfl⟩
    obtain ⟨r, hr⟩ : ∃ r, r = c % g := ⟨_, rfl⟩
    have e1 : sb g c = (g + r) * 2 ^ x := by rw [hr, hx]; exact if_neg (by omega)
    have e2 : sx g c = x := by rw [hx]; exact if_neg (by omega)
    rw [e1, e2]
    have hrg : r < g := by rw [hr]; exact Nat.mod_lt _ (by omega)
    have hx14 : x ≤ 14 := by omega
    have h1 : 1 ≤ c / g := (Nat.le_div_iff_mul_le (by omega)).2 (by omega)
    have hq : (c : Int) / (g : Int) - 1 = (x : Int) := by rw [hx]; omega
    have hm : (c : Int) % (g : Int) = (r : Int) := by rw [hr]; rfl
    have hgz : ¬ (g : Int) = 0 := by omega
    have hx0 : (0 : Int) ≤ (x : Int) := Int.natCast_nonneg _
    have hr0 : (0 : Int) ≤ (r : Int) := Int.natCast_nonneg _
    obtain ⟨y, hy⟩ : ∃ y, y = (g + r) * 2 ^ x := ⟨_, rfl⟩
    rw [← hy]
    have hyI : ((g : Int) + (r : Int)) * 2 ^ x = (y : Int) := by rw [hy]; push_cast; rfl
    have hyb : y ≤ 8 * 2 ^ 14 := by rw [hy]; exact Nat.mul_le_mul (by omega) (Nat.pow_le_pow_right (by decide) hx14)
    have hw : wrap64 (((g : Int) + (r : Int)) * 2 ^ x) = (y : Int) := by rw [hyI]; unfold wrap64; omega
    clear hx hr e1 e2 hyI hy hyb
    go_enter Try.func24, Try.ntmps24
    go_wp2
    go_ret2
    exact ⟨rfl, rfl⟩
/-- what LenBase returns -/
def lensOf (code : Int) : Value := if code < 257 ∨ 285 < code then .tuple #[.int .i64 0, .int .i64 0, .bool false] else .tuple #[.int .i64 ((lB (code - 257).toNat : Nat) : Int), .int .i64 ((lX (code - 257).toNat : Nat) : Int), .bool true]
def distsOf (code : Int) : Value := if code < 0 ∨ 30 ≤ code then .tuple #[.int .i64 0, .int .i64 0, .bool false] else .tuple #[.int .i64 ((dB code.toNat : Nat) : Int), .int .i64 ((dX code.toNat : Nat) : Int), .bool true]
theorem lens_at (k : Nat) (hk : k < 29) : lensOf ((257 + k : Nat) : Int) = .tuple #[.int .i64 ((lB k : Nat) : Int), .int .i64 ((lX k : Nat) : Int), .bool true] := by
  unfold lensOf
  rw [if_neg (by omega), show (((257 + k : Nat) : Int) - 257).toNat = k by omega]
theorem dists_at (k : Nat) (hk : k < 30) : distsOf (k : Int) = .tuple #[.int .i64 ((dB k : Nat) : Int), .int .i64 ((dX k : Nat) : Int), .bool true] := by
  unfold distsOf
  rw [if_neg (by omega), Int.toNat_natCast]
theorem lenBase_any (code : Int) (w : World) :
    Calls Try.prog 12 #[.int .i64 code] w fun e w' => e = .returned (lensOf code) ∧ w = w' := by
  rcases (by omega : code < 257 ∨ 285 < code ∨ code = 285 ∨ (257 ≤ code ∧ code < 285)) with h | h | rfl | ⟨h1, h2⟩
  · have e : lensOf code = .tuple #[.int .i64 0, .int .i64 0, .bool false] := if_pos (.inl h)
    rw [e]
    clear e
    go_enter Try.func12, Try.ntmps12
    go_wp2
    go_ret3
    exact ⟨rfl, rfl⟩
  · have e : lensOf code = .tuple #[.int .i64 0, .int .i64 0, .bool false] := if_pos (.inr h)
    rw [e]
    have h0 : ¬ code < 257 := by omega
    clear e
    go_enter Try.func12, Try.ntmps12
    go_wp2
    go_ret3
    exact ⟨rfl, rfl⟩
  · have e : lensOf 285 = .tuple #[.int .i64 258, .int .i64 0, .bool true] := by
      have := lens_at 28 (by decide)
      rw [show lB 28 = 258 by decide, show lX 28 = 0 by decide] at this
      exact this
    rw [e]
    clear e
    go_enter Try.func12, Try.ntmps12
    go_wp2
    go_ret3
    exact ⟨rfl, rfl⟩
  · obtain ⟨k, rfl⟩ : ∃ k : Nat, code = ((257 + k : Nat) : Int) := ⟨(code - 257).toNat, by omega⟩
    have hk : k < 28 := by omega
    rw [lens_at k (by omega)]
    have e1 : lB k = 3 + sb 4 k := if_neg (by omega)
    have e2 : lX k = sx 4 k := if_neg (by omega)
    rw [e1, e2]
    have hb : sb 4 k ≤ 1000 := by have := (lB_le k (by omega)).2; omega
    have hkI : ((257 + k : Nat) : Int) - 257 = (k : Int) := by omega
    have hc1 : ((257 + k : Nat) : Int) ≠ 285 := by omega
    have HS := hid (start_any k 4 (by omega) (by decide) (by decide) (by omega) w)
    generalize sb 4 k = y at *
    generalize sx 4 k = x at *
    generalize ((257 + k : Nat) : Int) = code at *
    have hc3 : (code == 285) = false := by simp; omega
    have hc4 : ¬ code < 257 := by omega
    have hc5 : ¬ 285 < code := by omega
    have hy0 : (0 : Int) ≤ (y : Int) := Int.natCast_nonneg _
    clear e1 e2 h1 h2
    go_enter Try.func12, Try.ntmps12
    go_wp2_with fail
    refine HS.out.mono ?_
    rintro e w1 ⟨rfl, rfl⟩
    go_wp2
    go_ret3
    exact ⟨by push_cast; rfl, rfl⟩
theorem distBase_any (code : Int) (w : World) :
    Calls Try.prog 14 #[.int .i64 code] w fun e w' => e = .returned (distsOf code) ∧ w = w' := by
  rcases (by omega : code < 0 ∨ 30 ≤ code ∨ (0 ≤ code ∧ code < 30)) with h | h | ⟨h1, h2⟩
  · have e : distsOf code = .tuple #[.int .i64 0, .int .i64 0, .bool false] := if_pos (.inl h)
    rw [e]
    clear e
    go_enter Try.func14, Try.ntmps14
    go_wp2
    go_ret3
    exact ⟨rfl, rfl⟩
  · have e : distsOf code = .tuple #[.int .i64 0, .int .i64 0, .bool false] := if_pos (.inr h)
    rw [e]
    have h0 : ¬ code < 0 := by omega
    clear e
    go_enter Try.func14, Try.ntmps14
    go_wp2
    go_ret3
    exact ⟨rfl, rfl⟩
  · obtain ⟨k, rfl⟩ := Int.eq_ofNat_of_zero_le h1
    have hk : k < 30 := by omega
    rw [dists_at k hk]
    have e1 : dB k = 1 + sb 2 k := rfl
    have e2 : dX k = sx 2 k := rfl
    rw [e1, e2]
    have hb : sb 2 k ≤ 30000 := by have := (dB_le k hk).2; omega
    have HS := hid (start_any k 2 (by omega) (by decide) (by decide) (by omega) w)
    generalize sb 2 k = y at *
    generalize sx 2 k = x at *
    have hc4 : ¬ (k : Int) < 0 := by omega
    have hc5 : ¬ 30 ≤ (k : Int) := by omega
    have hy0 : (0 : Int) ≤ (y : Int) := Int.natCast_nonneg _
    clear e1 e2 h1 h2
    go_enter Try.func14, Try.ntmps14
    go_wp2_with fail
    refine HS.out.mono ?_
    rintro e w1 ⟨rfl, rfl⟩
    go_wp2
    go_ret3
    exact ⟨by push_cast; rfl, rfl⟩
theorem isLength_any (n : Int) (w : World) :
    Calls Try.prog 21 #[.int .i64 n] w fun e w' => e = .returned (.bool (decide (3 ≤ n ∧ n ≤ 258))) ∧ w = w' := by
  rcases (by omega : n < 3 ∨ (3 ≤ n ∧ 258 < n) ∨ (3 ≤ n ∧ n ≤ 258)) with h | ⟨h, h2⟩ | ⟨h, h2⟩
  · have e : decide (3 ≤ n ∧ n ≤ 258) = false := decide_eq_false (by omega)
    rw [e]
    have h0 : ¬ 3 ≤ n := by omega
    clear e
    go_enter Try.func21, Try.ntmps21
    go_wp2
    go_ret
    exact ⟨rfl, rfl⟩
  · have e : decide (3 ≤ n ∧ n ≤ 258) = false := decide_eq_false (by omega)
    rw [e]
    have h0 : decide (n ≤ 258) = false := decide_eq_false (by omega)
    clear e
    go_enter Try.func21, Try.ntmps21
    go_wp2
    go_ret
    exact ⟨rfl, rfl⟩
  · have e : decide (3 ≤ n ∧ n ≤ 258) = true := decide_eq_true (by omega)
    rw [e]
    have h0 : decide (n ≤ 258) = true := decide_eq_true (by omega)
    clear e
    go_enter Try.func21, Try.ntmps21
    go_wp2
    go_ret
    exact ⟨rfl, rfl⟩
theorem isDistance_any (n : Int) (w : World) :
    Calls Try.prog 23 #[.int .i64 n] w fun e w' => e = .returned (.bool (decide (1 ≤ n ∧ n ≤ 32768))) ∧ w = w' := by
  rcases (by omega : n < 1 ∨ (1 ≤ n ∧ 32768 < n) ∨ (1 ≤ n ∧ n ≤ 32768)) with h | ⟨h, h2⟩ | ⟨h, h2⟩
  · have e : decide (1 ≤ n ∧ n ≤ 32768) = false := decide_eq_false (by omega)
    rw [e]
    have h0 : ¬ 1 ≤ n := by omega
    clear e
    go_enter Try.func23, Try.ntmps23
    go_wp2
    go_ret
    exact ⟨rfl, rfl⟩
  · have e : decide (1 ≤ n ∧ n ≤ 32768) = false := decide_eq_false (by omega)
    rw [e]
    have h0 : decide (n ≤ 32768) = false := decide_eq_false (by omega)
    clear e
    go_enter Try.func23, Try.ntmps23
    go_wp2
    go_ret
    exact ⟨rfl, rfl⟩
  · have e : decide (1 ≤ n ∧ n ≤ 32768) = true := decide_eq_true (by omega)
    rw [e]
    have h0 : decide (n ≤ 32768) = true := decide_eq_true (by omega)
    clear e
    go_enter Try.func23, Try.ntmps23
    go_wp2
    go_ret
    exact ⟨rfl, rfl⟩
/-- find at any table whose function keeps its contract -/
theorem find_any (F : FuncId) (B X : Nat → Nat) (lo m v : Nat) (hm1 : 1 ≤ m) (hm : m ≤ 1000) (hlo : lo ≤ 1000) (hv : v ≤ 100000) (hB0 : B 0 ≤ v) (hasc : ∀ k, k < m → ∀ j, j < k → B j < B k) (hBb : ∀ k, k < m → B k ≤ 100000)
    (hcf : ∀ args w, (callFunc F args).run Try.prog w = .ok (.enter F args) w) (hF : ∀ k, k < m → ∀ w, Calls Try.prog F #[.int .i64 ((lo + k : Nat) : Int)] w fun e w' => e = .returned (.tuple #[.int .i64 ((B k : Nat) : Int), .int .i64 ((X k : Nat) : Int), .bool true]) ∧ w = w') (w : World) :
    Calls Try.prog 22 #[.int .i64 (v : Int), .int .i64 (lo : Int), .int .i64 ((lo + m : Nat) : Int), .func (.func F) #[] #[]] w fun e w' => ∃ c q x z : Nat, CodeIs B m v c ∧ q = lo + c ∧ x = X c ∧ z = v - B c ∧ e = .returned (.tuple #[.int .i64 (q : Int), .int .i64 (x : Int), .int .i64 (z : Int)]) ∧ w = w' := by
  have HF := hid hF
  have HA := hid (And.intro hasc hBb)
  clear hF hasc hBb
  go_enter Try.func22, Try.ntmps22
  go_wp2
  go_loopg [1, 2] (m + 2) (fun k t1 t2 wr => ∃ a b : Nat, a < b ∧ b ≤ m ∧ b - a < k ∧ t1 = .int .i64 ((lo + a : Nat) : Int) ∧ t2 = .int .i64 ((lo + b : Nat) : Int) ∧ Hid (B a ≤ v ∧ ∀ d, b ≤ d → d < m → v < B d) ∧ wr = w)
  case atStart => exact ⟨0, m, by omega, by omega, by omega, rfl, rfl, hid ⟨hB0, fun d h1 h2 => by omega⟩, rfl⟩
  case round =>
    obtain ⟨a, b, hab, hbm, hk, rfl, rfl, HI, rfl⟩ := hrel
    have hla : (0 : Int) ≤ ((lo + a : Nat) : Int) := Int.natCast_nonneg _
    have hlb : (0 : Int) ≤ ((lo + b : Nat) : Int) := Int.natCast_nonneg _
    by_cases hd : b - a = 1
    · have hI : ¬ (1 : Int) < ((lo + b : Nat) : Int) - ((lo + a : Nat) : Int) := by omega
      have HC := hid (HF.out a (by omega) wr)
      have hba := HA.out.2 a (by omega)
      have HS : Hid (CodeIs B m v a) := hid ⟨by omega, HI.out.1, fun d h1 h2 => HI.out.2 d (by omega) h2⟩
      have hle := HI.out.1
      obtain ⟨y, hy⟩ : ∃ y, y = B a := ⟨_, rfl⟩
      have HY := hid hy
      rw [← hy] at hle hba HC
      have hyI : (v : Int) - (y : Int) = ((v - y : Nat) : Int) := by omega
      have hv0 : (0 : Int) ≤ (v : Int) := Int.natCast_nonneg _
      have hy0 : (0 : Int) ≤ (y : Int) := Int.natCast_nonneg _
      have hAL : ((lo + a : Nat) : Int) ≤ 3000 := by omega
      have hBL : ((lo + b : Nat) : Int) ≤ 3000 := by omega
      obtain ⟨la, hA2⟩ : ∃ z : Int, z = ((lo + a : Nat) : Int) := ⟨_, rfl⟩
      have HLA := hid hA2
      rw [← hA2] at hI HC hla hAL ⊢
      generalize ((lo + b : Nat) : Int) = lb at *
      clear hy hA2
      go_wp2_with fail
      refine HC.out.mono ?_
      rintro e w1 ⟨rfl, rfl⟩
      go_wp2
      go_ret3
      exact ⟨a, lo + a, X a, v - B a, HS.out, rfl, rfl, rfl, by rw [← HY.out, ← HLA.out]; rfl, rfl⟩
    · obtain ⟨c, hc⟩ : ∃ c, c = (a + b) / 2 := ⟨_, rfl⟩
      have hc1 : a < c := by omega
      have hc2 : c < b := by omega
      have hI : (1 : Int) < ((lo + b : Nat) : Int) - ((lo + a : Nat) : Int) := by omega
      have hmid : (((lo + a : Nat) : Int) + ((lo + b : Nat) : Int)) / 2 = ((lo + c : Nat) : Int) := by omega
      have HC := hid (HF.out c (by omega) wr)
      have hbc := HA.out.2 c (by omega)
      have HASC := hid (HA.out.1)
      obtain ⟨y, hy⟩ : ∃ y, y = B c := ⟨_, rfl⟩
      have HY := hid hy
      rw [← hy] at hbc HC
      have hAL : ((lo + a : Nat) : Int) ≤ 3000 := by omega
      have hBL : ((lo + b : Nat) : Int) ≤ 3000 := by omega
      have hCL : ((lo + c : Nat) : Int) ≤ 3000 := by omega
      have hlc : (0 : Int) ≤ ((lo + c : Nat) : Int) := Int.natCast_nonneg _
      obtain ⟨la, hA2⟩ : ∃ z : Int, z = ((lo + a : Nat) : Int) := ⟨_, rfl⟩
      obtain ⟨lb, hB2⟩ : ∃ z : Int, z = ((lo + b : Nat) : Int) := ⟨_, rfl⟩
      obtain ⟨lc, hC2⟩ : ∃ z : Int, z = ((lo + c : Nat) : Int) := ⟨_, rfl⟩
      have HLA := hid hA2
      have HLB := hid hB2
      have HLC := hid hC2
      rw [← hA2] at hI hmid hla hAL ⊢
      rw [← hB2] at hI hmid hlb hBL ⊢
      rw [← hC2] at hmid hlc hCL HC
      clear hy hc hA2 hB2 hC2
      by_cases hyv : y ≤ v
      · have hyI : (y : Int) ≤ (v : Int) := by omega
        go_wp2_with fail
        refine HC.out.mono ?_
        rintro e w1 ⟨rfl, rfl⟩
        go_wp2
        go_roundg (gk - 1)
        case measure => omega
        case rel => exact ⟨c, b, hc2, hbm, by omega, by rw [← HLC.out], by rw [← HLB.out], hid ⟨by rw [← HY.out]; exact hyv, HI.out.2⟩, rfl⟩
      · have hyI : ¬ (y : Int) ≤ (v : Int) := by omega
        go_wp2_with fail
        refine HC.out.mono ?_
        rintro e w1 ⟨rfl, rfl⟩
        go_wp2
        go_roundg (gk - 1)
        case measure => omega
        case rel =>
          refine ⟨a, c, hc1, by omega, by omega, by rw [← HLA.out], by rw [← HLC.out], hid ⟨HI.out.1, fun d h1 h2 => ?_⟩, rfl⟩
          rcases Nat.eq_or_lt_of_le h1 with rfl | h3
          · rw [← HY.out]; omega
          · have := HASC.out d h2 c h3
            rw [← HY.out] at this; omega
/-- what LenCode returns at a length, or at none -/
def IsLenCode (n : Int) (v : Value) : Prop := ((n < 3 ∨ 258 < n) ∧ v = .tuple #[.int .i64 0, .int .i64 0, .int .i64 0]) ∨ ∃ k c q x z : Nat, n = (k : Int) ∧ 3 ≤ k ∧ k ≤ 258 ∧ CodeIs lB 29 k c ∧ q = 257 + c ∧ x = lX c ∧ z = k - lB c ∧ v = .tuple #[.int .i64 (q : Int), .int .i64 (x : Int), .int .i64 (z : Int)]
def IsDistCode (n : Int) (v : Value) : Prop := ((n < 1 ∨ 32768 < n) ∧ v = .tuple #[.int .i64 0, .int .i64 0, .int .i64 0]) ∨ ∃ k c q x z : Nat, n = (k : Int) ∧ 1 ≤ k ∧ k ≤ 32768 ∧ CodeIs dB 30 k c ∧ q = 0 + c ∧ x = dX c ∧ z = k - dB c ∧ v = .tuple #[.int .i64 (q : Int), .int .i64 (x : Int), .int .i64 (z : Int)]
theorem lenCode_any (n : Int) (w : World) :
    Calls Try.prog 7 #[.int .i64 n] w fun e w' => (∃ v, e = .returned v ∧ IsLenCode n v) ∧ w = w' := by
  have HL := hid (isLength_any n w)
  rcases (by omega : (n < 3 ∨ 258 < n) ∨ (3 ≤ n ∧ n ≤ 258)) with h | ⟨h, h2⟩
  · have e : decide (3 ≤ n ∧ n ≤ 258) = false := decide_eq_false (by omega)
    rw [e] at HL
    have HS : Hid (IsLenCode n (.tuple #[.int .i64 0, .int .i64 0, .int .i64 0])) := hid (.inl ⟨h, rfl⟩)
    clear e h
    go_enter Try.func7, Try.ntmps7
    go_wp2_with fail
    refine HL.out.mono ?_
    rintro e w1 ⟨rfl, rfl⟩
    go_wp2
    go_ret3
    exact ⟨⟨_, rfl, HS.out⟩, rfl⟩
  · have e : decide (3 ≤ n ∧ n ≤ 258) = true := decide_eq_true (by omega)
    rw [e] at HL
    obtain ⟨k, rfl⟩ := Int.eq_ofNat_of_zero_le (show 0 ≤ n by omega)
    have HF := hid (find_any 12 lB lX 257 29 k (by decide) (by decide) (by decide) (by omega) (by have : lB 0 = 3 := (by decide); omega) lB_asc (fun j hj => by have := lB_le j hj; omega) (fun _ _ => rfl)
      (fun j hj w => by
        have h1 := lenBase_any ((257 + j : Nat) : Int) w
        rw [lens_at j hj] at h1
        exact h1) w)
    have HK := hid (And.intro (show 3 ≤ k by omega) (show k ≤ 258 by omega))
    clear e h h2
    go_enter Try.func7, Try.ntmps7
    go_wp2_with fail
    refine HL.out.mono ?_
    rintro e w1 ⟨rfl, rfl⟩
    go_wp2_with fail
    refine HF.out.mono ?_
    rintro e w1 ⟨c, q, x, z, hc, hq, hx, hz, rfl, rfl⟩
    have HC := hid hc
    have HQ := hid hq
    have HX := hid hx
    have HZ := hid hz
    clear hc hq hx hz
    go_wp2
    go_ret3
    exact ⟨⟨_, rfl, .inr ⟨k, c, q, x, z, rfl, HK.out.1, HK.out.2, HC.out, HQ.out, HX.out, HZ.out, rfl⟩⟩, rfl⟩
theorem distCode_any (n : Int) (w : World) :
    Calls Try.prog 9 #[.int .i64 n] w fun e w' => (∃ v, e = .returned v ∧ IsDistCode n v) ∧ w = w' := by
  have HL := hid (isDistance_any n w)
  rcases (by omega : (n < 1 ∨ 32768 < n) ∨ (1 ≤ n ∧ n ≤ 32768)) with h | ⟨h, h2⟩
  · have e : decide (1 ≤ n ∧ n ≤ 32768) = false := decide_eq_false (by omega)
    rw [e] at HL
    have HS : Hid (IsDistCode n (.tuple #[.int .i64 0, .int .i64 0, .int .i64 0])) := hid (.inl ⟨h, rfl⟩)
    clear e h
    go_enter Try.func9, Try.ntmps9
    go_wp2_with fail
    refine HL.out.mono ?_
    rintro e w1 ⟨rfl, rfl⟩
    go_wp2
    go_ret3
    exact ⟨⟨_, rfl, HS.out⟩, rfl⟩
  · have e : decide (1 ≤ n ∧ n ≤ 32768) = true := decide_eq_true (by omega)
    rw [e] at HL
    obtain ⟨k, rfl⟩ := Int.eq_ofNat_of_zero_le (show 0 ≤ n by omega)
    have HF := hid (find_any 14 dB dX 0 30 k (by decide) (by decide) (by decide) (by omega) (by have : dB 0 = 1 := (by decide); omega) dB_asc (fun j hj => by have := dB_le j hj; omega) (fun _ _ => rfl)
      (fun j hj w => by
        have h1 := distBase_any (j : Int) w
        rw [dists_at j hj] at h1
        rw [Nat.zero_add]
        exact h1) w)
    have HK := hid (And.intro (show 1 ≤ k by omega) (show k ≤ 32768 by omega))
    clear e h h2
    go_enter Try.func9, Try.ntmps9
    go_wp2_with fail
    refine HL.out.mono ?_
    rintro e w1 ⟨rfl, rfl⟩
    go_wp2_with fail
    refine HF.out.mono ?_
    rintro e w1 ⟨c, q, x, z, hc, hq, hx, hz, rfl, rfl⟩
    have HC := hid hc
    have HQ := hid hq
    have HX := hid hx
    have HZ := hid hz
    clear hc hq hx hz
    go_wp2
    go_ret3
    exact ⟨⟨_, rfl, .inr ⟨k, c, q, x, z, rfl, HK.out.1, HK.out.2, HC.out, HQ.out, HX.out, HZ.out, rfl⟩⟩, rfl⟩
end Go.Proofs.Ytgngkphdiaefcaa
