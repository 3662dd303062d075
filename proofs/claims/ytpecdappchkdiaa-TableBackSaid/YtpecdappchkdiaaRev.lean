/-
  The bits of a number of 32 bits in reverse order: math/bits.Reverse32, ReverseBytes32, and the program's Reverse.
-/
import Derived.Test.YtpecdappchkdiaaBitsW
namespace Go.Proofs.Ytpecdappchkdiaa
open Go.RowKit

/-! ### Plain numbers -/
def rv1 (x : Nat) : Nat := (x >>> 1 &&& 1431655765) ||| ((x &&& 1431655765) <<< 1 % 4294967296)
def rv2 (x : Nat) : Nat := (x >>> 2 &&& 858993459) ||| ((x &&& 858993459) <<< 2 % 4294967296)
def rv4 (x : Nat) : Nat := (x >>> 4 &&& 252645135) ||| ((x &&& 252645135) <<< 4 % 4294967296)
def rv8 (x : Nat) : Nat := (x >>> 8 &&& 16711935) ||| ((x &&& 16711935) <<< 8 % 4294967296)
def rv16 (x : Nat) : Nat := (x >>> 16) ||| (x <<< 16 % 4294967296)
def rev32 (x : Nat) : Nat := rv16 (rv8 (rv4 (rv2 (rv1 x))))

theorem or_lt {a b : Nat} (ha : a < 4294967296) (hb : b < 4294967296) : a ||| b < 4294967296 := Nat.or_lt_two_pow (n := 32) ha hb
theorem and_lt {a b : Nat} (hb : b < 4294967296) : a &&& b < 4294967296 := Nat.lt_of_le_of_lt Nat.and_le_right hb
theorem rv1_lt (x : Nat) : rv1 x < 4294967296 := or_lt (and_lt (by decide)) (Nat.mod_lt _ (by decide))
theorem rv2_lt (x : Nat) : rv2 x < 4294967296 := or_lt (and_lt (by decide)) (Nat.mod_lt _ (by decide))
theorem rv4_lt (x : Nat) : rv4 x < 4294967296 := or_lt (and_lt (by decide)) (Nat.mod_lt _ (by decide))
theorem rv8_lt (x : Nat) : rv8 x < 4294967296 := or_lt (and_lt (by decide)) (Nat.mod_lt _ (by decide))
theorem rv16_lt (x : Nat) (h : x < 4294967296) : rv16 x < 4294967296 := or_lt (by rw [Nat.shiftRight_eq_div_pow]; exact Nat.lt_of_le_of_lt (Nat.div_le_self _ _) h) (Nat.mod_lt _ (by decide))
theorem rev32_lt (x : Nat) : rev32 x < 4294967296 := rv16_lt _ (rv8_lt _)

theorem mod_bit (x i : Nat) (h : i < 32) : (x % 4294967296).testBit i = x.testBit i := by
  have := Nat.testBit_mod_two_pow x 32 i
  rw [show (2 : Nat) ^ 32 = 4294967296 from rfl] at this
  rw [this]; simp [h]
theorem stage_at (x s m i : Nat) (hi : i < 32) : ((x >>> s &&& m) ||| ((x &&& m) <<< s % 4294967296)).testBit i = ((x.testBit (s + i) && m.testBit i) || (decide (s ≤ i) && (x.testBit (i - s) && m.testBit (i - s)))) := by
  rw [Nat.testBit_or, mod_bit _ _ hi, Nat.testBit_and, Nat.testBit_shiftRight, Nat.testBit_shiftLeft, Nat.testBit_and]
theorem stage_lo {x s m i : Nat} (hi : i < 32) (h1 : m.testBit i = true) (h2 : (decide (s ≤ i) && m.testBit (i - s)) = false) : ((x >>> s &&& m) ||| ((x &&& m) <<< s % 4294967296)).testBit i = x.testBit (s + i) := by
  rw [stage_at _ _ _ _ hi, h1]
  cases hd : decide (s ≤ i) <;> simp_all
theorem stage_hi {x s m i : Nat} (hi : i < 32) (h1 : m.testBit i = false) (h2 : (decide (s ≤ i) && m.testBit (i - s)) = true) : ((x >>> s &&& m) ||| ((x &&& m) <<< s % 4294967296)).testBit i = x.testBit (i - s) := by
  rw [stage_at _ _ _ _ hi, h1]
  simp only [Bool.and_eq_true] at h2
  simp [h2.1, h2.2]
def fl (s i : Nat) : Nat := if i / s % 2 = 0 then i + s else i - s
theorem bits1 : ∀ i, i < 32 → ((1431655765 : Nat).testBit i = decide (i / 1 % 2 = 0)) ∧ (decide (1 ≤ i) && (1431655765 : Nat).testBit (i - 1)) = !decide (i / 1 % 2 = 0) := by decide
theorem bits2 : ∀ i, i < 32 → ((858993459 : Nat).testBit i = decide (i / 2 % 2 = 0)) ∧ (decide (2 ≤ i) && (858993459 : Nat).testBit (i - 2)) = !decide (i / 2 % 2 = 0) := by decide
theorem bits4 : ∀ i, i < 32 → ((252645135 : Nat).testBit i = decide (i / 4 % 2 = 0)) ∧ (decide (4 ≤ i) && (252645135 : Nat).testBit (i - 4)) = !decide (i / 4 % 2 = 0) := by decide
theorem bitsB : ∀ i, i < 32 → ((16711935 : Nat).testBit i = decide (i / 8 % 2 = 0)) ∧ (decide (8 ≤ i) && (16711935 : Nat).testBit (i - 8)) = !decide (i / 8 % 2 = 0) := by decide
theorem stage_fl (x s m i : Nat) (hi : i < 32) (h : (m.testBit i = decide (i / s % 2 = 0)) ∧ (decide (s ≤ i) && m.testBit (i - s)) = !decide (i / s % 2 = 0)) :
    ((x >>> s &&& m) ||| ((x &&& m) <<< s % 4294967296)).testBit i = x.testBit (fl s i) := by
  by_cases hd : i / s % 2 = 0
  · rw [stage_lo hi (by rw [h.1]; simp [hd]) (by rw [h.2]; simp [hd]), fl, if_pos hd, Nat.add_comm]
  · rw [stage_hi hi (by rw [h.1]; simp [hd]) (by rw [h.2]; simp [hd]), fl, if_neg hd]
theorem rv16_at (x i : Nat) (hx : x < 4294967296) (hi : i < 32) : (rv16 x).testBit i = x.testBit (fl 16 i) := by
  unfold rv16
  rw [Nat.testBit_or, mod_bit _ _ hi, Nat.testBit_shiftRight, Nat.testBit_shiftLeft]
  by_cases h : i < 16
  · have e : i / 16 % 2 = 0 := by omega
    rw [fl, if_pos e, Nat.add_comm]
    have : decide (i ≥ 16) = false := by simp; omega
    rw [this]; simp
  · have e : ¬ i / 16 % 2 = 0 := by omega
    have h0 : x.testBit (16 + i) = false := Nat.testBit_lt_two_pow (Nat.lt_of_lt_of_le hx (Nat.pow_le_pow_right (n := 2) (by decide) (show 32 ≤ 16 + i by omega)))
    rw [fl, if_neg e, h0]
    have : decide (i ≥ 16) = true := by simp; omega
    rw [this]; simp
theorem fl_all : ∀ i, i < 32 → fl 16 i < 32 ∧ fl 8 (fl 16 i) < 32 ∧ fl 4 (fl 8 (fl 16 i)) < 32 ∧ fl 2 (fl 4 (fl 8 (fl 16 i))) < 32 ∧ fl 1 (fl 2 (fl 4 (fl 8 (fl 16 i)))) = 31 - i := by decide
theorem rev_at (x i : Nat) (hi : i < 32) : (rev32 x).testBit i = x.testBit (31 - i) := by
  obtain ⟨h1, h2, h3, h4, h5⟩ := fl_all i hi
  rw [rev32, rv16_at _ _ (rv8_lt _) hi, rv8, stage_fl _ _ _ _ h1 (bitsB _ h1), rv4, stage_fl _ _ _ _ h2 (bits4 _ h2), rv2, stage_fl _ _ _ _ h3 (bits2 _ h3), rv1, stage_fl _ _ _ _ h4 (bits1 _ h4), h5]
theorem bit_of (x i : Nat) : x / 2 ^ i % 2 = (x.testBit i).toNat := by
  rw [← Nat.toNat_testBit]
/-- the n lowest bits the other way round -/
def revN (v n : Nat) : Nat := rev32 v / 2 ^ (32 - n)
theorem revN_lt (v n : Nat) (hn : n ≤ 32) : revN v n < 2 ^ n := by
  rw [revN, Nat.div_lt_iff_lt_mul (Nat.two_pow_pos _), ← Nat.pow_add, show n + (32 - n) = 32 by omega]
  exact rev32_lt v
theorem revN_bit (v n i : Nat) (hn : n ≤ 32) (hi : i < n) : revN v n / 2 ^ (n - 1 - i) % 2 = v / 2 ^ i % 2 := by
  rw [revN, Nat.div_div_eq_div_mul, ← Nat.pow_add, bit_of, bit_of, rev_at _ _ (by omega)]
  congr 2
  omega
theorem revN_twice (v n : Nat) (hn : n ≤ 32) : revN (revN v n) n = v % 2 ^ n := by
  apply Nat.eq_of_testBit_eq
  intro i
  rw [Nat.testBit_mod_two_pow]
  by_cases hi : i < n
  · have h1 : (revN (revN v n) n).testBit i = v.testBit i := by
      rw [revN, Nat.testBit_div_two_pow, rev_at _ _ (by omega), revN, Nat.testBit_div_two_pow, rev_at _ _ (by omega)]
      congr 1
      omega
    rw [h1]; simp [hi]
  · have h1 : (revN (revN v n) n).testBit i = false := Nat.testBit_lt_two_pow (Nat.lt_of_lt_of_le (revN_lt _ n hn) (Nat.pow_le_pow_right (by decide) (by omega)))
    rw [h1]; simp [hi]

/-! ### The walks -/
theorem bits_and32 (a b : Nat) (ha : a < 4294967296) (hb : b < 4294967296) : bits .and .u32 (a : Int) (b : Int) = ((a &&& b : Nat) : Int) :=
  (bits_nat .u32 32 (by decide) (fun n h0 h1 => IntWalk.u32_in n (by omega)) a b ha hb).1
theorem bits_or32 (a b : Nat) (ha : a < 4294967296) (hb : b < 4294967296) : bits .or .u32 (a : Int) (b : Int) = ((a ||| b : Nat) : Int) :=
  (bits_nat .u32 32 (by decide) (fun n h0 h1 => IntWalk.u32_in n (by omega)) a b ha hb).2
theorem stage_val (x s m : Nat) (p : Int) (hp : p = ((2 ^ s : Nat) : Int)) (hx : x < 4294967296) (hm : m < 4294967296) :
    bits .or .u32 (bits .and .u32 ((x : Int) / p) (m : Int)) (bits .and .u32 (x : Int) (m : Int) * p % 4294967296) = (((x >>> s &&& m) ||| ((x &&& m) <<< s % 4294967296) : Nat) : Int) := by
  have e1 : (x : Int) / p = ((x >>> s : Nat) : Int) := by rw [hp, Nat.shiftRight_eq_div_pow]; exact (Int.natCast_ediv _ _).symm
  have h1 : x >>> s < 4294967296 := by rw [Nat.shiftRight_eq_div_pow]; exact Nat.lt_of_le_of_lt (Nat.div_le_self _ _) hx
  rw [e1, bits_and32 _ _ h1 hm, bits_and32 _ _ hx hm, hp]
  have e2 : (((x &&& m : Nat) : Int) * ((2 ^ s : Nat) : Int) % 4294967296) = ((((x &&& m) <<< s) % 4294967296 : Nat) : Int) := by
    rw [Nat.shiftLeft_eq]
    generalize (x &&& m) = t
    generalize 2 ^ s = q
    rw [← Int.natCast_mul]; omega
  rw [e2, bits_or32 _ _ (and_lt hm) (Nat.mod_lt _ (by decide))]
theorem last_val (x : Nat) (hx : x < 4294967296) : bits .or .u32 ((x : Int) / 65536) ((x : Int) * 65536 % 4294967296) = ((rv16 x : Nat) : Int) := by
  have e1 : (x : Int) / (65536 : Int) = ((x >>> 16 : Nat) : Int) := by rw [Nat.shiftRight_eq_div_pow]; omega
  have e2 : ((x : Int) * (65536 : Int) % (4294967296 : Int)) = ((x <<< 16 % 4294967296 : Nat) : Int) := by rw [Nat.shiftLeft_eq]; omega
  have h1 : x >>> 16 < 4294967296 := by rw [Nat.shiftRight_eq_div_pow]; exact Nat.lt_of_le_of_lt (Nat.div_le_self _ _) hx
  rw [e1, e2, bits_or32 _ _ h1 (Nat.mod_lt _ (by decide))]; rfl

theorem revbytes_any (x : Nat) (w : World) (hx : x < 4294967296) :
    Calls Try.prog 49 #[.int .u32 (x : Int)] w fun e w' => e = .returned (.int .u32 ((rv16 (rv8 x) : Nat) : Int)) ∧ w = w' := by
  have v1 : bits .or .u32 (bits .and .u32 ((x : Int) / 256) 16711935) (bits .and .u32 (x : Int) 16711935 * 256 % 4294967296) = ((rv8 x : Nat) : Int) := stage_val x 8 16711935 256 rfl hx (by decide)
  obtain ⟨y, hy⟩ : ∃ y, y = rv8 x := ⟨_, rfl⟩
  have hyb : y < 4294967296 := by rw [hy]; exact rv8_lt x
  rw [← hy] at v1 ⊢
  have v2 := last_val y hyb
  obtain ⟨z, hz⟩ : ∃ z, z = rv16 y := ⟨_, rfl⟩
  rw [← hz] at v2 ⊢
  clear hy hz
  go_enter Try.func49, Try.ntmps49
  go_wp2
  go_ret
  exact ⟨rfl, rfl⟩
theorem rev32_any (x : Nat) (w : World) (hx : x < 4294967296) :
    Calls Try.prog 46 #[.int .u32 (x : Int)] w fun e w' => e = .returned (.int .u32 ((rev32 x : Nat) : Int)) ∧ w = w' := by
  have v1 : bits .or .u32 (bits .and .u32 ((x : Int) / 2) 1431655765) (bits .and .u32 (x : Int) 1431655765 * 2 % 4294967296) = ((rv1 x : Nat) : Int) := stage_val x 1 1431655765 2 rfl hx (by decide)
  unfold rev32
  obtain ⟨y, hy⟩ : ∃ y, y = rv1 x := ⟨_, rfl⟩
  have hyb : y < 4294967296 := by rw [hy]; exact rv1_lt x
  rw [← hy] at v1 ⊢
  have v2 : bits .or .u32 (bits .and .u32 ((y : Int) / 4) 858993459) (bits .and .u32 (y : Int) 858993459 * 4 % 4294967296) = ((rv2 y : Nat) : Int) := stage_val y 2 858993459 4 rfl hyb (by decide)
  obtain ⟨z, hz⟩ : ∃ z, z = rv2 y := ⟨_, rfl⟩
  have hzb : z < 4294967296 := by rw [hz]; exact rv2_lt y
  rw [← hz] at v2 ⊢
  have v3 : bits .or .u32 (bits .and .u32 ((z : Int) / 16) 252645135) (bits .and .u32 (z : Int) 252645135 * 16 % 4294967296) = ((rv4 z : Nat) : Int) := stage_val z 4 252645135 16 rfl hzb (by decide)
  obtain ⟨u, hu⟩ : ∃ u, u = rv4 z := ⟨_, rfl⟩
  have hub : u < 4294967296 := by rw [hu]; exact rv4_lt z
  rw [← hu] at v3 ⊢
  clear hy hz hu
  go_enter Try.func46, Try.ntmps46
  go_wp2_with (go_at_call 49; refine (revbytes_any u _ hub).mono ?_; rintro e w' ⟨rfl, rfl⟩)
  go_ret
  exact ⟨rfl, rfl⟩

theorem reverse_any (v n : Nat) (w : World) (hv : v < 4294967296) (hn : n ≤ 32) :
    Calls Try.prog 33 #[.int .u32 (v : Int), .int .i64 (n : Int)] w fun e w' => e = .returned (.int .u32 ((revN v n : Nat) : Int)) ∧ w = w' := by
  obtain ⟨r, hr⟩ : ∃ r, r = rev32 v := ⟨_, rfl⟩
  have hval : (r : Int) / 2 ^ (32 - n) = ((revN v n : Nat) : Int) := by
    rw [revN, ← hr, two_pow_int]; exact (Int.natCast_ediv _ _).symm
  have HR := hid hr
  have HV := hid hval
  clear hr hval
  go_enter Try.func33, Try.ntmps33
  go_wp2_with (first | (go_at_call 43; refine (fits_yes _ _ ⟨by omega, by omega⟩).mono ?_; rintro e w' ⟨rfl, rfl⟩) | (go_at_call 46; refine (rev32_any v _ hv).mono ?_; rw [← HR.out]; rintro e w' ⟨rfl, rfl⟩))
  go_ret
  rw [← HV.out]
  exact ⟨rfl, rfl⟩
theorem reverse_bad (v n : Int) (w : World) (hn : n < 0 ∨ 32 < n) :
    Calls Try.prog 33 #[.int .u32 v, .int .i64 n] w fun e w' => e = .returned (.int .u32 0) ∧ w = w' := by
  go_enter Try.func33, Try.ntmps33
  go_wp2_with (go_at_call 43; refine (fits_no _ _ hn).mono ?_; rintro e w' ⟨rfl, rfl⟩)
  go_ret
  exact ⟨rfl, rfl⟩
end Go.Proofs.Ytpecdappchkdiaa
