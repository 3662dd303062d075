/-
  The bits of a number of 32 bits in reverse order: math/bits.Reverse32, ReverseBytes32, and the program's Reverse.
-/
import Derived.Test.YthibpnkdhbkakaaGreatDoorZq17
import Derived.Test.YthibpnkdhbkakaaGreatDoorZq08
import Derived.Test.YthibpnkdhbkakaaGreatDoorZq01
import Derived.Test.YthibpnkdhbkakaaGreatDoorZq02
namespace Go.Proofs.YthibpnkdhbkakaaGreatDoor
set_option maxRecDepth 5000
open Go.RowKit

/-! ### Plain numbers -/
def rv1 (x : Nat) : Nat := (x >>> 1 &&& 1431655765) ||| ((x &&& 1431655765) <<< 1 % 4294967296)
def rv2 (x : Nat) : Nat := (x >>> 2 &&& 858993459) ||| ((x &&& 858993459) <<< 2 % 4294967296)
def rv4 (x : Nat) : Nat := (x >>> 4 &&& 252645135) ||| ((x &&& 252645135) <<< 4 % 4294967296)
def rv8 (x : Nat) : Nat := (x >>> 8 &&& 16711935) ||| ((x &&& 16711935) <<< 8 % 4294967296)
def rv16 (x : Nat) : Nat := (x >>> 16) ||| (x <<< 16 % 4294967296)
def rev32 (x : Nat) : Nat := rv16 (rv8 (rv4 (rv2 (rv1 x))))

theorem or_lt {a b : Nat} (ha : a < 4294967296) (hb : b < 4294967296) : a ||| b < 4294967296 := Nat.or_lt_two_pow (n := 32) ha hb
theorem and_lt {a b : Nat} (hb : b < 4294967296) : a &&& b < 4294967296 := Nat.lt_of_le_of_lt Nat.and_le_right hb
theorem rv1_lt (x : Nat) : rv1 x < 4294967296 := or_lt (and_lt (by decide)) (Nat.mod_lt _ (by decide))
theorem rv2_lt (x : Nat) : rv2 x < 4294967296 := or_lt (and_lt (by decide)) (Nat.mod_lt _ (by decide))
theorem rv4_lt (x : Nat) : rv4 x < 4294967296 := or_lt (and_lt (by decide)) (Nat.mod_lt _ (by decide))
theorem rv8_lt (x : Nat) : rv8 x < 4294967296 := or_lt (and_lt (by decide)) (Nat.mod_lt _ (by decide))
theorem rv16_lt (x : Nat) (h : x < 4294967296) : rv16 x < 4294967296 := or_lt (by rw [Nat.shiftRight_eq_div_pow]; exact Nat.lt_of_le_of_lt (Nat.div_le_self _ _) h) (Nat.mod_lt _ (by decide))
theorem rev32_lt (x : Nat) : rev32 x < 4294967296 := rv16_lt _ (rv8_lt _)

theorem mod_bit (x i : Nat) (h : i < 32) : (x % 4294967296).testBit i = x.testBit i := by
  have := Nat.testBit_mod_two_pow x 32 i
  rw [show (2 : Nat) ^ 32 = 4294967296 from rfl] at this
  rw [this]; simp [h]
theorem stage_at (x s m i : Nat) (hi : i < 32) : ((x >>> s &&& m) ||| ((x &&& m) <<< s % 4294967296)).testBit i = ((x.testBit (s + i) && m.testBit i) || (decide (s ≤ i) && (x.testBit (i - s) && m.testBit (i - s)))) := by
  rw [Nat.testBit_or, mod_bit _ _ hi, Nat.testBit_and, Nat.testBit_shiftRight, Nat.testBit_shiftLeft, Nat.testBit_and]
theorem stage_lo {x s m i : Nat} (hi : i < 32) (h1 : m.testBit i = true) (h2 : (decide (s ≤ i) && m.testBit (i - s)) = false) : ((x >>> s &&& m) ||| ((x &&& m) <<< s % 4294967296)).testBit i = x.testBit (s + i) := by
  rw [stage_at _ _ _ _ hi, h1]
  cases hd : decide (s ≤ i) <;> simp_all
theorem stage_hi {x s m i : Nat} (hi : i < 32) (h1 : m.testBit i = false) (h2 : (decide (s ≤ i) && m.testBit (i - s)) = true) : ((x >>> s &&& m) ||| ((x &&& m) <<< s % 4294967296)).testBit i = x.testBit (i - s) := by
  rw [stage_at _ _ _ _ hi, h1]
  simp only [Bool.and_eq_true] at h2
  simp [h2.1, h2.2]
def fl (s i : Nat) : Nat := if i / s % 2 = 0 then i + s else i - s
theorem bits1 : ∀ i, i < 32 → ((1431655765 : Nat).testBit i = decide (i / 1 % 2 = 0)) ∧ (decide (1 ≤ i) && (1431655765 : Nat).testBit (i - 1)) = !decide (i / 1 % 2 = 0) := by decide
theorem bits2 : ∀ i, i < 32 → ((858993459 : Nat).testBit i = decide (i / 2 % 2 = 0)) ∧ (decide (2 ≤ i) && (858993459 : Nat).testBit (i - 2)) = !decide (i / 2 % 2 = 0) := by decide
theorem bits4 : ∀ i, i < 32 → ((252645135 : Nat).testBit i = decide (i / 4 % 2 = 0)) ∧ (decide (4 ≤ i) && (252645135 : Nat).testBit (i - 4)) = !decide (i / 4 % 2 = 0) := by decide
theorem bitsB : ∀ i, i < 32 → ((16711935 : Nat).testBit i = decide (i / 8 % 2 = 0)) ∧ (decide (8 ≤ i) && (16711935 : Nat).testBit (i - 8)) = !decide (i / 8 % 2 = 0) := by decide
theorem stage_fl (x s m i : Nat) (hi : i < 32) (h : (m.testBit i = decide (i / s % 2 = 0)) ∧ (decide (s ≤ i) && m.testBit (i - s)) = !decide (i / s % 2 = 0)) :
    ((x >>> s &&& m) ||| ((x &&& m) <<< s % 4294967296)).testBit i = x.testBit (fl s i) := by
  by_cases hd : i / s % 2 = 0
  · rw [stage_lo hi (by rw [h.1]; simp [hd]) (by rw [h.2]; simp [hd]), fl, if_pos hd, Nat.add_comm]
  · rw [stage_hi hi (by rw [h.1]; simp [hd]) (by rw [h.2]; simp [hd]), fl, if_neg hd]
theorem rv16_at (x i : Nat) (hx : x < 4294967296) (hi : i < 32) : (rv16 x).testBit i = x.testBit (fl 16 i) := by
  unfold rv16
  rw [Nat.testBit_or, mod_bit _ _ hi, Nat.testBit_shiftRight, Nat.testBit_shiftLeft]
  by_cases h : i < 16
  · have e : i / 16 % 2 = 0 := by omega
    rw [fl, if_pos e, Nat.add_comm]
    have : decide (i ≥ 16) = false := by simp; omega
    rw [this]; simp
  · have e : ¬ i / 16 % 2 = 0 := by omega
    have h0 : x.testBit (16 + i) = false := Nat.testBit_lt_two_pow (Nat.lt_of_lt_of_le hx (Nat.pow_le_pow_right (n := 2) (by decide) (show 32 ≤ 16 + i by omega)))
    rw [fl, if_neg e, h0]
    have : decide (i ≥ 16) = true := by simp; omega
    rw [this]; simp
theorem fl_all : ∀ i, i < 32 → fl 16 i < 32 ∧ fl 8 (fl 16 i) < 32 ∧ fl 4 (fl 8 (fl 16 i)) < 32 ∧ fl 2 (fl 4 (fl 8 (fl 16 i))) < 32 ∧ fl 1 (fl 2 (fl 4 (fl 8 (fl 16 i)))) = 31 - i := by decide
theorem rev_at (x i : Nat) (hi : i < 32) : (rev32 x).testBit i = x.testBit (31 - i) := by
  obtain ⟨h1, h2, h3, h4, h5⟩ := fl_all i hi
  rw [rev32, rv16_at _ _ (rv8_lt _) hi, rv8, stage_fl _ _ _ _ h1 (bitsB _ h1), rv4, stage_fl _ _ _ _ h2 (bits4 _ h2), rv2, stage_fl _ _ _ _ h3 (bits2 _ h3), rv1, stage_fl _ _ _ _ h4 (bits1 _ h4), h5]
theorem bit_of (x i : Nat) : x / 2 ^ i % 2 = (x.testBit i).toNat := by
  rw [← Nat.toNat_testBit]
/-- the n lowest bits the other way round -/
def revN (v n : Nat) : Nat := rev32 v / 2 ^ (32 - n)
theorem revN_lt (v n : Nat) (hn : n ≤ 32) : revN v n < 2 ^ n := by
  rw [revN, Nat.div_lt_iff_lt_mul (Nat.two_pow_pos _), ← Nat.pow_add, show n + (32 - n) = 32 by omega]
  exact rev32_lt v
theorem revN_bit (v n i : Nat) (hn : n ≤ 32) (hi : i < n) : revN v n / 2 ^ (n - 1 - i) % 2 = v / 2 ^ i % 2 := by
  rw [revN, Nat.div_div_eq_div_mul, ← Nat.pow_add, bit_of, bit_of, rev_at _ _ (by omega)]
  congr 2
  omega
theorem revN_twice (v n : Nat) (hn : n ≤ 32) : revN (revN v n) n = v % 2 ^ n := by
  apply Nat.eq_of_testBit_eq
  intro i
  rw [Nat.testBit_mod_two_pow]
  by_cases hi : i < n
  · have h1 : (revN (revN v n) n).testBit i = v.testBit i := by
      rw [revN, Nat.testBit_div_two_pow, rev_at _ _ (by omega), revN, Nat.testBit_div_two_pow, rev_at _ _ (by omega)]
      congr 1
      omega
    rw [h1]; simp [hi]
  · have h1 : (revN (revN v n) n).testBit i = false := Nat.testBit_lt_two_pow (Nat.lt_of_lt_of_le (revN_lt _ n hn) (Nat.pow_le_pow_right (by decide) (by omega)))
    rw [h1]; simp [hi]

/-! ### The walks -/
theorem bits_and32 (a b : Nat) (ha : a < 4294967296) (hb : b < 4294967296) : bits .and .u32 (a : Int) (b : Int) = ((a &&& b : Nat) : Int) :=
  (bits_nat .u32 32 (by decide) (fun n h0 h1 => IntWalk.u32_in n (by omega)) a b ha hb).1
theorem bits_or32 (a b : Nat) (ha : a < 4294967296) (hb : b < 4294967296) : bits .or .u32 (a : Int) (b : Int) = ((a ||| b : Nat) : Int) :=
  (bits_nat .u32 32 (by decide) (fun n h0 h1 => IntWalk.u32_in n (by omega)) a b ha hb).2
theorem stage_val (x s m : Nat) (p : Int) (hp : p = ((2 ^ s : Nat) : Int)) (hx : x < 4294967296) (hm : m < 4294967296) :
    bits .or .u32 (bits .and .u32 ((x : Int) / p) (m : Int)) (bits .and .u32 (x : Int) (m : Int) * p % 4294967296) = (((x >>> s &&& m) ||| ((x &&& m) <<< s % 4294967296) : Nat) : Int) := by
  have e1 : (x : Int) / p = ((x >>> s : Nat) : Int) := by rw [hp, Nat.shiftRight_eq_div_pow]; exact (Int.natCast_ediv _ _).symm
  have h1 : x >>> s < 4294967296 := by rw [Nat.shiftRight_eq_div_pow]; exact Nat.lt_of_le_of_lt (Nat.div_le_self _ _) hx
  rw [e1, bits_and32 _ _ h1 hm, bits_and32 _ _ hx hm, hp]
  have e2 : (((x &&& m : Nat) : Int) * ((2 ^ s : Nat) : Int) % 4294967296) = ((((x &&& m) <<< s) % 4294967296 : Nat) : Int) := by
    rw [Nat.shiftLeft_eq]
    generalize (x &&& m) = t
    generalize 2 ^ s = q
    rw [← Int.natCast_mul]; omega
  rw [e2, bits_or32 _ _ (and_lt hm) (Nat.mod_lt _ (by decide))]
theorem last_val (x : Nat) (hx : x < 4294967296) : bits .or .u32 ((x : Int) / 65536) ((x : Int) * 65536 % 4294967296) = ((rv16 x : Nat) : Int) := by
  have e1 : (x : Int) / (65536 : Int) = ((x >>> 16 : Nat) : Int) := by rw [Nat.shiftRight_eq_div_pow]; omega
  have e2 : ((x : Int) * (65536 : Int) % (4294967296 : Int)) = ((x <<< 16 % 4294967296 : Nat) : Int) := by rw [Nat.shiftLeft_eq]; omega
  have h1 : x >>> 16 < 4294967296 := by rw [Nat.shiftRight_eq_div_pow]; exact Nat.lt_of_le_of_lt (Nat.div_le_self _ _) hx
  rw [e1, e2, bits_or32 _ _ h1 (Nat.mod_lt _ (by decide))]; rfl

theorem revbytes_any (x : Nat) (w : World) (hx : x < 4294967296) :
    Calls Tryz.prog 132 #[.int .u32 (x : Int)] w fun e w' => e = .returned (.int .u32 ((rv16 (rv8 x) : Nat) : Int)) ∧ w = w' := by
  have v1 : bits .or .u32 (bits .and .u32 ((x : Int) / 256) 16711935) (bits .and .u32 (x : Int) 16711935 * 256 % 4294967296) = ((rv8 x : Nat) : Int) := stage_val x 8 16711935 256 rfl hx (by decide)
  obtain ⟨y, hy⟩ : ∃ y, y = rv8 x := ⟨_, rfl⟩
  have hyb : y < 4294967296 := by rw [hy]; exact rv8_lt x
  rw [← hy] at v1 ⊢
  have v2 := last_val y hyb
  obtain ⟨z, hz⟩ : ∃ z, z = rv16 y := ⟨_, rfl⟩
  rw [← hz] at v2 ⊢
  clear hy hz
  go_enter Tryz.func132, Tryz.ntmps132
  go_wp2
  go_ret
  exact ⟨rfl, rfl⟩
theorem rev32_any (x : Nat) (w : World) (hx : x < 4294967296) :
    Calls Tryz.prog 131 #[.int .u32 (x : Int)] w fun e w' => e = .returned (.int .u32 ((rev32 x : Nat) : Int)) ∧ w = w' := by
  have v1 : bits .or .u32 (bits .and .u32 ((x : Int) / 2) 1431655765) (bits .and .u32 (x : Int) 1431655765 * 2 % 4294967296) = ((rv1 x : Nat) : Int) := stage_val x 1 1431655765 2 rfl hx (by decide)
  unfold rev32
  obtain ⟨y, hy⟩ : ∃ y, y = rv1 x := ⟨_, rfl⟩
  have hyb : y < 4294967296 := by rw [hy]; exact rv1_lt x
  rw [← hy] at v1 ⊢
  have v2 : bits .or .u32 (bits .and .u32 ((y : Int) / 4) 858993459) (bits .and .u32 (y : Int) 858993459 * 4 % 4294967296) = ((rv2 y : Nat) : Int) := stage_val y 2 858993459 4 rfl hyb (by decide)
  obtain ⟨z, hz⟩ : ∃ z, z = rv2 y := ⟨_, rfl⟩
  have hzb : z < 4294967296 := by rw [hz]; exact rv2_lt y
  rw [← hz] at v2 ⊢
  have v3 : bits .or .u32 (bits .and .u32 ((z : Int) / 16) 252645135) (bits .and .u32 (z : Int) 252645135 * 16 % 4294967296) = ((rv4 z : Nat) : Int) := stage_val z 4 252645135 16 rfl hzb (by decide)
  obtain ⟨u, hu⟩ : ∃ u, u = rv4 z := ⟨_, rfl⟩
  have hub : u < 4294967296 := by rw [hu]; exact rv4_lt z
  rw [← hu] at v3 ⊢
  clear hy hz hu
  go_enter Tryz.func131, Tryz.ntmps131
  go_wp2_with (go_at_call 132; refine (revbytes_any u _ hub).mono ?_; rintro e w' ⟨rfl, rfl⟩)
  go_ret
  exact ⟨rfl, rfl⟩

theorem reverse_any (v n : Nat) (w : World) (hv : v < 4294967296) (hn : n ≤ 32) :
    Calls Tryz.prog 130 #[.int .u32 (v : Int), .int .i64 (n : Int)] w fun e w' => e = .returned (.int .u32 ((revN v n : Nat) : Int)) ∧ w = w' := by
  obtain ⟨r, hr⟩ : ∃ r, r = rev32 v := ⟨_, rfl⟩
  have hval : (r : Int) / 2 ^ (32 - n) = ((revN v n : Nat) : Int) := by
    rw [revN, ← hr, two_pow_int]; exact (Int.natCast_ediv _ _).symm
  have HR := hid hr
  have HV := hid hval
  clear hr hval
  go_enter Tryz.func130, Tryz.ntmps130
  go_wp2_with (first | (go_at_call 56; refine (fits_yes _ _ ⟨by omega, by omega⟩).mono ?_; rintro e w' ⟨rfl, rfl⟩) | (go_at_call 131; refine (rev32_any v _ hv).mono ?_; rw [← HR.out]; rintro e w' ⟨rfl, rfl⟩))
  go_ret
  rw [← HV.out]
  exact ⟨rfl, rfl⟩
theorem reverse_bad (v n : Int) (w : World) (hn : n < 0 ∨ 32 < n) :
    Calls Tryz.prog 130 #[.int .u32 v, .int .i64 n] w fun e w' => e = .returned (.int .u32 0) ∧ w = w' := by
  go_enter Tryz.func130, Tryz.ntmps130
  go_wp2_with (go_at_call 56; refine (fits_no _ _ hn).mono ?_; rintro e w' ⟨rfl, rfl⟩)
  go_ret
  exact ⟨rfl, rfl⟩
end Go.Proofs.YthibpnkdhbkakaaGreatDoor
/-
  The statements' own example: a writer to which 1 and 2 are put gives the byte 5; 1 of three bits reversed is 4.
-/
namespace Go.Proofs.YthibpnkdhbkakaaGreatDoor
set_option maxRecDepth 5000
open Go.RowKit

/-- a writer that the call itself has made -/
def WNew (w wr : World) (B : Nat) (d : Value) (l : List Nat) : Prop := Wr wr B d l ∧ Mod w wr (fun _ => False) ∧ ∀ k, WSet B d k → w.heap.size ≤ k
theorem WNew.start {w wr : World} (h : Mod w wr (fun _ => False)) : WNew w (wr.alloc (.cells #[.slice none 0 0, .int .u64 0, .int .i64 0] 56)) wr.heap.size (.slice none 0 0) [] := by
  refine ⟨wr_new wr, h.alloc _, ?_⟩
  rintro k (rfl | hk)
  · exact h.size
  · simp [Value.ownBlock] at hk
theorem WNew.step {w w1 w2 : World} {B : Nat} {d : Value} {l l2 : List Nat} (h : WNew w w1 B d l) (hst : WStep w1 w2 B d l2) : ∃ d', WNew w w2 B d' l2 ∧ Mod w1 w2 (WSet B d) ∧ Moved w1 d d' := by
  obtain ⟨hW, hM, hB⟩ := h
  obtain ⟨d', hW2, hM2, hmv⟩ := hst
  refine ⟨d', ⟨hW2, hM.trans hM2 (fun k hk hs => absurd (hB k hs) (by omega)), ?_⟩, hM2, hmv⟩
  rintro k (rfl | hk)
  · exact hB _ (.inl rfl)
  · rcases hmv with hmv | hmv
    · exact hB k (.inr (hmv ▸ hk))
    · exact Nat.le_trans hM.size (hmv k hk)

theorem five : bytesOf (evened (([] ++ bitsOf 1 1) ++ bitsOf 2 2)) = [5] := by decide
theorem four : revN 1 3 = 4 := by decide

end Go.Proofs.YthibpnkdhbkakaaGreatDoor
/-
  The contracts of the bit reader's functions: a reader holds a list of bits ('Rr'); each method turns that list as its text says, and leaves all other memory as it was.
-/
namespace Go.Proofs.YthibpnkdhbkakaaGreatDoor
set_option maxRecDepth 5000
open Go.RowKit

theorem rsize {bs : List Nat} {s c : Nat} : (bitsOf c s ++ bits8 bs).length = c + 8 * bs.length := by rw [List.length_append, bits8_length, bitsOf_length]
theorem Moved.trans {w w1 : World} {d d1 d2 : Value} (h : Moved w d d1) (hsz : w.heap.size ≤ w1.heap.size) (h2 : Moved w1 d1 d2) : Moved w d d2 := by
  rcases h2 with h2 | h2
  · rcases h with h | h
    · exact .inl (h2.trans h)
    · exact .inr fun k hk => h k (h2 ▸ hk)
  · exact .inr fun k hk => Nat.le_trans hsz (h2 k hk)
theorem wset_next {w w1 w2 : World} {B : Nat} {d d1 : Value} (hlt : ∀ k, WSet B d k → k < w.heap.size) (hm : Mod w w1 (WSet B d)) (hv : Moved w d d1) (hm2 : Mod w1 w2 (WSet B d1)) : Mod w w2 (WSet B d) := by
  refine hm.trans hm2 ?_
  rintro k hk (rfl | hk2)
  · exact .inl rfl
  · rcases hv with hv | hv
    · exact .inr (hv ▸ hk2)
    · exact absurd (hv k hk2) (by omega)
/-! ### nil readers -/
/-! ### drop, skip -/
end Go.Proofs.YthibpnkdhbkakaaGreatDoor
/-
  The contracts of the bit reader's methods: Feed, Left, fill, Peek, Get, Align.
-/
namespace Go.Proofs.YthibpnkdhbkakaaGreatDoor
set_option maxRecDepth 5000
open Go.RowKit

/-! ### Feed -/
/-! ### Left -/
/-! ### Align -/
/-! ### fill -/
theorem or_shift8 (s v c : Nat) (hs : s < 2 ^ c) (hc : c < 32) (hv : v < 256) :
    bits .or .u64 (s : Int) (IntKind.u64.wrap ((v : Int) * 2 ^ c)) = ((s + 2 ^ c * v : Nat) : Int) := by
  have h1 : (2 : Nat) ^ c ≤ 2 ^ 31 := Nat.pow_le_pow_right (by decide) (by omega)
  have h2 : 2 ^ c * v < 2 ^ 31 * 256 := Nat.lt_of_le_of_lt (Nat.mul_le_mul_right _ h1) (by omega)
  have e1 : IntKind.u64.wrap ((v : Int) * 2 ^ c) = ((2 ^ c * v : Nat) : Int) := by
    have : ((v : Int) * 2 ^ c) = ((2 ^ c * v : Nat) : Int) := by rw [two_pow_int, Nat.mul_comm]; simp
    rw [this, IntWalk.u64_in _ (by omega)]
  rw [e1, bits_or_u64_nat s _ (by omega) (by omega), Nat.or_comm, ← Nat.two_pow_add_eq_or_of_lt hs, Nat.add_comm]

end Go.Proofs.YthibpnkdhbkakaaGreatDoor
/-
  The contracts of the bit reader's methods: Peek, Get, Read.
-/
namespace Go.Proofs.YthibpnkdhbkakaaGreatDoor
set_option maxRecDepth 5000
open Go.RowKit

theorem numOf_take {c s n : Nat} {t : List Nat} (h : n ≤ c) : numOf ((bitsOf c s ++ t).take n) = s % 2 ^ n := by
  rw [List.take_append_of_le_length (by rw [bitsOf_length]; exact h)]
  have h1 := bitsOf_add n (c - n) s
  rw [show n + (c - n) = c by omega] at h1
  rw [h1, List.take_append_of_le_length (by rw [bitsOf_length]; omega), List.take_of_length_le (by rw [bitsOf_length]; omega), numOf_bitsOf]

end Go.Proofs.YthibpnkdhbkakaaGreatDoor
/-
  The contract of the bit reader's method Read.
-/
namespace Go.Proofs.YthibpnkdhbkakaaGreatDoor
set_option maxRecDepth 5000
open Go.RowKit

/-- The number of bytes that Read takes. -/
def readN (l : List Nat) (n : Int) : Nat := min n.toNat ((l.drop (l.length % 8)).length / 8)

theorem read_fin {outs bs : List Nat} {c s N more : Nat} {l1 : List Nat} (hL : l1 = (bits8 outs ++ bitsOf c s) ++ bits8 bs) (hc : c = 0 ∨ outs.length = N) (hcm : c % 8 = 0) (ho : outs.length ≤ N) (hN : N ≤ l1.length / 8)
    (hmore : more = N - outs.length) (h256 : ∀ b ∈ outs, b < 256) (hb256 : ∀ b ∈ bs, b < 256) :
    outs ++ bs.take more = (bytesOf l1).take N ∧ bitsOf c s ++ bits8 (bs.drop more) = l1.drop (8 * N) ∧ more ≤ bs.length := by
  have hlen := congrArg List.length hL
  simp only [List.length_append, bits8_length, bitsOf_length] at hlen
  rcases hc with rfl | hc
  · simp only [bitsOf, List.append_nil] at hL
    have hLL : l1 = bits8 (outs ++ bs) ++ [] := by rw [hL, bits8_append, List.append_nil]
    have hB : bytesOf l1 = outs ++ bs := by
      rw [hLL]; exact bytesOf_bits8 _ _ (fun b hb' => (List.mem_append.1 hb').elim (h256 b) (hb256 b)) (by simp)
    refine ⟨?_, ?_, by omega⟩
    · rw [hB, List.take_append, List.take_of_length_le ho, hmore]
    · rw [hLL, List.append_nil, bits8_drop, List.drop_append, List.drop_eq_nil_of_le ho, hmore]; simp [bitsOf]
  · have hm0 : more = 0 := by omega
    subst hm0
    refine ⟨?_, ?_, by omega⟩
    · have hdiv : l1 = bits8 outs ++ (bitsOf c s ++ bits8 bs) := by rw [hL, List.append_assoc]
      have hcb : ∃ ks : List Nat, bitsOf c s = bits8 ks ∧ ∀ b ∈ ks, b < 256 := by
        obtain ⟨m, hm⟩ : ∃ m, c = 8 * m := ⟨c / 8, by omega⟩
        subst hm
        clear hL hlen hdiv hcm hc
        induction m generalizing s with
        | zero => exact ⟨[], rfl, by simp⟩
        | succ m ih =>
          obtain ⟨ks, h1, h2⟩ := ih (s := s / 2 ^ 8)
          refine ⟨s % 256 :: ks, ?_, ?_⟩
          · rw [bits8_cons, ← h1, show 8 * (m + 1) = 8 + 8 * m by omega, bitsOf_add, show s % 256 = s % 2 ^ 8 from rfl, bitsOf_mod]
          · intro b hb'
            rcases List.mem_cons.1 hb' with rfl | h
            · omega
            · exact h2 b h
      obtain ⟨ks, h1, h2⟩ := hcb
      have hB : bytesOf l1 = outs ++ (ks ++ bs) := by
        have : l1 = bits8 (outs ++ (ks ++ bs)) ++ [] := by rw [hdiv, h1, bits8_append, bits8_append, List.append_nil]
        rw [this]
        exact bytesOf_bits8 _ _ (fun b hb' => by
          rcases List.mem_append.1 hb' with h | h
          · exact h256 b h
          · rcases List.mem_append.1 h with h | h
            · exact h2 b h
            · exact hb256 b h) (by simp)
      rw [hB, ← hc]; simp
    · rw [hL, ← hc, List.append_assoc, ← bits8_length outs, List.drop_left]; simp

end Go.Proofs.YthibpnkdhbkakaaGreatDoor
/-
  Writers and readers among the things that a call holds.
-/
namespace Go.Proofs.YthibpnkdhbkakaaGreatDoor
set_option maxRecDepth 5000
open Go.RowKit

def wrT (B : Nat) (l : List Nat) : Thing where
  res := fun w F => ∃ d, Wr w B d l ∧ ∀ k, F k ↔ WSet B d k
  loc := fun _ _ _ _ ⟨d, h1, h2⟩ hm hS => ⟨d, h1.kept hm (fun k hk => hS k ((h2 k).2 hk)), h2⟩
theorem moved_sub {w : World} {B : Nat} {d d' : Value} {F : Nat → Prop} (h2 : ∀ k, F k ↔ WSet B d k) (hmv : Moved w d d') : ∀ k, WSet B d' k → F k ∨ w.heap.size ≤ k := by
  rintro k (rfl | hk)
  · exact .inl ((h2 k).2 (.inl rfl))
  · rcases hmv with h | h
    · exact .inl ((h2 k).2 (.inr (h ▸ hk)))
    · exact .inr (h k hk)
theorem Held.wr {w0 w : World} {B : Nat} {l : List Nat} {Rs : List Thing} (h : Held w0 w (wrT B l :: Rs)) : ∃ d, Wr w B d l ∧ (∀ k, WSet B d k → w0.heap.size ≤ k) ∧ ∀ w' l', WStep w w' B d l' → Held w0 w' (wrT B l' :: Rs) := by
  obtain ⟨F, ⟨d, hW, h2⟩, hF, back⟩ := h.take
  refine ⟨d, hW, fun k hk => (hF k ((h2 k).2 hk)).1, fun w' l' ⟨d', hW', hm, hmv⟩ => back w' _ _ ⟨d', hW', fun _ => Iff.rfl⟩ (hm.mono fun k _ hk => (h2 k).2 hk) (moved_sub h2 hmv) hW'.lt⟩
theorem Held.wr_own {w0 w : World} {B : Nat} {l : List Nat} {e : TypeId} {size n : Nat} {v : Value} {xs : List Value} {Rs : List Thing} (h : Held w0 w (wrT B l :: ownT e size v n xs :: Rs)) :
    ∃ d, Wr w B d l ∧ Own w e size v n xs ∧ (∀ k, v.ownBlock = some k → ¬ WSet B d k) ∧ ∀ w' l', WStep w w' B d l' → Held w0 w' (wrT B l' :: ownT e size v n xs :: Rs) := by
  obtain ⟨F, ⟨d, hW, h2⟩, hF, F2, ⟨ho, h3⟩, hF2, hr⟩ := h
  have hh : Held w0 w (wrT B l :: ownT e size v n xs :: Rs) := ⟨F, ⟨d, hW, h2⟩, hF, F2, ⟨ho, h3⟩, hF2, hr⟩
  refine ⟨d, hW, ho, fun k hk hs => (hF2 k ((h3 k).2 hk)).2.2 (.inr ((h2 k).2 hs)), fun w' l' ⟨d', hW', hm, hmv⟩ => ?_⟩
  refine ⟨fun k => WSet B d' k, ⟨d', hW', fun _ => Iff.rfl⟩, fun k hk => ⟨?_, hW'.lt k hk, fun h => h⟩, ?_⟩
  · rcases moved_sub h2 hmv k hk with hf | hf
    · exact (hF k hf).1
    · exact Nat.le_trans hh.mod.size hf
  · have h0 : HeldU w0 w (fun k => False ∨ F k) (ownT e size v n xs :: Rs) := ⟨F2, ⟨ho, h3⟩, hF2, hr⟩
    have h4 := (h0.more (V := fun k => (False ∨ F k) ∨ WSet B d' k) fun k hk => by
      rcases hk with hk | hk
      · exact .inl hk
      · rcases moved_sub h2 hmv k hk with hf | hf
        · exact .inl (.inr hf)
        · exact .inr hf).step (hm.mono (T := F) fun k _ hk => (h2 k).2 hk) (fun k hk _ => (hF k hk).1) (fun k hk _ => .inl (.inr hk))
    exact h4.less fun k hk => by
      rcases hk with hk | hk
      · exact hk.elim
      · exact .inr hk
theorem Held.newWr {w0 w : World} {Rs : List Thing} (h : Held w0 w Rs) : Held w0 (w.alloc (.cells #[.slice none 0 0, .int .u64 0, .int .i64 0] 56)) (wrT w.heap.size [] :: Rs) :=
  h.push _ _ ⟨_, wr_new w, fun _ => Iff.rfl⟩ ((Mod.refl w _).alloc _) (by
    rintro k (rfl | hk)
    · exact ⟨Nat.le_refl _, by simp⟩
    · simp [Value.ownBlock] at hk)
theorem Held.took {w0 w : World} {B : Nat} {l : List Nat} {Rs : List Thing} (h : Held w0 w (wrT B l :: Rs)) : ∃ d, Wr w B d l ∧ ∀ w' n xs l', Own w' 5 1 d n xs → Wr w' B (.slice none 0 0) l' → Mod w w' (fun k => k = B) → Held w0 w' (ownT 5 1 d n xs :: wrT B l' :: Rs) := by
  obtain ⟨F, ⟨d, hW, h2⟩, h3, h4⟩ := h
  refine ⟨d, hW, fun w' n xs l' ho hW' hm => ?_⟩
  refine Held.split h4 (fun k hk => ⟨(h3 k hk).1, (h3 k hk).2.1⟩) (F1 := fun k => d.ownBlock = some k) (F2 := fun k => k = B) ⟨ho, fun _ => Iff.rfl⟩ ⟨_, hW', fun k => ⟨.inl, fun hk => hk.elim id (fun h => by simp [Value.ownBlock] at h)⟩⟩ (hm.mono fun k _ hk => (h2 k).2 (.inl hk))
    (fun k hk => (h2 k).2 (.inr hk)) (fun k hk => (h2 k).2 (.inl hk)) (fun k hk e => hW.ne (by rw [hk, e]))
theorem Held.isBits {w0 w : World} {B : Nat} {l : List Nat} {Rs : List Thing} (h : Held w0 w (wrT B l :: Rs)) : isBits l := by
  obtain ⟨d, hW, _, _⟩ := h.wr
  exact hW.isBits
theorem Held.built {w0 w w' : World} {v : Value} {l : List Nat} {Rs : List Thing} (h : Held w0 w Rs) (hb : Built w w' v l) : Held w0 w' (ownT 5 1 v l.length (u8s l) :: Rs) := h.pushOwn hb.1 hb.2.1 hb.2.2
end Go.Proofs.YthibpnkdhbkakaaGreatDoor
/-
  The contracts of the writer, the reader and the reference's functions, over the things that a call holds.
-/
namespace Go.Proofs.YthibpnkdhbkakaaGreatDoor
set_option maxRecDepth 5000
open Go.RowKit

section
variable {w0 w : World} {B : Nat} {l : List Nat} {Rs : List Thing}
theorem h_newW (h : Held w0 w Rs) : Calls Tryz.prog 8 #[] w fun e w' => ∃ B, e = .returned (.pointer (some ⟨B, 0, none⟩)) ∧ Held w0 w' (wrT B [] :: Rs) :=
  (new_writer w).mono fun _ _ ⟨h1, h2⟩ => ⟨_, h1, by rw [h2]; exact h.newWr⟩
theorem h_put (h : Held w0 w (wrT B l :: Rs)) (v n : Nat) (hv : v < 4294967296) (hn : n ≤ 32) (hl : l.length < 1099511600000) :
    Calls Tryz.prog 42 #[.pointer (some ⟨B, 0, none⟩), .int .u32 (v : Int), .int .i64 (n : Int)] w fun e w' => e = .returned (.tuple #[]) ∧ Held w0 w' (wrT B (l ++ bitsOf n v) :: Rs) := by
  obtain ⟨d, hW, _, back⟩ := h.wr
  exact (put_any B d l v n w hW hv hn (by omega)).mono fun _ _ ⟨h1, h2⟩ => ⟨h1, back _ _ h2⟩
theorem h_walign (h : Held w0 w (wrT B l :: Rs)) (hl : l.length < 1099511600000) :
    Calls Tryz.prog 12 #[.pointer (some ⟨B, 0, none⟩)] w fun e w' => e = .returned (.tuple #[]) ∧ Held w0 w' (wrT B (evened l) :: Rs) := by
  obtain ⟨d, hW, _, back⟩ := h.wr
  exact (walign_any B d l w hW (by omega)).mono fun _ _ ⟨h1, h2⟩ => ⟨h1, back _ _ h2⟩
theorem h_write_old (h : Held w0 w (wrT B l :: Rs)) (v : Value) (n : Nat) (news : List Nat) (hv : Rd w0 1 v n (u8s news)) (hn256 : ∀ b ∈ news, b < 256) (hnl : n < 1099511627776) (hl : l.length < 1099511600000) :
    Calls Tryz.prog 124 #[.pointer (some ⟨B, 0, none⟩), v] w fun e w' => e = .returned (.tuple #[]) ∧ Held w0 w' (wrT B (evened l ++ bits8 news) :: Rs) := by
  obtain ⟨d, hW, hab, back⟩ := h.wr
  exact (write_any B d v l news n w hW hl (h.old hv) (fun hn k hk hs => by have h1 := hv.lt (by decide) hn k hk; have h2 := hab k hs; omega) hn256 hnl).mono fun _ _ ⟨h1, h2⟩ => ⟨h1, back _ _ h2⟩
theorem h_write_own {v : Value} {n : Nat} {news : List Nat} (h : Held w0 w (wrT B l :: ownT 5 1 v n (u8s news) :: Rs)) (hn256 : ∀ b ∈ news, b < 256) (hnl : n < 1099511627776) (hl : l.length < 1099511600000) :
    Calls Tryz.prog 124 #[.pointer (some ⟨B, 0, none⟩), v] w fun e w' => e = .returned (.tuple #[]) ∧ Held w0 w' (wrT B (evened l ++ bits8 news) :: ownT 5 1 v n (u8s news) :: Rs) := by
  obtain ⟨d, hW, ho, hdis, back⟩ := h.wr_own
  exact (write_any B d v l news n w hW hl ho.rd (fun _ => hdis) hn256 hnl).mono fun _ _ ⟨h1, h2⟩ => ⟨h1, back _ _ h2⟩
theorem h_take (h : Held w0 w (wrT B l :: Rs)) :
    Calls Tryz.prog 13 #[.pointer (some ⟨B, 0, none⟩)] w fun e w' => ∃ d, e = .returned d ∧ Held w0 w' (ownT 5 1 d (bytesOf l).length (u8s (bytesOf l)) :: wrT B (l.drop (8 * (bytesOf l).length)) :: Rs) := by
  obtain ⟨d, hW, back⟩ := h.took
  exact (take_any B d l w hW).mono fun _ _ ⟨h1, h2, h3, h4⟩ => ⟨d, h1, back _ _ _ _ h2 h3 h4⟩
theorem h_wbits (h : Held w0 w (wrT B l :: Rs)) (hl : l.length < 1099511600000) :
    Calls Tryz.prog 10 #[.pointer (some ⟨B, 0, none⟩)] w fun e w' => e = .returned (.int .i64 (l.length : Int)) ∧ Held w0 w' (wrT B l :: Rs) := by
  obtain ⟨d, hW, _, _⟩ := h.wr
  exact (wbits_any B d l w hW (by omega)).mono fun _ _ ⟨h1, n, h2⟩ => ⟨h1, by rw [h2]; exact h.drewN n⟩
theorem h_same (h : Held w0 w Rs) (v u : Value) (a b : List Nat) (hv : Rd w 1 v a.length (u8s a)) (hu : Rd w 1 u b.length (u8s b)) (hal : a.length < 8000000000) :
    Calls Tryz.prog 16 #[v, u] w fun e w' => e = .returned (.bool (decide (a = b))) ∧ Held w0 w' Rs :=
  (same_any v u a b w hv hu hal).mono fun _ _ ⟨h1, n, h2⟩ => ⟨h1, by rw [h2]; exact h.drewN n⟩
theorem h_same_yes (h : Held w0 w Rs) (v u : Value) (a : List Nat) (n : Nat) (hv : Rd w 1 v n (u8s a)) (hu : Rd w 1 u n (u8s a)) (hal : n < 8000000000) :
    Calls Tryz.prog 16 #[v, u] w fun e w' => e = .returned (.bool true) ∧ Held w0 w' Rs := by
  have hn : n = a.length := by have := hv.1; rw [u8s_length] at this; omega
  subst hn
  exact (h_same h v u a a hv hu hal).mono fun _ _ ⟨h1, h2⟩ => ⟨by rw [h1]; simp, h2⟩
theorem h_bits (h : Held w0 w Rs) (v : Value) (l : List Nat) (hv : Rd w 1 v l.length (u8s l)) (hb : ∀ b ∈ l, b < 256) (hl : l.length < 1000000000) :
    Calls Tryz.prog 27 #[v] w fun e w' => ∃ v', e = .returned v' ∧ Held w0 w' (ownT 5 1 v' (8 * l.length) (u8s (bits8 l)) :: Rs) :=
  (bits_any v l w hv hb hl).mono fun _ _ ⟨v', h1, h2⟩ => ⟨v', h1, by have := h.built h2; rwa [bits8_length] at this⟩
end
end Go.Proofs.YthibpnkdhbkakaaGreatDoor
