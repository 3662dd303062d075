/-
  The reference's Sum and Check.
-/
import Derived.Test.YtbkbkmgogbgofaaDoorProg
import Derived.Test.YtbkbkmgogbgofaaDoorZh04
import Derived.StillTailTactics
import Derived.Test.YtbkbkmgogbgofaaDoorZh01
import Derived.Test.YtbkbkmgogbgofaaDoorZh02
import Derived.Test.YtbkbkmgogbgofaaDoorZh06
namespace Go.Proofs.YtbkbkmgogbgofaaDoor
set_option maxRecDepth 5000
open Go.RowKit
end Go.Proofs.YtbkbkmgogbgofaaDoor
/-
  A struct that lies somewhere in a whole object (Place): its cells, among those of the object; the object as a thing. No program is named here.
-/
namespace Go.Proofs.YtbkbkmgogbgofaaDoor
set_option maxRecDepth 5000
open Go.RowKit
structure Place where
  b : Nat
  o : Nat
  pre : List Value
  post : List Value
  T : TypeId
  len : pre.length = o
def Place.whole (b : Nat) (T : TypeId) : Place := ⟨b, 0, [], [], T, rfl⟩
def BlkP (w : World) (p : Place) (cs : List Value) : Prop := Blk w p.b (p.pre ++ (cs ++ p.post)) p.T
section
variable {w w' : World} {p : Place} {cs : List Value}
theorem BlkP.lt (h : BlkP w p cs) : p.b < w.heap.size := Blk.lt h
theorem BlkP.cell (h : BlkP w p cs) {i : Nat} {v : Value} (hv : cs[i]? = some v) : w.cell? ⟨p.b, p.o + i, none⟩ = some v := by
  refine Blk.cell h ?_
  have hi := (List.getElem?_eq_some_iff.1 hv).1
  rw [← p.len, List.getElem?_append_right (by omega), Nat.add_sub_cancel_left, List.getElem?_append_left hi]
  exact hv
theorem BlkP.cell0 (h : BlkP w p cs) {v : Value} (hv : cs[0]? = some v) : w.cell? ⟨p.b, p.o, none⟩ = some v := h.cell (i := 0) hv
theorem BlkP.frozen (h : BlkP w p cs) (i : Nat) : w.frozen? ⟨p.b, p.o + i, none⟩ = false := Blk.frozen h _
theorem BlkP.frozen0 (h : BlkP w p cs) : w.frozen? ⟨p.b, p.o, none⟩ = false := Blk.frozen h _
theorem place_set (p : Place) (cs : List Value) (i : Nat) (u : Value) (hi : i < cs.length) : (p.pre ++ (cs ++ p.post)).set (p.o + i) u = p.pre ++ (cs.set i u ++ p.post) := by
  rw [List.set_append_right _ _ (by have := p.len; omega), show p.o + i - p.pre.length = i by have := p.len; omega, List.set_append_left _ _ hi]
theorem BlkP.set (h : BlkP w p cs) (i : Nat) (u : Value) (hi : i < cs.length := by exact Nat.le_of_ble_eq_true rfl) : BlkP (w.setCell ⟨p.b, p.o + i, none⟩ u) p (cs.set i u) := by
  unfold BlkP
  rw [← place_set p cs i u hi]
  exact Blk.set h _ _
theorem BlkP.set0 (h : BlkP w p cs) (u : Value) (hi : 0 < cs.length := by exact Nat.le_of_ble_eq_true rfl) : BlkP (w.setCell ⟨p.b, p.o, none⟩ u) p (cs.set 0 u) := h.set 0 u hi
theorem BlkP.kept (h : BlkP w p cs) {S : Nat → Prop} (hm : Mod w w' S) (hs : ¬ S p.b) : BlkP w' p cs := Blk.kept h hm hs
theorem BlkP.alloc (h : BlkP w p cs) (o : Obj) : BlkP (w.alloc o) p cs := Blk.alloc h o
theorem BlkP.grown (h : BlkP w p cs) {row : Option Nat} (hg : w.grownBy w' row) (hr : row ≠ some p.b) : BlkP w' p cs := Blk.grown h hg hr
theorem BlkP.drew (h : BlkP w p cs) : BlkP w.drew p cs := h
end
def objP (p : Place) (cs : List Value) : Thing := objT p.b (p.pre ++ (cs ++ p.post)) p.T
theorem objP_whole (B : Nat) (cs : List Value) (T : TypeId) : objP (.whole B T) cs = objT B cs T := by
  show objT B ([] ++ (cs ++ [])) T = _
  rw [List.append_nil]; rfl
section
variable {w0 w : World} {p : Place} {cs : List Value} {Rs : List Thing}
theorem Held.objp (h : Held w0 w (objP p cs :: Rs)) : BlkP w p cs := Held.obj h
theorem Held.setObjP (h : Held w0 w (objP p cs :: Rs)) (i : Nat) (u : Value) (hi : i < cs.length := by exact Nat.le_of_ble_eq_true rfl) : Held w0 (w.setCell ⟨p.b, p.o + i, none⟩ u) (objP p (cs.set i u) :: Rs) := by
  unfold objP
  rw [← place_set p cs i u hi]
  exact Held.setObj h _ _
theorem Held.setObjP0 (h : Held w0 w (objP p cs :: Rs)) (u : Value) (hi : 0 < cs.length := by exact Nat.le_of_ble_eq_true rfl) : Held w0 (w.setCell ⟨p.b, p.o, none⟩ u) (objP p (cs.set 0 u) :: Rs) := h.setObjP 0 u hi
theorem Held.newObjP (h : Held w0 w Rs) (cs : List Value) (T : TypeId) : Held w0 (w.alloc (.cells cs.toArray T)) (objP (.whole w.heap.size T) cs :: Rs) := by
  rw [objP_whole]
  exact h.newObj cs T
theorem Held.apartP {e : TypeId} {size n : Nat} {v : Value} {xs : List Value} (h : Held w0 w (objP p cs :: ownT e size v n xs :: Rs)) : v.ownBlock ≠ some p.b := Held.apart h
end
end Go.Proofs.YtbkbkmgogbgofaaDoor
/-
  The contracts of the bit writer's functions: a writer holds a list of bits ('Wr'); each method turns that list as its text says, and leaves all other memory as it was.
-/
namespace Go.Proofs.YtbkbkmgogbgofaaDoor
set_option maxRecDepth 5000
open Go.RowKit
theorem fits_yes (n : Int) (w : World) (h : 0 ≤ n ∧ n ≤ 32) :
    Calls Tryd.prog 79 #[.int .i64 n] w fun e w' => e = .returned (.bool true) ∧ w = w' := by
  obtain ⟨h1, h2⟩ := h
  go_enter Tryd.func79, Tryd.ntmps79
  go_wp2
  go_ret
  exact ⟨rfl, rfl⟩
theorem low_val (v k : Nat) (hv : v < 18446744073709551616) (hk : k ≤ 32) :
    bits .and .u64 (v : Int) (IntKind.u64.wrap (IntKind.u64.wrap (2 ^ k) - 1)) = ((v % 2 ^ k : Nat) : Int) := by
  have h1 : (2 : Nat) ^ k ≤ 2 ^ 32 := Nat.pow_le_pow_right (by decide) hk
  have h2 : 0 < (2 : Nat) ^ k := Nat.two_pow_pos k
  have e1 : IntKind.u64.wrap (2 ^ k) = ((2 ^ k : Nat) : Int) := by
    rw [IntWalk.u64_in]
    · simp
    · rw [two_pow_int]; omega
  rw [e1]
  have e2 : IntKind.u64.wrap (((2 ^ k : Nat) : Int) - 1) = ((2 ^ k - 1 : Nat) : Int) := by
    rw [IntWalk.u64_in _ (by omega)]; omega
  rw [e2, bits_and_u64_nat v (2 ^ k - 1) hv (by omega), Nat.and_two_pow_sub_one_eq_mod]
theorem lowest_any (v k : Nat) (w : World) (hv : v < 18446744073709551616) (hk : k ≤ 32) :
    Calls Tryd.prog 81 #[.int .u64 (v : Int), .int .i64 (k : Int)] w fun e w' => e = .returned (.int .u64 ((v % 2 ^ k : Nat) : Int)) ∧ w' = w := by
  go_enter Tryd.func81, Tryd.ntmps81
  go_wp2
  go_ret
  exact ⟨ret_int (low_val v k hv hk), rfl⟩
/-! ### The writer -/
def WSet (B : Nat) (d : Value) (k : Nat) : Prop := k = B ∨ d.ownBlock = some k
def Moved (w : World) (d d' : Value) : Prop := d'.ownBlock = d.ownBlock ∨ ∀ k, d'.ownBlock = some k → w.heap.size ≤ k
theorem Tryd.infoByte : (Tryd.prog.info? 5).map (fun i => (i.zero, i.size, i.bytes)) = some (some (.int .u8 0), 1, 1) := by kernel_rfl
/-! ### flush -/
end Go.Proofs.YtbkbkmgogbgofaaDoor
/-
  The contracts of the bit writer's methods over 'flush': Put, Align, Write, Take, Bits, NewWriter.
-/
namespace Go.Proofs.YtbkbkmgogbgofaaDoor
set_option maxRecDepth 5000
open Go.RowKit
theorem lowest_of (v k m : Nat) (w : World) (hv : v < 18446744073709551616) (hk : k ≤ 32) (hm : m = v % 2 ^ k) :
    Calls Tryd.prog 81 #[.int .u64 (v : Int), .int .i64 (k : Int)] w fun e w' => e = .returned (.int .u64 (m : Int)) ∧ w' = w := by
  rw [hm]; exact lowest_any v k w hv hk
/-! ### Align -/
/-! ### Take -/
/-! ### Bits -/
/-! ### Write -/
end Go.Proofs.YtbkbkmgogbgofaaDoor
/-
  The bits of a number of 32 bits in reverse order: math/bits.Reverse32, ReverseBytes32, and the program's Reverse.
-/
namespace Go.Proofs.YtbkbkmgogbgofaaDoor
set_option maxRecDepth 5000
open Go.RowKit
/-! ### Plain numbers -/
def rv1 (x : Nat) : Nat := (x >>> 1 &&& 1431655765) ||| ((x &&& 1431655765) <<< 1 % 4294967296)
def rv2 (x : Nat) : Nat := (x >>> 2 &&& 858993459) ||| ((x &&& 858993459) <<< 2 % 4294967296)
def rv4 (x : Nat) : Nat := (x >>> 4 &&& 252645135) ||| ((x &&& 252645135) <<< 4 % 4294967296)
def rv8 (x : Nat) : Nat := (x >>> 8 &&& 16711935) ||| ((x &&& 16711935) <<< 8 % 4294967296)
def rv16 (x : Nat) : Nat := (x >>> 16) ||| (x <<< 16 % 4294967296)
def rev32 (x : Nat) : Nat := rv16 (rv8 (rv4 (rv2 (rv1 x))))
theorem or_lt {a b : Nat} (ha : a < 4294967296) (hb : b < 4294967296) : a ||| b < 4294967296 := Nat.or_lt_two_pow (n := 32) ha hb
theorem and_lt {a b : Nat} (hb : b < 4294967296) : a &&& b < 4294967296 := Nat.lt_of_le_of_lt Nat.and_le_right hb
theorem rv1_lt (x : Nat) : rv1 x < 4294967296 := or_lt (and_lt (by decide)) (Nat.mod_lt _ (by decide))
theorem rv2_lt (x : Nat) : rv2 x < 4294967296 := or_lt (and_lt (by decide)) (Nat.mod_lt _ (by decide))
theorem rv4_lt (x : Nat) : rv4 x < 4294967296 := or_lt (and_lt (by decide)) (Nat.mod_lt _ (by decide))
theorem rv8_lt (x : Nat) : rv8 x < 4294967296 := or_lt (and_lt (by decide)) (Nat.mod_lt _ (by decide))
theorem rv16_lt (x : Nat) (h : x < 4294967296) : rv16 x < 4294967296 := or_lt (by rw [Nat.shiftRight_eq_div_pow]; exact Nat.lt_of_le_of_lt (Nat.div_le_self _ _) h) (Nat.mod_lt _ (by decide))
theorem rev32_lt (x : Nat) : rev32 x < 4294967296 := rv16_lt _ (rv8_lt _)
theorem mod_bit (x i : Nat) (h : i < 32) : (x % 4294967296).testBit i = x.testBit i := by
  have := Nat.testBit_mod_two_pow x 32 i
  rw [show (2 : Nat) ^ 32 = 4294967296 from rfl] at this
  rw [this]; simp [h]
theorem stage_at (x s m i : Nat) (hi : i < 32) : ((x >>> s &&& m) ||| ((x &&& m) <<< s % 4294967296)).testBit i = ((x.testBit (s + i) && m.testBit i) || (decide (s ≤ i) && (x.testBit (i - s) && m.testBit (i - s)))) := by
  rw [Nat.testBit_or, mod_bit _ _ hi, Nat.testBit_and, Nat.testBit_shiftRight, Nat.testBit_shiftLeft, Nat.testBit_and]
theorem stage_lo {x s m i : Nat} (hi : i < 32) (h1 : m.testBit i = true) (h2 : (decide (s ≤ i) && m.testBit (i - s)) = false) : ((x >>> s &&& m) ||| ((x &&& m) <<< s % 4294967296)).testBit i = x.testBit (s + i) := by
  rw [stage_at _ _ _ _ hi, h1]
  cases hd : decide (s ≤ i) <;> simp_all
theorem stage_hi {x s m i : Nat} (hi : i < 32) (h1 : m.testBit i = false) (h2 : (decide (s ≤ i) && m.testBit (i - s)) = true) : ((x >>> s &&& m) ||| ((x &&& m) <<< s % 4294967296)).testBit i = x.testBit (i - s) := by
  rw [stage_at _ _ _ _ hi, h1]
  simp only [Bool.and_eq_true] at h2
  simp [h2.1, h2.2]
def fl (s i : Nat) : Nat := if i / s % 2 = 0 then i + s else i - s
theorem bits1 : ∀ i, i < 32 → ((1431655765 : Nat).testBit i = decide (i / 1 % 2 = 0)) ∧ (decide (1 ≤ i) && (1431655765 : Nat).testBit (i - 1)) = !decide (i / 1 % 2 = 0) := by decide
theorem bits2 : ∀ i, i < 32 → ((858993459 : Nat).testBit i = decide (i / 2 % 2 = 0)) ∧ (decide (2 ≤ i) && (858993459 : Nat).testBit (i - 2)) = !decide (i / 2 % 2 = 0) := by decide
theorem bits4 : ∀ i, i < 32 → ((252645135 : Nat).testBit i = decide (i / 4 % 2 = 0)) ∧ (decide (4 ≤ i) && (252645135 : Nat).testBit (i - 4)) = !decide (i / 4 % 2 = 0) := by decide
theorem bitsB : ∀ i, i < 32 → ((16711935 : Nat).testBit i = decide (i / 8 % 2 = 0)) ∧ (decide (8 ≤ i) && (16711935 : Nat).testBit (i - 8)) = !decide (i / 8 % 2 = 0) := by decide
theorem stage_fl (x s m i : Nat) (hi : i < 32) (h : (m.testBit i = decide (i / s % 2 = 0)) ∧ (decide (s ≤ i) && m.testBit (i - s)) = !decide (i / s % 2 = 0)) :
    ((x >>> s &&& m) ||| ((x &&& m) <<< s % 4294967296)).testBit i = x.testBit (fl s i) := by
  by_cases hd : i / s % 2 = 0
  · rw [stage_lo hi (by rw [h.1]; simp [hd]) (by rw [h.2]; simp [hd]), fl, if_pos hd, Nat.add_comm]
  · rw [stage_hi hi (by rw [h.1]; simp [hd]) (by rw [h.2]; simp [hd]), fl, if_neg hd]
theorem rv16_at (x i : Nat) (hx : x < 4294967296) (hi : i < 32) : (rv16 x).testBit i = x.testBit (fl 16 i) := by
  unfold rv16
  rw [Nat.testBit_or, mod_bit _ _ hi, Nat.testBit_shiftRight, Nat.testBit_shiftLeft]
  by_cases h : i < 16
  · have e : i / 16 % 2 = 0 := by omega
    rw [fl, if_pos e, Nat.add_comm]
    have : decide (i ≥ 16) = false := by simp; omega
    rw [this]; simp
  · have e : ¬ i / 16 % 2 = 0 := by omega
    have h0 : x.testBit (16 + i) = false := Nat.testBit_lt_two_pow (Nat.lt_of_lt_of_le hx (Nat.pow_le_pow_right (n := 2) (by decide) (show 32 ≤ 16 + i by omega)))
    rw [fl, if_neg e, h0]
    have : decide (i ≥ 16) = true := by simp; omega
    rw [this]; simp
theorem fl_all : ∀ i, i < 32 → fl 16 i < 32 ∧ fl 8 (fl 16 i) < 32 ∧ fl 4 (fl 8 (fl 16 i)) < 32 ∧ fl 2 (fl 4 (fl 8 (fl 16 i))) < 32 ∧ fl 1 (fl 2 (fl 4 (fl 8 (fl 16 i)))) = 31 - i := by decide
theorem rev_at (x i : Nat) (hi : i < 32) : (rev32 x).testBit i = x.testBit (31 - i) := by
  obtain ⟨h1, h2, h3, h4, h5⟩ := fl_all i hi
  rw [rev32, rv16_at _ _ (rv8_lt _) hi, rv8, stage_fl _ _ _ _ h1 (bitsB _ h1), rv4, stage_fl _ _ _ _ h2 (bits4 _ h2), rv2, stage_fl _ _ _ _ h3 (bits2 _ h3), rv1, stage_fl _ _ _ _ h4 (bits1 _ h4), h5]
theorem bit_of (x i : Nat) : x / 2 ^ i % 2 = (x.testBit i).toNat := by
  rw [← Nat.toNat_testBit]
def revN (v n : Nat) : Nat := rev32 v / 2 ^ (32 - n)
theorem revN_lt (v n : Nat) (hn : n ≤ 32) : revN v n < 2 ^ n := by
  rw [revN, Nat.div_lt_iff_lt_mul (Nat.two_pow_pos _), ← Nat.pow_add, show n + (32 - n) = 32 by omega]
  exact rev32_lt v
theorem revN_bit (v n i : Nat) (hn : n ≤ 32) (hi : i < n) : revN v n / 2 ^ (n - 1 - i) % 2 = v / 2 ^ i % 2 := by
  rw [revN, Nat.div_div_eq_div_mul, ← Nat.pow_add, bit_of, bit_of, rev_at _ _ (by omega)]
  congr 2
  omega
theorem revN_twice (v n : Nat) (hn : n ≤ 32) : revN (revN v n) n = v % 2 ^ n := by
  apply Nat.eq_of_testBit_eq
  intro i
  rw [Nat.testBit_mod_two_pow]
  by_cases hi : i < n
  · have h1 : (revN (revN v n) n).testBit i = v.testBit i := by
      rw [revN, Nat.testBit_div_two_pow, rev_at _ _ (by omega), revN, Nat.testBit_div_two_pow, rev_at _ _ (by omega)]
      congr 1
      omega
    rw [h1]; simp [hi]
  · have h1 : (revN (revN v n) n).testBit i = false := Nat.testBit_lt_two_pow (Nat.lt_of_lt_of_le (revN_lt _ n hn) (Nat.pow_le_pow_right (by decide) (by omega)))
    rw [h1]; simp [hi]
/-! ### The walks -/
theorem bits_and32 (a b : Nat) (ha : a < 4294967296) (hb : b < 4294967296) : bits .and .u32 (a : Int) (b : Int) = ((a &&& b : Nat) : Int) :=
  (bits_nat .u32 32 (by decide) (fun n h0 h1 => IntWalk.u32_in n (by omega)) a b ha hb).1
theorem bits_or32 (a b : Nat) (ha : a < 4294967296) (hb : b < 4294967296) : bits .or .u32 (a : Int) (b : Int) = ((a ||| b : Nat) : Int) :=
  (bits_nat .u32 32 (by decide) (fun n h0 h1 => IntWalk.u32_in n (by omega)) a b ha hb).2
theorem stage_val (x s m : Nat) (p : Int) (hp : p = ((2 ^ s : Nat) : Int)) (hx : x < 4294967296) (hm : m < 4294967296) :
    bits .or .u32 (bits .and .u32 ((x : Int) / p) (m : Int)) (bits .and .u32 (x : Int) (m : Int) * p % 4294967296) = (((x >>> s &&& m) ||| ((x &&& m) <<< s % 4294967296) : Nat) : Int) := by
  have e1 : (x : Int) / p = ((x >>> s : Nat) : Int) := by rw [hp, Nat.shiftRight_eq_div_pow]; exact (Int.natCast_ediv _ _).symm
  have h1 : x >>> s < 4294967296 := by rw [Nat.shiftRight_eq_div_pow]; exact Nat.lt_of_le_of_lt (Nat.div_le_self _ _) hx
  rw [e1, bits_and32 _ _ h1 hm, bits_and32 _ _ hx hm, hp]
  have e2 : (((x &&& m : Nat) : Int) * ((2 ^ s : Nat) : Int) % 4294967296) = ((((x &&& m) <<< s) % 4294967296 : Nat) : Int) := by
    rw [Nat.shiftLeft_eq]
    generalize (x &&& m) = t
    generalize 2 ^ s = q
    rw [← Int.natCast_mul]; omega
  rw [e2, bits_or32 _ _ (and_lt hm) (Nat.mod_lt _ (by decide))]
theorem last_val (x : Nat) (hx : x < 4294967296) : bits .or .u32 ((x : Int) / 65536) ((x : Int) * 65536 % 4294967296) = ((rv16 x : Nat) : Int) := by
  have e1 : (x : Int) / (65536 : Int) = ((x >>> 16 : Nat) : Int) := by rw [Nat.shiftRight_eq_div_pow]; omega
  have e2 : ((x : Int) * (65536 : Int) % (4294967296 : Int)) = ((x <<< 16 % 4294967296 : Nat) : Int) := by rw [Nat.shiftLeft_eq]; omega
  have h1 : x >>> 16 < 4294967296 := by rw [Nat.shiftRight_eq_div_pow]; exact Nat.lt_of_le_of_lt (Nat.div_le_self _ _) hx
  rw [e1, e2, bits_or32 _ _ h1 (Nat.mod_lt _ (by decide))]; rfl
theorem revbytes_any (x : Nat) (w : World) (hx : x < 4294967296) :
    Calls Tryd.prog 94 #[.int .u32 (x : Int)] w fun e w' => e = .returned (.int .u32 ((rv16 (rv8 x) : Nat) : Int)) ∧ w = w' := by
  have v1 : bits .or .u32 (bits .and .u32 ((x : Int) / 256) 16711935) (bits .and .u32 (x : Int) 16711935 * 256 % 4294967296) = ((rv8 x : Nat) : Int) := stage_val x 8 16711935 256 rfl hx (by decide)
  obtain ⟨y, hy⟩ : ∃ y, y = rv8 x := ⟨_, rfl⟩
  have hyb : y < 4294967296 := by rw [hy]; exact rv8_lt x
  rw [← hy] at v1 ⊢
  have v2 := last_val y hyb
  obtain ⟨z, hz⟩ : ∃ z, z = rv16 y := ⟨_, rfl⟩
  rw [← hz] at v2 ⊢
  clear hy hz
  go_enter Tryd.func94, Tryd.ntmps94
  go_wp2
  go_ret
  exact ⟨rfl, rfl⟩
theorem rev32_any (x : Nat) (w : World) (hx : x < 4294967296) :
    Calls Tryd.prog 88 #[.int .u32 (x : Int)] w fun e w' => e = .returned (.int .u32 ((rev32 x : Nat) : Int)) ∧ w = w' := by
  have v1 : bits .or .u32 (bits .and .u32 ((x : Int) / 2) 1431655765) (bits .and .u32 (x : Int) 1431655765 * 2 % 4294967296) = ((rv1 x : Nat) : Int) := stage_val x 1 1431655765 2 rfl hx (by decide)
  unfold rev32
  obtain ⟨y, hy⟩ : ∃ y, y = rv1 x := ⟨_, rfl⟩
  have hyb : y < 4294967296 := by rw [hy]; exact rv1_lt x
  rw [← hy] at v1 ⊢
  have v2 : bits .or .u32 (bits .and .u32 ((y : Int) / 4) 858993459) (bits .and .u32 (y : Int) 858993459 * 4 % 4294967296) = ((rv2 y : Nat) : Int) := stage_val y 2 858993459 4 rfl hyb (by decide)
  obtain ⟨z, hz⟩ : ∃ z, z = rv2 y := ⟨_, rfl⟩
  have hzb : z < 4294967296 := by rw [hz]; exact rv2_lt y
  rw [← hz] at v2 ⊢
  have v3 : bits .or .u32 (bits .and .u32 ((z : Int) / 16) 252645135) (bits .and .u32 (z : Int) 252645135 * 16 % 4294967296) = ((rv4 z : Nat) : Int) := stage_val z 4 252645135 16 rfl hzb (by decide)
  obtain ⟨u, hu⟩ : ∃ u, u = rv4 z := ⟨_, rfl⟩
  have hub : u < 4294967296 := by rw [hu]; exact rv4_lt z
  rw [← hu] at v3 ⊢
  clear hy hz hu
  go_enter Tryd.func88, Tryd.ntmps88
  go_wp2_with (go_at_call 94; refine (revbytes_any u _ hub).mono ?_; rintro e w' ⟨rfl, rfl⟩)
  go_ret
  exact ⟨rfl, rfl⟩
theorem reverse_any (v n : Nat) (w : World) (hv : v < 4294967296) (hn : n ≤ 32) :
    Calls Tryd.prog 72 #[.int .u32 (v : Int), .int .i64 (n : Int)] w fun e w' => e = .returned (.int .u32 ((revN v n : Nat) : Int)) ∧ w = w' := by
  obtain ⟨r, hr⟩ : ∃ r, r = rev32 v := ⟨_, rfl⟩
  have hval : (r : Int) / 2 ^ (32 - n) = ((revN v n : Nat) : Int) := by
    rw [revN, ← hr, two_pow_int]; exact (Int.natCast_ediv _ _).symm
  have HR := hid hr
  have HV := hid hval
  clear hr hval
  go_enter Tryd.func72, Tryd.ntmps72
  go_wp2_with (first | (go_at_call 79; refine (fits_yes _ _ ⟨by omega, by omega⟩).mono ?_; rintro e w' ⟨rfl, rfl⟩) | (go_at_call 88; refine (rev32_any v _ hv).mono ?_; rw [← HR.out]; rintro e w' ⟨rfl, rfl⟩))
  go_ret
  rw [← HV.out]
  exact ⟨rfl, rfl⟩
end Go.Proofs.YtbkbkmgogbgofaaDoor
/-
  The statements' own example: a writer to which 1 and 2 are put gives the byte 5; 1 of three bits reversed is 4.
-/
namespace Go.Proofs.YtbkbkmgogbgofaaDoor
set_option maxRecDepth 5000
open Go.RowKit
end Go.Proofs.YtbkbkmgogbgofaaDoor
/-
  The contracts of the bit reader's functions: a reader holds a list of bits ('Rr'); each method turns that list as its text says, and leaves all other memory as it was.
-/
namespace Go.Proofs.YtbkbkmgogbgofaaDoor
set_option maxRecDepth 5000
open Go.RowKit
def RIs (w : World) (B : Place) (d : Value) (bs : List Nat) (s c : Nat) : Prop :=
  BlkP w B [d, .int .u64 (s : Int), .int .i64 (c : Int)] ∧ Own w 5 1 d bs.length (u8s bs) ∧ d.ownBlock ≠ some B.b ∧ s < 2 ^ c ∧ (∀ b ∈ bs, b < 256)
def Rr (w : World) (B : Place) (d : Value) (l : List Nat) : Prop := ∃ bs s c, RIs w B d bs s c ∧ c ≤ 39 ∧ l = bitsOf c s ++ bits8 bs
def RStep (w w' : World) (B : Place) (d : Value) (l' : List Nat) : Prop := ∃ d', Rr w' B d' l' ∧ Mod w w' (WSet B.b d) ∧ Moved w d d'
theorem rsize {bs : List Nat} {s c : Nat} : (bitsOf c s ++ bits8 bs).length = c + 8 * bs.length := by rw [List.length_append, bits8_length, bitsOf_length]
theorem RIs.kept {w w' : World} {B : Place} {d : Value} {bs : List Nat} {s c : Nat} (h : RIs w B d bs s c) {S : Nat → Prop} (hm : Mod w w' S) (hS : ∀ k, WSet B.b d k → ¬ S k) : RIs w' B d bs s c :=
  ⟨h.1.kept hm (hS B.b (.inl rfl)), h.2.1.kept hm (fun k hk => hS k (.inr hk)), h.2.2⟩
theorem Rr.kept {w w' : World} {B : Place} {d : Value} {l : List Nat} (h : Rr w B d l) {S : Nat → Prop} (hm : Mod w w' S) (hS : ∀ k, WSet B.b d k → ¬ S k) : Rr w' B d l := by
  obtain ⟨bs, s, c, hW, r⟩ := h
  exact ⟨bs, s, c, hW.kept hm hS, r⟩
theorem Rr.lt {w : World} {B : Place} {d : Value} {l : List Nat} (h : Rr w B d l) : ∀ k, WSet B.b d k → k < w.heap.size := by
  obtain ⟨bs, s, c, hW, _⟩ := h
  rintro k (rfl | hk)
  · exact hW.1.lt
  · exact hW.2.1.lt k hk
theorem Rr.isBits {w : World} {B : Place} {d : Value} {l : List Nat} (h : Rr w B d l) : isBits l := by
  obtain ⟨bs, s, c, _, _, rfl⟩ := h
  exact isBits_append (bitsOf_isBits _ _) (bits8_isBits _)
/-! ### nil readers -/
/-! ### drop, skip -/
theorem drop_any (B : Place) (d : Value) (bs : List Nat) (s c n : Nat) (w : World) (h : RIs w B d bs s c) (hn : n ≤ c) (hc : c ≤ 39) :
    Calls Tryd.prog 36 #[.pointer (some ⟨B.b, B.o, none⟩), .int .i64 (n : Int)] w fun e w' => e = .returned (.tuple #[]) ∧ RIs w' B d bs (s / 2 ^ n) (c - n) ∧ Mod w w' (fun k => k = B.b) := by
  obtain ⟨hb, hown, hne, hs, hb256⟩ := h
  obtain ⟨q, hq⟩ : ∃ q, q = s / 2 ^ n := ⟨_, rfl⟩
  have hM : Mod w ((w.setCell ⟨B.b, B.o + 1, none⟩ (.int .u64 (q : Int))).setCell ⟨B.b, B.o + 2, none⟩ (.int .i64 ((c : Int) - (n : Int)))) (fun k => k = B.b) :=
    ((Mod.refl w (fun k => k = B.b)).setCell (p := ⟨B.b, B.o + 1, none⟩) (.inr rfl) _).setCell (p := ⟨B.b, B.o + 2, none⟩) (.inr rfl) _
  have hfin : Hid (RIs ((w.setCell ⟨B.b, B.o + 1, none⟩ (.int .u64 (q : Int))).setCell ⟨B.b, B.o + 2, none⟩ (.int .i64 ((c : Int) - (n : Int)))) B d bs q (c - n) ∧ Mod w ((w.setCell ⟨B.b, B.o + 1, none⟩ (.int .u64 (q : Int))).setCell ⟨B.b, B.o + 2, none⟩ (.int .i64 ((c : Int) - (n : Int)))) (fun k => k = B.b)) := by
    refine ⟨⟨?_, hown.kept hM (fun k hk e => hne (by rw [hk, e])), hne, ?_, hb256⟩, hM⟩
    · have := (hb.set 1 (.int .u64 (q : Int))).set 2 (.int .i64 ((c : Int) - (n : Int)))
      simp only [List.set_cons_zero, List.set_cons_succ] at this
      rw [show ((c - n : Nat) : Int) = (c : Int) - (n : Int) by omega]
      exact this
    · rw [hq, Nat.div_lt_iff_lt_mul (Nat.two_pow_pos n), ← Nat.pow_add]
      rw [show c - n + n = c by omega]; exact hs
  have hval : (s : Int) / 2 ^ n = (q : Int) := by rw [hq, two_pow_int]; simp
  have HV := hid hval
  have HQ := hid hq
  have c1 := hb.cell (i := 1) rfl
  have c2 := hb.cell (i := 2) rfl
  have f1 := hb.frozen 1
  have f2 := hb.frozen 2
  clear hM hq hs hval
  go_enter Tryd.func36, Tryd.ntmps36
  go_wp2
  go_end0
  rw [HV.out, ← HQ.out]
  exact ⟨rfl, hfin.out⟩
theorem skip_fin {w : World} {B : Place} {bs : List Nat} {s c n : Nat} {a a' : Option Addr} {cap L : Nat} (hL : L = bs.length - n) (hb : BlkP w B [.slice a bs.length cap, .int .u64 (s : Int), .int .i64 (c : Int)]) (hne : Value.ownBlock (.slice a bs.length cap) ≠ some B.b)
    (hs : s < 2 ^ c) (hb256 : ∀ b ∈ bs, b < 256)
    (hown : Own w 5 1 (.slice a' L (cap - n)) L (((u8s bs).drop (n * 1)).take (L * 1))) (hbl : Value.ownBlock (.slice a' L (cap - n)) = Value.ownBlock (.slice a bs.length cap)) :
    RIs (w.setCell ⟨B.b, B.o, none⟩ (.slice a' L (cap - n))) B (.slice a' L (cap - n)) (bs.drop n) s c := by
  have hM : Mod w (w.setCell ⟨B.b, B.o, none⟩ (.slice a' L (cap - n))) (fun k => k = B.b) := (Mod.refl w (fun k => k = B.b)).setCell (p := ⟨B.b, B.o, none⟩) (.inr rfl) _
  have e : ((u8s bs).drop (n * 1)).take (L * 1) = u8s (bs.drop n) := by
    rw [Nat.mul_one, Nat.mul_one, List.take_of_length_le (by rw [List.length_drop, u8s_length]; omega)]; simp [u8s]
  rw [e] at hown
  refine ⟨hb.set0 _, ?_, by rw [hbl]; exact hne, hs, fun b hb' => hb256 b (List.mem_of_mem_drop hb')⟩
  rw [List.length_drop, ← hL]
  exact hown.kept hM (fun k hk e => hne (by rw [← hbl, hk, e]))
theorem skip_nil {w : World} {B : Place} {bs : List Nat} {s c : Nat} {d : Value} (hd : RIs w B d bs s c) (h0 : bs = []) :
    RIs (w.setCell ⟨B.b, B.o, none⟩ (.slice none 0 0)) B (.slice none 0 0) bs s c := by
  subst h0
  exact ⟨hd.1.set0 _, Own.nil _ _ _, by simp [Value.ownBlock], hd.2.2.2.1, by simp⟩
set_option maxHeartbeats 800000 in
theorem skip_any (B : Place) (d : Value) (bs : List Nat) (s c n : Nat) (w : World) (h : RIs w B d bs s c) (hn : n ≤ bs.length) (hbl : bs.length < 1099511627776) :
    Calls Tryd.prog 37 #[.pointer (some ⟨B.b, B.o, none⟩), .int .i64 (n : Int)] w fun e w' => e = .returned (.tuple #[]) ∧ ∃ d', RIs w' B d' (bs.drop n) s c ∧ Mod w w' (fun k => k = B.b) ∧ (d'.ownBlock = d.ownBlock ∨ d'.ownBlock = none) := by
  obtain ⟨i, hi, hz0, hz1, hz2⟩ := info_parts Tryd.infoByte
  obtain ⟨hb, hown, hne, hs, hb256⟩ := h
  obtain ⟨a, cap, rfl, hcap, hmax⟩ := hown.form
  have c0 := hb.cell0 rfl
  have f0 := hb.frozen0
  have HS := hid hs
  obtain ⟨L, hL⟩ : ∃ L, L = bs.length - n := ⟨_, rfl⟩
  have HL := hid hL
  have hLb : L < 1099511627776 := by omega
  by_cases h0 : L = 0
  · have h0' : ((L : Int) == 0) = true := by rw [h0]; rfl
    have hz : bs.drop n = [] := List.drop_eq_nil_of_le (by omega)
    have HZ := hid hz
    clear hs hL h0 hz
    go_enter Tryd.func37, Tryd.ntmps37
    go_wp2_with ((with_reducible show wpList _ _ _ (⟨some 10, _, _, _, _, _⟩ :: _) _ _); refine wpList_cut_own (w := w) rfl 26 (.tmp 8) (some (.tmp 9)) none rfl 5 i 1 Tryd.underlying26 hi hz1 a bs.length cap n bs.length (u8s bs) rfl hown ⟨_, rfl⟩ rfl hn (Nat.le_refl _) ?_; rw [← HL.out]; intro a' hown' hbl')
    go_end0
    have hR := skip_fin HL.out hb hne HS.out hb256 hown' hbl'
    refine ⟨rfl, _, skip_nil hR HZ.out, ?_, .inr rfl⟩
    exact ((Mod.refl w (fun k => k = B.b)).setCell (p := ⟨B.b, B.o, none⟩) (.inr rfl) _).setCell (p := ⟨B.b, B.o, none⟩) (.inr rfl) _
  · have h0' : ((L : Int) == 0) = false := by simp; omega
    clear hs hL h0
    go_enter Tryd.func37, Tryd.ntmps37
    go_wp2_with ((with_reducible show wpList _ _ _ (⟨some 10, _, _, _, _, _⟩ :: _) _ _); refine wpList_cut_own (w := w) rfl 26 (.tmp 8) (some (.tmp 9)) none rfl 5 i 1 Tryd.underlying26 hi hz1 a bs.length cap n bs.length (u8s bs) rfl hown ⟨_, rfl⟩ rfl hn (Nat.le_refl _) ?_; rw [← HL.out]; intro a' hown' hbl')
    go_end0
    exact ⟨rfl, _, skip_fin HL.out hb hne HS.out hb256 hown' hbl', (Mod.refl w (fun k => k = B.b)).setCell (p := ⟨B.b, B.o, none⟩) (.inr rfl) _, .inl hbl'⟩
end Go.Proofs.YtbkbkmgogbgofaaDoor
