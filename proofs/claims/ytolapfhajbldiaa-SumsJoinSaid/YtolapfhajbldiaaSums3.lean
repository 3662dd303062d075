/-
  The program's matrices and joined CRCs.
-/
import Derived.Test.YtolapfhajbldiaaSums2
import Derived.Maps.RangeWalk
import Derived.Laws.Bits128
namespace Go.Proofs.Ytolapfhajbldiaa
open Go.RowKit

theorem infoMz : (Try.prog.info? 41).map (·.zero) = some (some (arrV .u32 (matPart id 0))) := by kernel_rfl
theorem infoMs : (Try.prog.info? 41).map (·.size) = some 32 := by kernel_rfl
theorem infoU : (Try.prog.info? 22).map (·.size) = some 1 := by kernel_rfl
theorem mp0 (f g : Nat → Nat) : matPart f 0 = matPart g 0 := rfl
theorem shl_one (i : Nat) (h : i < 32) : ((2 : Int) ^ i) % 4294967296 = ((2 ^ i : Nat) : Int) := by
  have h2 : (2 : Nat) ^ i ≤ 2 ^ 31 := Nat.pow_le_pow_right (by decide) (by omega)
  have h3 : ((2 : Int) ^ i) = ((2 ^ i : Nat) : Int) := by simp
  rw [h3]; exact Int.emod_eq_of_lt (Int.natCast_nonneg _) (Int.ofNat_lt.2 (Nat.lt_of_le_of_lt h2 (by decide)))

set_option maxRecDepth 20000 in
set_option maxHeartbeats 1600000 in
theorem bytemat_any (w : World) :
    Calls Try.prog 20 #[] w fun e w' => e = .returned (arrV .u32 (matOf (stps 8))) ∧ Mod w w' (fun _ => False) := by
  have hz := infoMz
  rw [mp0 id (stps 8)] at hz
  obtain ⟨f, hf⟩ : ∃ f, f = stps 8 := ⟨_, rfl⟩
  rw [← hf] at hz ⊢
  have HF := hid hf
  have HI := hid hz
  clear hf hz
  go_enter Try.func20, Try.ntmps20
  go_wp2_with (refine wpList_alloc_arr rfl _ rfl .u32 _ HI.out ?_)
  have hH0 : Held w ((w.alloc (.cells (nums .u32 (matPart f 0)).toArray 41)).alloc (.cells (nums .u32 (matPart f 0)).toArray 41)) [objT (w.heap.size + 1) (nums .u32 (matPart f 0)) 41, objT w.heap.size (nums .u32 (matPart f 0)) 41] := by
    have h := ((Held.start w).newObj (nums .u32 (matPart f 0)) 41).newObj (nums .u32 (matPart f 0)) 41
    simpa using h
  have HH0 := hid hH0
  clear hH0
  go_loopg [3] 33 (fun k t3 wr => ∃ (i : Nat), i ≤ 32 ∧ 32 - i < k ∧ t3 = .int .i64 (i : Int) ∧ Hid (Held w wr [objT (w.heap.size + 1) (nums .u32 (matPart f i)) 41, objT w.heap.size (nums .u32 (matPart f 0)) 41]))
  case atStart => exact ⟨0, by omega, by omega, rfl, HH0⟩
  case round =>
    obtain ⟨i, hi, hk, rfl, HH⟩ := hrel
    have hB := HH.out.obj
    by_cases hi1 : i < 32
    · have hlen : (matPart f i).length = 32 := matPart_length f i hi
      obtain ⟨b0, hb0⟩ : ∃ b0, (matPart f i)[i]? = some b0 := ⟨_, List.getElem?_eq_getElem (by omega)⟩
      have hcell := hB.cell (i := i) (v := .int .u32 (b0 : Int)) (by rw [nums_get, hb0]; rfl)
      have hfr := hB.frozen i
      have hi0 : (0 : Int) ≤ (i : Int) := Int.natCast_nonneg _
      have hi2 : (i : Int) < 32 := by omega
      obtain ⟨x, hx⟩ : ∃ x : Nat, x = 2 ^ i := ⟨_, rfl⟩
      have hx32 : x < 4294967296 := by rw [hx]; exact Nat.lt_of_le_of_lt (Nat.pow_le_pow_right (by decide) (show i ≤ 31 by omega)) (by decide)
      have hsh := shl_one i hi1
      rw [← hx] at hsh
      obtain ⟨y, hy⟩ : ∃ y, y = stps 8 x := ⟨_, rfl⟩
      have HY := hid hy
      have HX := hid hx
      have HS := hid (HH.out.setObj i (.int .u32 (y : Int)))
      have HL := hid hlen
      clear hB hlen hy hb0 hx
      go_wp2_with (go_at_call 23; refine (bsteps_any x _ hx32).mono ?_; rw [← HY.out]; rintro e w' ⟨rfl, rfl⟩)
      go_roundg (gk - 1)
      case measure => omega
      case rel => exact ⟨i + 1, by omega, by omega, by go_num, by unfold Hid; have h := HS.out; have e : (matPart f i).set i y = matPart f (i + 1) := (by rw [HY.out, HX.out, ← HF.out]; exact matPart_set f i hi1); rw [nums_set, e] at h; exact h⟩
    · obtain rfl : i = 32 := by omega
      have hi2 : ¬ ((32 : Nat) : Int) < 32 := by omega
      have hB2 := HH.out.swap.obj
      have HL := hid (matPart_length f 32 hi)
      have HL0 := hid (matPart_length f 0 (by omega))
      go_wp2_with (first
        | refine wpList_load_arr rfl _ _ rfl _ 32 (by rfl) rfl infoMs (w.heap.size + 1) .u32 (matPart f 32) _ rfl HL.out hB ?_
        | (refine wpList_store_arr rfl _ _ _ rfl 32 infoMs w.heap.size .u32 (matPart f 0) (matPart f 32) _ rfl rfl HL0.out HL.out hB2 ?_; intro w3 hB3 hM3))
      exact ret_arr rfl _ 32 (by rfl) rfl infoMs w.heap.size .u32 (matPart f 32) _ rfl HL.out hB3 rfl ⟨by rw [matPart_all], (HH.out.swap.putObj hB3 hM3).mod⟩

set_option maxRecDepth 20000 in
set_option maxHeartbeats 1600000 in
theorem times_any (f : Nat → Nat) (hf : Lin f) (v : Nat) (w : World) (hv : v < 4294967296) :
    Calls Try.prog 21 #[arrV .u32 (matOf f), .int .u32 (v : Int)] w fun e w' => e = .returned (.int .u32 ((f v : Nat) : Int)) ∧ Mod w w' (fun _ => False) := by
  obtain ⟨l, hl⟩ : ∃ l, l = matOf f := ⟨_, rfl⟩
  have hlen : l.length = 32 := by rw [hl, matOf_length]
  rw [← hl]
  have HL := hid hl
  have HLEN := hid hlen
  clear hl hlen
  go_enter Try.func21, Try.ntmps21
  go_wp2_with (first
    | refine wpList_box_arr rfl _ _ rfl .u32 l rfl ?_
    | refine wpList_load_arr rfl _ _ rfl _ 32 (by rfl) rfl infoMs w.heap.size .u32 l _ rfl HLEN.out (Blk.new _ _ _) ?_)
  go_loopg [5, 9] 33 (fun k t5 t9 wr => ∃ (i x : Nat), i ≤ 32 ∧ 32 - i < k ∧ t9 = .int .i64 (i : Int) ∧ t5 = .int .u32 (x : Int) ∧ x < 4294967296 ∧ Hid (x = f (v % 2 ^ i)) ∧ wr = w.alloc (.cells (nums .u32 l).toArray 41))
  case atStart => exact ⟨0, 0, by omega, by omega, rfl, rfl, by omega, by unfold Hid; rw [Nat.pow_zero, Nat.mod_one, hf.zero], rfl⟩
  case round =>
    obtain ⟨i, x, hi, hk, rfl, rfl, hx32, HX, rfl⟩ := hrel
    by_cases hi1 : i < 32
    · have hi0 : (0 : Int) ≤ (i : Int) := Int.natCast_nonneg _
      have hi2 : (i : Int) < 32 := by omega
      obtain ⟨b, hb⟩ : ∃ b, b = f (2 ^ i) := ⟨_, rfl⟩
      have hb32 : b < 4294967296 := by rw [hb]; exact hf.lt _ (Nat.lt_of_le_of_lt (Nat.pow_le_pow_right (by decide) (show i ≤ 31 by omega)) (by decide))
      have HG : Hid (l[i]? = some b) := by unfold Hid; rw [HL.out, matOf_get f i hi1, hb]
      have HB := hid hb
      clear hb
      obtain ⟨y, hy⟩ : ∃ y, y = v / 2 ^ i := ⟨_, rfl⟩
      have hy32 : y < 4294967296 := by rw [hy]; exact Nat.lt_of_le_of_lt (Nat.div_le_self _ _) hv
      have ha := u32_and_nat y 1 hy32 (by decide)
      rw [nat_mask1] at ha
      have hyI : (v : Int) / 2 ^ i = (y : Int) := by rw [hy]; simp
      have HY := hid hy
      clear hy
      by_cases hbit : y % 2 = 1
      · rw [hbit] at ha
        have ha1 : bits .and .u32 (y : Int) 1 = 1 := ha
        have HBIT := hid hbit
        obtain ⟨r, hr⟩ : ∃ r, r = x ^^^ b := ⟨_, rfl⟩
        have hr32 : r < 4294967296 := by rw [hr]; exact Nat.xor_lt_two_pow (n := 32) hx32 hb32
        have hrI : bits .xor .u32 (x : Int) (b : Int) = (r : Int) := by rw [hr]; exact u32_xor_nat x b hx32 hb32
        have HR := hid hr
        clear ha hbit hr
        go_wp2_with (refine wpList_index_arr rfl _ _ _ rfl 22 32 _ (by rfl) (by rfl) rfl infoU .u32 l .i64 i b rfl rfl hi1 HG.out ?_)
        go_roundg (gk - 1)
        case measure => omega
        case rel => exact ⟨i + 1, r, by omega, by omega, by go_num, rfl, hr32, by unfold Hid; rw [hf.one v i (by rw [← HY.out]; exact HBIT.out), HR.out, HX.out, HB.out], rfl⟩
      · have h0 : y % 2 = 0 := by omega
        rw [h0] at ha
        have ha1 : bits .and .u32 (y : Int) 1 = 0 := ha
        have HBIT := hid hbit
        clear ha hbit h0
        go_wp2_with (refine wpList_index_arr rfl _ _ _ rfl 22 32 _ (by rfl) (by rfl) rfl infoU .u32 l .i64 i b rfl rfl hi1 HG.out ?_)
        go_roundg (gk - 1)
        case measure => omega
        case rel => exact ⟨i + 1, x, by omega, by omega, by go_num, rfl, hx32, by unfold Hid; rw [mod_step_none v i (by rw [← HY.out]; exact HBIT.out)]; exact HX.out, rfl⟩
    · obtain rfl : i = 32 := by omega
      have hi2 : ¬ ((32 : Nat) : Int) < 32 := by omega
      go_wp2
      go_ret
      exact ⟨ret_int (by rw [HX.out, Nat.mod_eq_of_lt hv]), (Mod.refl w _).alloc _⟩

set_option maxRecDepth 20000 in
set_option maxHeartbeats 1600000 in
theorem squared_any (f : Nat → Nat) (hf : Lin f) (w : World) :
    Calls Try.prog 22 #[arrV .u32 (matOf f)] w fun e w' => e = .returned (arrV .u32 (matOf (fun x => f (f x)))) ∧ Mod w w' (fun _ => False) := by
  obtain ⟨l, hl⟩ : ∃ l, l = matOf f := ⟨_, rfl⟩
  have hlen : l.length = 32 := by rw [hl, matOf_length]
  rw [← hl]
  obtain ⟨g, hg⟩ : ∃ g, g = fun x => f (f x) := ⟨_, rfl⟩
  rw [← hg]
  have hz := infoMz
  rw [mp0 id g] at hz
  have HI := hid hz
  have HL := hid hl
  have HLEN := hid hlen
  have HG := hid hg
  clear hl hlen hg hz
  go_enter Try.func22, Try.ntmps22
  go_wp2_with (first
    | refine wpList_box_arr rfl _ _ rfl .u32 l rfl ?_
    | refine wpList_alloc_arr rfl _ rfl .u32 _ HI.out ?_
    | refine wpList_load_arr rfl _ _ rfl _ 32 (by rfl) rfl infoMs w.heap.size .u32 l _ rfl HLEN.out (((Blk.new _ _ _).alloc _).alloc _) ?_)
  have hH0 : Held w (((w.alloc (.cells (nums .u32 l).toArray 41)).alloc (.cells (nums .u32 (matPart g 0)).toArray 41)).alloc (.cells (nums .u32 (matPart g 0)).toArray 41))
      [objT (w.heap.size + 1 + 1) (nums .u32 (matPart g 0)) 41, objT (w.heap.size + 1) (nums .u32 (matPart g 0)) 41, objT w.heap.size (nums .u32 l) 41] := by
    have h := (((Held.start w).newObj (nums .u32 l) 41).newObj (nums .u32 (matPart g 0)) 41).newObj (nums .u32 (matPart g 0)) 41
    simpa using h
  have HH0 := hid hH0
  clear hH0
  go_loopg [7] 33 (fun k t7 wr => ∃ (i : Nat), i ≤ 32 ∧ 32 - i < k ∧ t7 = .int .i64 (i : Int) ∧ Hid (Held w wr [objT (w.heap.size + 1 + 1) (nums .u32 (matPart g i)) 41, objT (w.heap.size + 1) (nums .u32 (matPart g 0)) 41, objT w.heap.size (nums .u32 l) 41]))
  case atStart => exact ⟨0, by omega, by omega, rfl, HH0⟩
  case round =>
    obtain ⟨i, hi, hk, rfl, HH⟩ := hrel
    have hB := hid HH.out.obj
    have hB1 := hid HH.out.swap.obj
    have hB2 := hid HH.out.third.obj
    by_cases hi1 : i < 32
    · have hi0 : (0 : Int) ≤ (i : Int) := Int.natCast_nonneg _
      have hi2 : (i : Int) < 32 := by omega
      obtain ⟨b, hb⟩ : ∃ b, b = f (2 ^ i) := ⟨_, rfl⟩
      have hb32 : b < 4294967296 := by rw [hb]; exact hf.lt _ (Nat.lt_of_le_of_lt (Nat.pow_le_pow_right (by decide) (show i ≤ 31 by omega)) (by decide))
      have HGB : Hid (l[i]? = some b) := by unfold Hid; rw [HL.out, matOf_get f i hi1, hb]
      obtain ⟨y, hy⟩ : ∃ y, y = f b := ⟨_, rfl⟩
      have HY := hid hy
      have HB := hid hb
      clear hb hy
      go_wp2_with (first
        | refine wpList_index_arr rfl _ _ _ rfl 22 32 _ (by rfl) (by rfl) rfl infoU .u32 l .i64 i b rfl rfl hi1 HGB.out ?_
        | refine wpList_load_arr rfl _ _ rfl _ 32 (by rfl) rfl infoMs w.heap.size .u32 l _ rfl HLEN.out hB2.out ?_)
      have HC := hid (times_any f hf b wr hb32)
      rw [← HL.out, ← HY.out] at HC
      refine HC.out.mono ?_
      rintro e w' ⟨rfl, hM⟩
      have HH2 := hid (HH.out.same hM)
      have hlen : (matPart g i).length = 32 := matPart_length g i hi
      obtain ⟨b0, hb0⟩ : ∃ b0, (matPart g i)[i]? = some b0 := ⟨_, List.getElem?_eq_getElem (by omega)⟩
      have hcell := HH2.out.obj.cell (i := i) (v := .int .u32 (b0 : Int)) (by rw [nums_get, hb0]; rfl)
      have hfr := HH2.out.obj.frozen i
      have HS := hid (HH2.out.setObj i (.int .u32 (y : Int)))
      clear hlen hb0 hM HC
      go_wp2
      go_roundg (gk - 1)
      case measure => omega
      case rel => exact ⟨i + 1, by omega, by omega, by go_num, by unfold Hid; have h := HS.out; have e : (matPart g i).set i y = matPart g (i + 1) := (by rw [HY.out, HB.out, show f (f (2 ^ i)) = g (2 ^ i) by rw [HG.out]]; exact matPart_set g i hi1); rw [nums_set, e] at h; exact h⟩
    · obtain rfl : i = 32 := by omega
      have hi2 : ¬ ((32 : Nat) : Int) < 32 := by omega
      have HL1 := hid (matPart_length g 32 hi)
      have HL0 := hid (matPart_length g 0 (by omega))
      go_wp2_with (first
        | refine wpList_load_arr rfl _ _ rfl _ 32 (by rfl) rfl infoMs (w.heap.size + 1 + 1) .u32 (matPart g 32) _ rfl HL1.out hB.out ?_
        | (refine wpList_store_arr rfl _ _ _ rfl 32 infoMs (w.heap.size + 1) .u32 (matPart g 0) (matPart g 32) _ rfl rfl HL0.out HL1.out hB1.out ?_; intro w3 hB3 hM3))
      exact ret_arr rfl _ 32 (by rfl) rfl infoMs (w.heap.size + 1) .u32 (matPart g 32) _ rfl HL1.out hB3 rfl ⟨by rw [matPart_all], (HH.out.swap.putObj hB3 hM3).mod⟩

theorem i64_and1 (n : Int) : bits .and .i64 n 1 = n % 2 := by
  have h1 : (BitVec.ofInt 64 1).toNat = 2 ^ 1 - 1 := by decide
  have key : (BitVec.ofInt 64 n &&& BitVec.ofInt 64 1).toNat = (n % ((2 ^ 64 : Nat) : Int)).toNat % 2 ^ 1 := by
    rw [BitVec.toNat_and, BitVec.toNat_ofInt, h1, Nat.and_two_pow_sub_one_eq_mod]
  show IntKind.i64.wrap ((BitVec.ofInt 64 n &&& BitVec.ofInt 64 1).toNat : Nat) = n % 2
  rw [key, IntKind.wrap_i64]
  omega
theorem mod_step (v i : Nat) (h : v / 2 ^ i % 2 = 1) : v % 2 ^ (i + 1) = v % 2 ^ i + 2 ^ i := by
  rw [Nat.mod_pow_succ, h, Nat.mul_one]
/-- the steps of n bytes -/
def joinN (a n : Nat) : Nat := stps (8 * n) a
set_option maxRecDepth 20000 in
set_option maxHeartbeats 1600000 in
theorem joincrc_any (a b n : Nat) (w : World) (ha : a < 4294967296) (hb : b < 4294967296) (hn : n < 9223372036854775808) :
    Calls Try.prog 12 #[.int .u32 (a : Int), .int .u32 (b : Int), .int .i64 (n : Int)] w fun e w' => e = .returned (.int .u32 ((joinN a n ^^^ b : Nat) : Int)) ∧ Mod w w' (fun _ => False) := by
  have hz := infoMz
  rw [mp0 id (stps 8)] at hz
  have HI := hid hz
  clear hz
  go_enter Try.func12, Try.ntmps12
  go_wp2_with (first
    | (go_at_call 20; refine (bytemat_any _).mono ?_; rintro e w1 ⟨rfl, hM1⟩)
    | refine wpList_alloc_arr rfl _ rfl .u32 _ HI.out ?_
    | (refine wpList_store_arr rfl _ _ _ rfl 32 infoMs w1.heap.size .u32 (matPart (stps 8) 0) (matOf (stps 8)) _ rfl rfl (matPart_length _ _ (by decide)) (matOf_length _) (Blk.new _ _ _) ?_; intro w3 hB3 hM3))
  go_frame
  obtain ⟨B, hBe⟩ : ∃ B, B = w1.heap.size := ⟨_, rfl⟩
  have hH0 : Held w w3 [objT B (nums .u32 (matOf (stps 8))) 41] := by
    rw [hBe]
    exact (((Held.start w).same hM1).newObj (nums .u32 (matPart (stps 8) 0)) 41).putObj hB3 hM3
  rw [← hBe]
  have HH0 := hid hH0
  clear hH0 hB3 hM3 hBe hM1
  go_loopg [0, 2] (n + 1) (fun k t0 t2 wr => ∃ (j m x : Nat), m < k ∧ t2 = .int .i64 (m : Int) ∧ t0 = .int .u32 (x : Int) ∧ x < 4294967296 ∧ m < 9223372036854775808 ∧ Hid (n / 2 ^ j = m ∧ x = stps (8 * (n % 2 ^ j)) a) ∧ Hid (Held w wr [objT B (nums .u32 (matOf (stps (8 * 2 ^ j)))) 41]))
  case atStart => exact ⟨0, n, a, by omega, rfl, rfl, ha, hn, ⟨by simp, by rw [Nat.pow_zero, Nat.mod_one]; rfl⟩, HH0⟩
  case round =>
    obtain ⟨j, m, x, hk, rfl, rfl, hx32, hm63, HN, HH⟩ := hrel
    have hB := hid HH.out.obj
    obtain ⟨f, hf⟩ : ∃ f, f = stps (8 * 2 ^ j) := ⟨_, rfl⟩
    have hlin : Lin f := by rw [hf]; exact lin_stps _
    rw [← hf] at HH hB
    have HF := hid hf
    clear hf
    have hm0 : (0 : Int) ≤ (m : Int) := Int.natCast_nonneg _
    by_cases hpos : 0 < m
    · have hpos1 : (0 : Int) < (m : Int) := by omega
      have hI := i64_and1 (m : Int)
      obtain ⟨m2, hm2⟩ : ∃ m2, m2 = m / 2 := ⟨_, rfl⟩
      have hm2I : (m : Int) / 2 = (m2 : Int) := by omega
      have hm2k : m2 < gk - 1 := by omega
      have hm263 : m2 < 9223372036854775808 := by omega
      have HM2 := hid hm2
      clear hm2
      by_cases hodd : m % 2 = 1
      · have hI1 : bits .and .i64 (m : Int) 1 = 1 := by rw [hI]; omega
        obtain ⟨y, hy⟩ : ∃ y, y = f x := ⟨_, rfl⟩
        have hy32 : y < 4294967296 := by rw [hy]; exact hlin.lt x hx32
        have HY := hid hy
        have HODD := hid hodd
        clear hI hodd hy
        go_wp2_with (refine wpList_load_arr rfl _ _ rfl _ 32 (by rfl) rfl infoMs B .u32 (matOf f) _ rfl (matOf_length _) hB.out ?_)
        have HC := hid (times_any f hlin x wr hx32)
        rw [← HY.out] at HC
        refine HC.out.mono ?_
        rintro e w5 ⟨rfl, hM5⟩
        have HH5 := hid (HH.out.same hM5)
        have hB5 := hid HH5.out.obj
        clear hM5
        go_wp2_with (refine wpList_load_arr rfl _ _ rfl _ 32 (by rfl) rfl infoMs B .u32 (matOf f) _ rfl (matOf_length _) hB5.out ?_)
        have HC2 := hid (squared_any f hlin w5)
        refine HC2.out.mono ?_
        rintro e w6 ⟨rfl, hM6⟩
        have HH6 := hid (HH5.out.same hM6)
        have hB6 := hid HH6.out.obj
        clear hM6
        go_wp2_with (refine wpList_store_arr rfl _ _ _ rfl 32 infoMs B .u32 (matOf f) (matOf (fun x => f (f x))) _ rfl rfl (matOf_length _) (matOf_length _) hB6.out ?_; intro w7 hB7 hM7)
        have HH7 := hid (HH6.out.putObj hB7 hM7)
        clear hB7 hM7
        have EF : (fun x => f (f x)) = stps (8 * 2 ^ (j + 1)) := by
          funext z; rw [HF.out, ← stps_add]; congr 1; rw [Nat.pow_succ]; omega
        rw [EF] at HH7
        go_roundg (gk - 1)
        case measure => omega
        case rel => exact ⟨j + 1, m2, y, hm2k, rfl, rfl, hy32, hm263, ⟨by rw [Nat.pow_succ, ← Nat.div_div_eq_div_mul, HN.out.1, HM2.out], by
          rw [HY.out, HF.out, HN.out.2, ← stps_add, mod_step n j (by rw [HN.out.1]; exact HODD.out), Nat.mul_add]⟩, HH7⟩
      · have hI1 : bits .and .i64 (m : Int) 1 = 0 := by rw [hI]; omega
        have HODD := hid hodd
        clear hI hodd
        go_wp2_with (refine wpList_load_arr rfl _ _ rfl _ 32 (by rfl) rfl infoMs B .u32 (matOf f) _ rfl (matOf_length _) hB.out ?_)
        have HC2 := hid (squared_any f hlin wr)
        refine HC2.out.mono ?_
        rintro e w6 ⟨rfl, hM6⟩
        have HH6 := hid (HH.out.same hM6)
        have hB6 := hid HH6.out.obj
        clear hM6
        go_wp2_with (refine wpList_store_arr rfl _ _ _ rfl 32 infoMs B .u32 (matOf f) (matOf (fun x => f (f x))) _ rfl rfl (matOf_length _) (matOf_length _) hB6.out ?_; intro w7 hB7 hM7)
        have HH7 := hid (HH6.out.putObj hB7 hM7)
        clear hB7 hM7
        have EF : (fun x => f (f x)) = stps (8 * 2 ^ (j + 1)) := by
          funext z; rw [HF.out, ← stps_add]; congr 1; rw [Nat.pow_succ]; omega
        rw [EF] at HH7
        go_roundg (gk - 1)
        case measure => omega
        case rel => exact ⟨j + 1, m2, x, hm2k, rfl, rfl, hx32, hm263, ⟨by rw [Nat.pow_succ, ← Nat.div_div_eq_div_mul, HN.out.1, HM2.out], by
          rw [mod_step_none n j (by rw [HN.out.1]; exact HODD.out)]; exact HN.out.2⟩, HH7⟩
    · obtain rfl : m = 0 := by omega
      obtain ⟨r, hr⟩ : ∃ r, r = x ^^^ b := ⟨_, rfl⟩
      have hrI : bits .xor .u32 (x : Int) (b : Int) = (r : Int) := by rw [hr]; exact u32_xor_nat x b hx32 hb
      have HR := hid hr
      have hx := hid (Nat.mod_add_div n (2 ^ j))
      clear hr hpos hm0
      go_wp2
      go_ret
      refine ⟨ret_int ?_, HH.out.mod⟩
      have h2 := hx.out
      rw [HN.out.1, Nat.mul_zero, Nat.add_zero] at h2
      rw [HR.out, HN.out.2, h2]
      rfl
end Go.Proofs.Ytolapfhajbldiaa
