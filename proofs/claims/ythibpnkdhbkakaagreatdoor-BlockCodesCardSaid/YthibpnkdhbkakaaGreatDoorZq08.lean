/-
  The reference's Codes.
-/
import Derived.Test.YthibpnkdhbkakaaGreatDoorZq07
import Derived.Test.YthibpnkdhbkakaaGreatDoorProg
import Derived.Test.YthibpnkdhbkakaaGreatDoorZq01
import Derived.Test.YthibpnkdhbkakaaGreatDoorZq03
import Derived.Test.YthibpnkdhbkakaaGreatDoorZq05
import Derived.Test.YthibpnkdhbkakaaGreatDoorZq02
namespace Go.Proofs.YthibpnkdhbkakaaGreatDoor
set_option maxRecDepth 5000
open Go.RowKit

/-- is symbol j, of lengths l, ahead of the i-th one in the round of length n -/
def ahead (l : List Int) (n i j : Nat) : Bool := match l[j]? with
  | some a => decide (a < (n : Int) ∨ a = (n : Int) ∧ j < i)
  | none => false
def outL (l : List Int) (n i : Nat) : List Nat := (List.range l.length).map fun (j : Nat) => if ahead l n i j = true then codeAt l j else 0
theorem outL_length (l : List Int) (n i : Nat) : (outL l n i).length = l.length := by simp [outL]
theorem outL_get (l : List Int) (n i j : Nat) (h : j < l.length) : (outL l n i)[j]? = some (if ahead l n i j = true then codeAt l j else 0) := by simp [outL, h]
theorem outL_congr {l : List Int} {n i n' i' : Nat} (h : ∀ j a, l[j]? = some a → isLen a = true → ahead l n i j = ahead l n' i' j) : outL l n i = outL l n' i' := by
  refine List.map_congr_left fun j hj => ?_
  have hj' : j < l.length := List.mem_range.1 hj
  have hg : l[j]? = some l[j] := List.getElem?_eq_getElem hj'
  cases ha : isLen l[j] with
  | true => rw [h j _ hg ha]
  | false => rw [codeAt_not l j _ hg ha]; simp
theorem outL_next (l : List Int) (n : Nat) : outL l n l.length = outL l (n + 1) 0 := by
  refine outL_congr fun j a hj ha => ?_
  have hjl := (List.getElem?_eq_some_iff.1 hj).1
  simp only [ahead, hj]
  congr 1
  apply propext
  omega
theorem outL_set (l : List Int) (n i : Nat) (h : l[i]? = some (n : Int)) : (outL l n i).set i (codeAt l i) = outL l n (i + 1) := by
  have hil := (List.getElem?_eq_some_iff.1 h).1
  refine List.ext_getElem? fun j => ?_
  rw [List.getElem?_set, outL_length]
  by_cases hj : j < l.length
  · rw [outL_get _ _ _ _ hj, outL_get _ _ _ _ hj]
    by_cases e : i = j
    · subst e
      rw [if_pos rfl, if_pos hil, if_pos]
      simp [ahead, h]
    · rw [if_neg e]
      have : ahead l n i j = ahead l n (i + 1) j := by
        unfold ahead
        cases l[j]? with
        | none => rfl
        | some a =>
          simp only
          congr 1
          apply propext
          omega
      rw [this]
  · rw [if_neg (by omega), List.getElem?_eq_none (by rw [outL_length]; omega), List.getElem?_eq_none (by rw [outL_length]; omega)]
theorem outL_skip (l : List Int) (n i : Nat) (a : Int) (h : l[i]? = some a) (hne : a ≠ (n : Int)) : outL l n (i + 1) = outL l n i := by
  refine outL_congr fun j b hj hb => ?_
  simp only [ahead, hj]
  congr 1
  apply propext
  have : j = i → b = a := fun e => by subst e; rw [h] at hj; injection hj with hj; exact hj.symm
  omega
theorem outL_none (l : List Int) : outL l 1 0 = List.replicate l.length 0 := by
  refine List.ext_getElem? fun j => ?_
  by_cases hj : j < l.length
  · rw [outL_get _ _ _ _ hj]
    have hg : l[j]? = some l[j] := List.getElem?_eq_getElem hj
    cases ha : isLen l[j] with
    | false => rw [codeAt_not l j _ hg ha]; simp [hj]
    | true =>
      have h1 : 1 ≤ l[j] ∧ l[j] ≤ 15 := by simpa [isLen] using ha
      rw [if_neg]
      · simp [hj]
      · simp only [ahead, hg, decide_eq_true_eq]; omega
  · rw [List.getElem?_eq_none (by rw [outL_length]; omega), List.getElem?_eq_none (by simp; omega)]
theorem outL_all (l : List Int) : outL l 16 0 = codesOf l := by
  refine List.map_congr_left fun j hj => ?_
  have hj' : j < l.length := List.mem_range.1 hj
  have hg : l[j]? = some l[j] := List.getElem?_eq_getElem hj'
  cases ha : isLen l[j] with
  | false => rw [codeAt_not l j _ hg ha]; simp
  | true =>
    have h1 : 1 ≤ l[j] ∧ l[j] ≤ 15 := by simpa [isLen] using ha
    rw [if_pos]
    simp only [ahead, hg, decide_eq_true_eq]; omega

theorem refcodes_none (v : Value) (n : Nat) (w : World) (xs : List Value) (hv : Rd w 1 v n xs) (hl : 288 < n) :
    Calls Tryz.prog 45 #[v] w fun e w' => e = .returned (.slice none 0 0) ∧ w = w' := by
  obtain ⟨ao, cap, rfl, _, _⟩ := hv.form
  have h1 : (288 : Int) < (n : Int) := by omega
  clear hv
  go_enter Tryz.func45, Tryz.ntmps45
  go_wp2
  go_ret
  exact ⟨rfl, rfl⟩

set_option maxRecDepth 20000 in
set_option maxHeartbeats 3200000 in
theorem refcodes_any (v : Value) (l : List Int) (w : World) (hv : Rd w 1 v l.length (ints l)) (hl : l.length ≤ 288) :
    Calls Tryz.prog 45 #[v] w fun e w' => ∃ v', e = .returned v' ∧ Own w' 81 1 v' l.length (nums .u32 (codesOf l)) ∧ (∀ k, v'.ownBlock = some k → w.heap.size ≤ k) ∧ Mod w w' (fun _ => False) := by
  obtain ⟨ao, cap, rfl, _, _⟩ := hv.form
  obtain ⟨n, hn⟩ : ∃ n, n = l.length := ⟨_, rfl⟩
  rw [← hn] at hv hl ⊢
  have HN := hid hn
  clear hn
  obtain ⟨i0, hi0, hz0, hz1, hz2⟩ := info_parts infoU32
  have hn288 : ¬ (288 : Int) < (n : Int) := by omega
  have hn0 : (0 : Int) ≤ (n : Int) := Int.natCast_nonneg _
  have HI0 := hid hi0
  go_enter Tryz.func45, Tryz.ntmps45
  go_wp2_with (refine wpList_make_own rfl 38 (.tmp 11) (.tmp 11) rfl 81 i0 (.int .u32 0) 1 Tryz.underlying38 HI0.out hz0 hz1 .i64 n rfl rfl (by rw [hz2]; omega) (by unfold maxLen; omega) ?_; intro v1 w4 zs ho1 hm1 hf1 hv1 hzs; have HM4 := hid hm1; have HF1 := hid hf1; have HV1 := hid hv1; have HO1 := hid ho1; have HZS := hid hzs; clear hm1 hf1 hv1 hzs ho1)
  have hHH : Held w w4 [ownT 81 1 v1 n (nums .u32 (outL l 1 0))] := by
    have h := (Held.start w).pushOwn (v := v1) (e := 81) (size := 1) (n := n) (xs := zs) HO1.out HM4.out HF1.out
    have e : zs = nums .u32 (outL l 1 0) := by rw [HZS.out, made_u32, outL_none, HN.out]
    rw [e] at h
    exact h
  obtain ⟨g, hg⟩ : ∃ g, g = w.heap.size := ⟨_, rfl⟩
  obtain rfl : v1 = .slice (some ⟨g, 0, none⟩) n n := by rw [hg]; exact HV1.out
  have HHH := hid hHH
  clear hHH hg
  go_loopg [4, 5] 17 (fun k t4 t5 wr => ∃ (m c : Nat), 1 ≤ m ∧ m ≤ 16 ∧ 16 - m < k ∧ t5 = .int .i64 (m : Int) ∧ t4 = .int .u32 (c : Int) ∧ c ≤ 16385 * 288 ∧ Hid (2 * c = fstC l m) ∧ Hid (Held w wr [ownT 81 1 (.slice (some ⟨g, 0, none⟩) n n) n (nums .u32 (outL l m 0))]))
  case atStart => exact ⟨1, 0, by omega, by omega, by omega, rfl, rfl, by omega, rfl, HHH⟩
  case round =>
    obtain ⟨m, c, hm1, hm, hk, rfl, rfl, hc, HC, HH⟩ := hrel
    obtain ⟨gx, rfl⟩ : ∃ g, g = gk := ⟨gk, rfl⟩
    by_cases hm15 : m ≤ 15
    · have hmI : (m : Int) ≤ 15 := by omega
      have HFL : Hid (fstC l m ≤ 16384 * n) := by unfold Hid; rw [HN.out]; exact fst_le l m hm15
      have hcI : c * 2 ≤ 16384 * n := by have := HFL.out; have := HC.out; omega
      go_wp2
      go_loopg [4, 6] (n + 1) (fun k t4 t6 wq => ∃ (i c : Nat), i ≤ n ∧ n - i < k ∧ t6 = .int .i64 (i : Int) ∧ t4 = .int .u32 (c : Int) ∧ c ≤ 16384 * n + i ∧ Hid (c = fstC l m + (l.take i).count (m : Int)) ∧ Hid (Held w wq [ownT 81 1 (.slice (some ⟨g, 0, none⟩) n n) n (nums .u32 (outL l m i))]))
      case atStart => exact ⟨0, c * 2, by omega, by omega, rfl, by go_num, by omega, by unfold Hid; rw [← HC.out]; simp; omega, HH⟩
      case round =>
        obtain ⟨i, c, hi, hk2, rfl, rfl, hc2, HC2, HH2⟩ := hrel
        by_cases hin : i < n
        · obtain ⟨g1, off, rfl, hcell⟩ := (HH2.out.old hv).spot (by omega)
          obtain ⟨a, hai⟩ : ∃ a, l[i]? = some a := ⟨l[i]'(by have := HN.out; omega), List.getElem?_eq_getElem _⟩
          have hc1 := hcell i _ (by rw [ints_get, hai]; rfl)
          have hi0' : (0 : Int) ≤ (i : Int) := Int.natCast_nonneg _
          have hi1 : (i : Int) < (n : Int) := by omega
          by_cases hae : a = (m : Int)
          · subst hae
            have HT : Hid ((l.take (i + 1)).count (m : Int) = (l.take i).count (m : Int) + 1) := by unfold Hid; rw [count_take_succ l i _ _ hai, if_pos rfl]
            have HCD : Hid (c = codeAt l i) := by unfold Hid; rw [codeAt_len l i _ hai (by simp [isLen]; omega), Int.toNat_natCast]; exact HC2.out
            obtain ⟨g', off', hgg, hocell, hofr, hoput⟩ := HH2.out.own.site (by omega)
            injection hgg with hgg
            injection hgg with hgg1 hgg2
            subst hgg1; subst hgg2
            obtain ⟨b0, hb0⟩ : ∃ b0, (outL l m i)[i]? = some b0 := ⟨_, List.getElem?_eq_getElem (by rw [outL_length]; have := HN.out; omega)⟩
            have hc3 := hocell i _ (by rw [nums_get, hb0]; rfl)
            have hf3 := hofr i
            have HS := hid (HH2.out.putOwn (hoput i (.int .u32 (c : Int)) hin) (Mod.set wr g (0 + i) _))
            have HR : Hid ((outL l m i).set i c = outL l m (i + 1)) := by unfold Hid; rw [HCD.out]; exact outL_set l m i hai
            simp only [Nat.zero_add] at hc3 hf3
            clear hcell hai hocell hofr hoput hb0
            go_wp2
            go_roundg (gk - 1)
            case measure => omega
            case rel => exact ⟨i + 1, c + 1, by omega, by omega, by go_num, by go_num, by omega, by unfold Hid; rw [HT.out, HC2.out]; omega, by unfold Hid; have h := HS.out; rw [nums_set, HR.out] at h; simpa using h⟩
          · have HT : Hid ((l.take (i + 1)).count (m : Int) = (l.take i).count (m : Int)) := by unfold Hid; rw [count_take_succ l i _ _ hai, if_neg hae]; rfl
            have HR : Hid (outL l m (i + 1) = outL l m i) := by unfold Hid; exact outL_skip l m i a hai hae
            clear hcell hai
            go_wp2
            go_roundg (gk - 1)
            case measure => omega
            case rel => exact ⟨i + 1, c, by omega, by omega, by go_num, rfl, by omega, by unfold Hid; rw [HT.out]; exact HC2.out, by unfold Hid; rw [HR.out]; exact HH2.out⟩
        · have hi1 : ¬ (i : Int) < (n : Int) := by omega
          have HE : Hid (i = l.length) := by unfold Hid; have := HN.out; omega
          have HE2 : Hid (l.take i = l) := by unfold Hid; exact List.take_of_length_le (by have := HE.out; omega)
          go_wp2
          go_roundg (gx - 1)
          case measure => omega
          case rel => exact ⟨m + 1, c, by omega, by omega, by omega, by go_num, rfl, by omega, by
              unfold Hid
              obtain ⟨q, rfl⟩ : ∃ q, m = q + 1 := ⟨m - 1, by omega⟩
              rw [fstC, HC2.out, HE2.out], by unfold Hid; rw [← outL_next, ← HE.out]; exact HH2.out⟩
    · obtain rfl : m = 16 := by omega
      have hmI : ¬ ((16 : Nat) : Int) ≤ 15 := by omega
      have HE : Hid (outL l 16 0 = codesOf l) := outL_all l
      rw [HE.out] at HH
      go_wp2
      go_ret
      exact ⟨_, rfl, HH.out.own, HH.out.fresh, HH.out.mod⟩
end Go.Proofs.YthibpnkdhbkakaaGreatDoor
/-
  The contracts of the reference package's functions on bits: Of, Number, Bits, Bytes, Even, Same.
-/
namespace Go.Proofs.YthibpnkdhbkakaaGreatDoor
set_option maxRecDepth 5000
open Go.RowKit

theorem Tryz.infoByteR : (Tryz.prog.info? 5).map (fun i => (i.zero, i.size, i.bytes)) = some (some (.int .u8 0), 1, 1) := by kernel_rfl

/-- a slice of the call's own that holds these bytes -/
def Built (w w' : World) (v : Value) (l : List Nat) : Prop :=
  Own w' 5 1 v l.length (u8s l) ∧ Mod w w' (fun _ => False) ∧ ∀ k, v.ownBlock = some k → w.heap.size ≤ k
theorem Built.start (w : World) : Built w w (.slice none 0 0) [] := ⟨Own.nil _ _ _, Mod.refl _ _, by simp [Value.ownBlock]⟩
theorem Built.form {w w' : World} {v : Value} {l : List Nat} (h : Built w w' v l) : ∃ ao cap, v = .slice ao l.length cap := by
  obtain ⟨ao, cap, hv, _⟩ := h.1.form
  exact ⟨ao, cap, hv⟩
/-- one byte more -/
theorem Built.snoc {w wr w1 : World} {l : List Nat} {ao ao1 : Option Addr} {cap cap1 n : Nat} {o : Obj} {x : Int} {b : Nat} (h : Built w wr (.slice ao n cap) l) (hn : n = l.length) (hx : x = (b : Int))
    (hown1 : Own w1 5 1 (.slice ao1 (n + 1) cap1) (n + 1) (u8s l ++ [.int .u8 x])) (hgrow : (wr.alloc o).grownBy w1 (Value.ownBlock (.slice ao n cap)))
    (hat : Value.ownBlock (.slice ao1 (n + 1) cap1) = Value.ownBlock (.slice ao n cap) ∨ Value.ownBlock (.slice ao1 (n + 1) cap1) = some (wr.alloc o).heap.size) : Built w w1 (.slice ao1 (n + 1) cap1) (l ++ [b]) := by
  subst hn
  obtain ⟨h1, h2⟩ := fresh_app h.2.1 h.2.2 hgrow hat
  refine ⟨?_, h1, h2⟩
  rw [u8s_append, List.length_append, List.length_singleton]
  subst hx
  exact hown1

theorem ret_intR {k : IntKind} {a b : Int} (h : a = b) : Ending.returned (.int k a) = .returned (.int k b) := by rw [h]
theorem bit_val (b j : Nat) : ((b : Int) / 2 ^ j).tmod 2 = ((b / 2 ^ j % 2 : Nat) : Int) := by
  have h : ((2 : Int) ^ j) = ((2 ^ j : Nat) : Int) := by simp
  have e : (b : Int) / ((2 ^ j : Nat) : Int) = ((b / 2 ^ j : Nat) : Int) := (Int.natCast_ediv b (2 ^ j)).symm
  rw [h, e]
  generalize b / 2 ^ j = t
  rw [Int.tmod_eq_emod_of_nonneg (by omega)]; omega
theorem bitsOf_snoc (k v : Nat) : bitsOf (k + 1) v = bitsOf k v ++ [v / 2 ^ k % 2] := by
  rw [bitsOf_add]; rfl
theorem u8_bit (x : Nat) (h : x ≤ 1) : IntKind.u8.wrap (x : Int) = (x : Int) := IntWalk.u8_in _ (by omega)

theorem numOf_drop (l : List Nat) (i : Nat) (b : Nat) (h : l[i]? = some b) : numOf (l.drop i) = b + 2 * numOf (l.drop (i + 1)) := by
  have hi := (List.getElem?_eq_some_iff.1 h).1
  have hb := (List.getElem?_eq_some_iff.1 h).2
  rw [List.drop_eq_getElem_cons hi, hb]; rfl
set_option maxHeartbeats 400000 in
theorem number_any (v : Value) (l : List Nat) (w : World) (hv : Rd w 1 v l.length (u8s l)) (hb : isBits l) (hl : l.length ≤ 60) :
    Calls Tryz.prog 43 #[v] w fun e w' => e = .returned (.int .i64 ((numOf l : Nat) : Int)) ∧ w = w' := by
  obtain ⟨ao, cap, rfl, _, _⟩ := hv.form
  obtain ⟨n, hn⟩ : ∃ n, n = l.length := ⟨_, rfl⟩
  rw [← hn] at hv hl ⊢
  have HN := hid hn
  clear hn
  go_enter Tryz.func43, Tryz.ntmps43
  go_wp2
  go_loop [3, 4] (fun t3 t4 => ∃ k : Nat, k ≤ n ∧ t4 = .int .i64 ((k : Int) - 1) ∧ t3 = .int .i64 ((numOf (l.drop k) : Nat) : Int)) (fun _ t4 => (intOf t4 + 1).toNat)
  case atStart => exact ⟨n, Nat.le_refl _, rfl, by rw [HN.out, List.drop_eq_nil_of_le (Nat.le_refl _)]; rfl⟩
  case round =>
    obtain ⟨k, hk, rfl, rfl⟩ := hrel
    obtain ⟨q, hq⟩ : ∃ q, q = numOf (l.drop k) := ⟨_, rfl⟩
    have hqb : q < 2 ^ 60 := by
      rw [hq]; exact Nat.lt_of_lt_of_le (numOf_lt _ (isBits_drop hb k)) (Nat.pow_le_pow_right (by decide) (by rw [List.length_drop]; have := HN.out; omega))
    rw [← hq]
    have HQ := hid hq
    clear hq
    cases k with
    | zero =>
      have h0 : ((0 : Nat) : Int) - 1 < 0 := by omega
      go_wp2
      go_ret
      exact ⟨ret_intR (by rw [HQ.out]; rfl), rfl⟩
    | succ k =>
      obtain ⟨b, hbk⟩ : ∃ b, l[k]? = some b := ⟨l[k]'(by have := HN.out; omega), List.getElem?_eq_getElem _⟩
      have hb1 : b ≤ 1 := hb b (List.mem_of_getElem? hbk)
      obtain ⟨g, off, rfl, hcell⟩ := hv.spot (by omega)
      have hc : w.cell? ⟨g, off + k, none⟩ = some (.int .u8 (b : Int)) := hcell k _ (by rw [u8s_get, hbk]; rfl)
      have HB := hid (numOf_drop l k b hbk)
      clear hbk hcell
      rw [show (((k + 1 : Nat) : Int) - 1) = (k : Int) by omega]
      go_wp2
      go_round
      case rel => exact ⟨k, by omega, rfl, by rw [HB.out, ← HQ.out]; go_num⟩
      case measure => simp [intOf]

theorem number_of (v : Value) (n q : Nat) (xs : List Value) (l : List Nat) (w : World) (hv : Rd w 1 v n xs) (hx : xs = u8s l) (hb : isBits l) (hl : n ≤ 60) (hq : q = numOf l) :
    Calls Tryz.prog 43 #[v] w fun e w' => e = .returned (.int .i64 (q : Int)) ∧ w = w' := by
  have hn : n = l.length := by have := hv.1; rw [hx, u8s_length] at this; omega
  subst hx hq hn
  exact number_any v l w hv hb hl
theorem bits8_snoc (l : List Nat) (b : Nat) : bits8 (l ++ [b]) = bits8 l ++ bitsOf 8 b := by rw [bits8_append, bits8_cons, bits8_nil, List.append_nil]
theorem take_snoc' (l : List Nat) (k b : Nat) (h : l[k]? = some b) : l.take (k + 1) = l.take k ++ [b] := by
  have hi := (List.getElem?_eq_some_iff.1 h).1
  have hb := (List.getElem?_eq_some_iff.1 h).2
  rw [List.take_succ_eq_append_getElem hi, hb]
set_option maxHeartbeats 800000 in
theorem bits_any (v : Value) (l : List Nat) (w : World) (hv : Rd w 1 v l.length (u8s l)) (hb : ∀ b ∈ l, b < 256) (hl : l.length < 1000000000) :
    Calls Tryz.prog 27 #[v] w fun e w' => ∃ v', e = .returned v' ∧ Built w w' v' (bits8 l) := by
  obtain ⟨i, hi, hz0, hz1, hz2⟩ := info_parts Tryz.infoByteR
  obtain ⟨ao, cap, rfl, _, _⟩ := hv.form
  obtain ⟨n, hn⟩ : ∃ n, n = l.length := ⟨_, rfl⟩
  rw [← hn] at hv hl ⊢
  have HN := hid hn
  clear hn
  go_enter Tryz.func27, Tryz.ntmps27
  go_wp2
  go_loopw [3, 4, 5] (fun t3 t4 _ wr => ∃ k : Nat, k ≤ n ∧ t4 = .int .i64 (k : Int) ∧ Built w wr t3 (bits8 (l.take k))) (fun _ t4 _ _ => n - (intOf t4).toNat)
  case atStart => exact ⟨0, Nat.zero_le _, rfl, Built.start w⟩
  case round =>
    obtain ⟨k, hk, rfl, hB⟩ := hrel
    obtain ⟨ao3, cap3, rfl⟩ := hB.form
    by_cases hkn : k < n
    · obtain ⟨b, hbk⟩ : ∃ b, l[k]? = some b := ⟨l[k]'(by have := HN.out; omega), List.getElem?_eq_getElem _⟩
      have hb1 : b < 256 := hb b (List.mem_of_getElem? hbk)
      obtain ⟨g, off, rfl, hcell⟩ := hv.spot (by omega)
      have hc : w.cell? ⟨g, off + k, none⟩ = some (.int .u8 (b : Int)) := hcell k _ (by rw [u8s_get, hbk]; rfl)
      have hg : g < w.heap.size := World.block_lt_of_cell? w _ hc
      have HB := hid hbk
      have hB0 := hid hB
      obtain ⟨m, hm⟩ : ∃ m, m = (bits8 (l.take k)).length := ⟨_, rfl⟩
      have hmk : m = 8 * k := by rw [hm, bits8_length, List.length_take, ← HN.out]; omega
      rw [← hm]
      have HM := hid hmk
      have hmb : m < 8000000000 := by omega
      clear hm hmk hbk hcell hB
      obtain ⟨wo, hwo⟩ : ∃ wo : World, wo = wr := ⟨_, rfl⟩
      have HW := hid hwo
      clear hwo
      go_wp2
      go_loopw [3, 5] (fun t3 t5 wr' => ∃ j q : Nat, j ≤ 8 ∧ q = m + j ∧ t5 = .int .i64 (j : Int) ∧ ∃ a3 c3, t3 = .slice a3 q c3 ∧ Built w wr' (.slice a3 q c3) (bits8 (l.take k) ++ bitsOf j b)) (fun _ t5 _ => 8 - (intOf t5).toNat)
      case atStart => exact ⟨0, m, Nat.zero_le _, rfl, rfl, ao3, cap3, rfl, by rw [show bitsOf 0 b = [] from rfl, List.append_nil]; have h1 := hB0.out; rwa [show (bits8 (l.take k)).length = m by rw [bits8_length, List.length_take, ← HN.out, HM.out]; omega] at h1⟩
      case round =>
        obtain ⟨j, q, hj, hq, rfl, a3, c3, rfl, hB⟩ := hrel
        have hB' := hB
        have hown := hB.1
        have hlq : (bits8 (l.take k) ++ bitsOf j b).length = q := by
          rw [List.length_append, bitsOf_length, bits8_length, List.length_take, ← HN.out, hq, HM.out]; omega
        rw [hlq] at hown
        have hcw : (wr.cell? ⟨g, off + k, none⟩) = some (.int .u8 (b : Int)) := by rw [hB.2.1.cell hg (fun h => h)]; exact hc
        have HQ := hid hq
        have HLQ := hid hlq
        have hqb : q < 8000000008 := by omega
        clear hq hlq
        have hj0 : (0 : Int) ≤ (j : Int) := Int.natCast_nonneg _
        by_cases hj8 : j < 8
        · go_wp2_with (at_builtin; refine wpList_app1 rfl (.tmp 16) (.tmp 25) 23 rfl 5 i (.int .u8 0) 1 Tryz.underlying23 hi hz0 hz1 hz2 rfl (.slice a3 q c3) q (u8s (bits8 (l.take k) ++ bitsOf j b)) rfl hown rfl rfl (by unfold maxLen; omega) (by omega) ?_; intro ao1 cap1 w1 hown1 hgrow hat)
          go_roundw
          case rel =>
            refine ⟨j + 1, q + 1, by omega, by have := HQ.out; omega, by go_num, ao1, cap1, rfl, ?_⟩
            rw [bitsOf_snoc, ← List.append_assoc]
            exact hB'.snoc (b := b / 2 ^ j % 2) HLQ.out.symm (bit_val b j) hown1 hgrow hat
          case measure => simp [intOf]; omega
        · go_wp2
          go_roundw
          case rel =>
            refine ⟨k + 1, by omega, by go_num, ?_⟩
            rw [take_snoc' l k b HB.out, bits8_snoc, show 8 = j by omega]
            exact hB'
          case measure => simp [intOf]; omega
    · go_wp2
      go_ret
      rw [List.take_of_length_le (by have := HN.out; omega)] at hB ⊢
      exact ⟨_, rfl, hB⟩

/-! ### Bytes -/
theorem bytesOf_snoc (l : List Nat) (k : Nat) (h : 8 * k + 8 ≤ l.length) : (bytesOf l).take (k + 1) = (bytesOf l).take k ++ [numOf ((l.drop (8 * k)).take 8)] :=
  take_snoc' _ _ _ (bytesOf_get l k (by omega))
/-! ### Even -/
theorem evenN_step (l : List Nat) (j : Nat) : (l ++ List.replicate j 0) ++ [0] = l ++ List.replicate (j + 1) 0 := by
  rw [List.append_assoc, ← List.replicate_succ']
/-! ### Same -/
theorem same_len {a b : List Nat} (h : a.length ≠ b.length) : a ≠ b := fun e => h (by rw [e])
set_option maxHeartbeats 800000 in
theorem same_any (v u : Value) (a b : List Nat) (w : World) (hv : Rd w 1 v a.length (u8s a)) (hu : Rd w 1 u b.length (u8s b)) (hal : a.length < 8000000000) :
    Calls Tryz.prog 16 #[v, u] w fun e w' => e = .returned (.bool (decide (a = b))) ∧ ∃ n, w' = w.drewN n := by
  obtain ⟨ao, cap, rfl, _, _⟩ := hv.form
  obtain ⟨bo, cbp, rfl, _, _⟩ := hu.form
  by_cases hab : a.length = b.length
  · obtain ⟨n, hn⟩ : ∃ n, n = a.length := ⟨_, rfl⟩
    rw [← hab] at hu
    rw [← hn] at hv hu hal
    rw [← hab, ← hn]
    have HN := hid hn
    have HM := hid hab
    clear hn hab
    have hne : ((n : Int) != (n : Int)) = false := by simp
    go_enter Tryz.func16, Tryz.ntmps16
    go_wp2
    go_loopw [5] (fun t5 wr => ∃ k c : Nat, k ≤ n ∧ t5 = .int .i64 (k : Int) ∧ Hid (a.take k = b.take k) ∧ Hid (wr = w.drewN c)) (fun t5 _ => n - (intOf t5).toNat)
    case atStart => exact ⟨0, 0, Nat.zero_le _, rfl, rfl, rfl⟩
    case round =>
      obtain ⟨k, c, hk, rfl, HT, HW⟩ := hrel
      obtain rfl := HW.out
      by_cases hkn : k < n
      · obtain ⟨x, hx⟩ : ∃ x, a[k]? = some x := ⟨a[k]'(by have := HN.out; omega), List.getElem?_eq_getElem _⟩
        obtain ⟨y, hy⟩ : ∃ y, b[k]? = some y := ⟨b[k]'(by have := HN.out; have := HM.out; omega), List.getElem?_eq_getElem _⟩
        obtain ⟨g, off, rfl, hcell⟩ := hv.spot (by omega)
        obtain ⟨g2, off2, rfl, hcell2⟩ := hu.spot (by omega)
        have hc : w.cell? ⟨g, off + k, none⟩ = some (.int .u8 (x : Int)) := hcell k _ (by rw [u8s_get, hx]; rfl)
        have hc2 : w.cell? ⟨g2, off2 + k, none⟩ = some (.int .u8 (y : Int)) := hcell2 k _ (by rw [u8s_get, hy]; rfl)
        have hk0 : (0 : Int) ≤ (k : Int) := Int.natCast_nonneg _
        have hk1 : (k : Int) < (n : Int) := by omega
        have HX := hid hx
        have HY := hid hy
        clear hcell hcell2 hx hy
        by_cases hxy : x = y
        · have hd : ((x : Int) != (y : Int)) = false := by simp [hxy]
          have HXY := hid hxy
          clear hxy
          go_wp2
          go_quiet (fail)
          go_wp2
          go_roundw
          case rel => exact ⟨k + 1, _, by omega, by go_num, by rw [Hid, take_snoc' _ _ _ HX.out, take_snoc' _ _ _ HY.out, HT.out, HXY.out], rfl⟩
          case measure => simp [intOf]; omega
        · have hd : ((x : Int) != (y : Int)) = true := by simp; omega
          have HXY := hid hxy
          clear hxy
          go_wp2
          go_quiet (fail)
          go_wp2
          go_ret
          refine ⟨?_, _, World.drewN_drewN ..⟩
          rw [decide_eq_false]
          · rfl
          · intro e
            have h1 := HX.out
            rw [e, HY.out] at h1
            exact HXY.out (Option.some.inj h1).symm
      · go_wp2
        go_ret
        refine ⟨?_, _, rfl⟩
        have h1 := HT.out
        rw [List.take_of_length_le (by have := HN.out; omega), List.take_of_length_le (by have := HN.out; have := HM.out; omega)] at h1
        rw [decide_eq_true h1]
        rfl
  · have hd : ((a.length : Int) != (b.length : Int)) = true := by simp; omega
    have HN := hid hab
    clear hab
    go_enter Tryz.func16, Tryz.ntmps16
    go_wp2
    go_ret
    exact ⟨by rw [decide_eq_false (same_len HN.out)]; rfl, 0, rfl⟩
end Go.Proofs.YthibpnkdhbkakaaGreatDoor
/-
  The reference's Read and Bits.
-/
namespace Go.Proofs.YthibpnkdhbkakaaGreatDoor
set_option maxRecDepth 5000
open Go.RowKit

theorem lng_snoc (l : List Int) (a : Int) : lng (l ++ [a]) = max (lng l) a.toNat := by
  induction l with
  | nil => simp [lng]
  | cons b l ih =>
    show max b.toNat (lng (l ++ [a])) = max (max b.toNat (lng l)) a.toNat
    rw [ih]; omega
theorem infoC16 : (Tryz.prog.info? 120).map (·.zero) = some (some (arrV .i64 (cnts []))) := by kernel_rfl
theorem count_lt (l : List Int) (i n : Nat) (h : l[i]? = some (n : Int)) : (l.take i).count (n : Int) < l.count (n : Int) := by
  have h1 := count_take_succ l i (n : Int) (n : Int) h
  have h2 := count_take_le l (i + 1) (n : Int)
  rw [if_pos rfl] at h1; omega
set_option maxRecDepth 100000 in
set_option maxHeartbeats 3200000 in
theorem refread_any (v u x : Value) (l : List Int) (all : List Nat) (a n m : Nat) (w : World) (hv : Rd w 1 v n (ints l)) (hu : Rd w 1 u n (nums .u32 (codesOf l))) (hx : Rd w 1 x m (u8s all)) (hn : n = l.length) (hm : m = all.length)
    (hl : ∀ y ∈ l, 0 ≤ y ∧ y ≤ 15) (hn2 : n ≤ 288) (hb : isBits all) (ha : a ≤ m) (hm2 : m < 1000000000) :
    Calls Tryz.prog 58 #[v, u, x, .int .i64 (a : Int)] w fun e w' => ∃ k q er : Nat, e = .returned (.tuple #[.int .i64 (k : Int), .int .i64 (q : Int), .int .i64 (er : Int)]) ∧ Mod w w' (fun _ => False) ∧ Hid (ReadIs l (all.drop a) k q er) := by
  obtain ⟨ao, ac, rfl, _, _⟩ := hv.form
  obtain ⟨uo, uc, rfl, _, _⟩ := hu.form
  obtain ⟨xo, xc, rfl, _, _⟩ := hx.form
  have HL := hid (And.intro hn (And.intro hm (And.intro hl hb)))
  obtain ⟨bs, hbs⟩ : ∃ bs, bs = all.drop a := ⟨_, rfl⟩
  have hbl : bs.length = m - a := by rw [hbs, List.length_drop, hm]
  have hbb : isBits bs := by rw [hbs]; exact isBits_drop hb a
  have HBS := hid (And.intro hbs (And.intro hbl hbb))
  rw [← hbs]
  have hn0 : (0 : Int) ≤ (n : Int) := Int.natCast_nonneg _
  have hm0 : (0 : Int) ≤ (m : Int) := Int.natCast_nonneg _
  have ha0 : (0 : Int) ≤ (a : Int) := Int.natCast_nonneg _
  clear hn hm hl hb hbs hbl hbb
  go_enter Tryz.func58, Tryz.ntmps58
  go_wp2_with (refine wpList_alloc_arr rfl _ rfl .i64 _ infoC16 ?_)
  have hH0 : Held w (w.alloc (.cells (nums .i64 (cnts [])).toArray 120)) [objT w.heap.size (nums .i64 (cnts [])) 120] := (Held.start w).newObj (nums .i64 (cnts [])) 120
  have HH0 := hid hH0
  clear hH0
  generalize w.heap.size = B at HH0 ⊢
  go_loopg [12, 13] (n + 1) (fun k t12 t13 wr => ∃ (i g : Nat), i ≤ n ∧ n - i < k ∧ t13 = .int .i64 (i : Int) ∧ t12 = .int .i64 (g : Int) ∧ g ≤ 15 ∧ Hid (g = lng (l.take i)) ∧ Hid (Held w wr [objT B (nums .i64 (cnts (l.take i))) 120]))
  case atStart => exact ⟨0, 0, by omega, by omega, rfl, rfl, by omega, rfl, HH0⟩
  case round =>
    obtain ⟨i, g, hi, hk, rfl, rfl, hg, HG, HH⟩ := hrel
    have hi0 : (0 : Int) ≤ (i : Int) := Int.natCast_nonneg _
    have hg0 : (0 : Int) ≤ (g : Int) := Int.natCast_nonneg _
    by_cases hin : i < n
    · have hi1 : (i : Int) < (n : Int) := by omega
      obtain ⟨b, off, rfl, hcell⟩ := (HH.out.old hv).spot (by omega)
      obtain ⟨y, hyi⟩ : ∃ y, l[i]? = some y := ⟨l[i]'(by have := HL.out.1; omega), List.getElem?_eq_getElem _⟩
      have hyr := HL.out.2.2.1 y (List.mem_of_getElem? hyi)
      have hc1 := hcell i _ (by rw [ints_get, hyi]; rfl)
      obtain ⟨p, rfl⟩ := Int.eq_ofNat_of_zero_le hyr.1
      have hp15 : p ≤ 15 := by omega
      have HT := hid (take_snoc3 l i _ hyi)
      have HM : Hid (lng (l.take (i + 1)) = max g p) := by rw [HT.out, lng_snoc, ← HG.out]; exact hid rfl
      clear hcell hyi hyr
      have hp0 : (0 : Int) ≤ (p : Int) := Int.natCast_nonneg _
      by_cases hpz : p = 0
      · subst hpz
        have HR : Hid (cnts (l.take (i + 1)) = cnts (l.take i)) := by rw [HT.out]; exact hid (cnts_skip _ _ (by simp [isLen]))
        have hgz : ¬ (g : Int) < 0 := by omega
        go_wp2
        go_roundg (gk - 1)
        case measure => omega
        case rel => exact ⟨i + 1, g, by omega, by omega, by go_num, rfl, by omega, by rw [HM.out]; exact hid (by omega), by rw [HR.out]; exact HH⟩
      · have hpp : (0 : Int) < (p : Int) := by omega
        have hp16 : (p : Int) < 16 := by omega
        obtain ⟨c, hc⟩ : ∃ c, c = (l.take i).count ((p : Nat) : Int) := ⟨_, rfl⟩
        have hcn : c ≤ n := by rw [hc]; exact Nat.le_trans List.count_le_length (by simp; have := HL.out.1; omega)
        have hc2 := HH.out.obj.cell (i := p) (v := .int .i64 (c : Int)) (by rw [nums_get, cnts_get _ p (by omega) (by omega), hc]; rfl)
        have hfr := HH.out.obj.frozen p
        have HS := hid (HH.out.setObj p (.int .i64 ((c + 1 : Nat) : Int)))
        have HR : Hid (nums .i64 ((cnts (l.take i)).set p (c + 1)) = nums .i64 (cnts (l.take (i + 1)))) := by rw [HT.out, ← cnts_snoc _ p (by omega) (by omega), hc]; exact hid rfl
        have hov := hv
        clear hc
        have HS2 : Hid (Held w (wr.setCell ⟨B, p, none⟩ (.int .i64 ((c : Int) + 1))) [objT B (nums .i64 (cnts (l.take (i + 1)))) 120]) := by
          have h := HS.out
          rw [nums_set, HR.out] at h
          exact hid (by simpa using h)
        obtain ⟨b', off', hb', hcell'⟩ := (HS2.out.old hv).spot (by omega)
        simp only [Option.some.injEq, Addr.mk.injEq, and_true] at hb'
        obtain ⟨rfl, rfl⟩ := hb'
        have hc3 : (wr.setCell ⟨B, p, none⟩ (.int .i64 ((c : Int) + 1))).cell? ⟨b, off + i, none⟩ = some (.int .i64 (p : Int)) := by
          have hyi2 : l[i]? = some (p : Int) := by
            have h := HT.out
            rw [List.take_add_one] at h
            have h2 := List.append_cancel_left h
            cases hh : l[i]? with
            | none => rw [hh] at h2; cases h2
            | some y => rw [hh] at h2; simpa using h2
          exact hcell' i _ (by rw [ints_get, hyi2]; rfl)
        clear hcell' hov HS
        by_cases hgp : g < p
        · have hgpI : (g : Int) < (p : Int) := by omega
          go_wp2
          go_roundg (gk - 1)
          case measure => omega
          case rel => exact ⟨i + 1, p, by omega, by omega, by go_num, rfl, by omega, by rw [HM.out]; exact hid (by omega), HS2⟩
        · have hgpI : ¬ (g : Int) < (p : Int) := by omega
          go_wp2
          go_roundg (gk - 1)
          case measure => omega
          case rel => exact ⟨i + 1, g, by omega, by omega, by go_num, rfl, by omega, by rw [HM.out]; exact hid (by omega), HS2⟩
    · have hi1 : ¬ (i : Int) < (n : Int) := by omega
      have HG2 : Hid (g = lng l) := by
        have h := HG.out
        rw [List.take_of_length_le (by have := HL.out.1; omega)] at h
        exact hid h
      have HC : Hid (Held w wr [objT B (nums .i64 (cnts l)) 120]) := by
        have h := HH.out
        rw [List.take_of_length_le (by have := HL.out.1; omega)] at h
        exact hid h
      clear HH HG
      go_wp2
      go_loopg [14, 15, 16] (g + 2) (fun k t14 t15 t16 wq => ∃ (z f v : Nat), 1 ≤ z ∧ z ≤ g + 1 ∧ g + 1 - z < k ∧ t16 = .int .i64 (z : Int) ∧ t15 = .int .i64 (f : Int) ∧ t14 = .int .i64 (v : Int) ∧ v ≤ 65536 ∧ f ≤ 5000000 ∧ a + (z - 1) ≤ m ∧
        Hid (2 * f = fstC l z ∧ v = hiN (bs.take (z - 1)) ∧ ∀ i q, Hit l bs i q → z ≤ q) ∧ wq = wr)
      case atStart => exact ⟨1, 0, 0, by omega, by omega, by omega, rfl, rfl, rfl, by omega, by omega, by omega, hid ⟨rfl, rfl, fun i q h => h.2.1⟩, rfl⟩
      case round =>
        obtain ⟨z, f, v, hz1, hz2, hk2, rfl, rfl, rfl, hv2, hf2, haz, HZ, rfl⟩ := hrel
        obtain ⟨gx, rfl⟩ : ∃ g, g = gk := ⟨gk, rfl⟩
        have hz0 : (0 : Int) ≤ (z : Int) := Int.natCast_nonneg _
        have hf0 : (0 : Int) ≤ (f : Int) := Int.natCast_nonneg _
        have hv0 : (0 : Int) ≤ (v : Int) := Int.natCast_nonneg _
        by_cases hzg : z ≤ g
        · have hzgI : (z : Int) ≤ (g : Int) := by omega
          by_cases hend : m < a + z
          · have hendI : (m : Int) < (a : Int) + (z : Int) := by omega
            have HD : Hid (ReadIs l bs 0 0 5) := by
              refine hid (.inr ⟨rfl, rfl, fun i q h => ?_, ?_⟩)
              · have h1 := HZ.out.2.2 i q h
                have h2 := h.2.2.1
                have h3 := HBS.out.2.1
                omega
              · rw [if_pos]
                left
                have h3 := HBS.out.2.1
                have h4 := HG2.out
                omega
            have HM := hid HC.out.mod
            go_wp2
            go_ret3
            exact ⟨0, 0, 5, rfl, HM.out, HD⟩
          · have hendI : ¬ (m : Int) < (a : Int) + (z : Int) := by omega
            obtain ⟨b, hbz⟩ : ∃ b, bs[z - 1]? = some b := ⟨bs[z - 1]'(by have := HBS.out.2.1; omega), List.getElem?_eq_getElem _⟩
            have hb1 := HBS.out.2.2 b (List.mem_of_getElem? hbz)
            have HV : Hid (hiN (bs.take z) = 2 * v + b) := by
              have h := hiN_take bs (z - 1) b hbz
              rw [show z - 1 + 1 = z by omega] at h
              rw [h, ← HZ.out.2.1]; exact hid rfl
            have hvb : 2 * v + b ≤ 65536 := by
              have h := hiN_lt bs HBS.out.2.2 z
              rw [HV.out] at h
              have h2 : 2 ^ z ≤ 2 ^ 15 := Nat.pow_le_pow_right (by decide) (by omega)
              omega
            obtain ⟨c, hc⟩ : ∃ c, c = l.count ((z : Nat) : Int) := ⟨_, rfl⟩
            have hcn : c ≤ n := by rw [hc]; exact Nat.le_trans List.count_le_length (by have := HL.out.1; omega)
            have hcc := HC.out.obj.cell (i := z) (v := .int .i64 (c : Int)) (by rw [nums_get, cnts_get _ z (by omega) (by omega), hc]; rfl)
            have hz16 : (z : Int) < 16 := by omega
            have hpos : (a : Int) + (z : Int) - 1 = ((a + z - 1 : Nat) : Int) := by omega
            have hp0 : (0 : Int) ≤ ((a + z - 1 : Nat) : Int) := Int.natCast_nonneg _
            have hpm : ((a + z - 1 : Nat) : Int) < (m : Int) := by omega
            obtain ⟨xb, xof, rfl, hxc⟩ := (HC.out.old hx).spot (by omega)
            have hbc := hxc (a + z - 1) (.int .u8 (b : Int)) (by
              have h := hbz
              rw [HBS.out.1, List.getElem?_drop, show a + (z - 1) = a + z - 1 by omega] at h
              rw [u8s_get, h]; rfl)
            have hFL : 2 * f ≤ 16384 * n := by
              have h := fst_le l z (by omega)
              rw [HZ.out.1, HL.out.1]; exact h
            have HCN := hid hc
            clear hxc hc hbz
            have HNX : Hid (2 * (2 * f + c) = fstC l (z + 1)) := by
              obtain ⟨y, rfl⟩ : ∃ y, z = y + 1 := ⟨z - 1, by omega⟩
              show Hid (2 * (2 * f + c) = 2 * (fstC l (y + 1) + l.count ((y + 1 : Nat) : Int)))
              rw [HZ.out.1, HCN.out]; exact hid rfl
            have HQ : Hid (∀ i q, Hit l bs i q → q = z → 2 * v + b < 2 * f + c ∧ l[i]? = some (z : Int) ∧ codeAt l i = 2 * v + b) := by
              refine hid fun i q h e => ?_
              subst e
              have h1 := h.2.2.2
              have h2 := codeAt_len l i (q : Int) h.1 (by simp [isLen]; omega)
              have h3 := count_lt l i q h.1
              rw [Int.toNat_natCast] at h2
              rw [HV.out] at h1
              have h4 := HZ.out.1
              have h5 := HCN.out
              exact ⟨by omega, h.1, by omega⟩
            by_cases hlt : 2 * v + b < 2 * f + c
            · have hltI : (v : Int) * 2 + (b : Int) < (f : Int) * 2 + (c : Int) := by omega
              go_wp2
              go_loopg [17] (n + 1) (fun k t17 wq => ∃ (i : Nat), i ≤ n ∧ n - i < k ∧ t17 = .int .i64 (i : Int) ∧ Hid (∀ j, j < i → l[j]? = some (z : Int) → codeAt l j ≠ 2 * v + b) ∧ wq = wr)
              case atStart => exact ⟨0, by omega, by omega, rfl, hid fun j hj => by omega, rfl⟩
              case round =>
                obtain ⟨i, hi2, hk3, rfl, HJ, rfl⟩ := hrel
                have hi0 : (0 : Int) ≤ (i : Int) := Int.natCast_nonneg _
                by_cases hin : i < n
                · have hinI : (i : Int) < (n : Int) := by omega
                  obtain ⟨g1, off1, rfl, hcell⟩ := (HC.out.old hv).spot (by omega)
                  obtain ⟨y, hyi⟩ : ∃ y, l[i]? = some y := ⟨l[i]'(by have := HL.out.1; omega), List.getElem?_eq_getElem _⟩
                  have hyr := HL.out.2.2.1 y (List.mem_of_getElem? hyi)
                  have hc1 := hcell i _ (by rw [ints_get, hyi]; rfl)
                  obtain ⟨p, rfl⟩ := Int.eq_ofNat_of_zero_le hyr.1
                  obtain ⟨g2, off2, rfl, hcell2⟩ := (HC.out.old hu).spot (by omega)
                  obtain ⟨cd, hcd⟩ : ∃ cd, cd = codeAt l i := ⟨_, rfl⟩
                  have hc2 := hcell2 i (.int .u32 (cd : Int)) (by rw [nums_get, codesOf_get l i (by have := HL.out.1; omega), hcd]; rfl)
                  have hcdl : cd ≤ 16385 * n := by rw [hcd, HL.out.1]; exact codeAt_le l i
                  have HY := hid hyi
                  have HCD := hid hcd
                  have hcd0 : (0 : Int) ≤ (cd : Int) := Int.natCast_nonneg _
                  clear hcell hcell2 hyi hyr hcd
                  by_cases hpz : p = z
                  · subst hpz
                    have hb1' : ((p : Int) == (p : Int)) = true := by simp
                    by_cases hcv : cd = 2 * v + b
                    · have hcvI : (cd : Int) = (v : Int) * 2 + (b : Int) := by omega
                      have hb2 : ((cd : Int) == (v : Int) * 2 + (b : Int)) = true := by simp; omega
                      have HD : Hid (ReadIs l bs i p 0) := by
                        refine hid (.inl ⟨rfl, HY.out, by omega, ?_, ?_⟩)
                        · have := HBS.out.2.1; omega
                        · rw [HV.out, ← HCD.out]; exact hcv.symm
                      have HM := hid HC.out.mod
                      clear hcvI
                      go_wp2
                      go_ret3
                      exact ⟨i, p, 0, rfl, HM.out, HD⟩
                    · have hb2 : ((cd : Int) == (v : Int) * 2 + (b : Int)) = false := by simp; omega
                      have hcvI : ¬ (cd : Int) = (v : Int) * 2 + (b : Int) := by omega
                      go_wp2
                      go_roundg (gk - 1)
                      case measure => omega
                      case rel =>
                        refine ⟨i + 1, by omega, by omega, by go_num, hid fun j hj hjl => ?_, rfl⟩
                        by_cases e : j = i
                        · subst e; rw [← HCD.out]; exact hcv
                        · exact HJ.out j (by omega) hjl
                  · have hb1' : ((p : Int) == (z : Int)) = false := by simp; omega
                    have hpzI : ¬ (p : Int) = (z : Int) := by omega
                    go_wp2
                    go_roundg (gk - 1)
                    case measure => omega
                    case rel =>
                      refine ⟨i + 1, by omega, by omega, by go_num, hid fun j hj hjl => ?_, rfl⟩
                      by_cases e : j = i
                      · subst e
                        have h := HY.out.symm.trans hjl
                        simp only [Option.some.injEq] at h
                        exact absurd h hpzI
                      · exact HJ.out j (by omega) hjl
                · have hinI : ¬ (i : Int) < (n : Int) := by omega
                  go_wp2
                  go_roundg (gx - 1)
                  case measure => omega
                  case rel =>
                    refine ⟨z + 1, 2 * f + c, 2 * v + b, by omega, by omega, by omega, by go_num, by go_num, by go_num, by omega, by omega, by omega, hid ⟨HNX.out, by rw [Nat.add_sub_cancel]; exact HV.out.symm, fun j q h => ?_⟩, rfl⟩
                    have h1 := HZ.out.2.2 j q h
                    by_cases e : q = z
                    · obtain ⟨_, h2, h3⟩ := HQ.out j q h e
                      have hjl := (List.getElem?_eq_some_iff.1 h2).1
                      exact absurd h3 (HJ.out j (by have := HL.out.1; omega) h2)
                    · omega
            · have hltI : ¬ (v : Int) * 2 + (b : Int) < (f : Int) * 2 + (c : Int) := by omega
              go_wp2
              go_roundg (gx - 1)
              case measure => omega
              case rel =>
                refine ⟨z + 1, 2 * f + c, 2 * v + b, by omega, by omega, by omega, by go_num, by go_num, by go_num, by omega, by omega, by omega, hid ⟨HNX.out, by rw [Nat.add_sub_cancel]; exact HV.out.symm, fun i q h => ?_⟩, rfl⟩
                have h1 := HZ.out.2.2 i q h
                by_cases e : q = z
                · exact absurd (HQ.out i q h e).1 hlt
                · omega
        · have hzgI : ¬ (z : Int) ≤ (g : Int) := by omega
          have HNO : Hid (∀ i q, ¬ Hit l bs i q) := by
            refine hid fun i q h => ?_
            have h1 := HZ.out.2.2 i q h
            have h2 := h.long
            have h3 := HG2.out
            omega
          have HM := hid HC.out.mod
          by_cases hg0 : g = 0
          · have hgb : ((g : Int) == 0) = true := by simp; omega
            have hgI : (g : Int) = 0 := by omega
            by_cases hma : m ≤ a
            · have hmaI : decide ((m : Int) ≤ (a : Int)) = true := by simp; omega
              have hmaN : decide (m ≤ a) = true := by simp; omega
              have HD : Hid (ReadIs l bs 0 0 5) := by
                refine hid (.inr ⟨rfl, rfl, HNO.out, ?_⟩)
                rw [if_pos]
                right
                exact List.eq_nil_of_length_eq_zero (by have := HBS.out.2.1; omega)
              go_wp2
              go_ret3
              exact ⟨0, 0, 5, rfl, HM.out, HD⟩
            · have hmaI : decide ((m : Int) ≤ (a : Int)) = false := by simp; omega
              have hmaN : decide (m ≤ a) = false := by simp; omega
              have HD : Hid (ReadIs l bs 0 0 3) := by
                refine hid (.inr ⟨rfl, rfl, HNO.out, ?_⟩)
                have h3 := HBS.out.2.1
                have h4 := HG2.out
                rw [if_neg]
                rintro (h | h)
                · omega
                · rw [h] at h3; simp at h3; omega
              go_wp2
              go_ret3
              exact ⟨0, 0, 3, rfl, HM.out, HD⟩
          · have hgb : ((g : Int) == 0) = false := by simp; omega
            have hgI : ¬ (g : Int) = 0 := by omega
            have HD : Hid (ReadIs l bs 0 0 3) := by
              refine hid (.inr ⟨rfl, rfl, HNO.out, ?_⟩)
              have h3 := HBS.out.2.1
              have h4 := HG2.out
              rw [if_neg]
              rintro (h | h)
              · omega
              · rw [h] at h3; simp at h3; omega
            go_wp2
            go_ret3
            exact ⟨0, 0, 3, rfl, HM.out, HD⟩

theorem shr_rem (c k : Nat) : c / 2 ^ k % 2 ≤ 1 := by have := Nat.mod_lt (c / 2 ^ k) (show 0 < 2 by decide); omega
end Go.Proofs.YthibpnkdhbkakaaGreatDoor
