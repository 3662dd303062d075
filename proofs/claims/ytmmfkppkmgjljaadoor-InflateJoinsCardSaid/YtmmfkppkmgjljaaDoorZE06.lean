/-
  The reference's Codes.
-/
import Derived.Test.YtmmfkppkmgjljaaDoorZE05
import Derived.Test.YtmmfkppkmgjljaaDoorProg
import Derived.Test.YtmmfkppkmgjljaaDoorZE01
import Derived.Test.YtmmfkppkmgjljaaDoorZE02
namespace Go.Proofs.YtmmfkppkmgjljaaDoor
set_option maxRecDepth 5000
open Go.RowKit
def ahead (l : List Int) (n i j : Nat) : Bool := match l[j]? with
  | some a => decide (a < (n : Int) ∨ a = (n : Int) ∧ j < i)
  | none => false
def outL (l : List Int) (n i : Nat) : List Nat := (List.range l.length).map fun (j : Nat) => if ahead l n i j = true then codeAt l j else 0
theorem outL_length (l : List Int) (n i : Nat) : (outL l n i).length = l.length := by simp [outL]
theorem outL_get (l : List Int) (n i j : Nat) (h : j < l.length) : (outL l n i)[j]? = some (if ahead l n i j = true then codeAt l j else 0) := by simp [outL, h]
theorem outL_congr {l : List Int} {n i n' i' : Nat} (h : ∀ j a, l[j]? = some a → isLen a = true → ahead l n i j = ahead l n' i' j) : outL l n i = outL l n' i' := by
  refine List.map_congr_left fun j hj => ?_
  have hj' : j < l.length := List.mem_range.1 hj
  have hg : l[j]? = some l[j] := List.getElem?_eq_getElem hj'
  cases ha : isLen l[j] with
  | true => rw [h j _ hg ha]
  | false => rw [codeAt_not l j _ hg ha]; simp
theorem outL_next (l : List Int) (n : Nat) : outL l n l.length = outL l (n + 1) 0 := by
  refine outL_congr fun j a hj ha => ?_
  have hjl := (List.getElem?_eq_some_iff.1 hj).1
  simp only [ahead, hj]
  congr 1
  apply propext
  omega
theorem outL_set (l : List Int) (n i : Nat) (h : l[i]? = some (n : Int)) : (outL l n i).set i (codeAt l i) = outL l n (i + 1) := by
  have hil := (List.getElem?_eq_some_iff.1 h).1
  refine List.ext_getElem? fun j => ?_
  rw [List.getElem?_set, outL_length]
  by_cases hj : j < l.length
  · rw [outL_get _ _ _ _ hj, outL_get _ _ _ _ hj]
    by_cases e : i = j
    · subst e
      rw [if_pos rfl, if_pos hil, if_pos]
      simp [ahead, h]
    · rw [if_neg e]
      have : ahead l n i j = ahead l n (i + 1) j := by
        unfold ahead
        cases l[j]? with
        | none => rfl
        | some a =>
          simp only
          congr 1
          apply propext
          omega
      rw [this]
  · rw [if_neg (by omega), List.getElem?_eq_none (by rw [outL_length]; omega), List.getElem?_eq_none (by rw [outL_length]; omega)]
theorem outL_skip (l : List Int) (n i : Nat) (a : Int) (h : l[i]? = some a) (hne : a ≠ (n : Int)) : outL l n (i + 1) = outL l n i := by
  refine outL_congr fun j b hj hb => ?_
  simp only [ahead, hj]
  congr 1
  apply propext
  have : j = i → b = a := fun e => by subst e; rw [h] at hj; injection hj with hj; exact hj.symm
  omega
theorem outL_none (l : List Int) : outL l 1 0 = List.replicate l.length 0 := by
  refine List.ext_getElem? fun j => ?_
  by_cases hj : j < l.length
  · rw [outL_get _ _ _ _ hj]
    have hg : l[j]? = some l[j] := List.getElem?_eq_getElem hj
    cases ha : isLen l[j] with
    | false => rw [codeAt_not l j _ hg ha]; simp [hj]
    | true =>
      have h1 : 1 ≤ l[j] ∧ l[j] ≤ 15 := by simpa [isLen] using ha
      rw [if_neg]
      · simp [hj]
      · simp only [ahead, hg, decide_eq_true_eq]; omega
  · rw [List.getElem?_eq_none (by rw [outL_length]; omega), List.getElem?_eq_none (by simp; omega)]
theorem outL_all (l : List Int) : outL l 16 0 = codesOf l := by
  refine List.map_congr_left fun j hj => ?_
  have hj' : j < l.length := List.mem_range.1 hj
  have hg : l[j]? = some l[j] := List.getElem?_eq_getElem hj'
  cases ha : isLen l[j] with
  | false => rw [codeAt_not l j _ hg ha]; simp
  | true =>
    have h1 : 1 ≤ l[j] ∧ l[j] ≤ 15 := by simpa [isLen] using ha
    rw [if_pos]
    simp only [ahead, hg, decide_eq_true_eq]; omega
set_option maxRecDepth 20000 in
set_option maxHeartbeats 3200000 in
theorem refcodes_any (v : Value) (l : List Int) (w : World) (hv : Rd w 1 v l.length (ints l)) (hl : l.length ≤ 288) :
    Calls Tryd.prog 36 #[v] w fun e w' => ∃ v', e = .returned v' ∧ Own w' 44 1 v' l.length (nums .u32 (codesOf l)) ∧ (∀ k, v'.ownBlock = some k → w.heap.size ≤ k) ∧ Mod w w' (fun _ => False) := by
  obtain ⟨ao, cap, rfl, _, _⟩ := hv.form
  obtain ⟨n, hn⟩ : ∃ n, n = l.length := ⟨_, rfl⟩
  rw [← hn] at hv hl ⊢
  have HN := hid hn
  clear hn
  obtain ⟨i0, hi0, hz0, hz1, hz2⟩ := info_parts infoU32
  have hn288 : ¬ (288 : Int) < (n : Int) := by omega
  have hn0 : (0 : Int) ≤ (n : Int) := Int.natCast_nonneg _
  have HI0 := hid hi0
  go_enter Tryd.func36, Tryd.ntmps36
  go_wp2_with (refine wpList_make_own rfl 29 (.tmp 11) (.tmp 11) rfl 44 i0 (.int .u32 0) 1 Tryd.underlying29 HI0.out hz0 hz1 .i64 n rfl rfl (by rw [hz2]; omega) (by unfold maxLen; omega) ?_; intro v1 w4 zs ho1 hm1 hf1 hv1 hzs; have HM4 := hid hm1; have HF1 := hid hf1; have HV1 := hid hv1; have HO1 := hid ho1; have HZS := hid hzs; clear hm1 hf1 hv1 hzs ho1)
  have hHH : Held w w4 [ownT 44 1 v1 n (nums .u32 (outL l 1 0))] := by
    have h := (Held.start w).pushOwn (v := v1) (e := 44) (size := 1) (n := n) (xs := zs) HO1.out HM4.out HF1.out
    have e : zs = nums .u32 (outL l 1 0) := by rw [HZS.out, made_u32, outL_none, HN.out]
    rw [e] at h
    exact h
  obtain ⟨g, hg⟩ : ∃ g, g = w.heap.size := ⟨_, rfl⟩
  obtain rfl : v1 = .slice (some ⟨g, 0, none⟩) n n := by rw [hg]; exact HV1.out
  have HHH := hid hHH
  clear hHH hg
  go_loopg [4, 5] 17 (fun k t4 t5 wr => ∃ (m c : Nat), 1 ≤ m ∧ m ≤ 16 ∧ 16 - m < k ∧ t5 = .int .i64 (m : Int) ∧ t4 = .int .u32 (c : Int) ∧ c ≤ 16385 * 288 ∧ Hid (2 * c = fstC l m) ∧ Hid (Held w wr [ownT 44 1 (.slice (some ⟨g, 0, none⟩) n n) n (nums .u32 (outL l m 0))]))
  case atStart => exact ⟨1, 0, by omega, by omega, by omega, rfl, rfl, by omega, rfl, HHH⟩
  case round =>
    obtain ⟨m, c, hm1, hm, hk, rfl, rfl, hc, HC, HH⟩ := hrel
    obtain ⟨gx, rfl⟩ : ∃ g, g = gk := ⟨gk, rfl⟩
    by_cases hm15 : m ≤ 15
    · have hmI : (m : Int) ≤ 15 := by omega
      have HFL : Hid (fstC l m ≤ 16384 * n) := by unfold Hid; rw [HN.out]; exact fst_le l m hm15
      have hcI : c * 2 ≤ 16384 * n := by have := HFL.out; have := HC.out; omega
      go_wp2
      go_loopg [4, 6] (n + 1) (fun k t4 t6 wq => ∃ (i c : Nat), i ≤ n ∧ n - i < k ∧ t6 = .int .i64 (i : Int) ∧ t4 = .int .u32 (c : Int) ∧ c ≤ 16384 * n + i ∧ Hid (c = fstC l m + (l.take i).count (m : Int)) ∧ Hid (Held w wq [ownT 44 1 (.slice (some ⟨g, 0, none⟩) n n) n (nums .u32 (outL l m i))]))
      case atStart => exact ⟨0, c * 2, by omega, by omega, rfl, by go_num, by omega, by unfold Hid; rw [← HC.out]; simp; omega, HH⟩
      case round =>
        obtain ⟨i, c, hi, hk2, rfl, rfl, hc2, HC2, HH2⟩ := hrel
        by_cases hin : i < n
        · obtain ⟨g1, off, rfl, hcell⟩ := (HH2.out.old hv).spot (by omega)
          obtain ⟨a, hai⟩ : ∃ a, l[i]? = some a := ⟨l[i]'(by have := HN.out; omega), List.getElem?_eq_getElem _⟩
          have hc1 := hcell i _ (by rw [ints_get, hai]; rfl)
          have hi0' : (0 : Int) ≤ (i : Int) := Int.natCast_nonneg _
          have hi1 : (i : Int) < (n : Int) := by omega
          by_cases hae : a = (m : Int)
          · subst hae
            have HT : Hid ((l.take (i + 1)).count (m : Int) = (l.take i).count (m : Int) + 1) := by unfold Hid; rw [count_take_succ l i _ _ hai, if_pos rfl]
            have HCD : Hid (c = codeAt l i) := by unfold Hid; rw [codeAt_len l i _ hai (by simp [isLen]; omega), Int.toNat_natCast]; exact HC2.out
            obtain ⟨g', off', hgg, hocell, hofr, hoput⟩ := HH2.out.own.site (by omega)
            injection hgg with hgg
            injection hgg with hgg1 hgg2
            subst hgg1; subst hgg2
            obtain ⟨b0, hb0⟩ : ∃ b0, (outL l m i)[i]? = some b0 := ⟨_, List.getElem?_eq_getElem (by rw [outL_length]; have := HN.out; omega)⟩
            have hc3 := hocell i _ (by rw [nums_get, hb0]; rfl)
            have hf3 := hofr i
            have HS := hid (HH2.out.putOwn (hoput i (.int .u32 (c : Int)) hin) (Mod.set wr g (0 + i) _))
            have HR : Hid ((outL l m i).set i c = outL l m (i + 1)) := by unfold Hid; rw [HCD.out]; exact outL_set l m i hai
            simp only [Nat.zero_add] at hc3 hf3
            clear hcell hai hocell hofr hoput hb0
            go_wp2
            go_roundg (gk - 1)
            case measure => omega
            case rel => exact ⟨i + 1, c + 1, by omega, by omega, by go_num, by go_num, by omega, by unfold Hid; rw [HT.out, HC2.out]; omega, by unfold Hid; have h := HS.out; rw [nums_set, HR.out] at h; simpa using h⟩
          · have HT : Hid ((l.take (i + 1)).count (m : Int) = (l.take i).count (m : Int)) := by unfold Hid; rw [count_take_succ l i _ _ hai, if_neg hae]; rfl
            have HR : Hid (outL l m (i + 1) = outL l m i) := by unfold Hid; exact outL_skip l m i a hai hae
            clear hcell hai
            go_wp2
            go_roundg (gk - 1)
            case measure => omega
            case rel => exact ⟨i + 1, c, by omega, by omega, by go_num, rfl, by omega, by unfold Hid; rw [HT.out]; exact HC2.out, by unfold Hid; rw [HR.out]; exact HH2.out⟩
        · have hi1 : ¬ (i : Int) < (n : Int) := by omega
          have HE : Hid (i = l.length) := by unfold Hid; have := HN.out; omega
          have HE2 : Hid (l.take i = l) := by unfold Hid; exact List.take_of_length_le (by have := HE.out; omega)
          go_wp2
          go_roundg (gx - 1)
          case measure => omega
          case rel => exact ⟨m + 1, c, by omega, by omega, by omega, by go_num, rfl, by omega, by
              unfold Hid
              obtain ⟨q, rfl⟩ : ∃ q, m = q + 1 := ⟨m - 1, by omega⟩
              rw [fstC, HC2.out, HE2.out], by unfold Hid; rw [← outL_next, ← HE.out]; exact HH2.out⟩
    · obtain rfl : m = 16 := by omega
      have hmI : ¬ ((16 : Nat) : Int) ≤ 15 := by omega
      have HE : Hid (outL l 16 0 = codesOf l) := outL_all l
      rw [HE.out] at HH
      go_wp2
      go_ret
      exact ⟨_, rfl, HH.out.own, HH.out.fresh, HH.out.mod⟩
end Go.Proofs.YtmmfkppkmgjljaaDoor
/-
  The contracts of the reference package's functions on bits: Of, Number, Bits, Bytes, Even, Same.
-/
namespace Go.Proofs.YtmmfkppkmgjljaaDoor
set_option maxRecDepth 5000
open Go.RowKit
theorem Tryd.infoByteR : (Tryd.prog.info? 5).map (fun i => (i.zero, i.size, i.bytes)) = some (some (.int .u8 0), 1, 1) := by kernel_rfl
def Built (w w' : World) (v : Value) (l : List Nat) : Prop :=
  Own w' 5 1 v l.length (u8s l) ∧ Mod w w' (fun _ => False) ∧ ∀ k, v.ownBlock = some k → w.heap.size ≤ k
theorem Built.start (w : World) : Built w w (.slice none 0 0) [] := ⟨Own.nil _ _ _, Mod.refl _ _, by simp [Value.ownBlock]⟩
theorem Built.form {w w' : World} {v : Value} {l : List Nat} (h : Built w w' v l) : ∃ ao cap, v = .slice ao l.length cap := by
  obtain ⟨ao, cap, hv, _⟩ := h.1.form
  exact ⟨ao, cap, hv⟩
theorem Built.snoc {w wr w1 : World} {l : List Nat} {ao ao1 : Option Addr} {cap cap1 n : Nat} {o : Obj} {x : Int} {b : Nat} (h : Built w wr (.slice ao n cap) l) (hn : n = l.length) (hx : x = (b : Int))
    (hown1 : Own w1 5 1 (.slice ao1 (n + 1) cap1) (n + 1) (u8s l ++ [.int .u8 x])) (hgrow : (wr.alloc o).grownBy w1 (Value.ownBlock (.slice ao n cap)))
    (hat : Value.ownBlock (.slice ao1 (n + 1) cap1) = Value.ownBlock (.slice ao n cap) ∨ Value.ownBlock (.slice ao1 (n + 1) cap1) = some (wr.alloc o).heap.size) : Built w w1 (.slice ao1 (n + 1) cap1) (l ++ [b]) := by
  subst hn
  obtain ⟨h1, h2⟩ := fresh_app h.2.1 h.2.2 hgrow hat
  refine ⟨?_, h1, h2⟩
  rw [u8s_append, List.length_append, List.length_singleton]
  subst hx
  exact hown1
theorem ret_intR {k : IntKind} {a b : Int} (h : a = b) : Ending.returned (.int k a) = .returned (.int k b) := by rw [h]
theorem bit_val (b j : Nat) : ((b : Int) / 2 ^ j).tmod 2 = ((b / 2 ^ j % 2 : Nat) : Int) := by
  have h : ((2 : Int) ^ j) = ((2 ^ j : Nat) : Int) := by simp
  have e : (b : Int) / ((2 ^ j : Nat) : Int) = ((b / 2 ^ j : Nat) : Int) := (Int.natCast_ediv b (2 ^ j)).symm
  rw [h, e]
  generalize b / 2 ^ j = t
  rw [Int.tmod_eq_emod_of_nonneg (by omega)]; omega
theorem bitsOf_snoc (k v : Nat) : bitsOf (k + 1) v = bitsOf k v ++ [v / 2 ^ k % 2] := by
  rw [bitsOf_add]; rfl
theorem u8_bit (x : Nat) (h : x ≤ 1) : IntKind.u8.wrap (x : Int) = (x : Int) := IntWalk.u8_in _ (by omega)
set_option maxHeartbeats 400000 in
theorem of_any (V n : Nat) (w : World) (hv : V < 4294967296) (hn : n < 1099511627776) :
    Calls Tryd.prog 14 #[.int .u32 (V : Int), .int .i64 (n : Int)] w fun e w' => ∃ v, e = .returned v ∧ Built w w' v (bitsOf n V) := by
  obtain ⟨i, hi, hz0, hz1, hz2⟩ := info_parts Tryd.infoByteR
  go_enter Tryd.func14, Tryd.ntmps14
  go_wp2
  go_loopw [0, 5, 6] (fun t0 t5 t6 wr => ∃ k q : Nat, k ≤ n ∧ t6 = .int .i64 (k : Int) ∧ t0 = .int .u32 (q : Int) ∧ Hid (q = V / 2 ^ k) ∧ Built w wr t5 (bitsOf k V)) (fun _ _ t6 _ => n - (intOf t6).toNat)
  case atStart => exact ⟨0, V, Nat.zero_le _, rfl, rfl, by simp [Hid], Built.start w⟩
  case round =>
    obtain ⟨k, q, hk, rfl, rfl, HQ, hB⟩ := hrel
    have hB' := hB
    obtain ⟨ao, cap, rfl⟩ := hB.form
    have hown := hB.1
    rw [bitsOf_length] at *
    have hq : q < 4294967296 := by rw [HQ.out]; exact Nat.lt_of_le_of_lt (Nat.div_le_self _ _) hv
    by_cases hkn : k < n
    · go_wp2_with (at_builtin; refine wpList_app1 rfl (.tmp 12) (.tmp 16) 22 rfl 5 i (.int .u8 0) 1 Tryd.underlying22 hi hz0 hz1 hz2 rfl (.slice ao k cap) k (u8s (bitsOf k V)) rfl hown rfl rfl (by unfold maxLen; omega) (by omega) ?_; intro ao1 cap1 w1 hown1 hgrow hat)
      go_roundw
      case rel => exact ⟨k + 1, q / 2, by omega, by go_num, by go_num, by rw [Hid, HQ.out, Nat.div_div_eq_div_mul, Nat.pow_succ], by rw [bitsOf_snoc]; exact hB'.snoc (b := V / 2 ^ k % 2) (bitsOf_length _ _).symm (by rw [← HQ.out]; omega) hown1 hgrow hat⟩
      case measure => simp [intOf]; omega
    · go_wp2
      go_ret
      rw [show n = k by omega]
      exact ⟨_, rfl, hB'⟩
theorem numOf_drop (l : List Nat) (i : Nat) (b : Nat) (h : l[i]? = some b) : numOf (l.drop i) = b + 2 * numOf (l.drop (i + 1)) := by
  have hi := (List.getElem?_eq_some_iff.1 h).1
  have hb := (List.getElem?_eq_some_iff.1 h).2
  rw [List.drop_eq_getElem_cons hi, hb]; rfl
set_option maxHeartbeats 400000 in
theorem number_any (v : Value) (l : List Nat) (w : World) (hv : Rd w 1 v l.length (u8s l)) (hb : isBits l) (hl : l.length ≤ 60) :
    Calls Tryd.prog 34 #[v] w fun e w' => e = .returned (.int .i64 ((numOf l : Nat) : Int)) ∧ w = w' := by
  obtain ⟨ao, cap, rfl, _, _⟩ := hv.form
  obtain ⟨n, hn⟩ : ∃ n, n = l.length := ⟨_, rfl⟩
  rw [← hn] at hv hl ⊢
  have HN := hid hn
  clear hn
  go_enter Tryd.func34, Tryd.ntmps34
  go_wp2
  go_loop [3, 4] (fun t3 t4 => ∃ k : Nat, k ≤ n ∧ t4 = .int .i64 ((k : Int) - 1) ∧ t3 = .int .i64 ((numOf (l.drop k) : Nat) : Int)) (fun _ t4 => (intOf t4 + 1).toNat)
  case atStart => exact ⟨n, Nat.le_refl _, rfl, by rw [HN.out, List.drop_eq_nil_of_le (Nat.le_refl _)]; rfl⟩
  case round =>
    obtain ⟨k, hk, rfl, rfl⟩ := hrel
    obtain ⟨q, hq⟩ : ∃ q, q = numOf (l.drop k) := ⟨_, rfl⟩
    have hqb : q < 2 ^ 60 := by
      rw [hq]; exact Nat.lt_of_lt_of_le (numOf_lt _ (isBits_drop hb k)) (Nat.pow_le_pow_right (by decide) (by rw [List.length_drop]; have := HN.out; omega))
    rw [← hq]
    have HQ := hid hq
    clear hq
    cases k with
    | zero =>
      have h0 : ((0 : Nat) : Int) - 1 < 0 := by omega
      go_wp2
      go_ret
      exact ⟨ret_intR (by rw [HQ.out]; rfl), rfl⟩
    | succ k =>
      obtain ⟨b, hbk⟩ : ∃ b, l[k]? = some b := ⟨l[k]'(by have := HN.out; omega), List.getElem?_eq_getElem _⟩
      have hb1 : b ≤ 1 := hb b (List.mem_of_getElem? hbk)
      obtain ⟨g, off, rfl, hcell⟩ := hv.spot (by omega)
      have hc : w.cell? ⟨g, off + k, none⟩ = some (.int .u8 (b : Int)) := hcell k _ (by rw [u8s_get, hbk]; rfl)
      have HB := hid (numOf_drop l k b hbk)
      clear hbk hcell
      rw [show (((k + 1 : Nat) : Int) - 1) = (k : Int) by omega]
      go_wp2
      go_round
      case rel => exact ⟨k, by omega, rfl, by rw [HB.out, ← HQ.out]; go_num⟩
      case measure => simp [intOf]
theorem number_of (v : Value) (n q : Nat) (xs : List Value) (l : List Nat) (w : World) (hv : Rd w 1 v n xs) (hx : xs = u8s l) (hb : isBits l) (hl : n ≤ 60) (hq : q = numOf l) :
    Calls Tryd.prog 34 #[v] w fun e w' => e = .returned (.int .i64 (q : Int)) ∧ w = w' := by
  have hn : n = l.length := by have := hv.1; rw [hx, u8s_length] at this; omega
  subst hx hq hn
  exact number_any v l w hv hb hl
theorem bits8_snoc (l : List Nat) (b : Nat) : bits8 (l ++ [b]) = bits8 l ++ bitsOf 8 b := by rw [bits8_append, bits8_cons, bits8_nil, List.append_nil]
theorem take_snoc' (l : List Nat) (k b : Nat) (h : l[k]? = some b) : l.take (k + 1) = l.take k ++ [b] := by
  have hi := (List.getElem?_eq_some_iff.1 h).1
  have hb := (List.getElem?_eq_some_iff.1 h).2
  rw [List.take_succ_eq_append_getElem hi, hb]
set_option maxHeartbeats 800000 in
theorem bits_any (v : Value) (l : List Nat) (w : World) (hv : Rd w 1 v l.length (u8s l)) (hb : ∀ b ∈ l, b < 256) (hl : l.length < 1000000000) :
    Calls Tryd.prog 15 #[v] w fun e w' => ∃ v', e = .returned v' ∧ Built w w' v' (bits8 l) := by
  obtain ⟨i, hi, hz0, hz1, hz2⟩ := info_parts Tryd.infoByteR
  obtain ⟨ao, cap, rfl, _, _⟩ := hv.form
  obtain ⟨n, hn⟩ : ∃ n, n = l.length := ⟨_, rfl⟩
  rw [← hn] at hv hl ⊢
  have HN := hid hn
  clear hn
  go_enter Tryd.func15, Tryd.ntmps15
  go_wp2
  go_loopw [3, 4, 5] (fun t3 t4 _ wr => ∃ k : Nat, k ≤ n ∧ t4 = .int .i64 (k : Int) ∧ Built w wr t3 (bits8 (l.take k))) (fun _ t4 _ _ => n - (intOf t4).toNat)
  case atStart => exact ⟨0, Nat.zero_le _, rfl, Built.start w⟩
  case round =>
    obtain ⟨k, hk, rfl, hB⟩ := hrel
    obtain ⟨ao3, cap3, rfl⟩ := hB.form
    by_cases hkn : k < n
    · obtain ⟨b, hbk⟩ : ∃ b, l[k]? = some b := ⟨l[k]'(by have := HN.out; omega), List.getElem?_eq_getElem _⟩
      have hb1 : b < 256 := hb b (List.mem_of_getElem? hbk)
      obtain ⟨g, off, rfl, hcell⟩ := hv.spot (by omega)
      have hc : w.cell? ⟨g, off + k, none⟩ = some (.int .u8 (b : Int)) := hcell k _ (by rw [u8s_get, hbk]; rfl)
      have hg : g < w.heap.size := World.block_lt_of_cell? w _ hc
      have HB := hid hbk
      have hB0 := hid hB
      obtain ⟨m, hm⟩ : ∃ m, m = (bits8 (l.take k)).length := ⟨_, rfl⟩
      have hmk : m = 8 * k := by rw [hm, bits8_length, List.length_take, ← HN.out]; omega
      rw [← hm]
      have HM := hid hmk
      have hmb : m < 8000000000 := by omega
      clear hm hmk hbk hcell hB
      obtain ⟨wo, hwo⟩ : ∃ wo : World, wo = wr := ⟨_, rfl⟩
      have HW := hid hwo
      clear hwo
      go_wp2
      go_loopw [3, 5] (fun t3 t5 wr' => ∃ j q : Nat, j ≤ 8 ∧ q = m + j ∧ t5 = .int .i64 (j : Int) ∧ ∃ a3 c3, t3 = .slice a3 q c3 ∧ Built w wr' (.slice a3 q c3) (bits8 (l.take k) ++ bitsOf j b)) (fun _ t5 _ => 8 - (intOf t5).toNat)
      case atStart => exact ⟨0, m, Nat.zero_le _, rfl, rfl, ao3, cap3, rfl, by rw [show bitsOf 0 b = [] from rfl, List.append_nil]; have h1 := hB0.out; rwa [show (bits8 (l.take k)).length = m by rw [bits8_length, List.length_take, ← HN.out, HM.out]; omega] at h1⟩
      case round =>
        obtain ⟨j, q, hj, hq, rfl, a3, c3, rfl, hB⟩ := hrel
        have hB' := hB
        have hown := hB.1
        have hlq : (bits8 (l.take k) ++ bitsOf j b).length = q := by
          rw [List.length_append, bitsOf_length, bits8_length, List.length_take, ← HN.out, hq, HM.out]; omega
        rw [hlq] at hown
        have hcw : (wr.cell? ⟨g, off + k, none⟩) = some (.int .u8 (b : Int)) := by rw [hB.2.1.cell hg (fun h => h)]; exact hc
        have HQ := hid hq
        have HLQ := hid hlq
        have hqb : q < 8000000008 := by omega
        clear hq hlq
        have hj0 : (0 : Int) ≤ (j : Int) := Int.natCast_nonneg _
        by_cases hj8 : j < 8
        · go_wp2_with (at_builtin; refine wpList_app1 rfl (.tmp 16) (.tmp 25) 22 rfl 5 i (.int .u8 0) 1 Tryd.underlying22 hi hz0 hz1 hz2 rfl (.slice a3 q c3) q (u8s (bits8 (l.take k) ++ bitsOf j b)) rfl hown rfl rfl (by unfold maxLen; omega) (by omega) ?_; intro ao1 cap1 w1 hown1 hgrow hat)
          go_roundw
          case rel =>
            refine ⟨j + 1, q + 1, by omega, by have := HQ.out; omega, by go_num, ao1, cap1, rfl, ?_⟩
            rw [bitsOf_snoc, ← List.append_assoc]
            exact hB'.snoc (b := b / 2 ^ j % 2) HLQ.out.symm (bit_val b j) hown1 hgrow hat
          case measure => simp [intOf]; omega
        · go_wp2
          go_roundw
          case rel =>
            refine ⟨k + 1, by omega, by go_num, ?_⟩
            rw [take_snoc' l k b HB.out, bits8_snoc, show 8 = j by omega]
            exact hB'
          case measure => simp [intOf]; omega
    · go_wp2
      go_ret
      rw [List.take_of_length_le (by have := HN.out; omega)] at hB ⊢
      exact ⟨_, rfl, hB⟩
/-! ### Bytes -/
theorem bytesOf_snoc (l : List Nat) (k : Nat) (h : 8 * k + 8 ≤ l.length) : (bytesOf l).take (k + 1) = (bytesOf l).take k ++ [numOf ((l.drop (8 * k)).take 8)] :=
  take_snoc' _ _ _ (bytesOf_get l k (by omega))
set_option maxHeartbeats 800000 in
theorem bytes_any (v : Value) (l : List Nat) (w : World) (hv : Rd w 1 v l.length (u8s l)) (hb : isBits l) (hl : l.length < 8000000000) :
    Calls Tryd.prog 19 #[v] w fun e w' => ∃ v', e = .returned v' ∧ Built w w' v' (bytesOf l) := by
  obtain ⟨i, hi, hz0, hz1, hz2⟩ := info_parts Tryd.infoByteR
  obtain ⟨ao, cap, rfl, _, _⟩ := hv.form
  obtain ⟨n, hn⟩ : ∃ n, n = l.length := ⟨_, rfl⟩
  rw [← hn] at hv hl ⊢
  have HN := hid hn
  clear hn
  go_enter Tryd.func19, Tryd.ntmps19
  go_wp2
  go_loopw [3, 4] (fun t3 t4 wr => ∃ k i8 : Nat, i8 ≤ n ∧ Hid (i8 = 8 * k) ∧ t4 = .int .i64 (i8 : Int) ∧ Built w wr t3 ((bytesOf l).take k)) (fun _ t4 _ => n - (intOf t4).toNat)
  case atStart => exact ⟨0, 0, Nat.zero_le _, rfl, rfl, Built.start w⟩
  case round =>
    obtain ⟨k, i8, hk, HK, rfl, hB⟩ := hrel
    obtain ⟨ao3, cap3, rfl⟩ := hB.form
    by_cases hkn : i8 + 8 ≤ n
    · have hB' := hB
      have hown := hB.1
      have hlk : ((bytesOf l).take k).length = k := by rw [List.length_take, bytesOf_length, ← HN.out]; have := HK.out; omega
      rw [hlk] at hown ⊢
      have hvr := hv.kept hB.2.1 (fun _ _ h => h)
      have hkb : k < 8000000000 := by have := HK.out; omega
      have hkn' : (i8 : Int) + 8 ≤ (n : Int) := by omega
      obtain ⟨q, hq⟩ : ∃ q, q = numOf ((l.drop i8).take 8) := ⟨_, rfl⟩
      have hqb : q < 256 := by
        rw [hq]
        have h1 := numOf_lt ((l.drop i8).take 8) (isBits_take (isBits_drop hb _) _)
        have h2 : ((l.drop i8).take 8).length ≤ 8 := List.length_take_le _ _
        have h3 : 2 ^ ((l.drop i8).take 8).length ≤ 2 ^ 8 := Nat.pow_le_pow_right (by decide) h2
        omega
      have HQ := hid hq
      have HLK := hid hlk
      clear hq hlk
      go_wp2_with (first
        | ((with_reducible show wpList _ _ _ (⟨some 17, _, _, _, _, _⟩ :: _) _ _); refine wpList_cut_rd (w := wr) rfl 22 (.tmp 13) (some (.tmp 14)) (some (.tmp 16)) rfl 5 i 1 Tryd.underlying22 hi hz1 ao n cap i8 (i8 + 8) (u8s l) rfl hvr ⟨_, rfl⟩ ⟨_, rfl⟩ (by omega) hkn ?_; rw [show i8 + 8 - i8 = 8 by omega]; intro a' hrd' hbl')
        | (go_at_call 34; refine (number_of _ 8 q _ ((l.drop i8).take 8) wr (by assumption) (by simp [u8s]) (isBits_take (isBits_drop hb _) _) (by decide) HQ.out).mono ?_; rintro e w' ⟨rfl, rfl⟩)
        | (at_builtin; refine wpList_app1 rfl (.tmp 12) (.tmp 20) 22 rfl 5 i (.int .u8 0) 1 Tryd.underlying22 hi hz0 hz1 hz2 rfl (.slice ao3 k cap3) k (u8s ((bytesOf l).take k)) rfl hown rfl rfl (by unfold maxLen; omega) (by omega) ?_; intro ao1 cap1 w1 hown1 hgrow hat))
      go_roundw
      case rel =>
        refine ⟨k + 1, i8 + 8, hkn, by have := HK.out; rw [Hid]; omega, by go_num, ?_⟩
        have h1 := HK.out
        rw [bytesOf_snoc l k (by rw [← HN.out]; omega), ← h1, ← HQ.out]
        have h2 := HLK.out
        rw [h2] at hB'
        exact hB'.snoc h2.symm rfl hown1 hgrow hat
      case measure => simp [intOf]; omega
    · have hkn' : (n : Int) < (i8 : Int) + 8 := by omega
      go_wp2
      go_ret
      rw [List.take_of_length_le (by rw [bytesOf_length, ← HN.out]; have := HK.out; omega)] at hB ⊢
      exact ⟨_, rfl, hB⟩
/-! ### Even -/
theorem evenN_step (l : List Nat) (j : Nat) : (l ++ List.replicate j 0) ++ [0] = l ++ List.replicate (j + 1) 0 := by
  rw [List.append_assoc, ← List.replicate_succ']
set_option maxHeartbeats 800000 in
theorem even_any (v : Value) (l : List Nat) (w : World) (hv : Rd w 1 v l.length (u8s l)) (hl : l.length < 8000000000) :
    Calls Tryd.prog 18 #[v] w fun e w' => ∃ v', e = .returned v' ∧ Built w w' v' (evened l) := by
  obtain ⟨i, hi, hz0, hz1, hz2⟩ := info_parts Tryd.infoByteR
  obtain ⟨ao, cap, rfl, _, _⟩ := hv.form
  obtain ⟨n, hn⟩ : ∃ n, n = l.length := ⟨_, rfl⟩
  rw [← hn] at hv hl ⊢
  have HN := hid hn
  clear hn
  have hrd : Rd (w.alloc (.cells #[] 5)) 1 (.slice ao n cap) n (u8s l) := hv.kept (S := fun _ => False) ((Mod.refl w _).alloc _) (fun _ _ h => h)
  go_enter Tryd.func18, Tryd.ntmps18
  go_wp2_with (at_builtin; refine wpList_app _ rfl (.tmp 4) (.tmp 5) 22 rfl 5 i (.int .u8 0) 1 1 Tryd.underlying22 hi hz0 hz1 hz2 rfl (by decide) (.slice (some ⟨w.heap.size, 0, none⟩) 0 0) 0 [] rfl (Own.lit w [] 0 (by decide) rfl) (.slice ao n cap) n (u8s l) rfl hrd (u8s_one _) (by unfold maxLen; omega) (by omega) ?_; intro ao1 cap1 w1 hown1 hgrow hat; simp only [Nat.zero_add, List.nil_append] at hown1 hat)
  have hB1 : Built w w1 (.slice ao1 n cap1) l := by
    have h1 := fresh_app (w := w) (Mod.refl w _) (v := .slice (some ⟨w.heap.size, 0, none⟩) 0 0) (fun k hk => by simp [Value.ownBlock] at hk; omega) hgrow hat
    exact ⟨by rw [← HN.out]; exact hown1, h1.1, h1.2⟩
  clear hown1 hgrow hat
  go_loopw [3] (fun t3 wr => ∃ j q : Nat, j ≤ (8 - n % 8) % 8 ∧ q = n + j ∧ ∃ a3 c3, t3 = .slice a3 q c3 ∧ Built w wr t3 (l ++ List.replicate j 0)) (fun t3 _ => match t3 with | .slice _ q _ => n + 8 - q | _ => 0)
  case atStart => exact ⟨0, n, Nat.zero_le _, rfl, ao1, cap1, rfl, by simpa using hB1⟩
  case round =>
    obtain ⟨j, q, hj, hq, a3, c3, rfl, hB⟩ := hrel
    have hB' := hB
    have hown := hB.1
    have hlq : (l ++ List.replicate j 0).length = q := by rw [List.length_append, List.length_replicate, ← HN.out, hq]
    rw [hlq] at hown
    have hqb : q < 8000000008 := by omega
    have HQ := hid hq
    have HLQ := hid hlq
    by_cases hz : q % 8 = 0
    · have hz' : ¬ (0 : Int) < (q : Int) % 8 := by omega
      have hjj : j = (8 - n % 8) % 8 := by omega
      have HJ := hid hjj
      clear hq hlq hjj hj
      go_wp2
      go_ret
      refine ⟨_, rfl, ?_⟩
      rw [evened, ← HN.out, ← HJ.out]
      exact hB'
    · have hz' : (0 : Int) < (q : Int) % 8 := by omega
      have hjj : j + 1 ≤ (8 - n % 8) % 8 := by omega
      clear hq hlq
      go_wp2_with (at_builtin; refine wpList_app1 rfl (.tmp 11) (.tmp 12) 22 rfl 5 i (.int .u8 0) 1 Tryd.underlying22 hi hz0 hz1 hz2 rfl (.slice a3 q c3) q (u8s (l ++ List.replicate j 0)) rfl hown rfl rfl (by unfold maxLen; omega) (by omega) ?_; intro ao2 cap2 w2 hown2 hgrow hat)
      go_roundw
      case rel =>
        refine ⟨j + 1, q + 1, hjj, by have := HQ.out; omega, ao2, cap2, rfl, ?_⟩
        rw [← evenN_step]
        exact hB'.snoc HLQ.out.symm rfl hown2 hgrow hat
      case measure => have := HQ.out; simp; omega
/-! ### Same -/
theorem same_len {a b : List Nat} (h : a.length ≠ b.length) : a ≠ b := fun e => h (by rw [e])
set_option maxHeartbeats 800000 in
theorem same_any (v u : Value) (a b : List Nat) (w : World) (hv : Rd w 1 v a.length (u8s a)) (hu : Rd w 1 u b.length (u8s b)) (hal : a.length < 8000000000) :
    Calls Tryd.prog 10 #[v, u] w fun e w' => e = .returned (.bool (decide (a = b))) ∧ ∃ n, w' = w.drewN n := by
  obtain ⟨ao, cap, rfl, _, _⟩ := hv.form
  obtain ⟨bo, cbp, rfl, _, _⟩ := hu.form
  by_cases hab : a.length = b.length
  · obtain ⟨n, hn⟩ : ∃ n, n = a.length := ⟨_, rfl⟩
    rw [← hab] at hu
    rw [← hn] at hv hu hal
    rw [← hab, ← hn]
    have HN := hid hn
    have HM := hid hab
    clear hn hab
    have hne : ((n : Int) != (n : Int)) = false := by simp
    go_enter Tryd.func10, Tryd.ntmps10
    go_wp2
    go_loopw [5] (fun t5 wr => ∃ k c : Nat, k ≤ n ∧ t5 = .int .i64 (k : Int) ∧ Hid (a.take k = b.take k) ∧ Hid (wr = w.drewN c)) (fun t5 _ => n - (intOf t5).toNat)
    case atStart => exact ⟨0, 0, Nat.zero_le _, rfl, rfl, rfl⟩
    case round =>
      obtain ⟨k, c, hk, rfl, HT, HW⟩ := hrel
      obtain rfl := HW.out
      by_cases hkn : k < n
      · obtain ⟨x, hx⟩ : ∃ x, a[k]? = some x := ⟨a[k]'(by have := HN.out; omega), List.getElem?_eq_getElem _⟩
        obtain ⟨y, hy⟩ : ∃ y, b[k]? = some y := ⟨b[k]'(by have := HN.out; have := HM.out; omega), List.getElem?_eq_getElem _⟩
        obtain ⟨g, off, rfl, hcell⟩ := hv.spot (by omega)
        obtain ⟨g2, off2, rfl, hcell2⟩ := hu.spot (by omega)
        have hc : w.cell? ⟨g, off + k, none⟩ = some (.int .u8 (x : Int)) := hcell k _ (by rw [u8s_get, hx]; rfl)
        have hc2 : w.cell? ⟨g2, off2 + k, none⟩ = some (.int .u8 (y : Int)) := hcell2 k _ (by rw [u8s_get, hy]; rfl)
        have hk0 : (0 : Int) ≤ (k : Int) := Int.natCast_nonneg _
        have hk1 : (k : Int) < (n : Int) := by omega
        have HX := hid hx
        have HY := hid hy
        clear hcell hcell2 hx hy
        by_cases hxy : x = y
        · have hd : ((x : Int) != (y : Int)) = false := by simp [hxy]
          have HXY := hid hxy
          clear hxy
          go_wp2
          go_quiet (fail)
          go_wp2
          go_roundw
          case rel => exact ⟨k + 1, _, by omega, by go_num, by rw [Hid, take_snoc' _ _ _ HX.out, take_snoc' _ _ _ HY.out, HT.out, HXY.out], rfl⟩
          case measure => simp [intOf]; omega
        · have hd : ((x : Int) != (y : Int)) = true := by simp; omega
          have HXY := hid hxy
          clear hxy
          go_wp2
          go_quiet (fail)
          go_wp2
          go_ret
          refine ⟨?_, _, World.drewN_drewN ..⟩
          rw [decide_eq_false]
          · rfl
          · intro e
            have h1 := HX.out
            rw [e, HY.out] at h1
            exact HXY.out (Option.some.inj h1).symm
      · go_wp2
        go_ret
        refine ⟨?_, _, rfl⟩
        have h1 := HT.out
        rw [List.take_of_length_le (by have := HN.out; omega), List.take_of_length_le (by have := HN.out; have := HM.out; omega)] at h1
        rw [decide_eq_true h1]
        rfl
  · have hd : ((a.length : Int) != (b.length : Int)) = true := by simp; omega
    have HN := hid hab
    clear hab
    go_enter Tryd.func10, Tryd.ntmps10
    go_wp2
    go_ret
    exact ⟨by rw [decide_eq_false (same_len HN.out)]; rfl, 0, rfl⟩
end Go.Proofs.YtmmfkppkmgjljaaDoor
