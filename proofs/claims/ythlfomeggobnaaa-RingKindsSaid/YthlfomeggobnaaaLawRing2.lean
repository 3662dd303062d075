/-
  The walk of the law RingKinds.
-/
import Derived.Test.YthlfomeggobnaaaRingStr
import Derived.Test.YthlfomeggobnaaaRingTwo
import Derived.Test.YthlfomeggobnaaaRingAns
import Derived.Test.YthlfomeggobnaaaOpen
import Derived.Deep.DeepCutAuto
namespace Go.Proofs.Ythlfomeggobnaaa
open Go.RowKit

def shStrs : Shape Try.prog (List ByteArray) := shSlice (shStr 9 Try.underlying9 (by kernel_rfl)) 43 Try.underlying43 (by kernel_rfl) (by decide)

theorem none_next (w : World) : Calls Try.prog 26 #[.pointer none] w fun e w' => e = .returned (.tuple #[.int .i64 0, .bool false]) ∧ w = w' := by
  go_enter Try.func26, Try.ntmps26
  go_wp2
  go_ret2
  exact ⟨rfl, rfl⟩
theorem none_send (n : Int) (w : World) : Calls Try.prog 30 #[.pointer none, .int .i64 n] w fun e w' => e = .returned (.bool false) ∧ w' = w.alloc (.cells #[.int .i64 n] 3) := by
  go_enter Try.func30, Try.ntmps30
  go_wp2
  go_ret
  exact ⟨rfl, rfl⟩
theorem none_plen (w : World) : Calls Try.prog 31 #[.pointer none] w fun e w' => e = .returned (.int .i64 0) ∧ w = w' := by
  go_enter Try.func31, Try.ntmps31
  go_wp2
  go_ret
  exact ⟨rfl, rfl⟩

/-- two pairs of numbers, compared -/
theorem run_eq_two (w : World) (a b c d : Int) (k : Nat) : (Op.equalIn (k + 2) 48 (.agg #[.int .i64 a, .int .i64 b]) (.agg #[.int .i64 c, .int .i64 d])).run Try.prog w = .ok (a == c && b == d) w := by
  have hs : ∀ w, (sizeOf 3).run Try.prog w = .ok 1 w := fun w => rfl
  have hg : ∀ w, (isAgg 3).run Try.prog w = .ok false w := fun w => rfl
  have hp0 : ∀ x y : Value, ∀ w, (part 3 #[x, y] 0).run Try.prog w = .ok x w := fun x y w => by simp [part, hg]
  have hp1 : ∀ x y : Value, ∀ w, (part 3 #[x, y] 1).run Try.prog w = .ok y w := fun x y w => by simp [part, hg]
  rw [show k + 2 = (k + 1) + 1 from rfl]
  simp only [Op.equalIn, Sem.run_bind, run_underlying Try.underlying48, Result.andThen_ok, hs]
  simp [Std.Legacy.Range.forIn_eq_forIn_range', hp0, hp1, run_underlying Try.underlying3, List.range'_succ]
  by_cases h1 : a = c
  · by_cases h2 : b = d
    · simp [h1, h2]
    · simp [h1, h2]
  · simp [h1]
theorem run_neq_two (w : World) (a b c d : Int) : (binOp .neq 48 (.agg #[.int .i64 a, .int .i64 b]) (.agg #[.int .i64 c, .int .i64 d])).run Try.prog w = .ok (.bool (!(a == c && b == d))) w := by
  rw [run_neq_struct, show (10000 : Nat) = 9998 + 2 from rfl, run_eq_two]
  rfl

/-- the strings as cells -/
def strs (L : List ByteArray) : List Value := L.map .string
/-- the pairs of a place and a length as cells -/
def twos (L : List ByteArray) : Nat → List Value
  | 0 => []
  | k + 1 => twos L k ++ [.int .i64 (k : Int), .int .i64 (((L.getD k ByteArray.empty).size : Nat) : Int)]
theorem twos_length (L : List ByteArray) (k : Nat) : (twos L k).length = 2 * k := by
  induction k with
  | zero => rfl
  | succ k ih => simp [twos, ih]; omega
theorem twos_take (L : List ByteArray) (j k : Nat) (h : j ≤ k) : (twos L k).take (2 * j) = twos L j := by
  induction k with
  | zero => obtain rfl : j = 0 := by omega
            rfl
  | succ k ih =>
    by_cases hj : j = k + 1
    · subst hj
      rw [List.take_of_length_le (by rw [twos_length]; omega)]
    · rw [twos, List.take_append_of_le_length (by rw [twos_length]; omega)]
      exact ih (by omega)
theorem twos_get (L : List ByteArray) (j k : Nat) (h : j < k) : (twos L k)[2 * j]? = some (.int .i64 (j : Int)) ∧ (twos L k)[2 * j + 1]? = some (.int .i64 (((L.getD j ByteArray.empty).size : Nat) : Int)) := by
  have e := twos_take L (j + 1) k (by omega)
  have h0 : (twos L (j + 1))[2 * j]? = some (.int .i64 (j : Int)) := by
    rw [twos, List.getElem?_append_right (by rw [twos_length]; omega), twos_length]; simp
  have h1 : (twos L (j + 1))[2 * j + 1]? = some (.int .i64 (((L.getD j ByteArray.empty).size : Nat) : Int)) := by
    rw [twos, List.getElem?_append_right (by rw [twos_length]; omega), twos_length, show 2 * j + 1 - 2 * j = 1 by omega]; rfl
  rw [← e] at h0 h1
  rw [List.getElem?_take_of_lt (by omega)] at h0 h1
  exact ⟨h0, h1⟩
theorem strs_length (L : List ByteArray) : (strs L).length = L.length := by simp [strs]
theorem strs_one (L : List ByteArray) : ∀ u ∈ strs L, u.oneCell' = true := by
  intro u hu
  obtain ⟨s, _, rfl⟩ := List.mem_map.1 hu
  rfl
theorem twos_one (L : List ByteArray) (k : Nat) : ∀ u ∈ twos L k, u.oneCell' = true := by
  induction k with
  | zero => simp [twos]
  | succ k ih =>
    intro u hu
    rcases List.mem_append.1 hu with h | h
    · exact ih u h
    · simp at h; rcases h with rfl | rfl <;> rfl

theorem strs_step (L : List ByteArray) (i : Nat) (s : ByteArray) (hs : L[i]? = some s) :
    (strs L).take (min i 100) ++ [Value.string s].take (min 1 (100 - min i 100) * 1) = (strs L).take (min (i + 1) 100) ∧ min i 100 + min 1 (100 - min i 100) = min (i + 1) 100 := by
  by_cases h : i < 100
  · have e1 : min i 100 = i := by omega
    have e2 : min 1 (100 - i) * 1 = 1 := by omega
    have e3 : min (i + 1) 100 = i + 1 := by omega
    rw [e1, e2, e3]
    refine ⟨?_, by omega⟩
    have h0 : (strs L)[i]? = some (.string s) := by rw [strs, List.getElem?_map, hs]; rfl
    have h1 : (strs L).take (i + 1) = (strs L).take i ++ [Value.string s] := by rw [List.take_add_one, h0]; rfl
    rw [h1]; rfl
  · have e1 : min i 100 = 100 := by omega
    have e3 : min (i + 1) 100 = 100 := by omega
    rw [e1, e3]
    simp
theorem twos_step (L : List ByteArray) (i : Nat) (s : ByteArray) (hs : L[i]? = some s) :
    twos L (min i 100) ++ [Value.int .i64 (i : Int), .int .i64 (s.size : Int)].take (min 1 (100 - min i 100) * 2) = twos L (min (i + 1) 100) := by
  by_cases h : i < 100
  · have e1 : min i 100 = i := by omega
    have e2 : min 1 (100 - i) * 2 = 2 := by omega
    have e3 : min (i + 1) 100 = i + 1 := by omega
    rw [e1, e2, e3, twos, List.getD, hs]; rfl
  · have e1 : min i 100 = 100 := by omega
    have e3 : min (i + 1) 100 = 100 := by omega
    rw [e1, e3]
    simp

set_option maxRecDepth 100000 in
set_option maxHeartbeats 3200000 in
theorem ringKinds_walk (v : Value) (L : List ByteArray) (m : Int) (w : World) (ha : shStrs.good w [v] L) (_ : (Lit.int .i64 m).wf = true) :
    Calls Try.prog 5 #[v, .int .i64 m] w fun e w' => e = .returned (.bool true) ∧ Below w.heap.size w w' := by
  obtain ⟨v', hv, ha⟩ := ha
  obtain rfl : v = v' := by simpa using hv
  clear hv
  have hrd : Rd w 1 v L.length (strs L) := ha.rd .string (fun _ _ _ h => h.1) rfl
  have hsz : ∀ (i : Nat) (s : ByteArray), L[i]? = some s → s.size ≤ maxLen := fun i s hi => by
    obtain ⟨xs, h⟩ := ha.each hi
    exact h.2
  obtain ⟨ao, cap, rfl, hac, hcm⟩ := hrd.form
  obtain ⟨n, hn⟩ : ∃ n, n = L.length := ⟨_, rfl⟩
  rw [← hn] at hrd hac ⊢
  have HN := hid hn
  have HRD := hid hrd
  have HSZ := hid hsz
  unfold maxLen at hcm
  clear hn ha hrd hsz
  have hn0 : (0 : Int) ≤ (n : Int) := Int.natCast_nonneg _
  by_cases h200 : 200 < n
  · have h2I : (200 : Int) < (n : Int) := by omega
    go_enter Try.func5, Try.ntmps5
    go_wp2_with fail
    refine (answers_any w w [] (Held.start w)).mono ?_
    rintro e w1 ⟨rfl, h1⟩
    have HB := hid h1.below
    clear h1
    go_wp2
    go_ret
    exact ⟨rfl, HB.out⟩
  · have h2I : ¬ (200 : Int) < (n : Int) := by omega
    go_enter Try.func5, Try.ntmps5
    go_wp2_with fail
    refine (newStr 100 w w [] (Held.start w)).mono ?_
    rintro e w1 ⟨B1, rfl, h1⟩
    have H1 := hid h1
    clear h1
    go_wp2_with fail
    refine (newTwo 100 w w1 _ H1.out).mono ?_
    rintro e w2 ⟨B2, rfl, h2⟩
    have H2 : Hid (Held w w2 [ringTTwo B2 100 0 [], ringTStr B1 100 0 []]) := h2
    clear h2
    go_wp2
    go_loopg [7] (n + 1) (fun k t7 wr => ∃ i : Nat, i ≤ n ∧ n - i < k ∧ t7 = .int .i64 (i : Int) ∧
      Held w wr [ringTTwo B2 100 (min i 100) (twos L (min i 100)), ringTStr B1 100 (min i 100) ((strs L).take (min i 100))])
    case atStart => exact ⟨0, by omega, by omega, rfl, H2.out⟩
    case round =>
      obtain ⟨i, hi, hk, rfl, HR⟩ := hrel
      by_cases hgo : i < n
      · obtain ⟨g, off, rfl, hcell⟩ := HRD.out.spot (by omega)
        obtain ⟨s, hs⟩ : ∃ s, L[i]? = some s := ⟨L[i]'(by have := HN.out; omega), List.getElem?_eq_getElem _⟩
        have hc0 := hcell i (.string s) (by rw [strs, List.getElem?_map, hs]; rfl)
        have hM := HR.mod
        have hgl := World.block_lt_of_cell? w _ hc0
        have hsl := HSZ.out i s hs
        obtain ⟨k, hk⟩ : ∃ k, k = min i 100 := ⟨_, rfl⟩
        have hk100 : k ≤ 100 := by omega
        obtain ⟨j, hj⟩ : ∃ j, j = min 1 (100 - k) := ⟨_, rfl⟩
        obtain ⟨ii, hii, hz0, hz1, hz2⟩ := info_parts infoStr
        have hst := strs_step L i s hs
        have htw := twos_step L i s hs
        rw [← hk] at HR hst htw
        rw [← hj] at hst htw
        have HRL := hid (HR.old HRD.out)
        have HR0 := hid HR
        have HJ := hid hj
        have HST := hid hst
        have HTW := hid htw
        unfold maxLen at hsl
        have hs0 : (0 : Int) ≤ (s.size : Int) := Int.natCast_nonneg _
        have hi1 : (i : Int) < (n : Int) := by omega
        have hi0 : (0 : Int) ≤ (i : Int) := Int.natCast_nonneg _
        have HC0 := hid hc0
        have HS := hid hs
        clear hc0 hs hcell hM HR hj hst htw hk
        have e1 : i + 1 - i = 1 := by omega
        have HE1 := hid e1
        clear e1
        go_wp2_with ((with_reducible show wpList _ _ _ (⟨some 32, _, _, _, _, _⟩ :: _) _ _); refine wpList_cut_rd rfl 43 (.tmp 28) (some (.tmp 29)) (some (.tmp 31)) rfl 9 ii 1 Try.underlying43 hii hz1 _ n cap i (i + 1) (strs L) rfl HRL.out ⟨_, rfl⟩ ⟨_, rfl⟩ (by omega) (by omega) ?_; intro a' hrd' hb'; rw [HE1.out] at hrd' ⊢)
        have hcc : ((strs L).drop (i * 1)).take (1 * 1) = [.string s] := by
          show ((strs L).drop (i * 1)).take 1 = _
          rw [Nat.mul_one, List.take_one, List.head?_drop, strs, List.getElem?_map, HS.out]; rfl
        rw [hcc] at hrd'
        have HP := hid (pushStr B1 100 k 1 _ [.string s] _ w wr _ HR0.out.swap (by omega) hk100 hrd' (by simp [Value.oneCell']))
        rw [← HJ.out, HST.out.1] at HP
        clear hrd' hb' hcc
        refine HP.out.mono ?_
        rintro e w3 ⟨rfl, h3⟩
        have HL : Hid (Held w (w3.alloc (.cells #[.int .i64 (i : Int), .int .i64 (s.size : Int)] 48)) (ownT 48 2 (.slice (some ⟨w3.heap.size, 0, none⟩) 1 1) 1 [.int .i64 (i : Int), .int .i64 (s.size : Int)] :: _)) := h3.lit 48 2 [.int .i64 (i : Int), .int .i64 (s.size : Int)] 1 (by decide) rfl
        have hc3 := (h3.mod.cell (p := ⟨g, off + i, none⟩) hgl (fun h => h)).trans HC0.out
        have HQ := hid (pushTwo B2 100 k 1 _ [.int .i64 (i : Int), .int .i64 (s.size : Int)] _ w _ _ HL.out.third (by omega) hk100 HL.out.own.rd (by simp [Value.oneCell']))
        rw [← HJ.out, HTW.out] at HQ
        clear h3
        go_wp2_with fail
        refine HQ.out.mono ?_
        rintro e w4 ⟨rfl, h4⟩
        have HF := hid h4.swap.drop
        rw [HST.out.2] at HF
        clear h4
        go_wp2
        go_roundg (gk - 1)
        case measure => omega
        case rel => exact ⟨i + 1, by omega, by omega, by go_num, HF.out⟩
      · obtain rfl : i = n := by omega
        have hi1 : ¬ (i : Int) < (i : Int) := by omega
        obtain ⟨k, hk⟩ : ∃ k, k = min i 100 := ⟨_, rfl⟩
        have hk100 : k ≤ 100 := by omega
        have hki : k ≤ i := by omega
        rw [← hk] at HR
        clear hk
        obtain ⟨q, hq⟩ : ∃ q, q = few m k := ⟨_, rfl⟩
        have hqk : q ≤ k := by rw [hq]; exact Nat.min_le_right _ _
        have HP := hid (popStr B1 100 k m _ w wr _ HR.swap (by omega) (fun u hu => strs_one L u (List.mem_of_mem_take hu)))
        rw [← hq, List.take_take, Nat.mul_one, Nat.min_eq_left hqk] at HP
        have HQ : Hid (q = few m k) := hid hq
        clear hq HR
        go_wp2_with fail
        refine HP.out.mono ?_
        rintro e w3 ⟨pv, rfl, h3⟩
        have HP2 := hid (popTwo B2 100 k m _ w w3 _ h3.third (by omega) (twos_one L k))
        rw [← HQ.out, Nat.mul_comm, twos_take L q k hqk] at HP2
        obtain ⟨po, pc, rfl, _, _⟩ := h3.own.form
        clear h3
        go_wp2_with fail
        refine HP2.out.mono ?_
        rintro e w4 ⟨pv2, rfl, h4⟩
        obtain ⟨po2, pc2, rfl, _, _⟩ := h4.own.form
        have H4 := hid h4
        clear h4
        go_wp2_with fail
        refine (none_next w4).mono ?_
        rintro e w' ⟨rfl, rfl⟩
        go_wp2_with fail
        refine (answers_any w w4 _ H4.out).mono ?_
        rintro e w5 ⟨rfl, h5⟩
        have H5 := hid h5
        clear h5
        go_wp2_with (first
          | (go_at_call 22; refine (none_pushStr _ _).mono ?_; rintro e w' ⟨rfl, rfl⟩)
          | (go_at_call 24; refine (none_popStr _ _).mono ?_; rintro e w' ⟨rfl, rfl⟩)
          | (go_at_call 27; refine (none_peekStr _ _).mono ?_; rintro e w' ⟨rfl, rfl⟩)
          | (go_at_call 28; refine (none_lenStr _).mono ?_; rintro e w' ⟨rfl, rfl⟩)
          | (go_at_call 29; refine (none_roomStr _).mono ?_; rintro e w' ⟨rfl, rfl⟩)
          | (go_at_call 30; refine (none_send _ _).mono ?_; rintro e w' ⟨rfl, rfl⟩)
          | (go_at_call 31; refine (none_plen _).mono ?_; rintro e w' ⟨rfl, rfl⟩))
        have H6 := hid (H5.out.alloc (.cells #[.int .i64 m] 3))
        go_loopg [14] (q + 1) (fun kk t14 wy => ∃ j : Nat, j ≤ q ∧ q - j < kk ∧ t14 = .int .i64 (j : Int) ∧ Hid (Held w wy _))
        case atStart => exact ⟨0, by omega, by omega, rfl, H6.out⟩
        case round =>
          obtain ⟨j, hj, hkk, rfl, HW⟩ := hrel
          by_cases hjq : j < q
          · obtain ⟨g, off, rfl, hcell⟩ := HRD.out.spot (by omega)
            obtain ⟨g1, off1, rfl, hcell1⟩ := HW.out.third.own.rd.spot (by omega)
            obtain ⟨g2, off2, rfl, hcell2⟩ := HW.out.own.rd.spot (by omega)
            obtain ⟨s, hs⟩ : ∃ s, L[j]? = some s := ⟨L[j]'(by have := HN.out; omega), List.getElem?_eq_getElem _⟩
            have hc0 := hcell j (.string s) (by rw [strs, List.getElem?_map, hs]; rfl)
            have hgl := World.block_lt_of_cell? w _ hc0
            have hc1 := (HW.out.mod.cell (p := ⟨g, off + j, none⟩) hgl (fun h => h)).trans hc0
            have hc2 := hcell1 j (.string s) (by rw [List.getElem?_take_of_lt hjq, strs, List.getElem?_map, hs]; rfl)
            have hgt := twos_get L j q hjq
            have hgs : L.getD j ByteArray.empty = s := by rw [List.getD, hs]; rfl
            rw [hgs, show 2 * j = j * 2 by omega] at hgt
            have hc3 := hcell2 _ _ hgt.1
            have hc4 := hcell2 _ _ hgt.2
            rw [← Nat.add_assoc] at hc4
            have hj0 : (0 : Int) ≤ (j : Int) := Int.natCast_nonneg _
            have hj1 : (j : Int) < (q : Int) := by omega
            have hji : (j : Int) < (i : Int) := by omega
            have hN : ∀ W, (binOp .neq 48 (.agg #[.int .i64 (j : Int), .int .i64 (s.size : Int)]) (.agg #[.int .i64 (j : Int), .int .i64 (s.size : Int)])).run Try.prog W = .ok (.bool false) W := fun W => by rw [run_neq_two]; simp
            clear hcell hcell1 hcell2 hs hc0 hgt hgs
            go_wp2
            go_quiet (fail)
            go_wp2
            go_roundg (gk - 1)
            case measure => omega
            case rel => exact ⟨j + 1, by omega, by omega, by go_num, HW.out.drewN _⟩
          · have hj1 : ¬ (j : Int) < (q : Int) := by omega
            have HE := hid HW.out.below
            go_wp2
            go_ret
            exact ⟨rfl, HE.out⟩
end Go.Proofs.Ythlfomeggobnaaa
