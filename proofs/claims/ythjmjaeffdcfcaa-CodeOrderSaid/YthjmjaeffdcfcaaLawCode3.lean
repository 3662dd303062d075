/-
  The walk of the law CodeOrder.
-/
import Derived.Test.YthjmjaeffdcfcaaLawCode0
namespace Go.Proofs.Ythjmjaeffdcfcaa
open Go.RowKit

theorem wrap_shl (c d z : Nat) (hd : d ≤ 31) (hz : z = c * 2 ^ d) (h : z < 4294967296) : IntKind.u32.wrap ((c : Int) * 2 ^ min (IntKind.u64.wrap (IntKind.i64.wrap (d : Int))).toNat 32) = (z : Int) := by
  rw [wrap_nat d (by omega), IntKind.wrap_u64, show ((d : Int) % 18446744073709551616).toNat = d by omega, Nat.min_eq_left (by omega), two_pow_int, show ((c : Int) * ((2 ^ d : Nat) : Int)) = ((z : Nat) : Int) by rw [hz]; simp, IntKind.wrap_u32]
  omega
set_option maxRecDepth 100000 in
set_option maxHeartbeats 3200000 in
theorem codeOrder_walk (v : Value) (l : List Int) (a b : Int) (w : World) (hl : shInts.good w [v] l) (ha : (Lit.int .u16 a).wf = true) (hb : (Lit.int .u16 b).wf = true) :
    Calls Try.prog 6 #[v, .int .u16 a, .int .u16 b] w fun e w' => e = .returned (.bool true) ∧ Below w.heap.size w w' := by
  have hv := ints_of hl
  clear hl
  have h2a := Go.bounds_u16 ha
  have h2b := Go.bounds_u16 hb
  clear ha hb
  obtain ⟨x, rfl⟩ := Int.eq_ofNat_of_zero_le h2a.1
  obtain ⟨y, rfl⟩ := Int.eq_ofNat_of_zero_le h2b.1
  obtain ⟨n, hn⟩ : ∃ n, n = l.length := ⟨_, rfl⟩
  rw [← hn] at hv
  obtain ⟨ao, cap, rfl, _, _⟩ := hv.form
  have HV := hid hv
  have H0 := hid (Held.start w)
  have HN := hid hn
  clear hv hn
  have h3 : 288 < n ∨ n ≤ 288 := by omega
  rcases h3 with h3 | h3
  · have h3I : (288 : Int) < (n : Int) := by omega
    go_enter Try.func6, Try.ntmps6
    go_wp2_with fail
    refine (h_answers H0.out).mono ?_
    rintro e w1 ⟨rfl, hM⟩
    have HB := hid hM.below
    clear hM
    go_wp2
    go_ret
    exact ⟨rfl, HB.out⟩
  have h3I : ¬ (288 : Int) < (n : Int) := by omega
  have HOK := hid (fun h : checkOf l 15 = 0 => check_ok h)
  have HC := hid (h_check H0.out 15 HV.out (by omega))
  generalize checkOf l 15 = cv at HOK HC
  by_cases hcv : cv = 0
  · by_cases hn0 : n = 0
    · have hcI : ((cv : Int) != 0) = false := by simp; omega
      have hnI : ((n : Int) == 0) = true := by simp; omega
      clear hcv hn0
      go_enter Try.func6, Try.ntmps6
      go_wp2_with fail
      refine HC.out.mono ?_
      rintro e w1 ⟨rfl, h2⟩
      have H1 := hid h2
      clear h2
      go_wp2_with fail
      refine (h_answers H1.out).mono ?_
      rintro e w1 ⟨rfl, hM⟩
      have HB := hid hM.below
      clear hM
      go_wp2
      go_ret
      exact ⟨rfl, HB.out⟩
    · have hcI : ((cv : Int) != 0) = false := by simp; omega
      have hnI : ((n : Int) == 0) = false := by simp; omega
      have hnn : ((n : Int) != (n : Int)) = false := by simp
      have hnp : (0 : Int) < (n : Int) := by omega
      obtain ⟨i, hi⟩ : ∃ i, i = x % n := ⟨_, rfl⟩
      obtain ⟨k, hk⟩ : ∃ k, k = y % n := ⟨_, rfl⟩
      have hiI : (x : Int) % (n : Int) = (i : Int) := by omega
      have hkI : (y : Int) % (n : Int) = (k : Int) := by omega
      have hin : i < n := by rw [hi]; exact Nat.mod_lt _ (by omega)
      have hkn : k < n := by rw [hk]; exact Nat.mod_lt _ (by omega)
      have HOK' := hid (HOK.out hcv)
      clear hi hk hcv
      go_enter Try.func6, Try.ntmps6
      go_wp2_with fail
      refine HC.out.mono ?_
      rintro e w1 ⟨rfl, h2⟩
      have H1 := hid h2
      clear h2
      go_wp2_with fail
      refine (h_codes H1.out (H1.out.old HV.out) h3).mono ?_
      rintro e w2 ⟨ao2, cap2, rfl, h2⟩
      have H2 := hid h2
      clear h2
      go_wp2
      go_quiet (fail)
      have H3 := hid (H2.out.drewN nq)
      generalize w2.drewN nq = w3 at H3
      rw [hiI, hkI]
      clear hiI hkI H2 h2a h2b
      have HLI := hid (fun j hj => HOK'.out.1 j hj)
      obtain ⟨g1, off1, rfl, hcell⟩ := (H3.out.old HV.out).spot (by omega)
      obtain ⟨g2, off2, rfl, hcell2⟩ := H3.out.own.rd.spot (by omega)
      obtain ⟨p, hp, hpr⟩ : ∃ p : Nat, l[i]? = some (p : Int) ∧ p ≤ 15 := by
        have h1 : l[i]? = some (l[i]'(by have := HN.out; omega)) := List.getElem?_eq_getElem _
        have h2 := HLI.out _ (List.mem_of_getElem? h1)
        obtain ⟨p, hp⟩ := Int.eq_ofNat_of_zero_le h2.1
        exact ⟨p, by rw [h1, hp], by omega⟩
      obtain ⟨q, hq, hqr⟩ : ∃ p : Nat, l[k]? = some (p : Int) ∧ p ≤ 15 := by
        have h1 : l[k]? = some (l[k]'(by have := HN.out; omega)) := List.getElem?_eq_getElem _
        have h2 := HLI.out _ (List.mem_of_getElem? h1)
        obtain ⟨p, hp⟩ := Int.eq_ofNat_of_zero_le h2.1
        exact ⟨p, by rw [h1, hp], by omega⟩
      obtain ⟨ci, hci⟩ : ∃ ci, ci = codeAt l i := ⟨_, rfl⟩
      obtain ⟨ck, hck⟩ : ∃ ck, ck = codeAt l k := ⟨_, rfl⟩
      have hcil : ci ≤ 16385 * 288 := by rw [hci]; have := codeAt_le l i; have := HN.out; omega
      have hckl : ck ≤ 16385 * 288 := by rw [hck]; have := codeAt_le l k; have := HN.out; omega
      have E1 : Hid ((ints l)[i]? = some (.int .i64 (p : Int))) := by unfold Hid; rw [ints_get, hp]; rfl
      have E2 : Hid ((ints l)[k]? = some (.int .i64 (q : Int))) := by unfold Hid; rw [ints_get, hq]; rfl
      have C1 : Hid ((nums .u32 (codesOf l))[i]? = some (.int .u32 (ci : Int))) := by unfold Hid; rw [nums_get, codesOf_get l i (by have := HN.out; omega), hci]; rfl
      have C2 : Hid ((nums .u32 (codesOf l))[k]? = some (.int .u32 (ck : Int))) := by unfold Hid; rw [nums_get, codesOf_get l k (by have := HN.out; omega), hck]; rfl
      have hc1 : w3.cell? ⟨g1, off1 + i, none⟩ = some (.int .i64 (p : Int)) := hcell i _ (by rw [ints_get, hp]; rfl)
      have hc2 : w3.cell? ⟨g1, off1 + k, none⟩ = some (.int .i64 (q : Int)) := hcell k _ (by rw [ints_get, hq]; rfl)
      have hc3 : w3.cell? ⟨g2, off2 + i, none⟩ = some (.int .u32 (ci : Int)) := hcell2 i _ (by rw [nums_get, codesOf_get l i (by have := HN.out; omega), hci]; rfl)
      have hc4 : w3.cell? ⟨g2, off2 + k, none⟩ = some (.int .u32 (ck : Int)) := hcell2 k _ (by rw [nums_get, codesOf_get l k (by have := HN.out; omega), hck]; rfl)
      have hi0 : (0 : Int) ≤ (i : Int) := Int.natCast_nonneg _
      have hk0 : (0 : Int) ≤ (k : Int) := Int.natCast_nonneg _
      have hi1 : (i : Int) < (n : Int) := by omega
      have hk1 : (k : Int) < (n : Int) := by omega
      have HCI := hid hci
      have HCK := hid hck
      have HP := hid hp
      have HQ := hid hq
      clear hcell hcell2 hci hck hp hq
      have h6 : i = k ∨ i ≠ k ∧ p = 0 ∨ i ≠ k ∧ p ≠ 0 ∧ q = 0 ∨ i ≠ k ∧ p ≠ 0 ∧ q ≠ 0 ∧ q < p ∨ i ≠ k ∧ p ≠ 0 ∧ q ≠ 0 ∧ q = p ∨ i ≠ k ∧ p ≠ 0 ∧ q ≠ 0 ∧ p < q := by omega
      rcases h6 with h6 | ⟨h6, h7⟩ | ⟨h6, h7, h8⟩ | ⟨h6, h7, h8, h9⟩ | ⟨h6, h7, h8, h9⟩ | ⟨h6, h7, h8, h9⟩
      · have hb0 : ((i : Int) == (k : Int)) = true := by simp; omega
        clear h6
        go_wp2
        go_quiet (fail)
        go_wp2_with fail
        refine (h_answers (H3.out.drewN _)).mono ?_
        rintro e w4 ⟨rfl, hM⟩
        have HB := hid hM.below
        clear hM
        go_wp2
        go_ret
        exact ⟨rfl, HB.out⟩
      · have hb0 : ((i : Int) == (k : Int)) = false := by simp; omega
        have hb1 : ((p : Int) == 0) = true := by simp; omega
        clear h6 h7
        go_wp2
        go_quiet (fail)
        go_wp2_with fail
        refine (h_answers (H3.out.drewN _)).mono ?_
        rintro e w4 ⟨rfl, hM⟩
        have HB := hid hM.below
        clear hM
        go_wp2
        go_ret
        exact ⟨rfl, HB.out⟩
      · have hb0 : ((i : Int) == (k : Int)) = false := by simp; omega
        have hb1 : ((p : Int) == 0) = false := by simp; omega
        have hb2 : ((q : Int) == 0) = true := by simp; omega
        clear h6 h7 h8
        go_wp2
        go_quiet (fail)
        go_wp2_with fail
        refine (h_answers (H3.out.drewN _)).mono ?_
        rintro e w4 ⟨rfl, hM⟩
        have HB := hid hM.below
        clear hM
        go_wp2
        go_ret
        exact ⟨rfl, HB.out⟩
      · have hb0 : ((i : Int) == (k : Int)) = false := by simp; omega
        have hb1 : ((p : Int) == 0) = false := by simp; omega
        have hb2 : ((q : Int) == 0) = false := by simp; omega
        have hb3 : decide ((q : Int) < (p : Int)) = true := by simp; omega
        clear h6 h7 h8
        go_wp2
        go_quiet (fail)
        go_wp2_with fail
        refine (h_answers (H3.out.drewN _)).mono ?_
        rintro e w4 ⟨rfl, hM⟩
        have HB := hid hM.below
        clear hM
        go_wp2
        go_ret
        exact ⟨rfl, HB.out⟩
      · subst h9
        have hb0 : ((i : Int) == (k : Int)) = false := by simp; omega
        have hb1 : ((q : Int) == 0) = false := by simp; omega
        have hb2 : ((q : Int) == (q : Int)) = true := by simp
        have hb3 : decide ((q : Int) < (q : Int)) = false := by simp
        have hord : i < k ∧ ci < ck ∨ k < i ∧ ck < ci := by
          obtain ⟨m, rfl⟩ : ∃ m, q = m + 1 := ⟨q - 1, by omega⟩
          have hpw : 0 < 2 ^ (14 - m) := Nat.two_pow_pos _
          rcases Nat.lt_or_gt_of_ne h6 with h | h
          · have := place_ord l i k m m HP.out HQ.out (by omega) (by omega) (.inr ⟨rfl, h⟩)
            rw [← HCI.out, ← HCK.out] at this
            exact .inl ⟨h, Nat.lt_of_mul_lt_mul_right (a := 2 ^ (14 - m)) (by omega)⟩
          · have := place_ord l k i m m HQ.out HP.out (by omega) (by omega) (.inr ⟨rfl, h⟩)
            rw [← HCI.out, ← HCK.out] at this
            exact .inr ⟨h, Nat.lt_of_mul_lt_mul_right (a := 2 ^ (14 - m)) (by omega)⟩
        have HE : Hid ((decide (ci < ck) == decide (i < k)) = true) := by
          unfold Hid
          rcases hord with ⟨h, h'⟩ | ⟨h, h'⟩
          · rw [decide_eq_true h, decide_eq_true h']; rfl
          · rw [decide_eq_false (by omega), decide_eq_false (by omega)]; rfl
        clear h6 h7 h8 hord
        go_wp2
        go_quiet (fail)
        have H4 := hid (H3.out.drewN nq)
        generalize w3.drewN nq = w4 at H4 ⊢
        have d1 := (H4.out.old HV.out).at E1.out
        have d2 := (H4.out.old HV.out).at E2.out
        go_wp2
        go_quiet (fail)
        have H5 := hid ((H4.out.drewN nq).drew)
        generalize w4.drewN nq = w5 at H5 ⊢
        have e1 : w5.cell? ⟨g2, off2 + i, none⟩ = _ := H5.out.own.rd.at C1.out
        have e2 : w5.cell? ⟨g2, off2 + k, none⟩ = _ := H5.out.own.rd.at C2.out
        go_wp2_with fail
        go_region_held3 (fun w' => w'.cell? ⟨g2, off2 + i, none⟩ = some (.int .u32 (ci : Int)) ∧ w'.cell? ⟨g2, off2 + k, none⟩ = some (.int .u32 (ck : Int))) (first | go_keep)
          (first
            | (go_at_call 8; refine (h_answers H5.out).mono ?_; rintro e w6 ⟨rfl, h6⟩; have f1 := h6.own.rd.at C1.out; have f2 := h6.own.rd.at C2.out; have H6 := hid h6; clear h6))
        go_wp2
        go_ret
        refine ⟨?_, H6.out.below⟩
        show Ending.returned (.bool (decide (ci < ck) == decide (i < k))) = _
        rw [HE.out]
      · obtain ⟨d, hd⟩ : ∃ d, q = p + d := ⟨q - p, by omega⟩
        have hdI : (q : Int) - (p : Int) = (d : Int) := by omega
        have hb0 : ((i : Int) == (k : Int)) = false := by simp; omega
        have hb1 : ((p : Int) == 0) = false := by simp; omega
        have hb2 : ((q : Int) == 0) = false := by simp; omega
        have hb3 : decide ((q : Int) < (p : Int)) = false := by simp; omega
        have hb4 : ((p : Int) == (q : Int)) = false := by simp; omega
        have hord : ci * 2 ^ d < ck := by
          obtain ⟨m, rfl⟩ : ∃ m, p = m + 1 := ⟨p - 1, by omega⟩
          obtain ⟨r, rfl⟩ : ∃ r, q = r + 1 := ⟨q - 1, by omega⟩
          have hpw : 0 < 2 ^ (14 - r) := Nat.two_pow_pos _
          have := place_ord l i k m r HP.out HQ.out (by omega) (by omega) (.inl (by omega))
          rw [← HCI.out, ← HCK.out, show 14 - m = d + (14 - r) by omega, Nat.pow_add] at this
          have hpw2 : 0 < 2 ^ d * 2 ^ (14 - r) := Nat.mul_pos (Nat.two_pow_pos _) hpw
          refine Nat.lt_of_mul_lt_mul_right (a := 2 ^ (14 - r)) ?_
          rw [Nat.mul_assoc]; omega
        obtain ⟨z, hz⟩ : ∃ z, z = ci * 2 ^ d := ⟨_, rfl⟩
        rw [← hz] at hord
        have HZ := hid hz
        have HD := hid hd
        clear h6 h7 h8 h9 hz hd
        go_wp2
        go_quiet (fail)
        have H4 := hid (H3.out.drewN nq)
        generalize w3.drewN nq = w4 at H4 ⊢
        have d1 := (H4.out.old HV.out).at E1.out
        have d2 := (H4.out.old HV.out).at E2.out
        go_wp2
        go_quiet (fail)
        have H5 := hid ((H4.out.drewN nq).drew)
        generalize w4.drewN nq = w5 at H5 ⊢
        have e1 : w5.cell? ⟨g2, off2 + i, none⟩ = _ := H5.out.own.rd.at C1.out
        have e2 : w5.cell? ⟨g2, off2 + k, none⟩ = _ := H5.out.own.rd.at C2.out
        have e3 : w5.cell? ⟨g1, off1 + i, none⟩ = _ := (H5.out.old HV.out).at E1.out
        have e4 : w5.cell? ⟨g1, off1 + k, none⟩ = _ := (H5.out.old HV.out).at E2.out
        go_wp2_with fail
        go_region_held3 (fun w' => w'.cell? ⟨g2, off2 + i, none⟩ = some (.int .u32 (ci : Int)) ∧ w'.cell? ⟨g2, off2 + k, none⟩ = some (.int .u32 (ck : Int)) ∧ w'.cell? ⟨g1, off1 + i, none⟩ = some (.int .i64 (p : Int)) ∧ w'.cell? ⟨g1, off1 + k, none⟩ = some (.int .i64 (q : Int))) (first | go_keep)
          (first
            | (go_at_call 8; refine (h_answers H5.out).mono ?_; rintro e w6 ⟨rfl, h6⟩; have f1 := h6.own.rd.at C1.out; have f2 := h6.own.rd.at C2.out; have f3 := (h6.old HV.out).at E1.out; have f4 := (h6.old HV.out).at E2.out; have H6 := hid h6; clear h6))
        go_wp2
        go_ret
        refine ⟨?_, H6.out.below⟩
        show Ending.returned (.bool (decide (IntKind.u32.wrap ((ci : Int) * 2 ^ min (IntKind.u64.wrap (IntKind.i64.wrap (d : Int))).toNat 32) < (ck : Int)))) = _
        rw [wrap_shl ci d z (by have := HD.out; omega) HZ.out (by omega), decide_eq_true (by omega)]
  · have hcI : ((cv : Int) != 0) = true := by simp; omega
    clear hcv
    go_enter Try.func6, Try.ntmps6
    go_wp2_with fail
    refine HC.out.mono ?_
    rintro e w1 ⟨rfl, h2⟩
    have H1 := hid h2
    clear h2
    go_wp2_with fail
    refine (h_answers H1.out).mono ?_
    rintro e w1 ⟨rfl, hM⟩
    have HB := hid hM.below
    clear hM
    go_wp2
    go_ret
    exact ⟨rfl, HB.out⟩
end Go.Proofs.Ythjmjaeffdcfcaa
