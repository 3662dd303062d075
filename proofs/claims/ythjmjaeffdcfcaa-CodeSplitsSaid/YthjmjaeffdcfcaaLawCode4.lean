/-
  The walk of the law CodePrefix.
-/
import Derived.Test.YthjmjaeffdcfcaaLawCode0
import Derived.Test.YthjmjaeffdcfcaaPrefixMath
namespace Go.Proofs.Ythjmjaeffdcfcaa
open Go.RowKit

theorem ints_at {l : List Int} {i : Nat} (h : i < l.length) (hl : ∀ a ∈ l, 0 ≤ a ∧ a ≤ 15) : ∃ p : Nat, l[i]? = some (p : Int) ∧ p ≤ 15 := by
  have h1 : l[i]? = some (l[i]'h) := List.getElem?_eq_getElem _
  have h2 := hl _ (List.mem_of_getElem? h1)
  obtain ⟨p, hp⟩ := Int.eq_ofNat_of_zero_le h2.1
  exact ⟨p, by rw [h1, hp], by omega⟩
theorem coded_take (l : List Int) (i p : Nat) (h : l[i]? = some (p : Int)) : coded (l.take (i + 1)) = coded (l.take i) + (if 0 < p then 1 else 0) := by
  rw [take_snoc3 l i _ h, coded_snoc]
  by_cases hp : 0 < p
  · rw [if_pos hp, if_pos (by omega)]
  · rw [if_neg hp, if_neg (by omega)]
set_option maxRecDepth 100000 in
set_option maxHeartbeats 3200000 in
theorem codePrefix_walk (v : Value) (l : List Int) (a : Int) (w : World) (hl : shInts.good w [v] l) (ha : (Lit.int .u16 a).wf = true) :
    Calls Try.prog 4 #[v, .int .u16 a] w fun e w' => e = .returned (.bool true) ∧ Below w.heap.size w w' := by
  have hv := ints_of hl
  clear hl
  have h2a := Go.bounds_u16 ha
  clear ha
  obtain ⟨x, rfl⟩ := Int.eq_ofNat_of_zero_le h2a.1
  obtain ⟨n, hn⟩ : ∃ n, n = l.length := ⟨_, rfl⟩
  rw [← hn] at hv
  obtain ⟨ao, cap, rfl, _, _⟩ := hv.form
  have HV := hid hv
  have H0 := hid (Held.start w)
  have HN := hid hn
  clear hv hn
  have h3 : 300 < n ∨ n ≤ 300 := by omega
  rcases h3 with h3 | h3
  · have h3I : (300 : Int) < (n : Int) := by omega
    go_enter Try.func4, Try.ntmps4
    go_wp2_with fail
    refine (h_answers H0.out).mono ?_
    rintro e w1 ⟨rfl, hM⟩
    have H1 := hid hM
    clear hM
    go_wp2_with fail
    refine (h_answers H1.out).mono ?_
    rintro e w1 ⟨rfl, hM⟩
    have HB := hid hM.below
    clear hM
    go_wp2
    go_ret
    exact ⟨rfl, HB.out⟩
  have h3I : ¬ (300 : Int) < (n : Int) := by omega
  have HOK := hid (fun h : checkOf l 15 = 0 => check_ok h)
  have HC := hid (fun (w1 : World) (h : Held w w1 []) => h_check h 15 (h.old HV.out) (by omega))
  generalize checkOf l 15 = cv at HOK HC
  by_cases hcv : cv = 0
  · have hcI : ((cv : Int) != 0) = false := by simp; omega
    have hnn : ((n : Int) != (n : Int)) = false := by simp
    have hnp : n ≤ 288 := by have := (HOK.out hcv).2.1; have := HN.out; omega
    have HOK' := hid (HOK.out hcv)
    obtain ⟨b, hb⟩ : ∃ b, b = x % 32768 := ⟨_, rfl⟩
    have hbI : (x : Int) % 32768 = (b : Int) := by omega
    have hb15 : b < 32768 := by omega
    have HEND : Hid (coded l < 2 ∨ hits l b n = 1) := by unfold Hid; rw [HN.out]; exact end_hits l b HOK'.out.1 HOK'.out.2.2 hb15
    clear hcv hb
    go_enter Try.func4, Try.ntmps4
    go_wp2_with fail
    refine (h_answers H0.out).mono ?_
    rintro e w1 ⟨rfl, h2⟩
    have H1 := hid h2
    clear h2
    go_wp2_with fail
    refine (HC.out _ H1.out).mono ?_
    rintro e w2 ⟨rfl, h2⟩
    have H2 := hid h2
    clear h2
    go_wp2_with fail
    refine (h_codes H2.out (H2.out.old HV.out) hnp).mono ?_
    rintro e w3 ⟨ao2, cap2, rfl, h2⟩
    have H3 := hid h2
    clear h2
    go_wp2
    go_loopg [6, 7, 8] (n + 1) (fun k t6 t7 t8 wr => ∃ (i h c : Nat), i ≤ n ∧ n - i < k ∧ t8 = .int .i64 (i : Int) ∧ t6 = .int .i64 (h : Int) ∧ t7 = .int .i64 (c : Int) ∧ h ≤ i ∧ c ≤ i ∧ Hid (h = hits l b i) ∧ Hid (c = coded (l.take i)) ∧ Hid (Held w wr [ownT 29 1 (.slice ao2 n cap2) n (nums .u32 (codesOf l))]))
    case atStart => exact ⟨0, 0, 0, by omega, by omega, rfl, rfl, rfl, by omega, by omega, rfl, rfl, H3⟩
    case round =>
      obtain ⟨i, h, c, hi, hk, rfl, rfl, rfl, hh, hc, HHI, HCO, HH⟩ := hrel
      obtain ⟨gx, rfl⟩ : ∃ g, g = gk := ⟨gk, rfl⟩
      have hi0 : (0 : Int) ≤ (i : Int) := Int.natCast_nonneg _
      by_cases hin : i < n
      · have hi1 : (i : Int) < (n : Int) := by omega
        obtain ⟨p, hp, hpr⟩ := ints_at (l := l) (i := i) (by have := HN.out; omega) HOK'.out.1
        obtain ⟨ci, hci⟩ : ∃ ci, ci = codeAt l i := ⟨_, rfl⟩
        have hcil : ci ≤ 16385 * 288 := by rw [hci]; have := codeAt_le l i; have := HN.out; omega
        have E1 : Hid ((ints l)[i]? = some (.int .i64 (p : Int))) := by unfold Hid; rw [ints_get, hp]; rfl
        have C1 : Hid ((nums .u32 (codesOf l))[i]? = some (.int .u32 (ci : Int))) := by unfold Hid; rw [nums_get, codesOf_get l i (by have := HN.out; omega), hci]; rfl
        obtain ⟨g1, off1, rfl, _⟩ := HV.out.spot (by omega)
        obtain ⟨g2, off2, rfl, _⟩ := HH.out.own.rd.spot (by omega)
        have hc1 := (HH.out.old HV.out).at E1.out
        have hc2 := HH.out.own.rd.at C1.out
        have HP := hid hp
        have HCI := hid hci
        clear hp hci
        by_cases hp0 : p = 0
        · subst hp0
          have HH1 : Hid (hits l b (i + 1) = hits l b i) := by unfold Hid; rw [hits_succ, hit_zero l b i HP.out]; rfl
          have HC1 : Hid (coded (l.take (i + 1)) = coded (l.take i)) := by unfold Hid; rw [coded_take l i 0 HP.out]; rfl
          have hpI : (((0 : Nat) : Int) == 0) = true := by decide
          go_wp2
          go_roundg (gx - 1)
          case measure => omega
          case rel => exact ⟨i + 1, h, c, by omega, by omega, by go_num, rfl, rfl, by omega, by omega, by unfold Hid; rw [HH1.out]; exact HHI.out, by unfold Hid; rw [HC1.out]; exact HCO.out, HH⟩
        · have hpI : ((p : Int) == 0) = false := by simp; omega
          have HC1 : Hid (coded (l.take (i + 1)) = coded (l.take i) + 1) := by unfold Hid; rw [coded_take l i p HP.out, if_pos (by omega)]
          have hsh : (ci : Int) / 2 ^ p = 0 := by
            have := code_fits l i p HP.out (by omega) hpr (by have := HOK'.out.2.2; omega)
            rw [← HCI.out] at this
            rw [two_pow_int, show ((ci : Int) / ((2 ^ p : Nat) : Int)) = ((ci / 2 ^ p : Nat) : Int) by simp, Nat.div_eq_of_lt this]; rfl
          have hpI2 : (15 : Int) - (p : Int) = ((15 - p : Nat) : Int) := by omega
          obtain ⟨y, hy⟩ : ∃ y, y = b / 2 ^ (15 - p) := ⟨_, rfl⟩
          have hyI : (b : Int) / 2 ^ (15 - p) = (y : Int) := by rw [hy, two_pow_int]; simp
          by_cases hyc : y = ci
          · have HH1 : Hid (hits l b (i + 1) = hits l b i + 1) := by unfold Hid; rw [hits_succ, hit_len l b i p HP.out (by omega) hpr, if_pos]; rw [decide_eq_true_eq, ← HCI.out, ← hy]; exact hyc
            have hycI : ((y : Int) == (ci : Int)) = true := by simp; omega
            clear hy hyc
            go_wp2
            go_quiet (fail)
            have H4 := hid (HH.out.drewN nq)
            generalize wr.drewN nq = w4 at H4 ⊢
            clear hc1 hc2
            have hc1 := (H4.out.old HV.out).at E1.out
            have hc2 := H4.out.own.rd.at C1.out
            go_wp2
            go_quiet (fail)
            have H5 := hid (H4.out.drewN nq)
            generalize w4.drewN nq = w5 at H5 ⊢
            clear hc1 hc2
            go_wp2
            go_loopg [9] (n + 1) (fun k t9 wq => ∃ j : Nat, j ≤ n ∧ n - j < k ∧ t9 = .int .i64 (j : Int) ∧ Hid (Held w wq [ownT 29 1 (.slice (some ⟨g2, off2, none⟩) n cap2) n (nums .u32 (codesOf l))]))
            case atStart => exact ⟨0, by omega, by omega, rfl, H5⟩
            case round =>
              obtain ⟨j, hj, hk2, rfl, HJ⟩ := hrel
              have hj0 : (0 : Int) ≤ (j : Int) := Int.natCast_nonneg _
              by_cases hjn : j < n
              · have hj1 : (j : Int) < (n : Int) := by omega
                obtain ⟨q, hq, hqr⟩ := ints_at (l := l) (i := j) (by have := HN.out; omega) HOK'.out.1
                obtain ⟨cj, hcj⟩ : ∃ cj, cj = codeAt l j := ⟨_, rfl⟩
                have hcjl : cj ≤ 16385 * 288 := by rw [hcj]; have := codeAt_le l j; have := HN.out; omega
                have E2 : Hid ((ints l)[j]? = some (.int .i64 (q : Int))) := by unfold Hid; rw [ints_get, hq]; rfl
                have C2 : Hid ((nums .u32 (codesOf l))[j]? = some (.int .u32 (cj : Int))) := by unfold Hid; rw [nums_get, codesOf_get l j (by have := HN.out; omega), hcj]; rfl
                have hc1 := (HJ.out.old HV.out).at E1.out
                have hc2 := HJ.out.own.rd.at C1.out
                have hc3 := (HJ.out.old HV.out).at E2.out
                have hc4 := HJ.out.own.rd.at C2.out
                have HQ := hid hq
                have HCJ := hid hcj
                clear hq hcj
                have h6 : j = i ∨ j ≠ i ∧ q < p ∨ j ≠ i ∧ p ≤ q := by omega
                rcases h6 with h6 | ⟨h6, h7⟩ | ⟨h6, h7⟩
                · have hb0 : ((j : Int) != (i : Int)) = false := by simp; omega
                  clear h6
                  go_wp2
                  go_quiet (fail)
                  go_wp2
                  go_roundg (gk - 1)
                  case measure => omega
                  case rel => exact ⟨j + 1, by omega, by omega, by go_num, HJ.out.drewN _⟩
                · have hb0 : ((j : Int) != (i : Int)) = true := by simp; omega
                  have hb1 : decide ((p : Int) ≤ (q : Int)) = false := by simp; omega
                  have hb2 : decide (p ≤ q) = false := by simp; omega
                  clear h6 h7
                  go_wp2
                  go_quiet (fail)
                  go_wp2
                  go_roundg (gk - 1)
                  case measure => omega
                  case rel => exact ⟨j + 1, by omega, by omega, by go_num, HJ.out.drewN _⟩
                · have hb0 : ((j : Int) != (i : Int)) = true := by simp; omega
                  have hb1 : decide ((p : Int) ≤ (q : Int)) = true := by simp; omega
                  have hb2 : decide (p ≤ q) = true := by simp; omega
                  obtain ⟨d, hd⟩ : ∃ d, q = p + d := ⟨q - p, by omega⟩
                  have hdI : (q : Int) - (p : Int) = (d : Int) := by omega
                  obtain ⟨z, hz⟩ : ∃ z, z = cj / 2 ^ d := ⟨_, rfl⟩
                  have hzI : (cj : Int) / 2 ^ d = (z : Int) := by rw [hz, two_pow_int]; simp
                  have hne : z ≠ ci := by
                    have := not_begin l i j p q HP.out HQ.out (by omega) (by omega) h7 h6
                    rw [← HCI.out, ← HCJ.out, show q - p = d by omega, ← hz] at this
                    exact this
                  have hzc : ((z : Int) == (ci : Int)) = false := by simp; omega
                  have HD := hid (show d ≤ 15 by omega)
                  clear h6 h7 hd hz hne
                  go_wp2
                  go_quiet (fail)
                  go_wp2
                  go_roundg (gk - 1)
                  case measure => omega
                  case rel => exact ⟨j + 1, by omega, by omega, by go_num, HJ.out.drewN _⟩
              · have hj1 : ¬ (j : Int) < (n : Int) := by omega
                go_wp2
                go_roundg (gx - 1)
                case measure => omega
                case rel => exact ⟨i + 1, h + 1, c + 1, by omega, by omega, by go_num, by go_num, by go_num, by omega, by omega, by unfold Hid; rw [HH1.out, ← HHI.out], by unfold Hid; rw [HC1.out, ← HCO.out], HJ⟩
          · have HH1 : Hid (hits l b (i + 1) = hits l b i + 0) := by unfold Hid; rw [hits_succ, hit_len l b i p HP.out (by omega) hpr, if_neg]; rw [decide_eq_true_eq, ← HCI.out, ← hy]; exact hyc
            have hycI : ((y : Int) == (ci : Int)) = false := by simp; omega
            clear hy hyc
            go_wp2
            go_quiet (fail)
            have H4 := hid (HH.out.drewN nq)
            generalize wr.drewN nq = w4 at H4 ⊢
            clear hc1 hc2
            have hc1 := (H4.out.old HV.out).at E1.out
            have hc2 := H4.out.own.rd.at C1.out
            go_wp2
            go_quiet (fail)
            have H5 := hid (H4.out.drewN nq)
            generalize w4.drewN nq = w5 at H5 ⊢
            clear hc1 hc2
            go_wp2
            go_loopg [9] (n + 1) (fun k t9 wq => ∃ j : Nat, j ≤ n ∧ n - j < k ∧ t9 = .int .i64 (j : Int) ∧ Hid (Held w wq [ownT 29 1 (.slice (some ⟨g2, off2, none⟩) n cap2) n (nums .u32 (codesOf l))]))
            case atStart => exact ⟨0, by omega, by omega, rfl, H5⟩
            case round =>
              obtain ⟨j, hj, hk2, rfl, HJ⟩ := hrel
              have hj0 : (0 : Int) ≤ (j : Int) := Int.natCast_nonneg _
              by_cases hjn : j < n
              · have hj1 : (j : Int) < (n : Int) := by omega
                obtain ⟨q, hq, hqr⟩ := ints_at (l := l) (i := j) (by have := HN.out; omega) HOK'.out.1
                obtain ⟨cj, hcj⟩ : ∃ cj, cj = codeAt l j := ⟨_, rfl⟩
                have hcjl : cj ≤ 16385 * 288 := by rw [hcj]; have := codeAt_le l j; have := HN.out; omega
                have E2 : Hid ((ints l)[j]? = some (.int .i64 (q : Int))) := by unfold Hid; rw [ints_get, hq]; rfl
                have C2 : Hid ((nums .u32 (codesOf l))[j]? = some (.int .u32 (cj : Int))) := by unfold Hid; rw [nums_get, codesOf_get l j (by have := HN.out; omega), hcj]; rfl
                have hc1 := (HJ.out.old HV.out).at E1.out
                have hc2 := HJ.out.own.rd.at C1.out
                have hc3 := (HJ.out.old HV.out).at E2.out
                have hc4 := HJ.out.own.rd.at C2.out
                have HQ := hid hq
                have HCJ := hid hcj
                clear hq hcj
                have h6 : j = i ∨ j ≠ i ∧ q < p ∨ j ≠ i ∧ p ≤ q := by omega
                rcases h6 with h6 | ⟨h6, h7⟩ | ⟨h6, h7⟩
                · have hb0 : ((j : Int) != (i : Int)) = false := by simp; omega
                  clear h6
                  go_wp2
                  go_quiet (fail)
                  go_wp2
                  go_roundg (gk - 1)
                  case measure => omega
                  case rel => exact ⟨j + 1, by omega, by omega, by go_num, HJ.out.drewN _⟩
                · have hb0 : ((j : Int) != (i : Int)) = true := by simp; omega
                  have hb1 : decide ((p : Int) ≤ (q : Int)) = false := by simp; omega
                  have hb2 : decide (p ≤ q) = false := by simp; omega
                  clear h6 h7
                  go_wp2
                  go_quiet (fail)
                  go_wp2
                  go_roundg (gk - 1)
                  case measure => omega
                  case rel => exact ⟨j + 1, by omega, by omega, by go_num, HJ.out.drewN _⟩
                · have hb0 : ((j : Int) != (i : Int)) = true := by simp; omega
                  have hb1 : decide ((p : Int) ≤ (q : Int)) = true := by simp; omega
                  have hb2 : decide (p ≤ q) = true := by simp; omega
                  obtain ⟨d, hd⟩ : ∃ d, q = p + d := ⟨q - p, by omega⟩
                  have hdI : (q : Int) - (p : Int) = (d : Int) := by omega
                  obtain ⟨z, hz⟩ : ∃ z, z = cj / 2 ^ d := ⟨_, rfl⟩
                  have hzI : (cj : Int) / 2 ^ d = (z : Int) := by rw [hz, two_pow_int]; simp
                  have hne : z ≠ ci := by
                    have := not_begin l i j p q HP.out HQ.out (by omega) (by omega) h7 h6
                    rw [← HCI.out, ← HCJ.out, show q - p = d by omega, ← hz] at this
                    exact this
                  have hzc : ((z : Int) == (ci : Int)) = false := by simp; omega
                  have HD := hid (show d ≤ 15 by omega)
                  clear h6 h7 hd hz hne
                  go_wp2
                  go_quiet (fail)
                  go_wp2
                  go_roundg (gk - 1)
                  case measure => omega
                  case rel => exact ⟨j + 1, by omega, by omega, by go_num, HJ.out.drewN _⟩
              · have hj1 : ¬ (j : Int) < (n : Int) := by omega
                go_wp2
                go_roundg (gx - 1)
                case measure => omega
                case rel => exact ⟨i + 1, h + 0, c + 1, by omega, by omega, by go_num, by go_num, by go_num, by omega, by omega, by unfold Hid; rw [HH1.out, ← HHI.out], by unfold Hid; rw [HC1.out, ← HCO.out], HJ⟩
      · have hi1 : ¬ (i : Int) < (n : Int) := by omega
        obtain rfl : i = n := by omega
        have HE : Hid (c < 2 ∨ h = 1) := by
          have h1 := HEND.out
          rw [HCO.out, HHI.out, List.take_of_length_le (by have := HN.out; omega)]
          exact h1
        go_wp2_with fail
        refine (h_answers HH.out).mono ?_
        rintro e w6 ⟨rfl, h6⟩
        have HB := hid h6.below
        clear h6
        by_cases hc2 : c < 2
        · have hb0 : decide ((c : Int) < 2) = true := by simp; omega
          go_wp2
          go_ret
          exact ⟨rfl, HB.out⟩
        · have hb0 : decide ((c : Int) < 2) = false := by simp; omega
          obtain rfl : h = 1 := by have := HE.out; omega
          go_wp2
          go_ret
          exact ⟨rfl, HB.out⟩
  · have hcI : ((cv : Int) != 0) = true := by simp; omega
    clear hcv
    go_enter Try.func4, Try.ntmps4
    go_wp2_with fail
    refine (h_answers H0.out).mono ?_
    rintro e w1 ⟨rfl, h2⟩
    have H1 := hid h2
    clear h2
    go_wp2_with fail
    refine (HC.out _ H1.out).mono ?_
    rintro e w2 ⟨rfl, h2⟩
    have H2 := hid h2
    clear h2
    go_wp2_with fail
    refine (h_answers H2.out).mono ?_
    rintro e w1 ⟨rfl, hM⟩
    have HB := hid hM.below
    clear hM
    go_wp2
    go_ret
    exact ⟨rfl, HB.out⟩
end Go.Proofs.Ythjmjaeffdcfcaa
