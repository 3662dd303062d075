/-
  The walk of the law LimitBest, from what Lengths returns.
-/
import Derived.Test.YtcmfccooipnmeaaLawLim0
namespace Go.Proofs.Ytcmfccooipnmeaa
open Go.RowKit

set_option maxRecDepth 100000 in
set_option maxHeartbeats 3200000 in
theorem limitBest_from (H : LengthsOK) (v : Value) (f : List Int) (u : Value) (o : List Int) (a : Int) (w : World) (hf : shInts.good w [v] f) (ho : shInts.good w [u] o) (ha : (Lit.int .u8 a).wf = true) :
    Calls Try.prog 4 #[v, u, .int .u8 a] w fun e w' => e = .returned (.bool true) ∧ Below w.heap.size w w' := by
  have hv := ints_of hf
  have hu := ints_of ho
  have h2a := Go.bounds_u8 ha
  clear hf ho ha
  obtain ⟨x, rfl⟩ := Int.eq_ofNat_of_zero_le h2a.1
  obtain ⟨n, hn⟩ : ∃ n, n = f.length := ⟨_, rfl⟩
  obtain ⟨q, hq⟩ : ∃ q, q = o.length := ⟨_, rfl⟩
  rw [← hn] at hv
  rw [← hq] at hu
  obtain ⟨ao, cap, rfl, _, _⟩ := hv.form
  obtain ⟨bo, cap2, rfl, _, _⟩ := hu.form
  obtain ⟨r, hr⟩ : ∃ r, r = x % 15 := ⟨_, rfl⟩
  have hrI : (x : Int) % 15 = (r : Int) := by omega
  obtain ⟨m, hm⟩ : ∃ m, m = r + 1 := ⟨_, rfl⟩
  have hmI : (r : Int) + 1 = (m : Int) := by omega
  have hm15 : m ≤ 15 := by omega
  have hm1 : 1 ≤ m := by omega
  have HV := hid hv
  have HU := hid hu
  have HN := hid hn
  have HQ := hid hq
  have HLO := hid H
  have H0 := hid (Held.start w)
  clear hv hu hn hq hr hm H
  by_cases h288 : 288 < n
  · have hb0 : decide ((288 : Int) < (n : Int)) = true := by simp; omega
    go_enter Try.func4, Try.ntmps4
    go_wp2_with fail
    refine (h_answers5 HLO.out H0.out).mono ?_
    rintro e w1 ⟨rfl, hM⟩
    have HB := hid hM.below
    clear hM
    go_wp2
    go_ret
    exact ⟨rfl, HB.out⟩
  have hb0 : decide ((288 : Int) < (n : Int)) = false := by simp; omega
  have HMO := hid (fun h : mayOf f (m : Int) = 0 => mayOf_ok h)
  have HMY := hid (refmay_any _ f (m : Int) w n HN.out HV.out (by omega))
  have HLE := hid (fun (w1 : World) (h : Held w w1 []) => h_lengths HLO.out h (m : Int) (h.old HV.out) (by omega))
  generalize mayOf f (m : Int) = my at HMO HMY HLE
  by_cases hmy : my = 0
  · have hmyI : ((my : Int) != 0) = false := by simp; omega
    have HMO' := hid (HMO.out hmy)
    have HMZ := hid hmy
    by_cases hqn : q = n
    · obtain rfl : n = q := hqn.symm
      have hqnI : ((n : Int) != (n : Int)) = false := by simp
      clear hqn
      have HCK := hid (fun h : checkOf o (m : Int) = 0 => check_is h)
      have HCH := hid (refcheck_any _ o (m : Int) w (by rw [← HQ.out]; exact HU.out) (by rw [← HQ.out]; omega))
      generalize checkOf o (m : Int) = ck at HCK HCH
      by_cases hck : ck = 0
      · have hckI : ((ck : Int) != 0) = false := by simp; omega
        have HCK' := hid (HCK.out hck)
        clear hmy hck
        obtain ⟨fN, hfN⟩ : ∃ fN, f = castL fN := ⟨_, (castL_back f fun a ha => (HMO'.out.2.2.2.1 a ha).1).symm⟩
        obtain ⟨oN, hoN⟩ : ∃ oN, o = castL oN := ⟨_, (castL_back o fun a ha => (HCK'.out.1 a ha).1).symm⟩
        subst hfN
        subst hoN
        go_enter Try.func4, Try.ntmps4
        go_wp2_with fail
        refine HMY.out.mono ?_
        rintro e w1 ⟨rfl, rfl⟩
        go_wp2_with fail
        refine HCH.out.mono ?_
        rintro e w1 ⟨rfl, rfl⟩
        go_wp2
        have HVN : Hid (Rd w 1 (.slice ao n cap) n (nums .i64 fN)) := by unfold Hid; rw [nums_ints]; exact HV.out
        have HUN : Hid (Rd w 1 (.slice bo n cap2) n (nums .i64 oN)) := by unfold Hid; rw [nums_ints]; exact HU.out
        have HNF : Hid (n = fN.length) := by unfold Hid; rw [HN.out, castL_length]
        have HNO : Hid (n = oN.length) := by unfold Hid; rw [HQ.out, castL_length]
        have hv := HVN.out
        have hu := HUN.out
        go_loopg [8] (n + 1) (fun k t8 wr => ∃ i : Nat, i ≤ n ∧ n - i < k ∧ t8 = .int .i64 (i : Int) ∧ Hid (∀ (j a b : Nat), j < i → oN[j]? = some a → fN[j]? = some b → 0 < b → 0 < a) ∧ wr = w)
        case atStart => exact ⟨0, by omega, by omega, rfl, fun j a b hj => by omega, rfl⟩
        case round =>
          obtain ⟨i, hi, hk, rfl, HS, rfl⟩ := hrel
          have hi0 : (0 : Int) ≤ (i : Int) := Int.natCast_nonneg _
          by_cases hin : i < n
          · have hi1 : (i : Int) < (n : Int) := by omega
            obtain ⟨g, off, rfl, _⟩ := hv.spot (by omega)
            obtain ⟨g2, off2, rfl, _⟩ := hu.spot (by omega)
            obtain ⟨b, hb⟩ := get_some (l := fN) (i := i) (by have := HNF.out; omega)
            obtain ⟨c, hc⟩ := get_some (l := oN) (i := i) (by have := HNO.out; omega)
            have hc1 := hv.at (show (nums .i64 fN)[i]? = some (.int .i64 (b : Int)) by rw [nums_get, hb]; rfl)
            have hc2 := hu.at (show (nums .i64 oN)[i]? = some (.int .i64 (c : Int)) by rw [nums_get, hc]; rfl)
            have HB0 := hid hb
            have HC0 := hid hc
            clear hb hc
            have h3 : ¬ 0 < b ∨ 0 < b ∧ c = 0 ∨ 0 < b ∧ ¬ c = 0 := by omega
            rcases h3 with h3 | ⟨h3, h4⟩ | ⟨h3, h4⟩
            · have hb1 : decide ((0 : Int) < (b : Int)) = false := by simp; omega
              have hb2 : decide (0 < b) = false := by simp; omega
              have HS2 : Hid (∀ (j a b : Nat), j < i + 1 → oN[j]? = some a → fN[j]? = some b → 0 < b → 0 < a) := by
                intro j a b' hj ha hb' h0
                by_cases e : j = i
                · subst e
                  rw [HB0.out] at hb'; injection hb' with hb'; omega
                · exact HS.out j a b' (by omega) ha hb' h0
              go_wp2
              go_roundg (gk - 1)
              case measure => omega
              case rel => exact ⟨i + 1, by omega, by omega, by go_num, HS2, rfl⟩
            · have hb1 : decide ((0 : Int) < (b : Int)) = true := by simp; omega
              have hb2 : decide (0 < b) = true := by simp; omega
              have hb3 : ((c : Int) == 0) = true := by simp; omega
              clear h4
              go_wp2_with fail
              refine (h_answers5 HLO.out H0.out).mono ?_
              rintro e w1 ⟨rfl, hM⟩
              have HB := hid hM.below
              clear hM
              go_wp2
              go_ret
              exact ⟨rfl, HB.out⟩
            · have hb1 : decide ((0 : Int) < (b : Int)) = true := by simp; omega
              have hb2 : decide (0 < b) = true := by simp; omega
              have hb3 : ((c : Int) == 0) = false := by simp; omega
              have HS2 : Hid (∀ (j a b : Nat), j < i + 1 → oN[j]? = some a → fN[j]? = some b → 0 < b → 0 < a) := by
                intro j a b' hj ha hb' h0
                by_cases e : j = i
                · subst e
                  rw [HC0.out] at ha; injection ha with ha; omega
                · exact HS.out j a b' (by omega) ha hb' h0
              clear h4
              go_wp2
              go_roundg (gk - 1)
              case measure => omega
              case rel => exact ⟨i + 1, by omega, by omega, by go_num, HS2, rfl⟩
          · have hi1 : ¬ (i : Int) < (n : Int) := by omega
            have HSA : Hid (∀ (j a b : Nat), oN[j]? = some a → fN[j]? = some b → 0 < b → 0 < a) := by
              intro j a b ha hb h0
              have := (List.getElem?_eq_some_iff.1 hb).1
              exact HS.out j a b (by have := HNF.out; omega) ha hb h0
            go_wp2_with fail
            refine (HLE.out _ H0.out).mono ?_
            rintro e w2 ⟨lo, lc, N, l, rfl, HNL, h1, HL1⟩
            have H1 := hid h1
            clear h1
            go_wp2
            go_loopg [11, 12] (n + 1) (fun k t11 t12 wr => ∃ i c : Nat, i ≤ n ∧ n - i < k ∧ t12 = .int .i64 (i : Int) ∧ t11 = .int .i64 (c : Int) ∧ c ≤ i ∧ Hid (c = codedN (fN.take i)) ∧ wr = w2)
            case atStart => exact ⟨0, 0, by omega, by omega, rfl, rfl, by omega, rfl, rfl⟩
            case round =>
              obtain ⟨i, c, hi, hk2, rfl, rfl, hc, HC, rfl⟩ := hrel
              have hi0 : (0 : Int) ≤ (i : Int) := Int.natCast_nonneg _
              by_cases hin : i < n
              · have hi1 : (i : Int) < (n : Int) := by omega
                obtain ⟨g, off, rfl, _⟩ := hv.spot (by omega)
                obtain ⟨b, hb⟩ := get_some (l := fN) (i := i) (by have := HNF.out; omega)
                have hc1 := (H1.out.old hv).at (show (nums .i64 fN)[i]? = some (.int .i64 (b : Int)) by rw [nums_get, hb]; rfl)
                have HT := hid (codedN_take fN i b hb)
                clear hb
                by_cases h0 : 0 < b
                · have hbI : (0 : Int) < (b : Int) := by omega
                  have HC2 : Hid (c + 1 = codedN (fN.take (i + 1))) := by unfold Hid; rw [HT.out, if_pos h0, ← HC.out]
                  go_wp2
                  go_roundg (gk - 1)
                  case measure => omega
                  case rel => exact ⟨i + 1, c + 1, by omega, by omega, by go_num, by go_num, by omega, HC2, rfl⟩
                · have hbI : ¬ (0 : Int) < (b : Int) := by omega
                  have HC2 : Hid (c = codedN (fN.take (i + 1))) := by unfold Hid; rw [HT.out, if_neg h0, ← HC.out]; rfl
                  go_wp2
                  go_roundg (gk - 1)
                  case measure => omega
                  case rel => exact ⟨i + 1, c, by omega, by omega, by go_num, rfl, by omega, HC2, rfl⟩
              · have hi1 : ¬ (i : Int) < (n : Int) := by omega
                have HCC : Hid (c = codedN fN) := by unfold Hid; rw [HC.out, List.take_of_length_le (by have := HNF.out; omega)]
                have HLK : Hid (LenOK fN m l) := by
                  have h := HL1.out.2 HMZ.out
                  rw [Int.toNat_natCast] at h
                  have e : (castL fN).map Int.toNat = fN := by
                    unfold castL; rw [List.map_map]; exact (List.map_congr_left fun x _ => by simp).trans (List.map_id fN)
                  rw [e] at h; exact h
                have hmyI2 : ((my : Int) == 0) = true := by have := HMZ.out; simp; omega
                go_wp2_with fail
                refine (h_answers5 HLO.out H1.out).mono ?_
                rintro e w3 ⟨rfl, h1⟩
                have H2 := hid h1
                clear h1
                by_cases hc2 : c < 2
                · have hcI : decide ((c : Int) < 2) = true := by simp; omega
                  have HB := hid H2.out.below
                  go_wp2
                  go_ret
                  exact ⟨rfl, HB.out⟩
                · have hcI : decide ((c : Int) < 2) = false := by simp; omega
                  obtain rfl : N = n := by rw [HNL.out, HLK.out.len]; exact HNF.out.symm
                  have HO := hid (HLK.out.best (by have := HCC.out; omega))
                  have hfb : ∀ a ∈ fN, a ≤ 1048576 := by
                    intro a ha
                    have := HMO'.out.2.2.2.1 (a : Int) (by unfold castL; exact List.mem_map_of_mem ha)
                    omega
                  have hob : ∀ a ∈ oN, a ≤ m := by
                    intro a ha
                    have := HCK'.out.1 (a : Int) (by unfold castL; exact List.mem_map_of_mem ha)
                    omega
                  have HLE2 : Hid (cst l fN ≤ cst oN fN) := HO.out.best hm15 (by have := HNF.out; have := HNO.out; omega) hob (by have h := HCK'.out.2.2; rw [sum_cast] at h; exact h) HSA.out (by have := HCC.out; omega)
                  have HK1 := hid (h_cost5 H2.out H2.out.own.rd (H2.out.old hv) (by omega) (fun a ha => by have := HO.out.good.le a ha; omega) hfb)
                  go_wp2_with fail
                  refine HK1.out.mono ?_
                  rintro e w4 ⟨rfl, h1⟩
                  have H3 := hid h1
                  clear h1
                  have HK2 := hid (h_cost5 H3.out (H3.out.old hu) (H3.out.old hv) (by omega) (fun a ha => by have := hob a ha; omega) hfb)
                  go_wp2_with fail
                  refine HK2.out.mono ?_
                  rintro e w5 ⟨rfl, h1⟩
                  have HB := hid h1.below
                  clear h1
                  generalize cst l fN = z1 at HLE2 ⊢
                  generalize cst oN fN = z2 at HLE2 ⊢
                  have hz := HLE2.out
                  have hzI : decide ((z1 : Int) ≤ (z2 : Int)) = true := by simp; omega
                  have hzN : decide (z1 ≤ z2) = true := by simp; omega
                  go_wp2
                  go_ret
                  exact ⟨rfl, HB.out⟩
      · have hckI : ((ck : Int) != 0) = true := by simp; omega
        clear hmy hck
        go_enter Try.func4, Try.ntmps4
        go_wp2_with fail
        refine HMY.out.mono ?_
        rintro e w1 ⟨rfl, rfl⟩
        go_wp2_with fail
        refine HCH.out.mono ?_
        rintro e w1 ⟨rfl, rfl⟩
        go_wp2_with fail
        refine (h_answers5 HLO.out H0.out).mono ?_
        rintro e w1 ⟨rfl, hM⟩
        have HB := hid hM.below
        clear hM
        go_wp2
        go_ret
        exact ⟨rfl, HB.out⟩
    · have hqnI : ((q : Int) != (n : Int)) = true := by simp; omega
      clear hmy
      go_enter Try.func4, Try.ntmps4
      go_wp2_with fail
      refine HMY.out.mono ?_
      rintro e w1 ⟨rfl, rfl⟩
      go_wp2_with fail
      refine (h_answers5 HLO.out H0.out).mono ?_
      rintro e w1 ⟨rfl, hM⟩
      have HB := hid hM.below
      clear hM
      go_wp2
      go_ret
      exact ⟨rfl, HB.out⟩
  · have hmyI : ((my : Int) != 0) = true := by simp; omega
    clear hmy
    go_enter Try.func4, Try.ntmps4
    go_wp2_with fail
    refine HMY.out.mono ?_
    rintro e w1 ⟨rfl, rfl⟩
    go_wp2_with fail
    refine (h_answers5 HLO.out H0.out).mono ?_
    rintro e w1 ⟨rfl, hM⟩
    have HB := hid hM.below
    clear hM
    go_wp2
    go_ret
    exact ⟨rfl, HB.out⟩
end Go.Proofs.Ytcmfccooipnmeaa
