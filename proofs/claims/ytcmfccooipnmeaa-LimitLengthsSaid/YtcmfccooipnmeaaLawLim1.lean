/-
  The walk of the law LimitLengths, from what Lengths returns.
-/
import Derived.Test.YtcmfccooipnmeaaLawLim0
import Derived.Test.YtcmfccooipnmeaaRefLeast
import Derived.Test.YtcmfccooipnmeaaLimitOrd
namespace Go.Proofs.Ytcmfccooipnmeaa
open Go.RowKit

theorem least_same {f l s : List Nat} {m z : Nat} (h : OptL f m l) (hm : m ≤ 15) (hf : ∀ a ∈ f, a ≤ 1048576) (hc : (came f).length ≤ 60) (hc2 : 1 ≤ (came f).length) (hs : Down s) (hp : s.Perm (came f))
    (hz : z = 1152921504606846976 ∨ Has s m s.length 0 z) (hall : ∀ c, Has s m s.length 0 c → z ≤ c) : z = cst l f := by
  have h0 : 0 < s.length := by rw [hp.length_eq]; omega
  have hts : total s ≤ 62914560 := by
    have h1 := total_le 1048576 s fun x hx => hf x (List.mem_filter.1 (hp.mem_iff.1 hx)).1
    have h2 : s.length * 1048576 ≤ 60 * 1048576 := Nat.mul_le_mul_right _ (by rw [hp.length_eq]; exact hc)
    omega
  obtain ⟨c, k1, k2⟩ := least_has h.good hm hs hp h0
  have k3 := hall c k1
  have k4 := k1.small hm hts
  exact least_is h hm hs hp h0 (hz.resolve_left (by omega)) hall
set_option maxRecDepth 100000 in
set_option maxHeartbeats 3200000 in
theorem limitLengths_from (H : LengthsOK) (v : Value) (f : List Int) (most : Int) (w : World) (hf : shInts.good w [v] f) (_ : (Lit.int .i64 most).wf = true) :
    Calls Try.prog 3 #[v, .int .i64 most] w fun e w' => e = .returned (.bool true) ∧ Below w.heap.size w w' := by
  have hv := ints_of hf
  clear hf
  obtain ⟨n, hn⟩ : ∃ n, n = f.length := ⟨_, rfl⟩
  rw [← hn] at hv
  obtain ⟨ao, cap, rfl, _, _⟩ := hv.form
  obtain ⟨i0, hi0, hz0, hz1, hz2⟩ := info_parts infoIntL
  have HV := hid hv
  have HN := hid hn
  have HLO := hid H
  have H0 := hid (Held.start w)
  clear hv hn H
  by_cases h300 : 300 < n
  · have hb0 : (300 : Int) < (n : Int) := by omega
    go_enter Try.func3, Try.ntmps3
    go_wp2_with fail
    refine (h_answers5 HLO.out H0.out).mono ?_
    rintro e w1 ⟨rfl, hM⟩
    have HB := hid hM.below
    clear hM
    go_wp2
    go_ret
    exact ⟨rfl, HB.out⟩
  have hb0 : ¬ (300 : Int) < (n : Int) := by omega
  have HMO := hid (fun h : mayOf f most = 0 => mayOf_ok h)
  have HA := hid (H0.out.lit 3 1 [] 0 (by decide) rfl)
  go_enter Try.func3, Try.ntmps3
  go_wp2_with ((with_reducible show wpList _ _ _ (⟨some 17, _, _, _, _, _⟩ :: _) _ _); refine wpList_app_held rfl (.tmp 15) (.tmp 16) 22 rfl 3 i0 (.int .i64 0) 1 8 Try.underlying22 hi0 hz0 hz1 hz2 rfl (by decide) _ 0 [] rfl HA.out _ n (ints f) rfl (HA.out.old HV.out) (ints_one f) n (by omega) (by unfold maxLen; omega) (by omega) ?_; intro ao1 cap1 w1 h1; have HA2 := hid h1; clear h1)
  refine (h_lengths HLO.out HA2.out most HA2.out.own.rd (by omega)).mono ?_
  rintro e w2 ⟨lo, lc, N, l, rfl, HNL, h1, HL1⟩
  have H1 := hid h1.one
  clear h1
  have HMY2 := hid (refmay_any _ f most w2 n HN.out (H1.out.old HV.out) (by omega))
  generalize mayOf f most = my at HMO HMY2 HL1 ⊢
  have hmyS : ((my : Int) != (my : Int)) = false := by simp
  go_wp2_with fail
  refine HMY2.out.mono ?_
  rintro e w3 ⟨rfl, rfl⟩
  go_wp2_with fail
  refine (h_answers5 HLO.out H1.out).mono ?_
  rintro e w4 ⟨rfl, h1⟩
  have H2 := hid h1
  clear h1
  by_cases hmy : my = 0
  · have hmyI : ((my : Int) != 0) = false := by simp; omega
    have HMO' := hid (HMO.out hmy)
    have HMZ := hid hmy
    clear hmy
    obtain ⟨fN, hfN⟩ : ∃ fN, f = castL fN := ⟨_, (castL_back f fun a ha => (HMO'.out.2.2.2.1 a ha).1).symm⟩
    subst hfN
    obtain ⟨m, hm⟩ : ∃ m : Nat, most = (m : Int) := ⟨most.toNat, by have := HMO'.out.2.1; omega⟩
    subst hm
    have hm1 : 1 ≤ m := by have := HMO'.out.2.1; omega
    have hm15 : m ≤ 15 := by have := HMO'.out.2.2.1; omega
    have hn288 : n ≤ 288 := by have := HMO'.out.1; have := HN.out; omega
    have HVN : Hid (Rd w 1 (.slice ao n cap) n (nums .i64 fN)) := by unfold Hid; rw [nums_ints]; exact HV.out
    have HNF : Hid (n = fN.length) := by unfold Hid; rw [HN.out, castL_length]
    have hv := HVN.out
    have HLK : Hid (LenOK fN m l) := by
      have h := HL1.out.2 HMZ.out
      rw [Int.toNat_natCast] at h
      have e : (castL fN).map Int.toNat = fN := by
        unfold castL; rw [List.map_map]; exact (List.map_congr_left fun x _ => by simp).trans (List.map_id fN)
      rw [e] at h; exact h
    obtain rfl : n = N := by rw [HNL.out, HLK.out.len]; exact HNF.out
    have hfb : ∀ a ∈ fN, a ≤ 1048576 := by
      intro a ha
      have := HMO'.out.2.2.2.1 (a : Int) (by unfold castL; exact List.mem_map_of_mem ha)
      omega
    have HFB := hid hfb
    clear hfb
    obtain ⟨s1, s2, s3⟩ := HLK.out.sound hm1
    have HSD := hid (sound_any _ _ l fN m n w4 H2.out.own.rd (H2.out.old hv) hn288 s1 s2 s3)
    clear s1 s2 s3
    go_wp2_with fail
    refine HSD.out.mono ?_
    rintro e w5 ⟨rfl, c5, rfl⟩
    have H3 := hid (H2.out.drewN c5)
    generalize w4.drewN c5 = w5 at H3 ⊢
    go_wp2
    go_loopg [8, 9] (n + 1) (fun k t8 t9 wr => ∃ i c : Nat, i ≤ n ∧ n - i < k ∧ t9 = .int .i64 (i : Int) ∧ t8 = .int .i64 (c : Int) ∧ c ≤ i ∧ Hid (c = codedN (fN.take i)) ∧ wr = w5)
    case atStart => exact ⟨0, 0, by omega, by omega, rfl, rfl, by omega, rfl, rfl⟩
    case round =>
      obtain ⟨i, c, hi, hk2, rfl, rfl, hc, HC, rfl⟩ := hrel
      have hi0 : (0 : Int) ≤ (i : Int) := Int.natCast_nonneg _
      by_cases hin : i < n
      · have hi1 : (i : Int) < (n : Int) := by omega
        obtain ⟨g, off, rfl, _⟩ := hv.spot (by omega)
        obtain ⟨b, hb⟩ := get_some (l := fN) (i := i) (by have := HNF.out; omega)
        have hc1 := (H3.out.old hv).at (show (nums .i64 fN)[i]? = some (.int .i64 (b : Int)) by rw [nums_get, hb]; rfl)
        have HT := hid (codedN_take fN i b hb)
        clear hb
        by_cases h0 : 0 < b
        · have hbI : (0 : Int) < (b : Int) := by omega
          have HC2 : Hid (c + 1 = codedN (fN.take (i + 1))) := by unfold Hid; rw [HT.out, if_pos h0, ← HC.out]
          go_wp2
          go_roundg (gk - 1)
          case measure => omega
          case rel => exact ⟨i + 1, c + 1, by omega, by omega, by go_num, by go_num, by omega, HC2, rfl⟩
        · have hbI : ¬ (0 : Int) < (b : Int) := by omega
          have HC2 : Hid (c = codedN (fN.take (i + 1))) := by unfold Hid; rw [HT.out, if_neg h0, ← HC.out]; rfl
          go_wp2
          go_roundg (gk - 1)
          case measure => omega
          case rel => exact ⟨i + 1, c, by omega, by omega, by go_num, rfl, by omega, HC2, rfl⟩
      · have hi1 : ¬ (i : Int) < (n : Int) := by omega
        have HCC : Hid (c = codedN fN) := by unfold Hid; rw [HC.out, List.take_of_length_le (by have := HNF.out; omega)]
        have HBW := hid H3.out.below
        have hcc : c < 2 ∨ ¬ c < 2 ∧ 60 < c ∨ ¬ c < 2 ∧ ¬ 60 < c := by omega
        rcases hcc with hcc | ⟨hcc, hc6⟩ | ⟨hcc, hc6⟩
        · have hcI : decide ((c : Int) < 2) = true := by simp; omega
          go_wp2
          go_ret
          exact ⟨rfl, HBW.out⟩
        · have hcI : decide ((c : Int) < 2) = false := by simp; omega
          have hcI2 : decide ((60 : Int) < (c : Int)) = true := by simp; omega
          go_wp2
          go_ret
          exact ⟨rfl, HBW.out⟩
        · have hcI : decide ((c : Int) < 2) = false := by simp; omega
          have hcI2 : decide ((60 : Int) < (c : Int)) = false := by simp; omega
          have HO := hid (HLK.out.best (by have := HCC.out; omega))
          have HCL : Hid ((came fN).length = c) := by unfold Hid; rw [came_codedN, HCC.out]
          have HK1 := hid (h_refcost5 H3.out H3.out.own.rd (H3.out.old hv) (by omega) (fun a ha => by have := HO.out.good.le a ha; omega) HFB.out)
          go_wp2_with fail
          refine HK1.out.mono ?_
          rintro e w6 ⟨rfl, h1⟩
          have H4 := hid h1
          clear h1
          have HK2 := hid (least_any _ fN m w6 n (H4.out.old hv) HNF.out hn288 HFB.out (by rw [HCL.out]; omega) (by rw [HCL.out]; omega) hm1 hm15)
          go_wp2_with fail
          refine HK2.out.mono ?_
          rintro e w7 ⟨⟨s, z, rfl, hs1, hs2, hs3, hs4⟩, hM⟩
          have HZ : Hid (z = cst l fN) := least_same HO.out hm15 HFB.out (by rw [HCL.out]; omega) (by rw [HCL.out]; omega) hs1 hs2 hs3 hs4
          have HB := hid (H4.out.same hM).below
          clear hs1 hs2 hs3 hs4 hM
          rw [← HZ.out]
          have hzz : ((z : Int) == (z : Int)) = true := by simp
          go_wp2
          go_ret
          exact ⟨rfl, HB.out⟩
  · have hmyI : ((my : Int) != 0) = true := by simp; omega
    have HLN : Hid (l = []) := HL1.out.1 hmy
    obtain rfl : N = 0 := by have := HNL.out; rw [HLN.out] at this; simpa using this
    have HB := hid H2.out.below
    clear hmy
    go_wp2
    go_ret
    exact ⟨rfl, HB.out⟩
end Go.Proofs.Ytcmfccooipnmeaa
