/-
  The walk of the law CodeSplits.
-/
import Derived.Test.YthjmjaeffdcfcaaLawCode0
import Derived.Test.YthjmjaeffdcfcaaLawCode4
import Derived.Test.YthjmjaeffdcfcaaSplitMath
import Derived.Test.YthjmjaeffdcfcaaHeldApp
import Derived.Test.YthjmjaeffdcfcaaPut
namespace Go.Proofs.Ythjmjaeffdcfcaa
open Go.RowKit

theorem infoInt5 : (Try.prog.info? 3).map (fun i => (i.zero, i.size, i.bytes)) = some (some (Value.int .i64 0), 1, 8) := by kernel_rfl
theorem ints_set (l : List Int) (i : Nat) (b : Int) : (ints l).set i (.int .i64 b) = ints (l.set i b) := by simp [ints, List.map_set]
theorem Held.litAt {w0 w : World} {Rs : List Thing} (h : Held w0 w Rs) (e : TypeId) (size : Nat) (cs : List Value) (n : Nat) (hm : n ≤ maxLen) (hs : cs.length = n * size) (N : Nat) (hN : w.heap.size = N) :
    Held w0 (w.alloc (.cells cs.toArray e)) (ownT e size (.slice (some ⟨N, 0, none⟩) n n) n cs :: Rs) := by
  subst hN
  exact h.lit e size cs n hm hs
set_option maxRecDepth 100000 in
set_option maxHeartbeats 3200000 in
theorem codeSplits_walk (v : Value) (l : List Int) (a : Int) (w : World) (hl : shInts.good w [v] l) (ha : (Lit.int .u16 a).wf = true) :
    Calls Try.prog 7 #[v, .int .u16 a] w fun e w' => e = .returned (.bool true) ∧ Below w.heap.size w w' := by
  have hv := ints_of hl
  clear hl
  have h2a := Go.bounds_u16 ha
  clear ha
  obtain ⟨x, rfl⟩ := Int.eq_ofNat_of_zero_le h2a.1
  obtain ⟨n, hn⟩ : ∃ n, n = l.length := ⟨_, rfl⟩
  rw [← hn] at hv
  obtain ⟨ao, cap, rfl, _, _⟩ := hv.form
  obtain ⟨i0, hi0, hz0, hz1, hz2⟩ := info_parts infoInt5
  have HV := hid hv
  have H0 := hid (Held.start w)
  have HN := hid hn
  clear hv hn
  have h3 : n < 2 ∨ 2 ≤ n ∧ 280 < n ∨ 2 ≤ n ∧ n ≤ 280 := by omega
  rcases h3 with h3 | ⟨h3, h4⟩ | ⟨h3, h4⟩
  · have h3I : decide ((n : Int) < 2) = true := by simp; omega
    go_enter Try.func7, Try.ntmps7
    go_wp2_with fail
    refine (h_answers H0.out).mono ?_
    rintro e w1 ⟨rfl, hM⟩
    have HB := hid hM.below
    clear hM
    go_wp2
    go_ret
    exact ⟨rfl, HB.out⟩
  · have h3I : decide ((n : Int) < 2) = false := by simp; omega
    have h4I : decide ((280 : Int) < (n : Int)) = true := by simp; omega
    go_enter Try.func7, Try.ntmps7
    go_wp2_with fail
    refine (h_answers H0.out).mono ?_
    rintro e w1 ⟨rfl, hM⟩
    have HB := hid hM.below
    clear hM
    go_wp2
    go_ret
    exact ⟨rfl, HB.out⟩
  have h3I : decide ((n : Int) < 2) = false := by simp; omega
  have h4I : decide ((280 : Int) < (n : Int)) = false := by simp; omega
  have HOK := hid (fun h : checkOf l 15 = 0 => check_ok h)
  have HC := hid (h_check H0.out 15 HV.out (by omega))
  generalize checkOf l 15 = cv at HOK HC
  by_cases hcv : cv = 0
  · have hcI : ((cv : Int) != 0) = false := by simp; omega
    have HOK' := hid (HOK.out hcv)
    clear hcv
    obtain ⟨s, hs⟩ : ∃ s, s = sumOf l := ⟨_, rfl⟩
    have HS := hid hs
    clear hs
    go_enter Try.func7, Try.ntmps7
    go_wp2_with fail
    refine HC.out.mono ?_
    rintro e w1 ⟨rfl, h2⟩
    have H1 := hid h2
    clear h2
    go_wp2_with fail
    refine (h_refsum H1.out (H1.out.old HV.out) (by omega)).mono ?_
    rw [← HS.out]
    rintro e w2 ⟨rfl, h2⟩
    have H2 := hid h2
    clear h2
    by_cases hs3 : s = 32768
    · have hsI : ((s : Int) != 32768) = false := by simp; omega
      have HSL : Hid (sumOf l = 32768) := by unfold Hid; rw [← HS.out]; exact hs3
      obtain ⟨k, hk⟩ : ∃ k, k = x % n := ⟨_, rfl⟩
      have hkI : (x : Int) % (n : Int) = (k : Int) := by omega
      have hkn : k < n := by rw [hk]; exact Nat.mod_lt _ (by omega)
      have hk0 : (0 : Int) ≤ (k : Int) := Int.natCast_nonneg _
      have hk1 : (k : Int) < (n : Int) := by omega
      have hnp : (0 : Int) < (n : Int) := by omega
      have hnb : ((n : Int) == 0) = false := by simp; omega
      obtain ⟨p, hp, hpr⟩ := ints_at (l := l) (i := k) (by have := HN.out; omega) HOK'.out.1
      have E1 : Hid ((ints l)[k]? = some (.int .i64 (p : Int))) := by unfold Hid; rw [ints_get, hp]; rfl
      obtain ⟨g1, off1, rfl, _⟩ := HV.out.spot (by omega)
      have hc1 := (H2.out.old HV.out).at E1.out
      have HP := hid hp
      clear hk hs3 hp
      have h5 : p = 0 ∨ p ≠ 0 ∧ p = 15 ∨ p ≠ 0 ∧ p ≠ 15 := by omega
      rcases h5 with h5 | ⟨h5, h6⟩ | ⟨h5, h6⟩
      · have hb0 : ((p : Int) == 0) = true := by simp; omega
        clear h5
        go_wp2_with fail
        refine (h_answers H2.out).mono ?_
        rintro e w3 ⟨rfl, hM⟩
        have HB := hid hM.below
        clear hM
        go_wp2
        go_ret
        exact ⟨rfl, HB.out⟩
      · have hb0 : ((p : Int) == 0) = false := by simp; omega
        have hb1 : ((p : Int) == 15) = true := by simp; omega
        clear h5 h6
        go_wp2_with fail
        refine (h_answers H2.out).mono ?_
        rintro e w3 ⟨rfl, hM⟩
        have HB := hid hM.below
        clear hM
        go_wp2
        go_ret
        exact ⟨rfl, HB.out⟩
      · have hb0 : ((p : Int) == 0) = false := by simp; omega
        have hb1 : ((p : Int) == 15) = false := by simp; omega
        have H3 := hid (H2.out.lit 3 1 [] 0 (by decide) rfl)
        have HH5 := hid h5
        have HH6 := hid h6
        clear h5 h6
        go_wp2_with (first
          | ((with_reducible show wpList _ _ _ (⟨some 49, _, _, _, _, _⟩ :: _) _ _); refine wpList_app_held rfl (.tmp 47) (.tmp 48) 22 rfl 3 i0 (.int .i64 0) 1 8 Try.underlying22 hi0 hz0 hz1 hz2 rfl (by decide) _ 0 [] rfl H3.out _ n (ints l) rfl (H3.out.old HV.out) (ints_one l) n (by omega) (by unfold maxLen; omega) (by omega) ?_; intro ao1 cap1 w3 h1; obtain ⟨g2, off2, rfl, hocell, hofr, hoput⟩ := h1.own.site (by omega); have hc2 := hocell k _ E1.out; have hf2 := hofr k; have H5 := hid (h1.putOwn (hoput k (.int .i64 ((p : Int) + 1)) hkn) (Mod.set w3 g2 (off2 + k) _)); clear h1 hocell hofr hoput)
          | ((with_reducible show wpList _ _ _ (⟨some 62, _, _, _, _, _⟩ :: _) _ _); have H6 := hid ((H5.out.litAt 3 1 [.int .i64 ((p : Int) + 1)] 1 (by decide) rfl w3.heap.size (by simp [World.setCell])).swap); refine wpList_app_held rfl (.tmp 56) (.tmp 61) 22 rfl 3 i0 (.int .i64 0) 1 8 Try.underlying22 hi0 hz0 hz1 hz2 rfl (by decide) _ n ((ints l).set k (.int .i64 ((p : Int) + 1))) rfl H6.out _ 1 [.int .i64 ((p : Int) + 1)] rfl H6.out.swap.own.rd (by simp [Value.oneCell']) (n + 1) rfl (by unfold maxLen; omega) (by omega) ?_; intro ao2 cap2 w4 h1; have H7 := hid h1; have H8 := hid (h1.lit 3 1 [] 0 (by decide) rfl); clear h1)
          | ((with_reducible show wpList _ _ _ (⟨some 65, _, _, _, _, _⟩ :: _) _ _); refine wpList_app_held rfl (.tmp 63) (.tmp 64) 22 rfl 3 i0 (.int .i64 0) 1 8 Try.underlying22 hi0 hz0 hz1 hz2 rfl (by decide) _ 0 [] rfl H8.out _ n (ints l) rfl (H8.out.old HV.out) (ints_one l) n (by omega) (by unfold maxLen; omega) (by omega) ?_; intro ao3 cap3 w5 h1; obtain ⟨g4, off4, rfl, hocell, hofr, hoput⟩ := h1.own.site (by omega); have hc4 := hocell k _ E1.out; have hf4 := hofr k; have H9 := hid (h1.putOwn (hoput k (.int .i64 0) hkn) (Mod.set w5 g4 (off4 + k) _)); clear h1 hocell hofr hoput))
        have HX : Hid (Held w (w5.setCell ⟨g4, off4 + k, none⟩ (.int .i64 0)) (ownT 3 1 (.slice (some ⟨g4, off4, none⟩) n cap3) n (ints (l.set k 0)) :: ownT 3 1 (.slice ao2 (n + 1) cap2) (n + 1) (ints (l.set k ((p + 1 : Nat) : Int) ++ [((p + 1 : Nat) : Int)])) :: [])) := by
          have h := H9.out.two
          simp only [List.nil_append, ints_set] at h
          rw [show ((p + 1 : Nat) : Int) = (p : Int) + 1 by omega, ints_append]
          exact h
        generalize w5.setCell ⟨g4, off4 + k, none⟩ (.int .i64 0) = w6 at HX ⊢
        have HXC : Hid (checkOf (l.set k ((p + 1 : Nat) : Int) ++ [((p + 1 : Nat) : Int)]) 15 = 0) := split_check HOK'.out.1 (by have := HN.out; omega) HSL.out HP.out (by have := HH5.out; omega) (by have := HH6.out; omega)
        have HXS : Hid (sumOf (l.set k ((p + 1 : Nat) : Int) ++ [((p + 1 : Nat) : Int)]) = 32768) := split_sum HSL.out HP.out (by have := HH5.out; omega) (by have := HH6.out; omega)
        have HYC : Hid (coded l ≠ 2 → checkOf (l.set k 0) 15 = 3) := gone_check HOK'.out.1 (by have := HN.out; omega) HSL.out HP.out (by have := HH5.out; omega) (by have := HH6.out; omega)
        have HM15 : Hid (checkOf (l ++ [15]) 15 = 3) := more_check HOK'.out.1 (by have := HN.out; omega) HSL.out
        clear hc1 hc2 hf2 hc4 hf4
        go_loopg [8, 9] (n + 1) (fun k t8 t9 wr => ∃ (i c : Nat), i ≤ n ∧ n - i < k ∧ t9 = .int .i64 (i : Int) ∧ t8 = .int .i64 (c : Int) ∧ c ≤ i ∧ Hid (c = coded (l.take i)) ∧ wr = w6)
        case atStart => exact ⟨0, 0, by omega, by omega, rfl, rfl, by omega, rfl, rfl⟩
        case round =>
          obtain ⟨i, c, hi, hk2, rfl, rfl, hc, HCO, rfl⟩ := hrel
          have hi0' : (0 : Int) ≤ (i : Int) := Int.natCast_nonneg _
          by_cases hin : i < n
          · have hi1 : (i : Int) < (n : Int) := by omega
            obtain ⟨q, hq, hqr⟩ := ints_at (l := l) (i := i) (by have := HN.out; omega) HOK'.out.1
            have E2 : Hid ((ints l)[i]? = some (.int .i64 (q : Int))) := by unfold Hid; rw [ints_get, hq]; rfl
            have hc1 := (HX.out.old HV.out).at E2.out
            have HCT := hid (coded_take l i q hq)
            clear hq
            by_cases hq0 : 0 < q
            · have hqI : (0 : Int) < (q : Int) := by omega
              have HC1 : Hid (c + 1 = coded (l.take (i + 1))) := by unfold Hid; rw [HCT.out, if_pos hq0, ← HCO.out]
              go_wp2
              go_roundg (gk - 1)
              case measure => omega
              case rel => exact ⟨i + 1, c + 1, by omega, by omega, by go_num, by go_num, by omega, HC1, rfl⟩
            · have hqI : ¬ (0 : Int) < (q : Int) := by omega
              have HC1 : Hid (c = coded (l.take (i + 1))) := by unfold Hid; rw [HCT.out, if_neg hq0, ← HCO.out]; rfl
              go_wp2
              go_roundg (gk - 1)
              case measure => omega
              case rel => exact ⟨i + 1, c, by omega, by omega, by go_num, rfl, by omega, HC1, rfl⟩
          · have hi1 : ¬ (i : Int) < (n : Int) := by omega
            have HCL : Hid (c = coded l) := by unfold Hid; rw [HCO.out, List.take_of_length_le (by have := HN.out; omega)]
            go_wp2_with fail
            refine (h_answers HX.out).mono ?_
            rintro e w7 ⟨rfl, h1⟩
            have HB1 := hid h1
            clear h1
            go_wp2_with fail
            refine (h_check HB1.out 15 HB1.out.swap.own.rd (by omega)).mono ?_
            rw [HXC.out]
            rintro e w8 ⟨rfl, h1⟩
            have HB2 := hid h1
            clear h1
            go_wp2_with fail
            refine (h_sum HB2.out HB2.out.swap.own.rd (by omega)).mono ?_
            rw [HXS.out]
            by_cases hc2 : c = 2
            · rintro e w8' ⟨rfl, h1⟩
              have HB3 := hid h1
              clear h1
              have hcI : ((c : Int) == 2) = true := by simp; omega
              clear hc2
              have HZ := hid (HB3.out.lit 3 1 [] 0 (by decide) rfl)
              go_wp2_with (first
                | ((with_reducible show wpList _ _ _ (⟨some 105, _, _, _, _, _⟩ :: _) _ _); refine wpList_app_held' rfl (.tmp 103) (.tmp 104) 22 rfl 3 i0 (.int .i64 0) 1 8 Try.underlying22 hi0 hz0 hz1 hz2 rfl (by decide) _ 0 [] rfl HZ.out _ n (ints l) rfl (HZ.out.old HV.out) (ints_one l) n (by omega) (by unfold maxLen; omega) (by omega) ?_; intro ao5 cap5 w9 h1; have HZ1 := hid ((h1.lit 3 1 [.int .i64 15] 1 (by decide) rfl).swap); clear h1)
                | ((with_reducible show wpList _ _ _ (⟨some 107, _, _, _, _, _⟩ :: _) _ _); refine wpList_app_held' rfl (.tmp 105) (.tmp 106) 22 rfl 3 i0 (.int .i64 0) 1 8 Try.underlying22 hi0 hz0 hz1 hz2 rfl (by decide) _ n (ints l) rfl HZ1.out _ 1 [.int .i64 15] rfl HZ1.out.swap.own.rd (by simp [Value.oneCell']) (n + 1) rfl (by unfold maxLen; omega) (by omega) ?_; intro ao6 cap6 w10 h1; have HZ2 := hid h1; clear h1))
              have HZ3 : Hid (Held w w10 (ownT 3 1 (.slice ao6 (n + 1) cap6) (n + 1) (ints (l ++ [15])) :: [])) := by
                have h := HZ2.out.one
                rw [ints_append]; exact h
              refine (h_check HZ3.out 15 HZ3.out.own.rd (by omega)).mono ?_
              rw [HM15.out]
              rintro e w11 ⟨rfl, h1⟩
              have HF := hid h1.below
              clear h1
              go_wp2
              go_ret
              exact ⟨rfl, HF.out⟩
            · have HY := hid (HYC.out (by rw [← HCL.out]; exact hc2))
              rintro e w8' ⟨rfl, h1⟩
              have HB2' := hid h1
              clear h1
              have hcI : ((c : Int) == 2) = false := by simp; omega
              clear hc2
              go_wp2_with fail
              refine (h_check HB2'.out 15 HB2'.out.own.rd (by omega)).mono ?_
              rw [HY.out]
              rintro e w8'' ⟨rfl, h1⟩
              have HB3 := hid h1
              clear h1
              have HZ := hid (HB3.out.lit 3 1 [] 0 (by decide) rfl)
              go_wp2_with (first
                | ((with_reducible show wpList _ _ _ (⟨some 105, _, _, _, _, _⟩ :: _) _ _); refine wpList_app_held' rfl (.tmp 103) (.tmp 104) 22 rfl 3 i0 (.int .i64 0) 1 8 Try.underlying22 hi0 hz0 hz1 hz2 rfl (by decide) _ 0 [] rfl HZ.out _ n (ints l) rfl (HZ.out.old HV.out) (ints_one l) n (by omega) (by unfold maxLen; omega) (by omega) ?_; intro ao5 cap5 w9 h1; have HZ1 := hid ((h1.lit 3 1 [.int .i64 15] 1 (by decide) rfl).swap); clear h1)
                | ((with_reducible show wpList _ _ _ (⟨some 107, _, _, _, _, _⟩ :: _) _ _); refine wpList_app_held' rfl (.tmp 105) (.tmp 106) 22 rfl 3 i0 (.int .i64 0) 1 8 Try.underlying22 hi0 hz0 hz1 hz2 rfl (by decide) _ n (ints l) rfl HZ1.out _ 1 [.int .i64 15] rfl HZ1.out.swap.own.rd (by simp [Value.oneCell']) (n + 1) rfl (by unfold maxLen; omega) (by omega) ?_; intro ao6 cap6 w10 h1; have HZ2 := hid h1; clear h1))
              have HZ3 : Hid (Held w w10 (ownT 3 1 (.slice ao6 (n + 1) cap6) (n + 1) (ints (l ++ [15])) :: [])) := by
                have h := HZ2.out.one
                rw [ints_append]; exact h
              refine (h_check HZ3.out 15 HZ3.out.own.rd (by omega)).mono ?_
              rw [HM15.out]
              rintro e w11 ⟨rfl, h1⟩
              have HF := hid h1.below
              clear h1
              go_wp2
              go_ret
              exact ⟨rfl, HF.out⟩
    · have hsI : ((s : Int) != 32768) = true := by simp; omega
      clear hs3
      go_wp2_with fail
      refine (h_answers H2.out).mono ?_
      rintro e w3 ⟨rfl, hM⟩
      have HB := hid hM.below
      clear hM
      go_wp2
      go_ret
      exact ⟨rfl, HB.out⟩
  · have hcI : ((cv : Int) != 0) = true := by simp; omega
    clear hcv
    go_enter Try.func7, Try.ntmps7
    go_wp2_with fail
    refine HC.out.mono ?_
    rintro e w1 ⟨rfl, h2⟩
    have H1 := hid h2
    clear h2
    go_wp2_with fail
    refine (h_answers H1.out).mono ?_
    rintro e w1 ⟨rfl, hM⟩
    have HB := hid hM.below
    clear hM
    go_wp2
    go_ret
    exact ⟨rfl, HB.out⟩
end Go.Proofs.Ythjmjaeffdcfcaa
