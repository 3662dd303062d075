/-
  The walk of the law LimitOrder, from what Lengths returns.
-/
import Derived.Test.YtcmfccooipnmeaaLawLim0
import Derived.Test.YtcmfccooipnmeaaLimitOrd
import Derived.Test.YtcmfccooipnmeaaLawLim4
namespace Go.Proofs.Ytcmfccooipnmeaa
open Go.RowKit

set_option maxRecDepth 100000 in
set_option maxHeartbeats 3200000 in
theorem limitOrder_from (H : LengthsOK) (v : Value) (f : List Int) (y t : Int) (w : World) (hf : shInts.good w [v] f) (hy : (Lit.int .u8 y).wf = true) (ht : (Lit.int .u16 t).wf = true) :
    Calls Try.prog 5 #[v, .int .u8 y, .int .u16 t] w fun e w' => e = .returned (.bool true) ∧ Below w.heap.size w w' := by
  have hv := ints_of hf
  have hy1 := Go.bounds_u8 hy
  have ht1 := Go.bounds_u16 ht
  clear hf hy ht
  obtain ⟨y, rfl⟩ := Int.eq_ofNat_of_zero_le hy1.1
  obtain ⟨t, rfl⟩ := Int.eq_ofNat_of_zero_le ht1.1
  obtain ⟨n, hn⟩ : ∃ n, n = f.length := ⟨_, rfl⟩
  rw [← hn] at hv
  obtain ⟨ao, cap, rfl, _, _⟩ := hv.form
  obtain ⟨r, hr⟩ : ∃ r, r = y % 14 := ⟨_, rfl⟩
  have hrI : (y : Int) % 14 = (r : Int) := by omega
  obtain ⟨m, hm⟩ : ∃ m, m = r + 1 := ⟨_, rfl⟩
  have hmI : (r : Int) + 1 = (m : Int) := by omega
  have hm1 : 1 ≤ m := by omega
  have hm14 : m ≤ 14 := by omega
  obtain ⟨m2, hm2⟩ : ∃ m2, m2 = m + 1 := ⟨_, rfl⟩
  have hm2I : (m : Int) + 1 = (m2 : Int) := by omega
  have HM2 := hid hm2
  obtain ⟨i0, hi0, hz0, hz1, hz2⟩ := info_parts infoInt4
  have HV := hid hv
  have HN := hid hn
  have HLO := hid H
  have H0 := hid (Held.start w)
  have htb := ht1.2
  have htb0 := ht1.1
  clear hv hn hr hm hm2 H hy1 ht1
  have hcase : 288 < n ∨ ¬ 288 < n ∧ n = 0 ∨ ¬ 288 < n ∧ n ≠ 0 := by omega
  rcases hcase with hc | ⟨hc, hc2⟩ | ⟨hc, hc2⟩
  · have hb0 : decide ((288 : Int) < (n : Int)) = true := by simp; omega
    go_enter Try.func5, Try.ntmps5
    go_wp2_with fail
    refine (h_answers5 HLO.out H0.out).mono ?_
    rintro e w1 ⟨rfl, hM⟩
    have HB := hid hM.below
    clear hM
    go_wp2
    go_ret
    exact ⟨rfl, HB.out⟩
  · have hb0 : decide ((288 : Int) < (n : Int)) = false := by simp; omega
    have hb1 : ((n : Int) == 0) = true := by simp; omega
    clear hc2
    go_enter Try.func5, Try.ntmps5
    go_wp2_with fail
    refine (h_answers5 HLO.out H0.out).mono ?_
    rintro e w1 ⟨rfl, hM⟩
    have HB := hid hM.below
    clear hM
    go_wp2
    go_ret
    exact ⟨rfl, HB.out⟩
  have hb0 : decide ((288 : Int) < (n : Int)) = false := by simp; omega
  have hb1 : ((n : Int) == 0) = false := by simp; omega
  have HMO := hid (fun h : mayOf f (m : Int) = 0 => mayOf_ok h)
  have HMY := hid (refmay_any _ f (m : Int) w n HN.out HV.out (by omega))
  have HMM := hid (show mayOf f (m : Int) = mayOf f (m : Int) from rfl)
  obtain ⟨my, hmye⟩ : ∃ my, my = mayOf f (m : Int) := ⟨_, rfl⟩
  rw [← hmye] at HMY HMO
  have HME := hid hmye
  clear hmye HMM
  by_cases hmy : my = 0
  · have hmyI : ((my : Int) != 0) = false := by simp; omega
    have HMO' := hid (HMO.out hmy)
    have HMZ := hid hmy
    clear hmy
    obtain ⟨fN, hfN⟩ : ∃ fN, f = castL fN := ⟨_, (castL_back f fun a ha => (HMO'.out.2.2.2.1 a ha).1).symm⟩
    subst hfN
    have HNF : Hid (n = fN.length) := by unfold Hid; rw [HN.out, castL_length]
    have HFB : Hid (∀ a ∈ fN, a ≤ 1048576) := by
      intro a ha
      have := HMO'.out.2.2.2.1 (a : Int) (by unfold castL; exact List.mem_map_of_mem ha)
      omega
    have HCD : Hid (codedN fN ≤ 2 ^ m) := by have h := HMO'.out.2.2.2.2; rw [coded_cast, Int.toNat_natCast] at h; exact h
    have HV2 : Hid (Rd w 1 (.slice ao n cap) n (nums .i64 fN)) := by unfold Hid; rw [nums_ints]; exact HV.out
    have hmay1 : mayOf (castL fN) (m : Int) = 0 := by rw [← HME.out]; exact HMZ.out
    have hmay2 : mayOf (castL fN) (m2 : Int) = 0 := may_of (by have := HNF.out; omega) (by have := HM2.out; omega) (by have := HM2.out; omega) HFB.out (by
      have := HCD.out
      have h2 : 2 ^ m ≤ 2 ^ m2 := Nat.pow_le_pow_right (by decide) (by have := HM2.out; omega)
      omega)
    have HE1 := hid (fun (wx : World) (Rs : List Thing) (h : Held w wx Rs) => h_lengths HLO.out h (f := castL fN) (m : Int) (h.old HV.out) (by omega))
    have HE2 := hid (fun (wx : World) (Rs : List Thing) (h : Held w wx Rs) => h_lengths HLO.out h (f := castL fN) (m2 : Int) (h.old HV.out) (by omega))
    rw [hmay1] at HE1
    rw [hmay2] at HE2
    clear hmay1 hmay2
    go_enter Try.func5, Try.ntmps5
    go_wp2_with fail
    refine HMY.out.mono ?_
    rintro e w1 ⟨rfl, rfl⟩
    go_wp2_with fail
    refine (HE1.out _ _ H0.out).mono ?_
    rintro e w1 ⟨lo, lc, N, l, rfl, HNL, h1, HL1⟩
    have H1 := hid h1
    clear h1
    go_wp2_with fail
    refine (HE2.out _ _ H1.out).mono ?_
    rintro e w2 ⟨ko, kc, N2, kk, rfl, HNK, h1, HL2⟩
    have H2 := hid h1
    clear h1
    have HLK : Hid (LenOK fN m l) := by
      have h := HL1.out.2 (by first | rfl | trivial)
      rw [castL_toNat, Int.toNat_natCast] at h; exact h
    have HLK2 : Hid (LenOK fN m2 kk) := by
      have h := HL2.out.2 (by first | rfl | trivial)
      rw [castL_toNat, Int.toNat_natCast] at h; exact h
    obtain rfl : n = N := by rw [HNL.out, HLK.out.len]; exact HNF.out
    obtain rfl : n = N2 := by rw [HNK.out, HLK2.out.len]; exact HNF.out
    go_wp2_with fail
    refine (h_answers5 HLO.out H2.out).mono ?_
    rintro e w3 ⟨rfl, h1⟩
    have H3 := hid h1
    clear h1
    have HLB : Hid (∀ a ∈ l, a ≤ 1048576) := fun a ha => by have := (HLK.out.sound hm1).2.1 a ha; omega
    have HKB : Hid (∀ a ∈ kk, a ≤ 1048576) := fun a ha => by have := (HLK2.out.sound (by have := HM2.out; omega)).2.1 a ha; have := HM2.out; omega
    have HK1 := hid (h_cost5 H3.out H3.out.own.rd (H3.out.old HV2.out) (by omega) HKB.out HFB.out)
    go_wp2_with fail
    refine HK1.out.mono ?_
    rintro e w4 ⟨rfl, h1⟩
    have H4 := hid h1
    clear h1
    have HK2 := hid (h_cost5 H4.out H4.out.swap.own.rd (H4.out.old HV2.out) (by omega) HLB.out HFB.out)
    go_wp2_with fail
    refine HK2.out.mono ?_
    rintro e w5 ⟨rfl, h1⟩
    have H5 := hid h1.swap
    clear h1
    have HMR : Hid (cst kk fN ≤ cst l fN) := by have h := HLK2.out; rw [HM2.out] at h; exact HLK.out.more h
    obtain ⟨z1, hz1'⟩ : ∃ z, z = cst kk fN := ⟨_, rfl⟩
    obtain ⟨z2, hz2'⟩ : ∃ z, z = cst l fN := ⟨_, rfl⟩
    rw [← hz1', ← hz2'] at HMR ⊢
    have HZ2 := hid hz2'
    have hzI : decide ((z2 : Int) < (z1 : Int)) = false := by have := HMR.out; simp; omega
    have hzN : decide (z2 < z1) = false := by have := HMR.out; simp; omega
    clear hz1' hz2'
    go_wp2
    have hv := HV2.out
    go_loopg [12] (n + 1) (fun g t12 wr => ∃ i : Nat, i ≤ n ∧ n - i < g ∧ t12 = .int .i64 (i : Int) ∧ Hid (Held w wr [ownT 3 1 (.slice lo n lc) n (nums .i64 l), ownT 3 1 (.slice ko n kc) n (nums .i64 kk)]))
    case atStart => exact ⟨0, by omega, by omega, rfl, H5⟩
    case round =>
      obtain ⟨i, hi, hg, rfl, HI⟩ := hrel
      obtain ⟨gx, rfl⟩ : ∃ g, g = gk := ⟨gk, rfl⟩
      have hi0' : (0 : Int) ≤ (i : Int) := Int.natCast_nonneg _
      by_cases hin : i < n
      · have hi1 : (i : Int) < (n : Int) := by omega
        obtain ⟨c, hcg⟩ := get_some (l := fN) (i := i) (by have := HNF.out; omega)
        obtain ⟨a, hag⟩ := get_some (l := l) (i := i) (by have := HNL.out; omega)
        have HCG := hid hcg
        have HAG := hid hag
        clear hcg hag
        obtain ⟨g1, off1, rfl, _⟩ := hv.spot (by omega)
        obtain ⟨g2, off2, rfl, _⟩ := HI.out.own.rd.spot (by omega)
        go_wp2
        go_loopg [13] (n + 1) (fun g t13 wr => ∃ j : Nat, j ≤ n ∧ n - j < g ∧ t13 = .int .i64 (j : Int) ∧ Hid (Held w wr [ownT 3 1 (.slice (some ⟨g2, off2, none⟩) n lc) n (nums .i64 l), ownT 3 1 (.slice ko n kc) n (nums .i64 kk)]))
        case atStart => exact ⟨0, by omega, by omega, rfl, HI⟩
        case round =>
          obtain ⟨j, hj, hg2, rfl, HJ⟩ := hrel
          have hj0 : (0 : Int) ≤ (j : Int) := Int.natCast_nonneg _
          by_cases hjn : j < n
          · have hj1 : (j : Int) < (n : Int) := by omega
            obtain ⟨d, hdg⟩ := get_some (l := fN) (i := j) (by have := HNF.out; omega)
            obtain ⟨b, hbg⟩ := get_some (l := l) (i := j) (by have := HNL.out; omega)
            have hc1 := (HJ.out.old hv).at (show (nums .i64 fN)[i]? = some (.int .i64 (c : Int)) by rw [nums_get, HCG.out]; rfl)
            have hc2 := (HJ.out.old hv).at (show (nums .i64 fN)[j]? = some (.int .i64 (d : Int)) by rw [nums_get, hdg]; rfl)
            have hc3 := HJ.out.own.rd.at (show (nums .i64 l)[i]? = some (.int .i64 (a : Int)) by rw [nums_get, HAG.out]; rfl)
            have hc4 := HJ.out.own.rd.at (show (nums .i64 l)[j]? = some (.int .i64 (b : Int)) by rw [nums_get, hbg]; rfl)
            have HORD := hid (fun h0 hdc => HLK.out.order HAG.out hbg HCG.out hdg h0 hdc)
            clear hdg hbg
            have h3 : ¬ d < c ∨ d < c ∧ ¬ 0 < d ∨ d < c ∧ 0 < d := by omega
            rcases h3 with h3 | ⟨h3, h4⟩ | ⟨h3, h4⟩
            · have hb2 : decide ((d : Int) < (c : Int)) = false := by simp; omega
              have hb3 : decide (d < c) = false := by simp; omega
              clear h3
              go_wp2
              go_quiet (fail)
              go_wp2
              go_roundg (gk - 1)
              case measure => omega
              case rel => exact ⟨j + 1, by omega, by omega, by go_num, HJ.out.drewN _⟩
            · have hb2 : decide ((d : Int) < (c : Int)) = true := by simp; omega
              have hb3 : decide (d < c) = true := by simp; omega
              have hb4 : decide ((0 : Int) < (d : Int)) = false := by simp; omega
              have hb5 : decide (0 < d) = false := by simp; omega
              clear h3 h4
              go_wp2
              go_quiet (fail)
              go_wp2
              go_roundg (gk - 1)
              case measure => omega
              case rel => exact ⟨j + 1, by omega, by omega, by go_num, HJ.out.drewN _⟩
            · have hab := HORD.out h4 h3
              have hb2 : decide ((d : Int) < (c : Int)) = true := by simp; omega
              have hb3 : decide (d < c) = true := by simp; omega
              have hb4 : decide ((0 : Int) < (d : Int)) = true := by simp; omega
              have hb5 : decide (0 < d) = true := by simp; omega
              have hb6 : decide ((b : Int) < (a : Int)) = false := by simp; omega
              have hb7 : decide (b < a) = false := by simp; omega
              clear h3 h4 hab
              go_wp2
              go_quiet (fail)
              go_wp2
              go_roundg (gk - 1)
              case measure => omega
              case rel => exact ⟨j + 1, by omega, by omega, by go_num, HJ.out.drewN _⟩
          · have hj1 : ¬ (j : Int) < (n : Int) := by omega
            go_wp2
            go_roundg (gx - 1)
            case measure => omega
            case rel => exact ⟨i + 1, by omega, by omega, by go_num, HJ⟩
      · have hi1 : ¬ (i : Int) < (n : Int) := by omega
        obtain ⟨u, hu⟩ : ∃ u, u = t % n := ⟨_, rfl⟩
        have huI : (t : Int) % (n : Int) = (u : Int) := by omega
        have hun : u < n := by rw [hu]; exact Nat.mod_lt _ (by omega)
        have hnpI : (0 : Int) < (n : Int) := by omega
        clear hu
        go_wp2
        try rw [huI]
        obtain ⟨q, hq⟩ : ∃ q, q = n - u := ⟨_, rfl⟩
        obtain ⟨a1, ha1⟩ : ∃ a1 : Option Addr, a1 = (if cap = u then ao else ao.map fun (x : Addr) => x.add (u * 1)) := ⟨_, rfl⟩
        obtain ⟨a2, ha2⟩ : ∃ a2 : Option Addr, a2 = (if cap = 0 then ao else ao.map fun (x : Addr) => x.add (0 * 1)) := ⟨_, rfl⟩
        obtain ⟨_, _, _, hnc, _⟩ := hv.form
        have hcapn : n ≤ cap := by
          obtain ⟨ao', cap', hvv, h1, _⟩ := hv.form
          simp only [Value.slice.injEq, true_and] at hvv
          rw [hvv.2]; exact h1
        have e1 : sliced ao u n cap 1 = .slice a1 q (cap - u) := by rw [ha1, hq]; rfl
        have e2 : sliced ao 0 u cap 1 = .slice a2 u cap := by rw [ha2]; rfl
        have hcut1 : ∀ wx : World, (Instr.sliceAt 22 (.slice ao n cap) (some (.int .i64 (u : Int))) none none).run Try.prog wx = .ok (.slice a1 q (cap - u)) wx := fun wx => by
          rw [← e1]
          exact run_cut 22 3 i0 1 Try.underlying22 hi0 hz1 ao n cap u n _ _ ⟨_, rfl⟩ rfl (by omega) hcapn
        have hcut2 : ∀ wx : World, (Instr.sliceAt 22 (.slice ao n cap) none (some (.int .i64 (u : Int))) none).run Try.prog wx = .ok (.slice a2 u cap) wx := fun wx => by
          rw [← e2]
          exact run_cut 22 3 i0 1 Try.underlying22 hi0 hz1 ao n cap 0 u _ _ rfl ⟨_, rfl⟩ (by omega) (by omega)
        have HQ0 := hid (HI.out.lit 3 1 [] 0 (by decide) rfl).drew
        have HX1 : Hid (((nums .i64 fN).drop (u * 1)).take ((n - u) * 1) = nums .i64 (fN.drop u)) := by
          unfold Hid
          rw [Nat.mul_one, Nat.mul_one, List.take_of_length_le (by simp [nums]; have := HNF.out; omega)]
          simp [nums]
        have HX2 : Hid (((nums .i64 fN).drop (0 * 1)).take ((u - 0) * 1) = nums .i64 (fN.take u)) := by
          unfold Hid; simp [nums, List.map_take]
        have HR1 : Hid (∀ wx, Rd wx 1 (.slice ao n cap) n (nums .i64 fN) → Rd wx 1 (.slice a1 q (cap - u)) q (nums .i64 (fN.drop u))) := by
          intro wx h
          have h2 := h.cut (L := u) (H := n) (by omega) (Nat.le_refl _)
          rw [e1, HX1.out, ← hq] at h2; exact h2
        have HR2 : Hid (∀ wx, Rd wx 1 (.slice ao n cap) n (nums .i64 fN) → Rd wx 1 (.slice a2 u cap) u (nums .i64 (fN.take u))) := by
          intro wx h
          have h2 := h.cut (L := 0) (H := u) (by omega) (by omega)
          rw [e2, HX2.out, Nat.sub_zero] at h2; exact h2
        have HQN := hid (show q + u = n by omega)
        clear hq ha1 ha2 e1 e2
        go_wp2
        go_region_law (first
          | (refine step_app _ (by rfl) (.tmp 113) (.tmp 116) 22 (by rfl) 3 i0 (.int .i64 0) 1 8 Try.underlying22 hi0 hz0 hz1 hz2 (by rfl) (by decide) _ 0 [] (by with_unfolding_all rfl) (by exact HQ0.out.own) (.slice a1 q (cap - u)) q (nums .i64 (fN.drop u)) (by with_unfolding_all rfl) (by exact HR1.out _ (HQ0.out.old hv)) (by exact nums_one .i64 _) (by unfold maxLen; have := HQN.out; omega) (by have := HQN.out; omega) ?_; intro ao1 cap1 w6 hown1 hgrow1 hat1; have HQ1 := hid (HQ0.out.app hown1 hgrow1 hat1); rw [Nat.zero_add] at HQ1; clear hown1 hgrow1 hat1)
          | (refine step_app _ (by rfl) (.tmp 117) (.tmp 120) 22 (by rfl) 3 i0 (.int .i64 0) 1 8 Try.underlying22 hi0 hz0 hz1 hz2 (by rfl) (by decide) (.slice ao1 q cap1) q ([] ++ nums .i64 (fN.drop u)) (by with_unfolding_all rfl) (by exact HQ1.out.own) (.slice a2 u cap) u (nums .i64 (fN.take u)) (by with_unfolding_all rfl) (by exact HR2.out _ (HQ1.out.old hv)) (by exact nums_one .i64 _) (by unfold maxLen; have := HQN.out; omega) (by have := HQN.out; omega) ?_; intro ao2 cap2 w7 hown2 hgrow2 hat2; have HQ2 := hid (HQ1.out.app hown2 hgrow2 hat2); clear hown2 hgrow2 hat2))
        all_goals
          have HT : Hid (Held w w7 [ownT 3 1 (.slice ao2 (q + u) cap2) (q + u) (nums .i64 (fN.drop u ++ fN.take u)), ownT 3 1 (.slice lo n lc) n (nums .i64 l), ownT 3 1 (.slice ko n kc) n (nums .i64 kk)]) := by
            have h := HQ2.out
            simp only [List.nil_append] at h
            rw [nums_app4]; exact h
          have hqu : q + u < 1000 := by have := HQN.out; omega
          have HTL : Hid ((fN.drop u ++ fN.take u).length = n) := by
            unfold Hid; rw [List.length_append, List.length_drop, List.length_take]; have := HNF.out; omega
          have HTB : Hid (∀ a ∈ fN.drop u ++ fN.take u, a ≤ 1048576) := by
            intro a ha
            rcases List.mem_append.1 ha with h | h
            · exact HFB.out a (List.mem_of_mem_drop h)
            · exact HFB.out a (List.mem_of_mem_take h)
          have hmay3 : mayOf (castL (fN.drop u ++ fN.take u)) (m : Int) = 0 := may_of (by rw [HTL.out]; omega) hm1 (by omega) HTB.out (by
            have h := HCD.out
            rw [← List.take_append_drop u fN, codedN_append] at h
            rw [codedN_append]; omega)
          have HE3 := hid (h_lengths HLO.out HT.out (f := castL (fN.drop u ++ fN.take u)) (m : Int) (by have h := HT.out.own.rd; rw [nums_ints] at h; exact h) hqu)
          rw [hmay3] at HE3
          clear hmay3
          go_wp2_with fail
          refine HE3.out.mono ?_
          rintro e w8 ⟨xo, xc, N3, xx, rfl, HNX, h1, HL3⟩
          have H6 := hid h1
          clear h1
          have HLK3 : Hid (LenOK (fN.drop u ++ fN.take u) m xx) := by
            have h := HL3.out.2 (by first | rfl | trivial)
            rw [castL_toNat, Int.toNat_natCast] at h; exact h
          have HTURN : Hid (cst xx (fN.drop u ++ fN.take u) = cst l fN) := by
            have h := HLK.out
            rw [← List.take_append_drop u fN] at h
            have h2 := h.turn HLK3.out
            rw [List.take_append_drop] at h2; exact h2
          have HN3 : Hid (N3 = q + u) := by unfold Hid; rw [HNX.out, HLK3.out.len, HTL.out]; exact HQN.out.symm
          obtain rfl := HN3.out
          have HXB : Hid (∀ a ∈ xx, a ≤ 1048576) := fun a ha => by have := (HLK3.out.sound hm1).2.1 a ha; omega
          have HK3 := hid (h_cost5 H6.out H6.out.own.rd H6.out.swap.own.rd (by omega) HXB.out HTB.out)
          rw [HTURN.out] at HK3
          go_wp2_with fail
          refine HK3.out.mono ?_
          rintro e w9 ⟨rfl, h1⟩
          have H7 := hid h1
          clear h1
          have HK4 := hid (h_cost5 H7.out H7.out.third.own.rd (H7.out.old hv) (by omega) HLB.out HFB.out)
          go_wp2_with fail
          refine HK4.out.mono ?_
          rintro e w10 ⟨rfl, h1⟩
          have HB := hid h1.below
          clear h1
          generalize cst l fN = z3
          have hzz : ((z3 : Int) == (z3 : Int)) = true := by simp
          go_wp2
          go_ret
          exact ⟨rfl, HB.out⟩
  · have hmyI : ((my : Int) != 0) = true := by simp; omega
    clear hmy
    go_enter Try.func5, Try.ntmps5
    go_wp2_with fail
    refine HMY.out.mono ?_
    rintro e w1 ⟨rfl, rfl⟩
    go_wp2_with fail
    refine (h_answers5 HLO.out H0.out).mono ?_
    rintro e w1 ⟨rfl, hM⟩
    have HB := hid hM.below
    clear hM
    go_wp2
    go_ret
    exact ⟨rfl, HB.out⟩
end Go.Proofs.Ytcmfccooipnmeaa
