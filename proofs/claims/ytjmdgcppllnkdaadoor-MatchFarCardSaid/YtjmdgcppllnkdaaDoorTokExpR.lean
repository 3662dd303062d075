/-
  The reference's Expand.
-/
import Derived.Test.YtjmdgcppllnkdaaDoorTokList
import Derived.Test.YtjmdgcppllnkdaaDoorHeldApp
import Derived.Test.YtjmdgcppllnkdaaDoorPut
import Derived.Test.YtjmdgcppllnkdaaDoorFam
namespace Go.Proofs.YtjmdgcppllnkdaaDoor
open Go.RowKit

theorem infoByte8r : (Tryd.prog.info? 5).map (fun i => (i.zero, i.size, i.bytes)) = some (some (.int .u8 0), 1, 1) := by kernel_rfl
set_option maxRecDepth 100000 in
set_option maxHeartbeats 3200000 in
theorem refexpand_any (v : Value) (n : Nat) (l : List Tok) (w : World) (hv : Rd w 3 v n (toksV l)) (hok : byteOK l) (hn : n < 1000000000) :
    Calls Tryd.prog 11 #[v] w fun e w' => ∃ u, e = .returned (.tuple #[u, .int .i64 (((expT [] l).1 : Nat) : Int)]) ∧ Held w w' [ownT 5 1 u (expT [] l).2.length (u8s (expT [] l).2)] := by
  obtain ⟨i0, hi0, hz0, hz1, hz2⟩ := info_parts infoByte8r
  obtain ⟨ao, cap, rfl, _, _⟩ := hv.form
  have HL := hid hv.toks_len
  have HV := hid hv
  have HOK := hid hok
  have hn0 : (0 : Int) ≤ (n : Int) := Int.natCast_nonneg _
  have H1 := hid (Held.start w)
  clear hv hok
  go_enter Tryd.func11, Tryd.ntmps11
  go_wp2
  go_loopg [4, 5] (n + 2) (fun k t4 t5 wr => ∃ (i m : Nat) (A : List Nat) (a4 : Option Addr) (c4 : Nat), i ≤ n ∧ n - i < k ∧ t5 = .int .i64 (i : Int) ∧ t4 = .slice a4 m c4 ∧ Hid (m = A.length) ∧ m ≤ 16777216 ∧ Hid (∀ b ∈ A, b < 256) ∧ Hid (expT [] l = expT A (l.drop i)) ∧
    Hid (Held w wr [ownT 5 1 (.slice a4 m c4) m (u8s A)]))
  case atStart => exact ⟨0, 0, [], none, 0, by omega, by omega, rfl, rfl, rfl, by omega, hid (by simp), rfl, hid (H1.out.nil 5 1)⟩
  case round =>
    obtain ⟨i, m, A, a4, c4, hi, hk, rfl, rfl, HM, hm, HA, HE, HH⟩ := hrel
    obtain ⟨gx, rfl⟩ : ∃ g, g = gk := ⟨gk, rfl⟩
    have hi0' : (0 : Int) ≤ (i : Int) := Int.natCast_nonneg _
    have hm0 : (0 : Int) ≤ (m : Int) := Int.natCast_nonneg _
    by_cases hin : i < n
    · have hiI : (i : Int) < (n : Int) := by omega
      obtain ⟨⟨ta, tl, td⟩, ht⟩ : ∃ t, l[i]? = some t := ⟨l[i]'(by have := HL.out; omega), List.getElem?_eq_getElem _⟩
      obtain ⟨g, off, rfl, c0, c1, c2⟩ := (HH.out.old HV.out).tok ht
      have HT := hid ht
      have hta := HOK.out _ (List.mem_of_getElem? ht)
      simp only at hta
      clear ht
      have HS := hid (refSound_any (ta, tl, td))
      unfold tokV at HS
      simp only at HS
      have HTD := hid (expT_drop A l i (ta, tl, td) HT.out)
      have hml : A.length ≤ most := by rw [← HM.out]; exact hm
      have HML := hid hml
      clear hml
      by_cases hsb : soundB (ta, tl, td) = true
      · rw [hsb] at HS
        have HSB := hid hsb
        clear hsb
        by_cases h0 : tl = 0
        · subst h0
          by_cases hc : 16777216 ≤ m
          · have HF : Hid (expT [] l = (6, [])) := hid (by rw [HE.out, HTD.out, stepT_litCap HSB.out rfl (by rw [← HM.out]; exact hc)]; rfl)
            have hb1 : decide ((16777216 : Int) ≤ (m : Int)) = true := decide_eq_true (by omega)
            have hb2 : decide (16777216 ≤ m) = true := decide_eq_true hc
            clear hc
            go_wp2_with fail
            refine (HS.out _).mono ?_
            rintro e w2 ⟨rfl, hm⟩
            have hh := HH.out.same hm
            have HN := hid (hh.nil 5 1).one
            obtain ⟨g', off', he, c0, c1, c2⟩ := (hh.old HV.out).tok HT.out
            simp only [Option.some.injEq, Addr.mk.injEq, and_true] at he
            obtain ⟨rfl, rfl⟩ := he
            clear hm hh
            go_wp2
            go_ret2
            refine ⟨_, by rw [HF.out]; rfl, ?_⟩
            rw [HF.out]
            exact HN.out
          · have hb1 : decide ((16777216 : Int) ≤ (m : Int)) = false := decide_eq_false (by omega)
            have hb2 : decide (16777216 ≤ m) = false := decide_eq_false hc
            have hb3 : decide ((16777216 : Int) < (m : Int)) = false := decide_eq_false (by omega)
            have hb4 : decide (16777216 < m) = false := decide_eq_false (by omega)
            have hst := stepT_lit (acc := A) HSB.out rfl (by rw [← HM.out]; exact hc)
            have HTD2 : Hid (expT [] l = expT (A ++ [ta.toNat]) (l.drop (i + 1))) := hid (by rw [HE.out, HTD.out, hst]; rfl)
            have HBY := hid (stepT_bytes A (ta, 0, td) HA.out hta)
            rw [hst] at HBY
            obtain ⟨a, rfl⟩ := Int.eq_ofNat_of_zero_le hta.1
            have hm1 : m + 1 ≤ 16777216 := by omega
            clear hc hst
            go_wp2_with fail
            refine (HS.out _).mono ?_
            rintro e w2 ⟨rfl, hm⟩
            have hh := HH.out.same hm
            obtain ⟨g', off', he, c0, c1, c2⟩ := (hh.old HV.out).tok HT.out
            simp only [Option.some.injEq, Addr.mk.injEq, and_true] at he
            obtain ⟨rfl, rfl⟩ := he
            have H2 := hid hh
            clear hm hh
            go_wp2_with (refine wpList_app_held rfl (.tmp 47) (.tmp 53) 22 rfl 5 i0 (.int .u8 0) 1 1 Tryd.underlying22 hi0 hz0 hz1 hz2 rfl (by decide) _ m (u8s A) rfl (H2.out.alloc _) _ 1 (u8s [a]) rfl (Rd.lit _ [_] _ 1 1 (by decide) rfl) (u8s_one [a]) (m + 1) rfl (by unfold maxLen; omega) (by omega) ?_; intro ao1 cap1 w4 h4; have H4 := hid h4; clear h4)
            go_roundg (gx - 1)
            case measure => omega
            case rel =>
              refine ⟨i + 1, m + 1, A ++ [a], ao1, cap1, by omega, by omega, by go_num, rfl, hid (by rw [List.length_append, ← HM.out]; rfl), hm1, HBY.out, HTD2, hid ?_⟩
              rw [u8s_append]
              exact H4.out
        · obtain ⟨hz, ⟨h1, h2⟩, h3, h4⟩ := sound_match HSB.out h0
          simp only at hz h1 h2 h3 h4
          subst hz
          obtain ⟨L, rfl⟩ := Int.eq_ofNat_of_zero_le (show 0 ≤ tl by omega)
          obtain ⟨d, rfl⟩ := Int.eq_ofNat_of_zero_le (show 0 ≤ td by omega)
          have hL0 : (0 : Int) ≤ (L : Int) := Int.natCast_nonneg _
          have hd0 : (0 : Int) ≤ (d : Int) := Int.natCast_nonneg _
          have hL3 : 3 ≤ L := by omega
          have hL258 : L ≤ 258 := by omega
          have hd1 : 1 ≤ d := by omega
          have hd3 : d ≤ 32768 := by omega
          have hLz : ((L : Int) == 0) = false := by simp; omega
          have hLz2 : (L == 0) = false := by simp; omega
          have hLz3 : decide (L = 0) = false := decide_eq_false (by omega)
          obtain ⟨z, hz⟩ : ∃ z, z = m + L := ⟨_, rfl⟩
          have hzI : (m : Int) + (L : Int) = (z : Int) := by omega
          have hzb : z ≤ 16780000 := by omega
          have HZ := hid hz
          have H0 := hid h0
          clear h1 h2 h3 h4 hz h0
          by_cases hc : 16777216 < z
          · have HF : Hid (expT [] l = (6, [])) := hid (by rw [HE.out, HTD.out, stepT_matchCap HSB.out H0.out (by rw [← HM.out, Int.toNat_natCast, ← HZ.out]; exact hc)]; rfl)
            have hb1 : decide ((16777216 : Int) < (z : Int)) = true := decide_eq_true (by omega)
            have hb2 : decide (16777216 < z) = true := decide_eq_true hc
            clear hc
            go_wp2_with fail
            refine (HS.out _).mono ?_
            rintro e w2 ⟨rfl, hm⟩
            have hh := HH.out.same hm
            have HN := hid (hh.nil 5 1).one
            obtain ⟨g', off', he, c0, c1, c2⟩ := (hh.old HV.out).tok HT.out
            simp only [Option.some.injEq, Addr.mk.injEq, and_true] at he
            obtain ⟨rfl, rfl⟩ := he
            clear hm hh
            go_wp2
            go_ret2
            refine ⟨_, by rw [HF.out]; rfl, ?_⟩
            rw [HF.out]
            exact HN.out
          · have hb1 : decide ((16777216 : Int) < (z : Int)) = false := decide_eq_false (by omega)
            have hb2 : decide (16777216 < z) = false := decide_eq_false hc
            have HZ2 : Hid (¬ most < A.length + (L : Int).toNat) := hid (by rw [← HM.out, Int.toNat_natCast, ← HZ.out]; exact hc)
            have hz16 : z ≤ 16777216 := by omega
            clear hc
            by_cases hd : m < d
            · have HF : Hid (expT [] l = (3, [])) := hid (by rw [HE.out, HTD.out, stepT_far HSB.out H0.out HZ2.out (by rw [← HM.out, Int.toNat_natCast]; exact hd)]; rfl)
              have hdI : (m : Int) < (d : Int) := by omega
              go_wp2_with fail
              refine (HS.out _).mono ?_
              rintro e w2 ⟨rfl, hm⟩
              have hh := HH.out.same hm
              have HN := hid (hh.nil 5 1).one
              obtain ⟨g', off', he, c0, c1, c2⟩ := (hh.old HV.out).tok HT.out
              simp only [Option.some.injEq, Addr.mk.injEq, and_true] at he
              obtain ⟨rfl, rfl⟩ := he
              clear hm hh
              go_wp2
              go_ret2
              refine ⟨_, by rw [HF.out]; rfl, ?_⟩
              rw [HF.out]
              exact HN.out
            · have hdI : decide ((m : Int) < (d : Int)) = false := decide_eq_false (by omega)
              have hdI2 : decide (m < d) = false := decide_eq_false hd
              have hdm : d ≤ m := by omega
              have hst := stepT_match HSB.out H0.out HZ2.out (by rw [← HM.out, Int.toNat_natCast]; exact hd)
              have HTD2 : Hid (expT [] l = expT (ext A d L) (l.drop (i + 1))) := hid (by rw [HE.out, HTD.out, hst]; rfl)
              have HBY := hid (ext_lt A d HA.out L)
              clear hst hd
              go_wp2_with fail
              refine (HS.out _).mono ?_
              rintro e w2 ⟨rfl, hm⟩
              have hh := HH.out.same hm
              obtain ⟨g', off', he, c0, c1, c2⟩ := (hh.old HV.out).tok HT.out
              simp only [Option.some.injEq, Addr.mk.injEq, and_true] at he
              obtain ⟨rfl, rfl⟩ := he
              have H2 := hid hh
              clear hm hh
              go_wp2
              go_loopg [4, 6] (L + 2) (fun k t4 t6 wq => ∃ (j : Nat) (a4 : Option Addr) (c4 : Nat), j ≤ L ∧ L - j < k ∧ t6 = .int .i64 (j : Int) ∧ t4 = .slice a4 (m + j) c4 ∧ Hid (Held w wq [ownT 5 1 (.slice a4 (m + j) c4) (m + j) (u8s (ext A d j))]))
              case atStart => exact ⟨0, a4, c4, by omega, by omega, rfl, rfl, H2⟩
              case round =>
                obtain ⟨j, a5, c5, hj, hk2, rfl, rfl, HQ⟩ := hrel
                have hj0 : (0 : Int) ≤ (j : Int) := Int.natCast_nonneg _
                obtain ⟨g', off', he, d0, d1, d2⟩ := (HQ.out.old HV.out).tok HT.out
                simp only [Option.some.injEq, Addr.mk.injEq, and_true] at he
                obtain ⟨rfl, rfl⟩ := he
                by_cases hjL : j < L
                · have hjI : (j : Int) < (L : Int) := by omega
                  obtain ⟨q, hq⟩ : ∃ q, q = m + j := ⟨_, rfl⟩
                  rw [← hq] at HQ ⊢
                  obtain ⟨p, hp⟩ : ∃ p, p = q - d := ⟨_, rfl⟩
                  have hel : (ext A d j).length = q := by rw [ext_length, ← HM.out, hq]
                  obtain ⟨x, hx⟩ : ∃ x, (ext A d j)[p]? = some x := ⟨(ext A d j)[p]'(by omega), List.getElem?_eq_getElem _⟩
                  have hES : u8s (ext A d j) ++ u8s [x] = u8s (ext A d (j + 1)) := by
                    rw [← u8s_append, ext, ← HM.out, show m + j - d = p by omega, hx]; rfl
                  obtain ⟨b, o, rfl, hcell, _, _⟩ := HQ.out.own.site (by omega)
                  have e1 := hcell p (.int .u8 (x : Int)) (by rw [u8s_get, hx]; rfl)
                  have hpI : (q : Int) - (d : Int) = (p : Int) := by omega
                  have hp0 : (0 : Int) ≤ (p : Int) := Int.natCast_nonneg _
                  have hq0 : (0 : Int) ≤ (q : Int) := Int.natCast_nonneg _
                  have hpq : (p : Int) < (q : Int) := by omega
                  have hqb : q < 16777216 := by have := HZ.out; omega
                  have HES := hid hES
                  have HQM := hid hq
                  clear hcell hx hES hp hel hq
                  go_wp2_with (refine wpList_app_held rfl (.tmp 72) (.tmp 84) 22 rfl 5 i0 (.int .u8 0) 1 1 Tryd.underlying22 hi0 hz0 hz1 hz2 rfl (by decide) _ q (u8s (ext A d j)) rfl (HQ.out.alloc _) _ 1 (u8s [x]) rfl (Rd.lit _ [_] _ 1 1 (by decide) rfl) (u8s_one [x]) (q + 1) rfl (by unfold maxLen; omega) (by omega) ?_; intro ao1 cap1 w4 h4; have H4 := hid h4; clear h4)
                  go_roundg (gk - 1)
                  case measure => omega
                  case rel =>
                    have hq1 : q + 1 = m + (j + 1) := by have := HQM.out; omega
                    refine ⟨j + 1, ao1, cap1, by omega, by omega, by go_num, by rw [← hq1], hid ?_⟩
                    rw [← hq1, ← HES.out]
                    exact H4.out
                · obtain rfl : j = L := by omega
                  have hjI : ¬ (j : Int) < (j : Int) := by omega
                  go_wp2
                  go_roundg (gx - 1)
                  case measure => omega
                  case rel => exact ⟨i + 1, m + j, ext A d j, a5, c5, by omega, by omega, by go_num, rfl, hid (by rw [ext_length, ← HM.out]), by have := HZ.out; omega, HBY, HTD2, HQ⟩
      · have hsb : soundB (ta, tl, td) = false := by simpa using hsb
        rw [hsb] at HS
        have HF : Hid (expT [] l = (1, [])) := hid (by rw [HE.out, HTD.out, stepT_bad hsb]; rfl)
        clear hsb
        go_wp2_with fail
        refine (HS.out _).mono ?_
        rintro e w2 ⟨rfl, hm⟩
        have HN := hid ((HH.out.same hm).nil 5 1).one
        clear hm
        go_wp2
        go_ret2
        refine ⟨_, by rw [HF.out]; rfl, ?_⟩
        rw [HF.out]
        exact HN.out
    · have hiI : ¬ (i : Int) < (n : Int) := by omega
      have HF : Hid (expT [] l = (0, A)) := hid (by rw [HE.out, List.drop_of_length_le (by have := HL.out; omega)]; rfl)
      go_wp2
      go_ret2
      refine ⟨_, by rw [HF.out]; rfl, ?_⟩
      have h1 := HH.out.one
      rw [HF.out]
      rw [← HM.out]
      exact h1
end Go.Proofs.YtjmdgcppllnkdaaDoor
