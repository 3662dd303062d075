/-
  The law MatchParts, of MatchOK.
-/
import Derived.Test.YtjmdgcppllnkdaaDoorMatParts
namespace Go.Proofs.YtjmdgcppllnkdaaDoor
open Go.RowKit

theorem wait_means {M : MatchM} (L : MatchLaws M) (s : M.St) (A : List Nat) (m : Nat) (h : M.Ok s) (hA : M.inp s = A) (hm : m = A.length) (hl : m ≤ most) :
    ∃ W q : Nat, M.wait s = W ∧ q + W = m ∧ expT [] (M.outs s) = (0, A.take q) ∧ byteOK (M.outs s) ∧ (A.take q).length = q ∧ (u8s A).take q = u8s (A.take q) := by
  obtain ⟨h1, h2⟩ := L.means s h (by rw [hA, ← hm]; exact hl)
  rw [hA] at h1 h2
  refine ⟨M.wait s, m - M.wait s, rfl, by omega, by rw [hm]; exact h2, L.bytes s h, by rw [List.length_take]; omega, ?_⟩
  simp [u8s, List.map_take]
theorem cutq_run9 (xo : Option Addr) (m xc q : Nat) (hsp : ∀ x, xo = some x → x.spot = none) (h1 : q ≤ m) (h2 : m ≤ xc) (wx : World) :
    (Instr.sliceAt 22 (.slice xo m xc) none (some (.int .i64 (q : Int))) none).run Tryd.prog wx = .ok (.slice xo q xc) wx := by
  obtain ⟨iu, hiu, hu0, hu1, hu2⟩ := info_parts infoByte9
  rw [← sliced_front xo q xc 1 hsp]
  exact run_cut 22 5 iu 1 Tryd.underlying22 hiu hu1 xo m xc 0 q _ _ rfl ⟨_, rfl⟩ (by omega) (by omega)
/-- a text in which one byte after the other is counted up -/
theorem bump9 (P : List Nat) (i x : Nat) (hb : ∀ b ∈ P, b < 256) : ∀ b ∈ P.set i (x % 256), b < 256 := by
  intro b h
  rcases List.mem_or_eq_of_mem_set h with h | h
  · exact hb b h
  · omega
set_option maxRecDepth 100000 in
set_option maxHeartbeats 6400000 in
theorem matchParts_from {M : MatchM} {F : M.St → Nat → Thing} {Lv : World → Prop} (HM : MatchOK M F Lv) (v : Value) (parts : List (List Int)) (v2 : Value) (asks : List Bool) (times level : Int) (w : World) (HLV : Lv w) (hg : shMParts.good w [v] parts) (hg2 : shMAsks.good w [v2] asks) (ht : (Lit.int .u8 times).wf = true) (_ : (Lit.int .i64 level).wf = true) :
    Calls Tryd.prog 4 #[v, v2, .int .u8 times, .int .i64 level] w fun e w' => e = .returned (.bool true) ∧ Below w.heap.size w w' := by
  obtain ⟨vs, hv, hel⟩ := parts_of hg
  have ha := asks_of hg2
  have htr := Go.bounds_u8 ht
  clear hg hg2 ht
  obtain ⟨tm, rfl⟩ := Int.eq_ofNat_of_zero_le htr.1
  clear htr
  obtain ⟨i0, hi0, hz0, hz1, hz2⟩ := info_parts infoByte9
  obtain ⟨i1, hj0, hy0, hy1, hy2⟩ := info_parts infoTok9
  obtain ⟨n, hn⟩ : ∃ n, n = vs.length := ⟨_, rfl⟩
  obtain ⟨na, hna⟩ : ∃ na, na = asks.length := ⟨_, rfl⟩
  rw [← hn] at hv
  rw [← hna] at ha
  obtain ⟨ao, cap, rfl, _, _⟩ := hv.form
  obtain ⟨bo, bcap, rfl, _, _⟩ := ha.form
  have hn0 : (0 : Int) ≤ (n : Int) := Int.natCast_nonneg _
  have hna0 : (0 : Int) ≤ (na : Int) := Int.natCast_nonneg _
  have HV := hid hv
  have HAS := hid ha
  have HEL := hid hel
  have HN := hid (And.intro hn hna)
  have HNW := hid (HM.new level w w [] HLV (Held.start w))
  have HA := hid (fun w1 (Rs : List Thing) (hh : Held w w1 Rs) => h_answers9 HM HLV hh)
  obtain ⟨K, hK⟩ : ∃ K, K = tm % 40 := ⟨_, rfl⟩
  have hK40 : K < 40 := by omega
  clear hv ha hel hn hna
  go_enter Tryd.func4, Tryd.ntmps4
  go_wp2_with fail
  refine HNW.out.mono ?_
  rintro e w1 ⟨B, rfl, hh⟩
  have HA1 := hid (HA.out w1 _ hh)
  clear hh HNW
  go_wp2_with fail
  refine HA1.out.mono ?_
  rintro e w2 ⟨rfl, hh⟩
  have H2 := hid hh
  clear hh HA1
  by_cases h30 : 30 < n
  · have hb1 : decide ((30 : Int) < (n : Int)) = true := decide_eq_true (by omega)
    have hb2 : decide (30 < n) = true := decide_eq_true h30
    clear h30
    go_wp2_with fail
    refine (HA.out w2 _ H2.out).mono ?_
    rintro e w3 ⟨rfl, hh⟩
    have HE := hid hh.below
    clear hh
    go_wp2
    go_ret
    exact ⟨rfl, HE.out⟩
  · have hb1 : decide ((30 : Int) < (n : Int)) = false := decide_eq_false (by omega)
    have hb2 : decide (30 < n) = false := decide_eq_false h30
    have hn30 : n ≤ 30 := by omega
    clear h30
    have H3 := hid (((H2.out.nil 5 1).swap.nil 32 3).swap)
    clear H2
    go_wp2
    go_loopg [10, 11, 12] (n + 2) (fun g t10 t11 t12 wr => ∃ (i m k : Nat) (A : List Nat) (s : M.St) (xo lo : Option Addr) (xc lc : Nat), i ≤ n ∧ n - i < g ∧ t12 = .int .i64 (i : Int) ∧ t10 = .slice xo m xc ∧ t11 = .slice lo k lc ∧ m ≤ 12000 * i ∧
      Hid (M.inp s = A ∧ M.Ok s ∧ m = A.length ∧ k = (M.outs s).length) ∧
      Hid (Held w wr [F s B, ownT 32 3 (.slice lo k lc) k (toksV (M.outs s)), ownT 5 1 (.slice xo m xc) m (u8s A)]))
    case atStart =>
      refine ⟨0, 0, 0, [], M.start level, none, none, 0, 0, by omega, by omega, rfl, rfl, rfl, by omega, hid ⟨HM.laws.inp_start _, HM.laws.ok_start _, rfl, by rw [HM.laws.outs_start]; rfl⟩, hid ?_⟩
      rw [HM.laws.outs_start]
      exact H3.out
    case round =>
      obtain ⟨i, m, k, A, s, xo, lo, xc, lc, hi, hg, rfl, rfl, rfl, hmi, HS, HH⟩ := hrel
      obtain ⟨gx, rfl⟩ : ∃ g, g = gk := ⟨gk, rfl⟩
      have hi0' : (0 : Int) ≤ (i : Int) := Int.natCast_nonneg _
      have hm0 : (0 : Int) ≤ (m : Int) := Int.natCast_nonneg _
      have hk0 : (0 : Int) ≤ (k : Int) := Int.natCast_nonneg _
      by_cases hin : i < n
      · have hiI : decide ((i : Int) < (n : Int)) = true := decide_eq_true (by omega)
        have hiI2 : decide (i < n) = true := decide_eq_true hin
        have hin2 : (i : Int) < (n : Int) := by omega
        obtain ⟨vi, hvi⟩ : ∃ vi, vs[i]? = some vi := ⟨vs[i]'(by have := HN.out.1; omega), List.getElem?_eq_getElem _⟩
        obtain ⟨g, off, rfl, hcell⟩ := (HH.out.old HV.out).spot (by omega)
        have c0 := hcell i vi hvi
        obtain ⟨bs, hb256, hbv⟩ := HEL.out i vi hvi
        obtain ⟨q, hq⟩ : ∃ q, q = bs.length := ⟨_, rfl⟩
        rw [← hq] at hbv
        obtain ⟨vo, vc, rfl, _, _⟩ := hbv.form
        have HVI := hid hvi
        have hq0 : (0 : Int) ≤ (q : Int) := Int.natCast_nonneg _
        clear hcell
        by_cases hq3 : 300 < q
        · have hb3 : (300 : Int) < (q : Int) := by omega
          have HE := hid HH.out.below
          clear hq3
          go_wp2
          go_ret
          exact ⟨rfl, HE.out⟩
        · have hb3 : ¬ (300 : Int) < (q : Int) := by omega
          obtain ⟨X, hX⟩ : ∃ X, X = textN bs (decide (0 % 2 = 1)) (tm % 40 + 1) := ⟨_, rfl⟩
          have hXl : X.length ≤ 12000 := by
            rw [hX, textN_length, ← hq]
            have h1 : (tm % 40 + 1) * q ≤ 40 * 300 := Nat.mul_le_mul (by omega) (by omega)
            omega
          have hXb : ∀ b ∈ X, b < 256 := by rw [hX]; exact textN_bytes bs _ hb256 _ (by omega)
          obtain ⟨p, hp⟩ : ∃ p, p = X.length := ⟨_, rfl⟩
          have hp12 : p ≤ 12000 := by omega
          have HT := hid (fun w1 (hr : Rd w1 1 (.slice vo q vc) q (u8s bs)) => text_any _ q tm 0 bs w1 hr hb256 (by omega))
          rw [← hX] at HT
          unfold byT at HT
          rw [← hp] at HT
          have HBV := hid hbv
          have HXP := hid (And.intro hXb hp)
          have hp0 : (0 : Int) ≤ (p : Int) := Int.natCast_nonneg _
          clear hq3 hq hX hXl hXb hp hbv hb256 hvi
          go_wp2_with fail
          refine (HT.out wr (HH.out.old HBV.out)).mono ?_
          rintro e w3 ⟨u, rfl, hh⟩
          obtain ⟨uo, uc, rfl, _, _⟩ := hh.own.form
          have H4 := hid (HH.out.frame hh)
          clear hh
          obtain ⟨hs1, hs2, hs3, hs4⟩ := HS.out
          have hinl : (M.inp s).length = m := by rw [hs1, hs3]
          have HW := hid (HM.write s B (.slice uo p uc) p X w w3 _ H4.out.swap hs2 H4.out.own.rd HXP.out.1 (by omega))
          have hok2 := HM.laws.ok_write s X hs2 HXP.out.1 (by rw [← HXP.out.2]; omega)
          have hin2' : M.inp (M.write s X) = A ++ X := by rw [HM.laws.inp_write, hs1]
          have hout2 : M.outs (M.write s X) = M.outs s := HM.laws.outs_write s X
          obtain ⟨m2, hm2⟩ : ∃ m2, m2 = m + p := ⟨_, rfl⟩
          have hm2l : m2 = (A ++ X).length := by rw [List.length_append, ← hs3, ← HXP.out.2, hm2]
          have hm2b : m2 ≤ 12000 * (i + 1) := by omega
          have hm2c : m2 ≤ 360000 := by omega
          rw [← hout2] at hs4 H4 HW
          have HS2 := hid (And.intro hin2' (And.intro hok2 (And.intro hm2l hs4)))
          have HM2 := hid hm2
          have hm20 : (0 : Int) ≤ (m2 : Int) := Int.natCast_nonneg _
          generalize M.write s X = s1 at *
          clear hs1 hs2 hs3 hs4 hinl hok2 hin2' hout2 hm2 hm2l HS
          go_wp2_with fail
          refine HW.out.mono ?_
          rintro e w4 ⟨rfl, hh⟩
          have H5 := hid hh.swap
          clear hh HW H4
          go_wp2
          go_loopg [14] (p + 2) (fun g2 t14 wq => ∃ (j : Nat) (P : List Nat), j ≤ p ∧ p - j < g2 ∧ t14 = .int .i64 (j : Int) ∧ Hid (P.length = p ∧ ∀ b ∈ P, b < 256) ∧ Hid (Held w wq [ownT 5 1 (.slice uo p uc) p (u8s P), F s1 B, ownT 32 3 (.slice lo k lc) k (toksV (M.outs s1)), ownT 5 1 (.slice xo m xc) m (u8s A)]))
          case atStart => exact ⟨0, X, by omega, by omega, rfl, hid ⟨HXP.out.2.symm, HXP.out.1⟩, H5⟩
          case round =>
            obtain ⟨j, P, hj, hg2, rfl, HP, HQ⟩ := hrel
            have hjj : (0 : Int) ≤ (j : Int) := Int.natCast_nonneg _
            by_cases hjp : j < p
            · have hjI : (j : Int) < (p : Int) := by omega
              obtain ⟨x, hx⟩ : ∃ x, P[j]? = some x := ⟨P[j]'(by have := HP.out.1; omega), List.getElem?_eq_getElem _⟩
              have hx256 := HP.out.2 x (List.mem_of_getElem? hx)
              obtain ⟨gu, ou, rfl, hcell, hfr, hput⟩ := HQ.out.own.site (by omega)
              have e1 := hcell j (.int .u8 (x : Int)) (by rw [u8s_get, hx]; rfl)
              have f1 := hfr j
              obtain ⟨z, hz⟩ : ∃ z, z = (x + 1) % 256 := ⟨_, rfl⟩
              have hzI : ((x : Int) + 1) % 256 = (z : Int) := by omega
              have h6 := HQ.out.putOwn (hput j (.int .u8 (z : Int)) hjp) (Mod.set wr gu (ou + j) _)
              rw [← u8s_put] at h6
              have H6 := hid h6
              have HP2 : Hid ((P.set j z).length = p ∧ ∀ b ∈ P.set j z, b < 256) := hid ⟨by rw [List.length_set]; exact HP.out.1, by rw [hz]; exact bump9 P j (x + 1) HP.out.2⟩
              clear hcell hfr hput hx hz h6
              go_wp2
              go_roundg (gk - 1)
              case measure => omega
              case rel => exact ⟨j + 1, P.set j z, by omega, by omega, by go_num, HP2, H6⟩
            · have hjI : ¬ (j : Int) < (p : Int) := by omega
              have H6 := hid HQ.out.drop
              clear HQ HP H5
              obtain ⟨g2, off2, he2, hcell2⟩ := (H6.out.old HV.out).spot (by omega)
              simp only [Option.some.injEq, Addr.mk.injEq, and_true] at he2
              obtain ⟨rfl, rfl⟩ := he2
              have c1 := hcell2 i _ HVI.out
              have HT2 := hid (HT.out wr (H6.out.old HBV.out))
              clear hcell2
              go_wp2_with fail
              refine HT2.out.mono ?_
              rintro e w5 ⟨u2, rfl, hh⟩
              obtain ⟨uo2, uc2, rfl, _, _⟩ := hh.own.form
              have H7 := hid (H6.out.frame hh)
              clear hh HT HT2 H6
              by_cases hia : i < na
              · have hiaI : (i : Int) < (na : Int) := by omega
                obtain ⟨ask, hask⟩ : ∃ ask, asks[i]? = some ask := ⟨asks[i]'(by have := HN.out.2; omega), List.getElem?_eq_getElem _⟩
                have hask2 : (asks.map Value.bool)[i]? = some (.bool ask) := by rw [List.getElem?_map, hask]; rfl
                have HASK := hid hask2
                obtain ⟨ga, oa, rfl, _⟩ := (H7.out.old HAS.out).spot (by omega)
                obtain ⟨hs1, hs2, hs3, hs4⟩ := HS2.out
                have hinl : (M.inp s1).length = m2 := by rw [hs1, hs3]
                have HTK := hid (fun w1 (Rs : List Thing) (hh : Held w w1 (F s1 B :: Rs)) => HM.toks s1 B ask w w1 Rs hh hs2 (by omega))
                have hok3 := HM.laws.ok_toks s1 ask hs2
                have hin3 : M.inp (M.toks s1 ask).1 = A ++ X := by rw [HM.laws.inp_toks, hs1]
                have hout3 := HM.laws.outs_toks s1 ask
                have hlen3 := outs_len HM.laws _ hok3 (by rw [hin3, ← hs3]; unfold most; omega)
                rw [hin3, ← hs3] at hlen3
                obtain ⟨W, qq, hW, hqW, hexp, hbok, hYl, hYt⟩ := wait_means HM.laws _ (A ++ X) m2 hok3 hin3 hs3 (by unfold most; omega)
                have hwb : W ≤ 261 ∧ (ask = true → W = 0) := by
                  cases ask with
                  | true => have := HM.laws.wait_end s1 hs2; rw [hW] at this; exact ⟨by omega, fun _ => this⟩
                  | false => have := HM.laws.wait_some s1 hs2; rw [hW] at this; exact ⟨this, fun h => by cases h⟩
                obtain ⟨kt, hkt⟩ : ∃ kt, kt = (M.toks s1 ask).2.length := ⟨_, rfl⟩
                obtain ⟨k2, hk2⟩ : ∃ k2, k2 = k + kt := ⟨_, rfl⟩
                have hk2l : k2 = (M.outs (M.toks s1 ask).1).length := by rw [hout3, List.length_append, ← hs4, ← hkt, hk2]
                unfold tokT at HTK
                rw [← hkt] at HTK
                rw [← hk2l] at hlen3
                have HSX := hid (And.intro hin3 (And.intro hok3 (And.intro hs3 hk2l)))
                have HO3 := hid (And.intro hout3 hk2)
                have HEX := hid (And.intro hexp (And.intro hbok (And.intro hYl (And.intro hYt hW))))
                have hqWI : (qq : Int) + (W : Int) = (m2 : Int) := by omega
                have hqm : qq ≤ m2 := by omega
                have hW0 : (0 : Int) ≤ (W : Int) := Int.natCast_nonneg _
                have hw1 : decide ((261 : Int) < (W : Int)) = false := decide_eq_false (by omega)
                have hw2 : decide (261 < W) = false := decide_eq_false (by omega)
                have HWZ := hid hwb.2
                have HWC := hid (fun w1 (Rs : List Thing) (hh : Held w w1 (F (M.toks s1 ask).1 B :: Rs)) => HM.waiting (M.toks s1 ask).1 B w w1 Rs hh hok3 (by rw [hin3, ← hs3]; omega))
                rw [hW] at HWC
                generalize M.toks s1 ask = R at *
                clear hask hask2 hs1 hs2 hs3 hs4 hinl hok3 hin3 hout3 hexp hbok hYl hYt hwb hkt hk2 hk2l hW HS2
                go_wp2_with (refine wpList_app_held rfl (.tmp 70) (.tmp 76) 22 rfl 5 i0 (.int .u8 0) 1 1 Tryd.underlying22 hi0 hz0 hz1 hz2 rfl (by decide) _ m (u8s A) rfl H7.out.fourth _ p (u8s X) rfl H7.out.own.rd (u8s_one X) m2 HM2.out (by unfold maxLen; omega) (by omega) ?_; intro xo2 xc2 w6 h6; rw [← u8s_append] at h6; have hxc := h6.own.le; have HXS := hid h6.own.spotless; have H8 := hid h6.fourth.fourth.three; obtain ⟨ga0, oa0, he0, hca0⟩ := (h6.old HAS.out).spot (by omega); simp only [Option.some.injEq, Addr.mk.injEq, and_true] at he0; obtain ⟨rfl, rfl⟩ := he0; have a1 := hca0 i _ HASK.out; clear h6 hca0)
                refine (HTK.out w6 _ H8.out).mono ?_
                rintro e w7 ⟨y, rfl, hh⟩
                obtain ⟨yo, yc, rfl, _, _⟩ := hh.own.form
                have HR4 := hid hh.own.rd
                have H9 := hid hh.third
                clear hh HTK H8
                go_wp2_with (refine wpList_app_held rfl (.tmp 82) (.tmp 88) 25 rfl 32 i1 (.agg #[.int .u8 0, .int .i64 0, .int .i64 0]) 3 24 Tryd.underlying25 hj0 hy0 hy1 hy2 rfl (by decide) _ k _ rfl H9.out _ kt _ rfl HR4.out (toksV_one _) k2 HO3.out.2 (by unfold maxLen; omega) (by omega) ?_; intro lo2 lc2 w8 h8; rw [← toksV_app, ← HO3.out.1] at h8; have H10 := hid h8.third.third.drop; clear h8)
                refine (HWC.out w8 _ H10.out).mono ?_
                rintro e w9 ⟨rfl, hh⟩
                have H11 := hid hh
                obtain ⟨ga2, oa2, he3, hca⟩ := (hh.old HAS.out).spot (by omega)
                simp only [Option.some.injEq, Addr.mk.injEq, and_true] at he3
                obtain ⟨rfl, rfl⟩ := he3
                have a2 := hca i _ HASK.out
                clear hh H10 H9 HR4 hca
                cases ask with
                | true =>
                  have hWz : W = 0 := HWZ.out rfl
                  have hz1' : ((W : Int) != 0) = false := by simp; exact hWz
                  have hz2' : (W != 0) = false := by simp; exact hWz
                  clear hWz
                  go_wp2_with fail
                  refine (HWC.out w9 _ H11.out).mono ?_
                  rintro e w10 ⟨rfl, hh⟩
                  have H12 := hid hh
                  clear hh H11
                  go_wp2_with fail
                  have HR := hid (refexpand_any _ k2 (M.outs R.1) w10 H12.out.drop.own.rd HEX.out.2.1 (by omega))
                  rw [HEX.out.1] at HR
                  simp only at HR
                  rw [HEX.out.2.2.1] at HR
                  refine HR.out.mono ?_
                  rintro e w11 ⟨y2, rfl, hh⟩
                  obtain ⟨yo2, yc2, rfl, _, _⟩ := hh.own.form
                  have H13 := hid (H12.out.frame hh).swap
                  clear hh HR H12
                  have hmm : ((m2 : Int) != (m2 : Int)) = false := by simp
                  have hq00 : (0 : Int) ≤ (qq : Int) := Int.natCast_nonneg _
                  have hcut := cutq_run9 xo2 m2 xc2 qq HXS.out hqm hxc
                  go_wp2_with fail
                  refine (HWC.out w11 _ H13.out).mono ?_
                  rintro e w12 ⟨rfl, hh⟩
                  have hrd := hh.fourth.own.rd.front hqm
                  rw [Nat.mul_one, HEX.out.2.2.2.1] at hrd
                  have HQ2 := hid (h_equal9 hh (.slice yo2 qq yc2) (.slice xo2 qq xc2) _ qq hh.swap.own.rd hrd (by omega))
                  clear hh hrd H13
                  go_wp2_with fail
                  refine HQ2.out.mono ?_
                  rintro e w13 ⟨rfl, hh⟩
                  have H14 := hid hh.swap.drop
                  clear hh HQ2
                  go_wp2
                  go_roundg (gx - 1)
                  case measure => omega
                  case rel => exact ⟨i + 1, m2, k2, A ++ X, R.1, xo2, lo2, xc2, lc2, by omega, by omega, by go_num, rfl, rfl, hm2b, HSX, H14⟩
                | false =>
                  have H12 := hid H11.out
                  clear H11
                  go_wp2_with fail
                  have HR := hid (refexpand_any _ k2 (M.outs R.1) w9 H12.out.drop.own.rd HEX.out.2.1 (by omega))
                  rw [HEX.out.1] at HR
                  simp only at HR
                  rw [HEX.out.2.2.1] at HR
                  refine HR.out.mono ?_
                  rintro e w11 ⟨y2, rfl, hh⟩
                  obtain ⟨yo2, yc2, rfl, _, _⟩ := hh.own.form
                  have H13 := hid (H12.out.frame hh).swap
                  clear hh HR H12
                  have hmm : ((m2 : Int) != (m2 : Int)) = false := by simp
                  have hq00 : (0 : Int) ≤ (qq : Int) := Int.natCast_nonneg _
                  have hcut := cutq_run9 xo2 m2 xc2 qq HXS.out hqm hxc
                  go_wp2_with fail
                  refine (HWC.out w11 _ H13.out).mono ?_
                  rintro e w12 ⟨rfl, hh⟩
                  have hrd := hh.fourth.own.rd.front hqm
                  rw [Nat.mul_one, HEX.out.2.2.2.1] at hrd
                  have HQ2 := hid (h_equal9 hh (.slice yo2 qq yc2) (.slice xo2 qq xc2) _ qq hh.swap.own.rd hrd (by omega))
                  clear hh hrd H13
                  go_wp2_with fail
                  refine HQ2.out.mono ?_
                  rintro e w13 ⟨rfl, hh⟩
                  have H14 := hid hh.swap.drop
                  clear hh HQ2
                  go_wp2
                  go_roundg (gx - 1)
                  case measure => omega
                  case rel => exact ⟨i + 1, m2, k2, A ++ X, R.1, xo2, lo2, xc2, lc2, by omega, by omega, by go_num, rfl, rfl, hm2b, HSX, H14⟩
              · have hiaI : ¬ (i : Int) < (na : Int) := by omega
                obtain ⟨hs1, hs2, hs3, hs4⟩ := HS2.out
                have hlen3 := outs_len HM.laws _ hs2 (by rw [hs1, ← hs3]; unfold most; omega)
                rw [hs1, ← hs3, ← hs4] at hlen3
                obtain ⟨W, qq, hW, hqW, hexp, hbok, hYl, hYt⟩ := wait_means HM.laws _ (A ++ X) m2 hs2 hs1 hs3 (by unfold most; omega)
                have HEX := hid (And.intro hexp (And.intro hbok (And.intro hYl (And.intro hYt hW))))
                have hqWI : (qq : Int) + (W : Int) = (m2 : Int) := by omega
                have hqm : qq ≤ m2 := by omega
                have hW0 : (0 : Int) ≤ (W : Int) := Int.natCast_nonneg _
                have HWC := hid (fun w1 (Rs : List Thing) (hh : Held w w1 (F s1 B :: Rs)) => HM.waiting s1 B w w1 Rs hh hs2 (by rw [hs1, ← hs3]; omega))
                rw [hW] at HWC
                clear hs1 hs2 hs3 hs4 hexp hbok hYl hYt hW
                go_wp2_with (refine wpList_app_held rfl (.tmp 70) (.tmp 76) 22 rfl 5 i0 (.int .u8 0) 1 1 Tryd.underlying22 hi0 hz0 hz1 hz2 rfl (by decide) _ m (u8s A) rfl H7.out.fourth _ p (u8s X) rfl H7.out.own.rd (u8s_one X) m2 HM2.out (by unfold maxLen; omega) (by omega) ?_; intro xo2 xc2 w6 h6; rw [← u8s_append] at h6; have hxc := h6.own.le; have HXS := hid h6.own.spotless; have H12 := hid h6.fourth.fourth.three; clear h6)
                have HR := hid (refexpand_any _ k (M.outs s1) w6 H12.out.drop.own.rd HEX.out.2.1 (by omega))
                rw [HEX.out.1] at HR
                simp only at HR
                rw [HEX.out.2.2.1] at HR
                refine HR.out.mono ?_
                rintro e w11 ⟨y2, rfl, hh⟩
                obtain ⟨yo2, yc2, rfl, _, _⟩ := hh.own.form
                have H13 := hid (H12.out.frame hh).swap
                clear hh HR H12
                have hmm : ((m2 : Int) != (m2 : Int)) = false := by simp
                have hq00 : (0 : Int) ≤ (qq : Int) := Int.natCast_nonneg _
                have hcut := cutq_run9 xo2 m2 xc2 qq HXS.out hqm hxc
                go_wp2_with fail
                refine (HWC.out w11 _ H13.out).mono ?_
                rintro e w12 ⟨rfl, hh⟩
                have hrd := hh.fourth.own.rd.front hqm
                rw [Nat.mul_one, HEX.out.2.2.2.1] at hrd
                have HQ2 := hid (h_equal9 hh (.slice yo2 qq yc2) (.slice xo2 qq xc2) _ qq hh.swap.own.rd hrd (by omega))
                clear hh hrd H13
                go_wp2_with fail
                refine HQ2.out.mono ?_
                rintro e w13 ⟨rfl, hh⟩
                have H14 := hid hh.swap.drop
                clear hh HQ2
                go_wp2
                go_roundg (gx - 1)
                case measure => omega
                case rel => exact ⟨i + 1, m2, k, A ++ X, s1, xo2, lo, xc2, lc, by omega, by omega, by go_num, rfl, rfl, hm2b, HS2, H14⟩
      · have hiI : decide ((i : Int) < (n : Int)) = false := decide_eq_false (by omega)
        have hiI2 : decide (i < n) = false := decide_eq_false hin
        have hin2 : ¬ (i : Int) < (n : Int) := by omega
        obtain ⟨hs1, hs2, hs3, hs4⟩ := HS.out
        have hinl : (M.inp s).length = m := by rw [hs1, hs3]
        have hmb : m ≤ 360000 := by omega
        have HTK := hid (HM.toks s B true w wr _ HH.out hs2 (by omega))
        have hok3 := HM.laws.ok_toks s true hs2
        have hin3 : M.inp (M.toks s true).1 = A := by rw [HM.laws.inp_toks, hs1]
        have hout3 := HM.laws.outs_toks s true
        have hlen3 := outs_len HM.laws _ hok3 (by rw [hin3, ← hs3]; unfold most; omega)
        rw [hin3, ← hs3] at hlen3
        have hmeans := (HM.laws.means _ hok3 (by rw [hin3, ← hs3]; unfold most; omega)).2
        rw [HM.laws.wait_end s hs2, hin3, Nat.sub_zero, List.take_of_length_le (Nat.le_refl _)] at hmeans
        have hbok := HM.laws.bytes _ hok3
        have HWC := hid (fun w1 (Rs : List Thing) (hh : Held w w1 (F (M.toks s true).1 B :: Rs)) => HM.waiting (M.toks s true).1 B w w1 Rs hh hok3 (by rw [hin3, ← hs3]; omega))
        have e0 : ((0 : Nat) : Int) = 0 := rfl
        rw [HM.laws.wait_end s hs2, e0] at HWC
        obtain ⟨kt, hkt⟩ : ∃ kt, kt = (M.toks s true).2.length := ⟨_, rfl⟩
        obtain ⟨k2, hk2⟩ : ∃ k2, k2 = k + kt := ⟨_, rfl⟩
        have hk2l : k2 = (M.outs (M.toks s true).1).length := by rw [hout3, List.length_append, ← hs4, ← hkt, hk2]
        unfold tokT at HTK
        rw [← hkt] at HTK
        rw [← hk2l] at hlen3
        have HR := hid (fun w1 (u : Value) (hr : Rd w1 3 u k2 (toksV (M.outs (M.toks s true).1))) => refexpand_any u k2 _ w1 hr hbok (by omega))
        rw [hmeans] at HR
        simp only at HR
        rw [← hs3] at HR
        have HO3 := hid (And.intro hout3 hk2)
        generalize M.toks s true = R at *
        clear hs1 hs2 hs3 hs4 hinl hok3 hin3 hout3 hmeans hbok hkt hk2 hk2l HS e0
        go_wp2_with fail
        refine HTK.out.mono ?_
        rintro e w7 ⟨y, rfl, hh⟩
        obtain ⟨yo, yc, rfl, _, _⟩ := hh.own.form
        have HR4 := hid hh.own.rd
        have H9 := hid hh.third
        clear hh HTK HH
        go_wp2_with (refine wpList_app_held rfl (.tmp 130) (.tmp 132) 25 rfl 32 i1 (.agg #[.int .u8 0, .int .i64 0, .int .i64 0]) 3 24 Tryd.underlying25 hj0 hy0 hy1 hy2 rfl (by decide) _ k _ rfl H9.out _ kt _ rfl HR4.out (toksV_one _) k2 HO3.out.2 (by unfold maxLen; omega) (by omega) ?_; intro lo2 lc2 w8 h8; rw [← toksV_app, ← HO3.out.1] at h8; have H10 := hid h8.third.third.drop; clear h8)
        refine (HR.out w8 _ H10.out.drop.own.rd).mono ?_
        rintro e w9 ⟨z, rfl, hh⟩
        obtain ⟨zo, zc, rfl, _, _⟩ := hh.own.form
        have H11 : Hid (Held w w9 [F R.1 B, ownT 5 1 (.slice zo m zc) m (u8s A), ownT 32 3 (.slice lo2 k2 lc2) k2 (toksV (M.outs R.1)), ownT 5 1 (.slice xo m xc) m (u8s A)]) := hid (H10.out.frame hh).swap
        clear hh HR H10 H9 HR4
        have HQ := hid (h_equal9 H11.out (.slice zo m zc) (.slice xo m xc) A m H11.out.drop.own.rd H11.out.drop.drop.drop.own.rd (by omega))
        go_wp2_with fail
        refine HQ.out.mono ?_
        rintro e w10 ⟨rfl, hh⟩
        have HWD := hid (HWC.out w10 _ hh)
        clear hh HQ H11
        go_wp2_with fail
        refine HWD.out.mono ?_
        rintro e w11 ⟨rfl, hh⟩
        have HE := hid hh.below
        clear hh HWD
        go_wp2
        go_ret
        exact ⟨rfl, HE.out⟩
end Go.Proofs.YtjmdgcppllnkdaaDoor
