/-
  The laws TokenExpands and TokenJoins: what they are handed.
-/
import Derived.Test.YtgngkphdiaefcaaLawTok0
import Derived.Test.YtgngkphdiaefcaaTokExp
import Derived.Test.YtgngkphdiaefcaaTokExpR
import Derived.Test.YtgngkphdiaefcaaOpen
import Derived.Deep.DeepCutAuto
import Derived.Deep.RegionHeld3
namespace Go.Proofs.Ytgngkphdiaefcaa
open Go.RowKit

def shTokU : Shape Try.prog Int := shInt 5 .u8 Try.underlying5 (by kernel_rfl)
def shTokI : Shape Try.prog Int := shInt 3 .i64 Try.underlying3 (by kernel_rfl)
def shTok : Shape Try.prog Tok := shStruct3 shTokU shTokI shTokI 38 Try.underlying38 (by kernel_rfl) rfl rfl rfl rfl rfl rfl
def shToks : Shape Try.prog (List Tok) := shSlice shTok 31 Try.underlying31 (by kernel_rfl) (by decide)
theorem toksV_at : ∀ (l : List Tok) (j : Nat) (u : Value), (toksV l)[j]? = some u → ∃ i r t, j = i * 3 + r ∧ l[i]? = some t ∧ [Value.int .u8 t.1, .int .i64 t.2.1, .int .i64 t.2.2][r]? = some u
  | [], _, _, h => by simp [toksV] at h
  | x :: l, 0, u, h => ⟨0, 0, x, rfl, rfl, by rw [toksV_cons] at h; simpa using h⟩
  | x :: l, 1, u, h => ⟨0, 1, x, rfl, rfl, by rw [toksV_cons] at h; simpa using h⟩
  | x :: l, 2, u, h => ⟨0, 2, x, rfl, rfl, by rw [toksV_cons] at h; simpa using h⟩
  | x :: l, j + 3, u, h => by
    rw [toksV_cons] at h
    obtain ⟨i, r, t, h1, h2, h3⟩ := toksV_at l j u (by simpa using h)
    exact ⟨i + 1, r, t, by omega, by simpa using h2, h3⟩
theorem toks_of {w : World} {v : Value} {l : List Tok} (h : shToks.good w [v] l) : byteOK l ∧ Rd w 3 v l.length (toksV l) := by
  obtain ⟨v', hv, hs⟩ := h
  obtain rfl : v = v' := by simpa using hv
  have hgood : ∀ (W : World) xs (a : Tok), shTok.good W xs a → xs = [Value.int .u8 a.1, .int .i64 a.2.1, .int .i64 a.2.2] ∧ 0 ≤ a.1 ∧ a.1 ≤ 255 := by
    rintro W xs a ⟨c0, c1, c2, rfl, ⟨rfl, h0⟩, ⟨rfl, _⟩, ⟨rfl, _⟩⟩
    exact ⟨rfl, Go.bounds_u8 h0⟩
  refine ⟨fun t ht => ?_, ?_⟩
  · obtain ⟨i, hi⟩ := List.mem_iff_getElem?.1 ht
    obtain ⟨xs, h1⟩ := hs.each hi
    exact (hgood _ _ _ h1).2
  · obtain ⟨ao, cap, h1, h2, h3, h4, h5⟩ := hs
    refine ⟨toksV_length l, ao, cap, h1, h2, h3, h4, ?_⟩
    rcases h5 with h5 | ⟨g, off, h5, h6⟩
    · exact .inl h5
    · refine .inr ⟨g, off, h5, fun j u hu => ?_⟩
      obtain ⟨i, r, t, rfl, hi, hr⟩ := toksV_at l j u hu
      obtain ⟨xs, hg, hc⟩ := h6 i t hi
      have := hc r u (by rw [(hgood _ _ _ hg).1]; exact hr)
      rw [← Nat.add_assoc]
      exact this
theorem infoTok : (Try.prog.info? 38).map (fun i => (i.zero, i.size, i.bytes)) = some (some (.agg #[.int .u8 0, .int .i64 0, .int .i64 0]), 3, 24) := by kernel_rfl
set_option maxRecDepth 100000 in
set_option maxHeartbeats 3200000 in
theorem tokenExpands_walk (v : Value) (l : List Tok) (w : World) (hg : shToks.good w [v] l) :
    Calls Try.prog 5 #[v] w fun e w' => e = .returned (.bool true) ∧ Below w.heap.size w w' := by
  obtain ⟨hok, hv⟩ := toks_of hg
  obtain ⟨i1, hj0, hy0, hy1, hy2⟩ := info_parts infoTok
  clear hg
  obtain ⟨n, hn⟩ : ∃ n, n = l.length := ⟨_, rfl⟩
  rw [← hn] at hv
  obtain ⟨ao, cap, rfl, _, _⟩ := hv.form
  have HV := hid hv
  have HN := hid hn
  have HOK := hid hok
  have hn0 : (0 : Int) ≤ (n : Int) := Int.natCast_nonneg _
  have HA := hid h_answers8
  clear hv hn hok
  by_cases h5 : 500 < n
  · have h5I : (500 : Int) < (n : Int) := by omega
    go_enter Try.func5, Try.ntmps5
    go_wp2_with fail
    refine (HA.out _).mono ?_
    rintro e w1 ⟨rfl, hm⟩
    have HM := hid hm.toBelow
    clear hm
    go_wp2
    go_ret
    exact ⟨rfl, HM.out⟩
  · have h5I : ¬ (500 : Int) < (n : Int) := by omega
    have h1 := (Held.start w).lit 38 3 [] 0 (by decide) rfl
    have HL := hid h1
    clear h1
    go_enter Try.func5, Try.ntmps5
    go_wp2_with (refine wpList_app_held rfl (.tmp 13) (.tmp 14) 31 rfl 38 i1 (.agg #[.int .u8 0, .int .i64 0, .int .i64 0]) 3 24 Try.underlying31 hj0 hy0 hy1 hy2 rfl (by decide) _ 0 [] rfl HL.out _ n (toksV l) rfl (HL.out.old HV.out) (toksV_one l) n (by omega) (by unfold maxLen; omega) (by omega) ?_; intro ao1 cap1 w1 h1; have H1 := hid h1; clear h1)
    have HE := hid (expand_any (.slice ao1 n cap1) n l w1 H1.out.own.rd HOK.out (by omega))
    have HR := hid (fun w2 (h : Rd w2 3 (.slice ao n cap) n (toksV l)) => refexpand_any (.slice ao n cap) n l w2 h HOK.out (by omega))
    have hXm := expT_le l [] (Nat.zero_le _)
    generalize (expT [] l).1 = er at *
    generalize (expT [] l).2 = X at *
    obtain ⟨m, hm⟩ : ∃ m, m = X.length := ⟨_, rfl⟩
    rw [← hm] at HE HR hXm
    have hmb : m ≤ 16777216 := hXm
    clear hm hXm
    refine HE.out.mono ?_
    rintro e w2 ⟨u, rfl, hh⟩
    obtain ⟨uo, uc, rfl, _, _⟩ := hh.own.form
    have H2 := hid (H1.out.frame hh)
    clear hh HE
    go_wp2_with fail
    refine (HR.out w2 (H2.out.old HV.out)).mono ?_
    rintro e w3 ⟨u2, rfl, hh⟩
    obtain ⟨uo2, uc2, rfl, _, _⟩ := hh.own.form
    have H3 : Hid (Held w w3 [ownT 5 1 (.slice uo2 m uc2) m (u8s X), ownT 5 1 (.slice uo m uc) m (u8s X)]) := hid ((H2.out.frame hh).two)
    clear hh HR H2
    go_wp2
    go_loopg [7] (n + 2) (fun k t7 wr => ∃ i : Nat, i ≤ n ∧ n - i < k ∧ t7 = .int .i64 (i : Int) ∧ Hid (Held w wr [ownT 5 1 (.slice uo2 m uc2) m (u8s X), ownT 5 1 (.slice uo m uc) m (u8s X)]))
    case atStart => exact ⟨0, by omega, by omega, rfl, H3⟩
    case round =>
      obtain ⟨i, hi, hk, rfl, HH⟩ := hrel
      have hi0 : (0 : Int) ≤ (i : Int) := Int.natCast_nonneg _
      by_cases hin : i < n
      · have hiI : (i : Int) < (n : Int) := by omega
        obtain ⟨⟨ta, tl, td⟩, ht⟩ : ∃ t, l[i]? = some t := ⟨l[i]'(by have := HN.out; omega), List.getElem?_eq_getElem _⟩
        obtain ⟨g, off, rfl, c0, c1, c2⟩ := (HH.out.old HV.out).tok ht
        have HT := hid ht
        clear ht
        have HS := hid (sound_any (ta, tl, td))
        have HS2 := hid (refSound_any (ta, tl, td))
        unfold tokV at HS HS2
        simp only at HS HS2
        generalize soundB (ta, tl, td) = sb at HS HS2
        have hsb : (sb != sb) = false := by simp
        go_wp2
        go_region_held3 (fun w' => w'.cell? ⟨g, off + i * 3, none⟩ = some (.int .u8 ta) ∧ w'.cell? ⟨g, off + i * 3 + 1, none⟩ = some (.int .i64 tl) ∧ w'.cell? ⟨g, off + i * 3 + 2, none⟩ = some (.int .i64 td)) (first | exact ⟨d0, d1, d2⟩ | exact ⟨c0, c1, c2⟩ | go_keep) ((first
          | (go_at_call 18; refine (HS.out _).mono ?_; rintro e w4 ⟨rfl, hm⟩; have hh := HH.out.drew.same hm; obtain ⟨g', off', he, d0, d1, d2⟩ := (hh.old HV.out).tok HT.out; simp only [Option.some.injEq, Addr.mk.injEq, and_true] at he; obtain ⟨rfl, rfl⟩ := he; have H4 := hid hh; clear hm hh)
          | (go_at_call 19; refine (HS2.out _).mono ?_; rintro e w5 ⟨rfl, hm⟩; have hh := H4.out.same hm; obtain ⟨g', off', he, d0, d1, d2⟩ := (hh.old HV.out).tok HT.out; simp only [Option.some.injEq, Addr.mk.injEq, and_true] at he; obtain ⟨rfl, rfl⟩ := he; have H5 := hid hh; clear hm hh)))
        go_wp2
        go_roundg (gk - 1)
        case measure => omega
        case rel => exact ⟨i + 1, by omega, by omega, by go_num, H5⟩
      · have hiI : ¬ (i : Int) < (n : Int) := by omega
        have H4 := hid HH.out
        have hee : ((er : Int) == (er : Int)) = true := by simp
        go_wp2_with fail
        refine (HA.out _).mono ?_
        rintro e w4 ⟨rfl, hm⟩
        have hh := H4.out.same hm
        have HQ := hid (h_equal hh (.slice uo m uc) (.slice uo2 m uc2) X m hh.swap.own.rd hh.own.rd (by omega))
        clear hm hh
        go_wp2_with fail
        refine HQ.out.mono ?_
        rintro e w5 ⟨rfl, hh⟩
        have HB := hid hh.below
        clear hh HQ
        go_wp2
        go_ret
        exact ⟨rfl, HB.out⟩
theorem toks_tail (X Y : List Nat) (h : X <+: Y) (n m : Nat) (hn : n = X.length) (hm : m = Y.length) : n ≤ m ∧ (u8s Y).take n = u8s X := by
  obtain ⟨Z, rfl⟩ := h
  subst hn hm
  refine ⟨by simp, ?_⟩
  rw [u8s_append, List.take_append_of_le_length (by rw [u8s_length]; exact Nat.le_refl _), List.take_of_length_le (by rw [u8s_length]; exact Nat.le_refl _)]
set_option maxRecDepth 100000 in
set_option maxHeartbeats 3200000 in
theorem tokenJoins_walk (v : Value) (l : List Tok) (v2 : Value) (l2 : List Tok) (w : World) (hg : shToks.good w [v] l) (hg2 : shToks.good w [v2] l2) :
    Calls Try.prog 6 #[v, v2] w fun e w' => e = .returned (.bool true) ∧ Below w.heap.size w w' := by
  obtain ⟨hok, hv⟩ := toks_of hg
  obtain ⟨hok2, hv2⟩ := toks_of hg2
  obtain ⟨i1, hj0, hy0, hy1, hy2⟩ := info_parts infoTok
  clear hg hg2
  obtain ⟨n, hn⟩ : ∃ n, n = l.length := ⟨_, rfl⟩
  obtain ⟨m, hm⟩ : ∃ m, m = l2.length := ⟨_, rfl⟩
  rw [← hn] at hv
  rw [← hm] at hv2
  obtain ⟨ao, cap, rfl, _, _⟩ := hv.form
  obtain ⟨bo, bcap, rfl, _, _⟩ := hv2.form
  have HV := hid hv
  have HV2 := hid hv2
  have HN := hid (And.intro hn hm)
  have HOK := hid hok
  have HOK2 : Hid (byteOK (l ++ l2)) := hid (fun t ht => (List.mem_append.1 ht).elim (hok t) (hok2 t))
  have hn0 : (0 : Int) ≤ (n : Int) := Int.natCast_nonneg _
  have hm0 : (0 : Int) ≤ (m : Int) := Int.natCast_nonneg _
  have HA := hid h_answers8
  clear hv hn hok hv2 hm hok2
  by_cases h5 : 300 < n ∨ 300 < m
  · have hb : (decide ((300 : Int) < (n : Int)) = true) ∨ (decide ((300 : Int) < (n : Int)) = false ∧ decide ((300 : Int) < (m : Int)) = true) := by
      by_cases h : 300 < n
      · exact .inl (decide_eq_true (by omega))
      · exact .inr ⟨decide_eq_false (by omega), decide_eq_true (by omega)⟩
    clear h5
    rcases hb with hb | ⟨hb, hb2⟩
    all_goals
      go_enter Try.func6, Try.ntmps6
      go_wp2_with fail
      refine (HA.out _).mono ?_
      rintro e w1 ⟨rfl, hm⟩
      have HM := hid hm.toBelow
      clear hm
      go_wp2
      go_ret
      exact ⟨rfl, HM.out⟩
  · have hnb : n ≤ 300 := by omega
    have hmb : m ≤ 300 := by omega
    have hb1 : decide ((300 : Int) < (n : Int)) = false := decide_eq_false (by omega)
    have hb2 : decide ((300 : Int) < (m : Int)) = false := decide_eq_false (by omega)
    have HE := hid (expand_any (.slice ao n cap) n l w HV.out HOK.out (by omega))
    have HE2 := hid (fun w1 v (h : Rd w1 3 v (n + m) (toksV (l ++ l2))) => expand_any v (n + m) (l ++ l2) w1 h HOK2.out (by omega))
    have hX1 := expT_le l [] (Nat.zero_le _)
    have hX2 := expT_le (l ++ l2) [] (Nat.zero_le _)
    have hcase : (¬ (expT [] l).1 = 0 ∧ (expT [] (l ++ l2)).1 = (expT [] l).1 ∧ (expT [] (l ++ l2)).2 = []) ∨ ((expT [] l).1 = 0 ∧ ¬ (expT [] (l ++ l2)).1 = 0) ∨ ((expT [] l).1 = 0 ∧ (expT [] (l ++ l2)).1 = 0 ∧ (expT [] l).2 <+: (expT [] (l ++ l2)).2) := by
      have h1 := expT_app l l2 []
      by_cases h0 : (expT [] l).1 = 0
      · rw [if_pos h0] at h1
        by_cases h2 : (expT [] (l ++ l2)).1 = 0
        · refine .inr (.inr ⟨h0, h2, ?_⟩)
          rw [h1] at h2 ⊢
          exact expT_pre l2 _ h2
        · exact .inr (.inl ⟨h0, h2⟩)
      · rw [if_neg h0] at h1
        exact .inl ⟨h0, by rw [h1], by rw [h1]; exact expT_err l [] h0⟩
    generalize (expT [] l).1 = er at *
    generalize (expT [] l).2 = X at *
    generalize (expT [] (l ++ l2)).1 = fr at *
    generalize (expT [] (l ++ l2)).2 = Y at *
    obtain ⟨p, hp⟩ : ∃ p, p = X.length := ⟨_, rfl⟩
    obtain ⟨q, hq⟩ : ∃ q, q = Y.length := ⟨_, rfl⟩
    rw [← hp] at HE hX1
    rw [← hq] at HE2 hX2
    have hpb : p ≤ 16777216 := hX1
    have hqb : q ≤ 16777216 := hX2
    have HPQ := hid (And.intro hp hq)
    have HCS := hid hcase
    clear h5 hcase hX1 hX2 hp hq
    go_enter Try.func6, Try.ntmps6
    go_wp2_with fail
    refine HE.out.mono ?_
    rintro e w1 ⟨x, rfl, hh⟩
    obtain ⟨xo, xc, rfl, _, _⟩ := hh.own.form
    have H1 := hid hh
    have HL := hid (hh.lit 38 3 [] 0 (by decide) rfl)
    clear hh HE
    go_wp2_with (first
      | ((with_reducible show wpList _ _ _ (⟨some 26, _, _, _, _, _⟩ :: _) _ _); refine wpList_app_held rfl (.tmp 24) (.tmp 25) 31 rfl 38 i1 (.agg #[.int .u8 0, .int .i64 0, .int .i64 0]) 3 24 Try.underlying31 hj0 hy0 hy1 hy2 rfl (by decide) _ 0 [] rfl HL.out _ n (toksV l) rfl (HL.out.old HV.out) (toksV_one l) n (by omega) (by unfold maxLen; omega) (by omega) ?_; intro ao1 cap1 w2 h2; have H2 := hid h2; clear h2)
      | ((with_reducible show wpList _ _ _ (⟨some 28, _, _, _, _, _⟩ :: _) _ _); refine wpList_app_held rfl (.tmp 26) (.tmp 27) 31 rfl 38 i1 (.agg #[.int .u8 0, .int .i64 0, .int .i64 0]) 3 24 Try.underlying31 hj0 hy0 hy1 hy2 rfl (by decide) _ n _ rfl H2.out _ m (toksV l2) rfl (H2.out.old HV2.out) (toksV_one l2) (n + m) rfl (by unfold maxLen; omega) (by omega) ?_; intro ao2 cap2 w3 h3; have H3 := hid h3; clear h3))
    have HRD : Hid (Rd w3 3 (.slice ao2 (n + m) cap2) (n + m) (toksV (l ++ l2))) := hid (by have h := H3.out.own.rd; rw [List.nil_append, ← toksV_app] at h; exact h)
    refine (HE2.out w3 _ HRD.out).mono ?_
    rintro e w4 ⟨y, rfl, hh⟩
    obtain ⟨yo, yc, rfl, hqc, hqm⟩ := hh.own.form
    have H4 : Hid (Held w w4 [ownT 5 1 (.slice yo q yc) q (u8s Y), ownT 5 1 (.slice xo p xc) p (u8s X)]) := hid ((H3.out.frame hh).swap.drop)
    clear hh HE2 H3 H2 HL H1 HRD
    rcases HCS.out with ⟨h1, h2, h3⟩ | ⟨h1, h2⟩ | ⟨h1, h2, h3⟩
    · have hq0 : q = 0 := by rw [HPQ.out.2, h3]; rfl
      subst hq0
      subst h2
      have hb3 : ((fr : Int) != 0) = true := by simp; exact h1
      clear h1
      go_wp2_with fail
      refine (HA.out _).mono ?_
      rintro e w5 ⟨rfl, hm⟩
      have HM := hid (H4.out.same hm).below
      clear hm
      go_wp2
      go_ret
      exact ⟨rfl, HM.out⟩
    · subst h1
      have hb3 : ((fr : Int) != 0) = true := by simp; exact h2
      clear h2
      go_wp2_with fail
      refine (HA.out _).mono ?_
      rintro e w5 ⟨rfl, hm⟩
      have HM := hid (H4.out.same hm).below
      clear hm
      go_wp2
      go_ret
      exact ⟨rfl, HM.out⟩
    · subst h1
      subst h2
      obtain ⟨hpq, hpre⟩ := toks_tail X Y h3 p q HPQ.out.1 HPQ.out.2
      have hb4 : decide ((p : Int) ≤ (q : Int)) = true := decide_eq_true (by omega)
      have hb5 : decide (p ≤ q) = true := decide_eq_true hpq
      have hp0 : (0 : Int) ≤ (p : Int) := Int.natCast_nonneg _
      have hcut : ∀ wg, (Instr.sliceAt 32 (.slice yo q yc) none (some (.int .i64 (p : Int))) none).run Try.prog wg = .ok (.slice yo p yc) wg := fun wg => by
        obtain ⟨i, hi, hz0, hz1, hz2⟩ := info_parts infoByte8
        have hr := run_cut (P := Try.prog) (w := wg) 32 5 i 1 Try.underlying32 hi hz1 yo q yc 0 p none (some (.int .i64 (p : Int))) rfl ⟨_, rfl⟩ (Nat.zero_le _) (by omega)
        rw [sliced_front yo p yc 1 H4.out.own.spotless] at hr
        exact hr
      have HPRE := hid hpre
      clear h3 hpre
      go_wp2_with fail
      refine (HA.out _).mono ?_
      rintro e w5 ⟨rfl, hm⟩
      have hh := H4.out.same hm
      have hrd := hh.own.rd.front hpq
      rw [Nat.mul_one, HPRE.out] at hrd
      have HQ := hid (h_equal hh (.slice yo p yc) (.slice xo p xc) X p hrd hh.swap.own.rd (by omega))
      clear hm hh hrd
      go_wp2_with fail
      refine HQ.out.mono ?_
      rintro e w6 ⟨rfl, hh⟩
      have HM := hid hh.below
      clear hh HQ
      go_wp2
      go_ret
      exact ⟨rfl, HM.out⟩
end Go.Proofs.Ytgngkphdiaefcaa
