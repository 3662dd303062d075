/-
  The law MatchFar, of MatchOK.
-/
import Derived.Test.YtjmdgcppllnkdaaDoorLawMat1
namespace Go.Proofs.YtjmdgcppllnkdaaDoor
open Go.RowKit

set_option maxRecDepth 100000 in
set_option maxHeartbeats 3200000 in
theorem matchFar_from {M : MatchM} {F : M.St → Nat → Thing} {Lv : World → Prop} (HM : MatchOK M F Lv) (v : Value) (b : List Int) (gap level : Int) (w : World) (HLV : Lv w) (hg : shMBs.good w [v] b) (hgp : (Lit.int .u16 gap).wf = true) (_ : (Lit.int .i64 level).wf = true) :
    Calls Tryd.prog 7 #[v, .int .u16 gap, .int .i64 level] w fun e w' => e = .returned (.bool true) ∧ Below w.heap.size w w' := by
  obtain ⟨bs, hb256, hv⟩ := mbs_of hg
  have hgr0 := Go.bounds_u16 hgp
  clear hg hgp
  obtain ⟨gg, rfl⟩ := Int.eq_ofNat_of_zero_le hgr0.1
  clear hgr0
  obtain ⟨i0, hi0, hz0, hz1, hz2⟩ := info_parts infoByte9
  obtain ⟨n, hn⟩ : ∃ n, n = bs.length := ⟨_, rfl⟩
  rw [← hn] at hv
  obtain ⟨ao, cap, rfl, _, _⟩ := hv.form
  have hn0 : (0 : Int) ≤ (n : Int) := Int.natCast_nonneg _
  have HV := hid hv
  have HNB := hid hn
  have HB := hid hb256
  clear hv hn hb256
  by_cases h5 : n < 3 ∨ 100 < n
  · have hb : (decide ((n : Int) < 3) = true) ∨ (decide ((n : Int) < 3) = false ∧ decide ((100 : Int) < (n : Int)) = true) := by
      by_cases h : n < 3
      · exact .inl (decide_eq_true (by omega))
      · exact .inr ⟨decide_eq_false (by omega), decide_eq_true (by omega)⟩
    have HA := hid (h_answers9 HM HLV (Held.start w))
    clear h5
    rcases hb with hb | ⟨hb, hb2⟩
    all_goals
      go_enter Tryd.func7, Tryd.ntmps7
      go_wp2_with fail
      refine HA.out.mono ?_
      rintro e w1 ⟨rfl, hh⟩
      have HE := hid hh.below
      clear hh
      go_wp2
      go_ret
      exact ⟨rfl, HE.out⟩
  · have hb1 : decide ((n : Int) < 3) = false := decide_eq_false (by omega)
    have hb2 : decide ((100 : Int) < (n : Int)) = false := decide_eq_false (by omega)
    have hn3 : 3 ≤ n := by omega
    have hn100 : n ≤ 100 := by omega
    clear h5
    obtain ⟨r, hr⟩ : ∃ r, r = gg % 200 := ⟨_, rfl⟩
    have hrI : (gg : Int) % 200 = (r : Int) := by omega
    have hrT : (gg : Int).tmod 200 = (r : Int) := by rw [hr]; rfl
    have hr0 : (0 : Int) ≤ (r : Int) := Int.natCast_nonneg _
    have hr2 : r < 200 := by omega
    obtain ⟨G, hG⟩ : ∃ G, G = 32700 + r := ⟨_, rfl⟩
    have hGI : (32700 : Int) + (r : Int) = (G : Int) := by omega
    have hG0 : (0 : Int) ≤ (G : Int) := Int.natCast_nonneg _
    have hGb : G ≤ 32900 := by omega
    clear hr hG
    have HL := hid ((Held.start w).lit 5 1 [] 0 (by decide) rfl)
    go_enter Tryd.func7, Tryd.ntmps7
    go_wp2_with (refine wpList_app_held rfl (.tmp 21) (.tmp 22) 22 rfl 5 i0 (.int .u8 0) 1 1 Tryd.underlying22 hi0 hz0 hz1 hz2 rfl (by decide) _ 0 [] rfl HL.out _ n (u8s bs) rfl (HL.out.old HV.out) (u8s_one bs) n (by omega) (by unfold maxLen; omega) (by omega) ?_; intro ao1 cap1 w1 h1; rw [List.nil_append] at h1; have H1 := hid h1; clear h1)
    go_loopg [7, 8] (G + 2) (fun g t7 t8 wr => ∃ (i m : Nat) (X : List Nat) (a7 : Option Addr) (c7 : Nat), i ≤ G ∧ G - i < g ∧ t8 = .int .i64 (i : Int) ∧ t7 = .slice a7 m c7 ∧ Hid (m = X.length) ∧ m ≤ 100 + 2 * i ∧ Hid (∀ b ∈ X, b < 256) ∧ Hid (Held w wr [ownT 5 1 (.slice a7 m c7) m (u8s X)]))
    case atStart => exact ⟨0, n, bs, _, _, by omega, by omega, rfl, rfl, HNB, by omega, HB, H1⟩
    case round =>
      obtain ⟨i, m, X, a7, c7, hi, hg, rfl, rfl, HMX, hm, HXB, HH⟩ := hrel
      have hi0' : (0 : Int) ≤ (i : Int) := Int.natCast_nonneg _
      have hm0 : (0 : Int) ≤ (m : Int) := Int.natCast_nonneg _
      by_cases hiG : i < G
      · have hiI : decide ((i : Int) < (G : Int)) = true := decide_eq_true (by omega)
        have hiI2 : decide (i < G) = true := decide_eq_true hiG
        obtain ⟨y, hy⟩ : ∃ y, y = i / 256 := ⟨_, rfl⟩
        have hyI : (i : Int) / 256 = (y : Int) := by omega
        have hy256 : y < 256 := by omega
        obtain ⟨z, hz⟩ : ∃ z, z = i % 256 := ⟨_, rfl⟩
        have hzI : (i : Int) % 256 = (z : Int) := by omega
        have hz256 : z < 256 := by omega
        have hyw : (y : Int) % 256 = (y : Int) := by omega
        have hy0 : (0 : Int) ≤ (y : Int) := Int.natCast_nonneg _
        obtain ⟨m2, hm2⟩ : ∃ m2, m2 = m + 2 := ⟨_, rfl⟩
        have HMX2 : Hid (m2 = (X ++ [y, z]).length) := hid (by rw [List.length_append, ← HMX.out, hm2]; rfl)
        have HXB2 : Hid (∀ b ∈ X ++ [y, z], b < 256) := hid (fun b h => by
          rcases List.mem_append.1 h with h | h
          · exact HXB.out b h
          · simp at h; omega)
        have hm2b : m2 ≤ 100 + 2 * (i + 1) := by omega
        have HM2 := hid hm2
        have hm20 : (0 : Int) ≤ (m2 : Int) := Int.natCast_nonneg _
        clear hy hz hm2
        by_cases hbr : 33000 < m2 ∧ 16300 < i
        · have hc1 : decide ((33000 : Int) < (m2 : Int)) = true := decide_eq_true (by omega)
          have hc2 : decide ((16300 : Int) < (i : Int)) = true := decide_eq_true (by omega)
          have hc3 : decide (33000 < m2) = true := decide_eq_true hbr.1
          have hc4 : decide (16300 < i) = true := decide_eq_true hbr.2
          clear hbr
          obtain ⟨X2, hX2⟩ : ∃ X2, X2 = X ++ [y, z] := ⟨_, rfl⟩
          rw [← hX2] at HMX2 HXB2
          have HX2 := hid hX2
          clear hX2
          have hXb := HXB2.out
          have HX := hid hXb
          obtain ⟨Y, hY⟩ : ∃ Y, Y = X2 ++ bs := ⟨_, rfl⟩
          obtain ⟨N, hN⟩ : ∃ N, N = m2 + n := ⟨_, rfl⟩
          have hYl : N = Y.length := by rw [hY, List.length_append, ← HMX2.out, ← HNB.out, hN]
          have hYb : ∀ b ∈ Y, b < 256 := by rw [hY]; exact fun b h => (List.mem_append.1 h).elim (HX.out b) (HB.out b)
          have hNb : N ≤ 70000 := by omega
          obtain ⟨he, hbk⟩ := HM.laws.one_means Y level hYb (by unfold most; omega)
          have HO := hid (fun w1 (u : Value) (Rs : List Thing) (hh : Held w w1 Rs) (hr : Rd w1 1 u N (u8s Y)) => HM.one u N Y level w w1 Rs HLV hh hr hYb (by omega))
          have HA := hid (fun w1 (Rs : List Thing) (hh : Held w w1 Rs) => h_answers9 HM HLV hh)
          have hgr := expT_grow _ _ _ he
          generalize M.one Y level = L at *
          obtain ⟨k, hk⟩ : ∃ k, k = L.length := ⟨_, rfl⟩
          have hk2 : k ≤ 70000 := by simp at hgr; omega
          have HR := hid (fun w1 (u : Value) (hr : Rd w1 3 u k (toksV L)) => refexpand_any u k L w1 hr hbk (by omega))
          rw [he] at HR
          simp only at HR
          rw [← hYl] at HR
          unfold tokT at HO
          rw [← hk] at HO
          have HYN := hid (And.intro hY hN)
          clear hXb hY hN hYl hYb he hbk hgr hk
          go_wp2_with (first
            | ((with_reducible show wpList _ _ _ (⟨some 39, _, _, _, _, _⟩ :: _) _ _); refine wpList_app_held rfl (.tmp 32) (.tmp 38) 22 rfl 5 i0 (.int .u8 0) 1 1 Tryd.underlying22 hi0 hz0 hz1 hz2 rfl (by decide) _ m (u8s X) rfl (HH.out.alloc _) _ 2 (u8s [y, z]) rfl (Rd.lit _ [_, _] _ 1 2 (by decide) rfl) (u8s_one [y, z]) m2 HM2.out (by unfold maxLen; omega) (by omega) ?_; intro ao1 cap1 w4 h4; rw [← u8s_append, ← HX2.out] at h4; have H4 := hid h4; clear h4)
            | ((with_reducible show wpList _ _ _ (⟨some 49, _, _, _, _, _⟩ :: _) _ _); refine wpList_app_held rfl (.tmp 47) (.tmp 48) 22 rfl 5 i0 (.int .u8 0) 1 1 Tryd.underlying22 hi0 hz0 hz1 hz2 rfl (by decide) _ m2 (u8s X2) rfl H4.out _ n (u8s bs) rfl (H4.out.old HV.out) (u8s_one bs) N HYN.out.2 (by unfold maxLen; omega) (by omega) ?_; intro ao2 cap2 w2 h2; rw [← u8s_append, ← HYN.out.1] at h2; have H2 := hid h2; clear h2))
          refine (HO.out w2 _ _ H2.out H2.out.own.rd).mono ?_
          rintro e w3 ⟨y, rfl, hh⟩
          obtain ⟨yo, yc, rfl, _, _⟩ := hh.own.form
          have H3 := hid hh
          clear hh H2
          go_wp2_with fail
          refine (HR.out w3 _ H3.out.own.rd).mono ?_
          rintro e w4 ⟨z, rfl, hh⟩
          obtain ⟨zo, zc, rfl, _, _⟩ := hh.own.form
          have H4 : Hid (Held w w4 [ownT 5 1 (.slice zo N zc) N (u8s Y), ownT 32 3 (.slice yo k yc) k (toksV L), ownT 5 1 (.slice ao2 N cap2) N (u8s Y)]) := hid (H3.out.frame hh)
          clear hh HR H3
          go_wp2_with fail
          refine (HA.out w4 _ H4.out).mono ?_
          rintro e w5 ⟨rfl, hh⟩
          have HQ := hid (h_equal9 hh (.slice ao2 N cap2) (.slice zo N zc) Y N hh.third.own.rd hh.own.rd (by omega))
          clear hh HA H4
          go_wp2_with fail
          refine HQ.out.mono ?_
          rintro e w6 ⟨rfl, hh⟩
          have HE := hid hh.below
          clear hh HQ
          go_wp2
          go_ret
          exact ⟨rfl, HE.out⟩
        · have hc : (decide ((33000 : Int) < (m2 : Int)) = false ∧ decide (33000 < m2) = false) ∨ (decide ((33000 : Int) < (m2 : Int)) = true ∧ decide (33000 < m2) = true ∧ decide ((16300 : Int) < (i : Int)) = false ∧ decide (16300 < i) = false) := by
            by_cases h : 33000 < m2
            · exact .inr ⟨decide_eq_true (by omega), decide_eq_true h, decide_eq_false (by omega), decide_eq_false (by omega)⟩
            · exact .inl ⟨decide_eq_false (by omega), decide_eq_false h⟩
          clear hbr
          rcases hc with ⟨hc1, hc2⟩ | ⟨hc1, hc2, hc3, hc4⟩
          all_goals
            go_wp2_with (refine wpList_app_held rfl (.tmp 32) (.tmp 38) 22 rfl 5 i0 (.int .u8 0) 1 1 Tryd.underlying22 hi0 hz0 hz1 hz2 rfl (by decide) _ m (u8s X) rfl (HH.out.alloc _) _ 2 (u8s [y, z]) rfl (Rd.lit _ [_, _] _ 1 2 (by decide) rfl) (u8s_one [y, z]) m2 HM2.out (by unfold maxLen; omega) (by omega) ?_; intro ao1 cap1 w4 h4; rw [← u8s_append] at h4; have H4 := hid h4; clear h4)
            go_roundg (gk - 1)
            case measure => omega
            case rel => exact ⟨i + 1, m2, X ++ [y, z], _, _, by omega, by omega, by go_num, rfl, HMX2, hm2b, HXB2, H4⟩
      · have hiI : decide ((i : Int) < (G : Int)) = false := decide_eq_false (by omega)
        have hiI2 : decide (i < G) = false := decide_eq_false hiG
        have hXb := HXB.out
        have HX := hid hXb
        obtain ⟨Y, hY⟩ : ∃ Y, Y = X ++ bs := ⟨_, rfl⟩
        obtain ⟨N, hN⟩ : ∃ N, N = m + n := ⟨_, rfl⟩
        have hYl : N = Y.length := by rw [hY, List.length_append, ← HMX.out, ← HNB.out, hN]
        have hYb : ∀ b ∈ Y, b < 256 := by rw [hY]; exact fun b h => (List.mem_append.1 h).elim (HX.out b) (HB.out b)
        have hNb : N ≤ 70000 := by omega
        obtain ⟨he, hbk⟩ := HM.laws.one_means Y level hYb (by unfold most; omega)
        have HO := hid (fun w1 (u : Value) (Rs : List Thing) (hh : Held w w1 Rs) (hr : Rd w1 1 u N (u8s Y)) => HM.one u N Y level w w1 Rs HLV hh hr hYb (by omega))
        have HA := hid (fun w1 (Rs : List Thing) (hh : Held w w1 Rs) => h_answers9 HM HLV hh)
        have hgr := expT_grow _ _ _ he
        generalize M.one Y level = L at *
        obtain ⟨k, hk⟩ : ∃ k, k = L.length := ⟨_, rfl⟩
        have hk2 : k ≤ 70000 := by simp at hgr; omega
        have HR := hid (fun w1 (u : Value) (hr : Rd w1 3 u k (toksV L)) => refexpand_any u k L w1 hr hbk (by omega))
        rw [he] at HR
        simp only at HR
        rw [← hYl] at HR
        unfold tokT at HO
        rw [← hk] at HO
        have HYN := hid (And.intro hY hN)
        clear hXb hY hN hYl hYb he hbk hgr hk
        go_wp2_with (refine wpList_app_held rfl (.tmp 47) (.tmp 48) 22 rfl 5 i0 (.int .u8 0) 1 1 Tryd.underlying22 hi0 hz0 hz1 hz2 rfl (by decide) _ m (u8s X) rfl HH.out _ n (u8s bs) rfl (HH.out.old HV.out) (u8s_one bs) N HYN.out.2 (by unfold maxLen; omega) (by omega) ?_; intro ao2 cap2 w2 h2; rw [← u8s_append, ← HYN.out.1] at h2; have H2 := hid h2; clear h2)
        refine (HO.out w2 _ _ H2.out H2.out.own.rd).mono ?_
        rintro e w3 ⟨y, rfl, hh⟩
        obtain ⟨yo, yc, rfl, _, _⟩ := hh.own.form
        have H3 := hid hh
        clear hh H2
        go_wp2_with fail
        refine (HR.out w3 _ H3.out.own.rd).mono ?_
        rintro e w4 ⟨z, rfl, hh⟩
        obtain ⟨zo, zc, rfl, _, _⟩ := hh.own.form
        have H4 : Hid (Held w w4 [ownT 5 1 (.slice zo N zc) N (u8s Y), ownT 32 3 (.slice yo k yc) k (toksV L), ownT 5 1 (.slice ao2 N cap2) N (u8s Y)]) := hid (H3.out.frame hh)
        clear hh HR H3
        go_wp2_with fail
        refine (HA.out w4 _ H4.out).mono ?_
        rintro e w5 ⟨rfl, hh⟩
        have HQ := hid (h_equal9 hh (.slice ao2 N cap2) (.slice zo N zc) Y N hh.third.own.rd hh.own.rd (by omega))
        clear hh HA H4
        go_wp2_with fail
        refine HQ.out.mono ?_
        rintro e w6 ⟨rfl, hh⟩
        have HE := hid hh.below
        clear hh HQ
        go_wp2
        go_ret
        exact ⟨rfl, HE.out⟩
end Go.Proofs.YtjmdgcppllnkdaaDoor
