/-
  The program's Expand.
-/
import Derived.Test.YtgngkphdiaefcaaTokList
import Derived.Test.YtgngkphdiaefcaaWinDone
import Derived.Test.YtgngkphdiaefcaaFam
namespace Go.Proofs.Ytgngkphdiaefcaa
open Go.RowKit

section
variable {w0 w : World} {Rs : List Thing}
def tokP (B : Nat) : Value := .pointer (some ⟨B, 0, none⟩)
theorem expandOne_lit (a : Int) (acc : List Nat) (B : Nat) (h : Held w0 w (winT acc B :: Rs)) (ha0 : 0 ≤ a) (ha : a ≤ 255) (hb : ∀ b ∈ acc, b < 256) (hl : acc.length ≤ most) :
    Calls Try.prog 26 #[tokP B, tokV (a, 0, 0)] w fun e w' => ∃ v, e = .returned (.tuple #[v, .int .i64 0]) ∧ Held w0 w' (ownT 5 1 v 1 (u8s [a.toNat]) :: winT (acc ++ [a.toNat]) B :: Rs) := by
  obtain ⟨n, rfl⟩ := Int.eq_ofNat_of_zero_le ha0
  have hn : n < 256 := by omega
  rw [Int.toNat_natCast]
  unfold tokP tokV
  have HM := hid (isMatch_any (n : Int) 0 0)
  rw [show decide ((n : Int) = 0 ∧ ((3 : Int) ≤ 0 ∧ (0 : Int) ≤ 258) ∧ ((1 : Int) ≤ 0 ∧ (0 : Int) ≤ 32768)) = false by simp] at HM
  have H0 := hid h
  have HB : Hid ((∀ b ∈ acc, b < 256) ∧ acc.length + 1 < 1000000000) := hid ⟨hb, by unfold most at hl; omega⟩
  clear h ha ha0 hb hl
  go_enter Try.func26, Try.ntmps26
  go_wp2_with fail
  refine (HM.out _).mono ?_
  rintro e w1 ⟨rfl, hm⟩
  have hh := (H0.out.newObj [.int .u8 (n : Int), .int .i64 0, .int .i64 0] 38).same hm
  have c0 := hh.obj.cell (i := 0) rfl
  have h2 := (hh.drop.lit 5 1 [.int .u8 (n : Int)] 1 (by decide) rfl)
  have HAD := hid (windowOK.add acc B (.slice (some ⟨w1.heap.size, 0, none⟩) 1 1) 1 [n] w0 _ _ h2.swap h2.own.rd (by simpa using hn) HB.out.1 HB.out.2)
  clear hm hh H0 h2 HM
  go_wp2_with fail
  refine HAD.out.mono ?_
  rintro e w2 ⟨rfl, hh⟩
  have HE := hid hh
  clear hh HAD
  go_wp2
  go_ret2
  exact ⟨_, rfl, HE.out.swap⟩
theorem expandOne_far (l d : Int) (acc : List Nat) (B : Nat) (h : Held w0 w (winT acc B :: Rs)) (hl1 : 3 ≤ l) (hl2 : l ≤ 258) (hd1 : 1 ≤ d) (hd2 : d ≤ 32768) (hd : (acc.length : Int) < d) (hl : acc.length ≤ most) :
    Calls Try.prog 26 #[tokP B, tokV (0, l, d)] w fun e w' => ∃ v, e = .returned (.tuple #[v, .int .i64 3]) ∧ Held w0 w' (winT acc B :: Rs) := by
  unfold tokP tokV
  have HM := hid (isMatch_any 0 l d)
  rw [show decide ((0 : Int) = 0 ∧ ((3 : Int) ≤ l ∧ l ≤ 258) ∧ ((1 : Int) ≤ d ∧ d ≤ 32768)) = true by simp [hl1, hl2, hd1, hd2]] at HM
  have H0 := hid h
  have HC := hid (fun w1 (hh : Held w0 w1 (winT acc B :: Rs)) => windowOK.copyCode acc B l d w0 w1 Rs hh (by unfold most at hl; omega) (by omega) hl2 (.inr (by omega)))
  clear h hl hd
  go_enter Try.func26, Try.ntmps26
  go_wp2_with fail
  refine (HM.out _).mono ?_
  rintro e w1 ⟨rfl, hm⟩
  have hh := (H0.out.newObj [.int .u8 0, .int .i64 l, .int .i64 d] 38).same hm
  have c1 := hh.obj.cell (i := 1) rfl
  have c2 := hh.obj.cell (i := 2) rfl
  have HCP := hid (HC.out w1 hh.drop)
  clear hm hh H0 HM HC
  go_wp2_with fail
  refine HCP.out.mono ?_
  rintro e w2 ⟨v, rfl, _, hh⟩
  have HE := hid hh
  clear hh HCP
  go_wp2
  go_ret2
  exact ⟨_, rfl, HE.out⟩
theorem expandOne_match (l d : Nat) (acc : List Nat) (B : Nat) (h : Held w0 w (winT acc B :: Rs)) (hl1 : 3 ≤ l) (hl2 : l ≤ 258) (hd1 : 1 ≤ d) (hd2 : d ≤ 32768) (hd : d ≤ acc.length) (hb : ∀ b ∈ acc, b < 256) (hl : acc.length ≤ most) :
    Calls Try.prog 26 #[tokP B, tokV (0, (l : Int), (d : Int))] w fun e w' => ∃ v, e = .returned (.tuple #[v, .int .i64 0]) ∧ Held w0 w' (ownT 5 1 v l (u8s (out acc d l)) :: winT (ext acc d l) B :: Rs) := by
  unfold tokP tokV
  have HM := hid (isMatch_any 0 (l : Int) (d : Int))
  rw [show decide ((0 : Int) = 0 ∧ ((3 : Int) ≤ (l : Int) ∧ (l : Int) ≤ 258) ∧ ((1 : Int) ≤ (d : Int) ∧ (d : Int) ≤ 32768)) = true by simp; omega] at HM
  have H0 := hid h
  have HC := hid (fun w1 (hh : Held w0 w1 (winT acc B :: Rs)) => windowOK.copy acc B l d w0 w1 Rs hh hb (by unfold most at hl; omega) (by omega) hl2 hd1 hd hd2)
  clear h hl hd hb
  go_enter Try.func26, Try.ntmps26
  go_wp2_with fail
  refine (HM.out _).mono ?_
  rintro e w1 ⟨rfl, hm⟩
  have hh := (H0.out.newObj [.int .u8 0, .int .i64 (l : Int), .int .i64 (d : Int)] 38).same hm
  have c1 := hh.obj.cell (i := 1) rfl
  have c2 := hh.obj.cell (i := 2) rfl
  have HCP := hid (HC.out w1 hh.drop)
  clear hm hh H0 HM HC
  go_wp2_with fail
  refine HCP.out.mono ?_
  rintro e w2 ⟨v, rfl, hh⟩
  have HE := hid hh
  clear hh HCP
  go_wp2
  go_ret2
  exact ⟨_, rfl, HE.out⟩
/-- a token that is sound, fits and does not go back too far -/
theorem expandOne_ok (t : Tok) (acc : List Nat) (B : Nat) (h : Held w0 w (winT acc B :: Rs)) (hs : soundB t = true) (h0 : (stepT acc t).1 = 0) (ht : 0 ≤ t.1 ∧ t.1 ≤ 255) (hb : ∀ b ∈ acc, b < 256) (hl : acc.length ≤ most) :
    Calls Try.prog 26 #[tokP B, tokV t] w fun e w' => ∃ v k bs, e = .returned (.tuple #[v, .int .i64 0]) ∧ k = bs.length ∧ (stepT acc t).2 = acc ++ bs ∧ Held w0 w' (ownT 5 1 v k (u8s bs) :: winT (acc ++ bs) B :: Rs) := by
  obtain ⟨a, l, d⟩ := t
  by_cases hl0 : l = 0
  · subst hl0
    have hd0 : d = 0 := sound_lit hs rfl
    subst hd0
    have hc : ¬ most ≤ acc.length := fun hc => by rw [stepT_litCap hs rfl hc] at h0; simp at h0
    rw [stepT_lit hs rfl hc]
    exact (expandOne_lit a acc B h ht.1 ht.2 hb hl).mono fun _ _ ⟨v, h1, h2⟩ => ⟨v, 1, [a.toNat], h1, rfl, rfl, h2⟩
  · obtain ⟨ha, ⟨h1, h2⟩, h3, h4⟩ := sound_match hs hl0
    obtain rfl : a = 0 := ha
    have hc : ¬ most < acc.length + l.toNat := fun hc => by rw [stepT_matchCap hs hl0 hc] at h0; simp at h0
    have hd : ¬ acc.length < d.toNat := fun hd => by rw [stepT_far hs hl0 hc hd] at h0; simp at h0
    rw [stepT_match hs hl0 hc hd]
    obtain ⟨l, rfl⟩ := Int.eq_ofNat_of_zero_le (show 0 ≤ l by have : 3 ≤ l := h1; omega)
    obtain ⟨d, rfl⟩ := Int.eq_ofNat_of_zero_le (show 0 ≤ d by have : 1 ≤ d := h3; omega)
    simp only [Int.toNat_natCast] at hc hd h1 h2 h3 h4 ⊢
    refine (expandOne_match l d acc B h (by omega) (by omega) (by omega) (by omega) (by omega) hb hl).mono fun _ _ ⟨v, g1, g2⟩ => ⟨v, l, out acc d l, g1, (out_length _ _ _).symm, ext_out _ _ _, ?_⟩
    rw [← ext_out]
    exact g2
theorem expandOne_err (t : Tok) (acc : List Nat) (B : Nat) (h : Held w0 w (winT acc B :: Rs)) (hs : soundB t = true) (hc : ¬ (stepT acc t).1 = 6) (h0 : ¬ (stepT acc t).1 = 0) (hl : acc.length ≤ most) :
    (stepT acc t).1 = 3 ∧ Calls Try.prog 26 #[tokP B, tokV t] w fun e w' => ∃ v, e = .returned (.tuple #[v, .int .i64 3]) ∧ Held w0 w' (winT acc B :: Rs) := by
  obtain ⟨a, l, d⟩ := t
  by_cases hl0 : l = 0
  · exfalso
    by_cases hc2 : most ≤ acc.length
    · exact hc (by rw [stepT_litCap hs hl0 hc2])
    · exact h0 (by rw [stepT_lit hs hl0 hc2])
  · obtain ⟨ha, ⟨h1, h2⟩, h3, h4⟩ := sound_match hs hl0
    obtain rfl : a = 0 := ha
    simp only at h1 h2 h3 h4
    have hc2 : ¬ most < acc.length + l.toNat := fun hc2 => hc (by rw [stepT_matchCap hs hl0 hc2])
    by_cases hd : acc.length < d.toNat
    · exact ⟨by rw [stepT_far hs hl0 hc2 hd], expandOne_far l d acc B h h1 h2 h3 h4 (by omega) hl⟩
    · exact absurd (by rw [stepT_match hs hl0 hc2 hd]) h0
/-- when it is too much -/
theorem stepT_cap {t : Tok} {acc : List Nat} (hs : soundB t = true) : (stepT acc t).1 = 6 ↔ (most : Int) < (acc.length : Int) + max t.2.1 1 := by
  obtain ⟨a, l, d⟩ := t
  by_cases hl0 : l = 0
  · subst hl0
    simp only
    by_cases hc2 : most ≤ acc.length
    · rw [stepT_litCap hs rfl hc2]; simp; omega
    · rw [stepT_lit hs rfl hc2]; simp; omega
  · obtain ⟨ha, ⟨h1, h2⟩, h3, h4⟩ := sound_match hs hl0
    simp only at h1 h2 h3 h4 ⊢
    by_cases hc2 : most < acc.length + l.toNat
    · rw [stepT_matchCap hs hl0 hc2]; simp; omega
    · by_cases hd : acc.length < d.toNat
      · rw [stepT_far hs hl0 hc2 hd]; simp; omega
      · rw [stepT_match hs hl0 hc2 hd]; simp; omega
theorem infoByte8 : (Try.prog.info? 5).map (fun i => (i.zero, i.size, i.bytes)) = some (some (.int .u8 0), 1, 1) := by kernel_rfl
set_option maxHeartbeats 3200000 in
theorem expand_any (v : Value) (n : Nat) (l : List Tok) (w : World) (hv : Rd w 3 v n (toksV l)) (hok : byteOK l) (hn : n < 1000000000) :
    Calls Try.prog 16 #[v] w fun e w' => ∃ u, e = .returned (.tuple #[u, .int .i64 (((expT [] l).1 : Nat) : Int)]) ∧ Held w w' [ownT 5 1 u (expT [] l).2.length (u8s (expT [] l).2)] := by
  obtain ⟨i0, hi0, hz0, hz1, hz2⟩ := info_parts infoByte8
  obtain ⟨ao, cap, rfl, _, _⟩ := hv.form
  have HL := hid hv.toks_len
  have HV := hid hv
  have HOK := hid hok
  have HNW := hid (win_new (Held.start w))
  have hn0 : (0 : Int) ≤ (n : Int) := Int.natCast_nonneg _
  clear hv hok
  go_enter Try.func16, Try.ntmps16
  go_wp2_with fail
  refine HNW.out.mono ?_
  rintro e w1 ⟨B, rfl, hh⟩
  have H1 := hid hh
  clear hh HNW
  go_wp2
  go_loopg [4, 13] (n + 2) (fun k t4 t13 wr => ∃ (i m : Nat) (A : List Nat) (a4 : Option Addr) (c4 : Nat), i ≤ n ∧ n - i < k ∧ t13 = .int .i64 (i : Int) ∧ t4 = .slice a4 m c4 ∧ Hid (m = A.length) ∧ m ≤ 16777216 ∧ Hid (∀ b ∈ A, b < 256) ∧ Hid (expT [] l = expT A (l.drop i)) ∧
    Hid (Held w wr [ownT 5 1 (.slice a4 m c4) m (u8s A), winT A B]))
  case atStart => exact ⟨0, 0, [], none, 0, by omega, by omega, rfl, rfl, rfl, by omega, hid (by simp), rfl, hid (H1.out.nil 5 1)⟩
  case round =>
    obtain ⟨i, m, A, a4, c4, hi, hk, rfl, rfl, HM, hm, HA, HE, HH⟩ := hrel
    have hi0' : (0 : Int) ≤ (i : Int) := Int.natCast_nonneg _
    have hm0 : (0 : Int) ≤ (m : Int) := Int.natCast_nonneg _
    by_cases hin : i < n
    · have hiI : (i : Int) < (n : Int) := by omega
      obtain ⟨⟨ta, tl, td⟩, ht⟩ : ∃ t, l[i]? = some t := ⟨l[i]'(by have := HL.out; omega), List.getElem?_eq_getElem _⟩
      obtain ⟨g, off, rfl, c0, c1, c2⟩ := (HH.out.old HV.out).tok ht
      have HT := hid ht
      clear ht
      have HS := hid (sound_any (ta, tl, td))
      unfold tokV at HS
      simp only at HS
      have HCAP := hid (@stepT_cap (ta, tl, td) A)
      have HTD := hid (expT_drop A l i (ta, tl, td) HT.out)
      by_cases hsb : soundB (ta, tl, td) = true
      · rw [hsb] at HS
        have HSB := hid hsb
        clear hsb
        obtain ⟨z, hz⟩ : ∃ z : Nat, (m : Int) + max tl 1 = (z : Int) := ⟨((m : Int) + max tl 1).toNat, by omega⟩
        have hx : tl = 0 ∨ (3 ≤ tl ∧ tl ≤ 258) := by
          by_cases h0 : tl = 0
          · exact .inl h0
          · exact .inr (sound_match HSB.out h0).2.1
        have hzb : z ≤ 16780000 := by omega
        have hzc : (stepT A (ta, tl, td)).1 = 6 ↔ 16777216 < z := by
          rw [HCAP.out HSB.out, ← HM.out]
          simp only [most]; omega
        have HX : Hid ((tl = 0 ∧ (m : Int) + 1 = (z : Int)) ∨ (¬ tl < 1 ∧ (m : Int) + tl = (z : Int))) := hid (by omega)
        have HZC := hid hzc
        clear hx hz hzc
        by_cases h6 : 16777216 < z
        · have HF : Hid (expT [] l = (6, [])) := hid (by rw [HE.out, HTD.out, HZC.out.2 h6]; rfl)
          have hb1 : decide ((16777216 : Int) < (z : Int)) = true := decide_eq_true (by omega)
          have hb2 : decide (16777216 < z) = true := decide_eq_true h6
          clear h6
          rcases HX.out with ⟨rfl, hzI⟩ | ⟨htl, hzI⟩
          all_goals
            go_wp2_with fail
            refine (HS.out _).mono ?_
            rintro e w2 ⟨rfl, hm⟩
            have hh := (HH.out.newObj [.int .u8 ta, .int .i64 _, .int .i64 td] 38).same hm
            have c1' := hh.obj.cell (i := 1) rfl
            have HN := hid (hh.nil 5 1).one
            clear hm hh
            go_wp2
            go_ret2
            refine ⟨_, by rw [HF.out]; rfl, ?_⟩
            rw [HF.out]
            exact HN.out
        · have hb1 : decide ((16777216 : Int) < (z : Int)) = false := decide_eq_false (by omega)
          have hb2 : decide (16777216 < z) = false := decide_eq_false h6
          have HN6 := hid (mt HZC.out.1 h6)
          clear h6
          have hml : A.length ≤ most := by rw [← HM.out]; exact hm
          have HML := hid hml
          clear hml
          by_cases h0 : (stepT A (ta, tl, td)).1 = 0
          · have HO := hid (fun w1 (hh : Held w w1 [winT A B, ownT 5 1 (.slice a4 m c4) m (u8s A)]) => expandOne_ok (ta, tl, td) A B hh HSB.out h0 (HOK.out _ (List.mem_of_getElem? HT.out)) HA.out HML.out)
            have HLE := hid (stepT_le A (ta, tl, td) h0)
            have HBY := hid (stepT_bytes A (ta, tl, td) HA.out (HOK.out _ (List.mem_of_getElem? HT.out)))
            have HTD2 : Hid (expT [] l = expT (stepT A (ta, tl, td)).2 (l.drop (i + 1))) := hid (by rw [HE.out, HTD.out, if_pos h0])
            clear h0
            rcases HX.out with ⟨rfl, hzI⟩ | ⟨htl, hzI⟩
            all_goals
              unfold tokP tokV at HO
              simp only at HO
              go_wp2_with fail
              refine (HS.out _).mono ?_
              rintro e w2 ⟨rfl, hm⟩
              have hh := (HH.out.newObj [.int .u8 ta, .int .i64 _, .int .i64 td] 38).same hm
              have c0' := hh.obj.cell (i := 0) rfl
              have c1' := hh.obj.cell (i := 1) rfl
              have c2' := hh.obj.cell (i := 2) rfl
              have HO2 := hid (HO.out w2 hh.drop.swap)
              clear hm hh
              go_wp2_with fail
              refine HO2.out.mono ?_
              rintro e w3 ⟨u, k, bs, rfl, hk, hbs, hh⟩
              obtain ⟨uo, uc, rfl, _, _⟩ := hh.own.form
              have HR := hid hh.own.rd
              have H3 := hid hh.third
              have HMK : Hid (m + k = (A ++ bs).length) := hid (by rw [List.length_append, ← hk, ← HM.out])
              have hmk : m + k ≤ 16777216 := by
                have h1 := HLE.out.1
                rw [hbs, ← HMK.out] at h1
                exact h1
              have HBY2 : Hid (∀ b ∈ A ++ bs, b < 256) := hid (by rw [← hbs]; exact HBY.out)
              have HTD3 : Hid (expT [] l = expT (A ++ bs) (l.drop (i + 1))) := hid (by rw [← hbs]; exact HTD2.out)
              clear hh hk hbs HO2
              go_wp2_with (refine wpList_app_held rfl (.tmp 36) (.tmp 37) 32 rfl 5 i0 (.int .u8 0) 1 1 Try.underlying32 hi0 hz0 hz1 hz2 rfl (by decide) _ m (u8s A) rfl H3.out _ k (u8s bs) rfl HR.out (u8s_one bs) (m + k) rfl (by unfold maxLen; omega) (by omega) ?_; intro ao1 cap1 w4 h4; have H4 := hid h4; clear h4)
              go_roundg (gk - 1)
              case measure => omega
              case rel =>
                refine ⟨i + 1, m + k, A ++ bs, ao1, cap1, by omega, by omega, by go_num, rfl, HMK, hmk, HBY2, HTD3, hid ?_⟩
                have h5 := H4.out
                rw [← u8s_append] at h5
                exact h5.third.swap.two
          · obtain ⟨h3, hcall⟩ : (stepT A (ta, tl, td)).1 = 3 ∧ Hid (∀ w1, Held w w1 [winT A B, ownT 5 1 (.slice a4 m c4) m (u8s A)] → Calls Try.prog 26 #[tokP B, tokV (ta, tl, td)] w1 fun e w' => ∃ v, e = .returned (.tuple #[v, .int .i64 3]) ∧ Held w w' [winT A B, ownT 5 1 (.slice a4 m c4) m (u8s A)]) :=
              ⟨(expandOne_err (ta, tl, td) A B HH.out.swap HSB.out HN6.out h0 HML.out).1, hid (fun w1 hh => (expandOne_err (ta, tl, td) A B hh HSB.out HN6.out h0 HML.out).2)⟩
            have HF : Hid (expT [] l = (3, [])) := hid (by rw [HE.out, HTD.out, h3]; rfl)
            clear h0 h3
            rcases HX.out with ⟨rfl, hzI⟩ | ⟨htl, hzI⟩
            all_goals
              unfold tokP tokV at hcall
              simp only at hcall
              go_wp2_with fail
              refine (HS.out _).mono ?_
              rintro e w2 ⟨rfl, hm⟩
              have hh := (HH.out.newObj [.int .u8 ta, .int .i64 _, .int .i64 td] 38).same hm
              have c0' := hh.obj.cell (i := 0) rfl
              have c1' := hh.obj.cell (i := 1) rfl
              have c2' := hh.obj.cell (i := 2) rfl
              have HO2 := hid (hcall.out w2 hh.drop.swap)
              clear hm hh
              go_wp2_with fail
              refine HO2.out.mono ?_
              rintro e w3 ⟨u, rfl, hh⟩
              have HN := hid (hh.nil 5 1).one
              clear hh HO2
              go_wp2
              go_ret2
              refine ⟨_, by rw [HF.out]; rfl, ?_⟩
              rw [HF.out]
              exact HN.out
      · have hsb : soundB (ta, tl, td) = false := by simpa using hsb
        rw [hsb] at HS
        have HF : Hid (expT [] l = (1, [])) := hid (by rw [HE.out, HTD.out, stepT_bad hsb]; rfl)
        clear hsb
        go_wp2_with fail
        refine (HS.out _).mono ?_
        rintro e w2 ⟨rfl, hm⟩
        have HN := hid ((((HH.out.newObj [.int .u8 ta, .int .i64 tl, .int .i64 td] 38).same hm).nil 5 1).one)
        clear hm
        go_wp2
        go_ret2
        refine ⟨_, by rw [HF.out]; rfl, ?_⟩
        rw [HF.out]
        exact HN.out
    · have hiI : ¬ (i : Int) < (n : Int) := by omega
      have HF : Hid (expT [] l = (0, A)) := hid (by rw [HE.out, List.drop_of_length_le (by have := HL.out; omega)]; rfl)
      go_wp2
      go_ret2
      refine ⟨_, by rw [HF.out]; rfl, ?_⟩
      have h1 := HH.out.one
      rw [HM.out] at h1
      rw [HF.out]
      rw [← HM.out]
      rw [← HM.out] at h1
      exact h1
end
end Go.Proofs.Ytgngkphdiaefcaa
