/-
  The law MatchMeans, of MatchOK.
-/
import Derived.Test.YtjmdgcppllnkdaaDoorMatText
import Derived.Test.YtjmdgcppllnkdaaDoorOpen
import Derived.Test.YtjmdgcppllnkdaaDoorFam
import Derived.Deep.DeepCutAuto
namespace Go.Proofs.YtjmdgcppllnkdaaDoor
open Go.RowKit

def shMB : Shape Tryd.prog Int := shInt 5 .u8 Tryd.underlying5 (by kernel_rfl)
def shMBs : Shape Tryd.prog (List Int) := shSlice shMB 22 Tryd.underlying22 (by kernel_rfl) (by decide)
theorem mbs_of {w : World} {v : Value} {l : List Int} (h : shMBs.good w [v] l) : ∃ bs : List Nat, (∀ b ∈ bs, b < 256) ∧ Rd w 1 v bs.length (u8s bs) := by
  obtain ⟨v', hv, hs⟩ := h
  obtain rfl : v = v' := by simpa using hv
  obtain ⟨b, _, h1, h2⟩ := hs.bytes
  exact ⟨b, h1, h2⟩
set_option maxRecDepth 100000 in
set_option maxHeartbeats 3200000 in
theorem matchMeans_from {M : MatchM} {F : M.St → Nat → Thing} {Lv : World → Prop} (HM : MatchOK M F Lv) (v : Value) (b : List Int) (times turn level : Int) (w : World) (HLV : Lv w) (hg : shMBs.good w [v] b) (ht : (Lit.int .u8 times).wf = true) (htu : (Lit.int .u8 turn).wf = true) (_ : (Lit.int .i64 level).wf = true) :
    Calls Tryd.prog 3 #[v, .int .u8 times, .int .u8 turn, .int .i64 level] w fun e w' => e = .returned (.bool true) ∧ Below w.heap.size w w' := by
  obtain ⟨bs, hb256, hv⟩ := mbs_of hg
  have htr := Go.bounds_u8 ht
  have hur := Go.bounds_u8 htu
  clear hg ht htu
  obtain ⟨tm, rfl⟩ := Int.eq_ofNat_of_zero_le htr.1
  obtain ⟨tn, rfl⟩ := Int.eq_ofNat_of_zero_le hur.1
  obtain ⟨i0, hi0, hz0, hz1, hz2⟩ := info_parts infoByte9
  obtain ⟨n, hn⟩ : ∃ n, n = bs.length := ⟨_, rfl⟩
  rw [← hn] at hv
  obtain ⟨ao, cap, rfl, _, _⟩ := hv.form
  have hn0 : (0 : Int) ≤ (n : Int) := Int.natCast_nonneg _
  have HV := hid hv
  by_cases h5 : 500 < n
  · have h5I : (500 : Int) < (n : Int) := by omega
    have HA := hid (h_answers9 HM HLV (Held.start w))
    clear hv hn
    go_enter Tryd.func3, Tryd.ntmps3
    go_wp2_with fail
    refine HA.out.mono ?_
    rintro e w1 ⟨rfl, hh⟩
    have HE := hid hh.below
    clear hh
    go_wp2
    go_ret
    exact ⟨rfl, HE.out⟩
  · have h5I : ¬ (500 : Int) < (n : Int) := by omega
    have HT := hid (text_any _ n tm tn bs w hv hb256 (by omega))
    obtain ⟨X, hX⟩ : ∃ X, X = textN bs (decide (tn % 2 = 1)) (tm % 40 + 1) := ⟨_, rfl⟩
    have hXl : X.length ≤ 20000 := by
      rw [hX, textN_length, ← hn]
      have h1 : (tm % 40 + 1) * n ≤ 40 * 500 := Nat.mul_le_mul (by omega) (by omega)
      omega
    have hXb : ∀ b ∈ X, b < 256 := by rw [hX]; exact textN_bytes bs _ hb256 _ (by omega)
    rw [← hX] at HT
    obtain ⟨m, hm⟩ : ∃ m, m = X.length := ⟨_, rfl⟩
    have hm2 : m ≤ 20000 := by omega
    obtain ⟨he, hbk⟩ := HM.laws.one_means X level hXb (by unfold most; omega)
    have HXB := hid hXb
    have HL0 := hid (fun h => HM.laws.level0 X level hXb (by omega) h)
    have HO := hid (fun w1 (u : Value) (Rs : List Thing) (hh : Held w w1 Rs) (hr : Rd w1 1 u m (u8s X)) => HM.one u m X level w w1 Rs HLV hh hr HXB.out (by omega))
    have HA := hid (fun w1 (Rs : List Thing) (hh : Held w w1 Rs) => h_answers9 HM HLV hh)
    have hgr := expT_grow _ _ _ he
    generalize M.one X level = L at *
    obtain ⟨k, hk⟩ : ∃ k, k = L.length := ⟨_, rfl⟩
    have hk2 : k ≤ 20000 := by simp at hgr; omega
    have HR := hid (fun w1 (u : Value) (hr : Rd w1 3 u k (toksV L)) => refexpand_any u k L w1 hr hbk (by omega))
    rw [he] at HR
    simp only at HR
    rw [← hm] at HR
    have HK := hid (And.intro hk hm)
    unfold byT at HT
    rw [← hm] at HT
    unfold tokT at HO
    rw [← hk] at HO
    have hk0 : (0 : Int) ≤ (k : Int) := Int.natCast_nonneg _
    clear hv hn hX hXl hXb he hbk hgr hk hm htr hur
    go_enter Tryd.func3, Tryd.ntmps3
    go_wp2_with fail
    refine HT.out.mono ?_
    rintro e w1 ⟨u, rfl, hh⟩
    obtain ⟨uo, uc, rfl, _, _⟩ := hh.own.form
    have H1 := hid hh
    have HL := hid (hh.lit 5 1 [] 0 (by decide) rfl)
    clear hh HT
    go_wp2_with (refine wpList_app_held rfl (.tmp 22) (.tmp 23) 22 rfl 5 i0 (.int .u8 0) 1 1 Tryd.underlying22 hi0 hz0 hz1 hz2 rfl (by decide) _ 0 [] rfl HL.out _ m (u8s X) rfl HL.out.drop.own.rd (u8s_one X) m (by omega) (by unfold maxLen; omega) (by omega) ?_; intro ao1 cap1 w2 h2; rw [List.nil_append] at h2; have H2 := hid h2; clear h2)
    refine (HO.out w2 _ _ H2.out H2.out.own.rd).mono ?_
    rintro e w3 ⟨y, rfl, hh⟩
    obtain ⟨yo, yc, rfl, _, _⟩ := hh.own.form
    have H3 : Hid (Held w w3 [ownT 32 3 (.slice yo k yc) k (toksV L), ownT 5 1 (.slice uo m uc) m (u8s X)]) := hid hh.swap.drop
    clear hh H2 HL H1
    go_wp2_with fail
    refine (HR.out w3 _ H3.out.own.rd).mono ?_
    rintro e w4 ⟨z, rfl, hh⟩
    obtain ⟨zo, zc, rfl, _, _⟩ := hh.own.form
    have H4 : Hid (Held w w4 [ownT 5 1 (.slice zo m zc) m (u8s X), ownT 32 3 (.slice yo k yc) k (toksV L), ownT 5 1 (.slice uo m uc) m (u8s X)]) := hid (H3.out.frame hh)
    clear hh HR H3
    go_wp2_with fail
    refine (HA.out w4 _ H4.out).mono ?_
    rintro e w5 ⟨rfl, hh⟩
    have H5 := hid hh
    have HQ := hid (h_equal9 hh (.slice uo m uc) (.slice zo m zc) X m hh.third.own.rd hh.own.rd (by omega))
    clear hh HA H4
    go_wp2_with fail
    refine HQ.out.mono ?_
    rintro e w6 ⟨rfl, hh⟩
    have H6 := hid hh.swap
    clear hh HQ H5
    go_wp2
    go_loopg [13] (k + 2) (fun g t13 wr => ∃ i : Nat, i ≤ k ∧ k - i < g ∧ t13 = .int .i64 (i : Int) ∧ wr = w6)
    case atStart => exact ⟨0, by omega, by omega, rfl, rfl⟩
    case round =>
      obtain ⟨i, hi, hg, rfl, rfl⟩ := hrel
      have hi0' : (0 : Int) ≤ (i : Int) := Int.natCast_nonneg _
      by_cases hik : i < k
      · have hb1 : decide ((i : Int) < (k : Int)) = true := decide_eq_true (by omega)
        have hb2 : decide (i < k) = true := decide_eq_true hik
        by_cases hlev : level ≤ 0
        · have hb3 : decide (level ≤ 0) = true := decide_eq_true hlev
          obtain ⟨⟨ta, tl, td⟩, ht⟩ : ∃ t, L[i]? = some t := ⟨L[i]'(by have := HK.out.1; omega), List.getElem?_eq_getElem _⟩
          have htl : tl = 0 := HL0.out hlev _ (List.mem_of_getElem? ht)
          subst htl
          obtain ⟨g', off, rfl, c0, c1, c2⟩ := H6.out.own.rd.tok ht
          clear ht hlev
          go_wp2
          go_roundg (gk - 1)
          case measure => omega
          case rel => exact ⟨i + 1, by omega, by omega, by go_num, rfl⟩
        · have hb3 : decide (level ≤ 0) = false := decide_eq_false hlev
          clear hlev
          go_wp2
          go_ret
          exact ⟨rfl, H6.out.below⟩
      · have hb1 : decide ((i : Int) < (k : Int)) = false := decide_eq_false (by omega)
        have hb2 : decide (i < k) = false := decide_eq_false hik
        go_wp2
        go_ret
        exact ⟨rfl, H6.out.below⟩
end Go.Proofs.YtjmdgcppllnkdaaDoor
