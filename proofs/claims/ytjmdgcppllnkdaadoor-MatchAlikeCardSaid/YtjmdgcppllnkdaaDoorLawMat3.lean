/-
  The law MatchAlike, of MatchOK.
-/
import Derived.Test.YtjmdgcppllnkdaaDoorMatSame
namespace Go.Proofs.YtjmdgcppllnkdaaDoor
open Go.RowKit

theorem infoTok9 : (Tryd.prog.info? 32).map (fun i => (i.zero, i.size, i.bytes)) = some (some (.agg #[.int .u8 0, .int .i64 0, .int .i64 0]), 3, 24) := by kernel_rfl
theorem outs_len {M : MatchM} (L : MatchLaws M) (s : M.St) (h : M.Ok s) (hl : (M.inp s).length ≤ most) : (M.outs s).length ≤ (M.inp s).length := by
  have h1 := expT_grow _ _ _ (L.means s h hl).2
  rw [List.length_take] at h1
  simp at h1; omega
theorem cut_run9 (xo : Option Addr) (m xc a e : Nat) (h1 : a ≤ e) (h2 : e ≤ m) (h3 : m ≤ xc) (wg : World) :
    (Instr.sliceAt 22 (.slice xo m xc) (some (.int .i64 (a : Int))) (some (.int .i64 (e : Int))) none).run Tryd.prog wg = .ok (sliced xo a e xc 1) wg := by
  obtain ⟨i, hi, hz0, hz1, hz2⟩ := info_parts infoByte9
  exact run_cut (P := Tryd.prog) (w := wg) 22 5 i 1 Tryd.underlying22 hi hz1 xo m xc a e (some (.int .i64 (a : Int))) (some (.int .i64 (e : Int))) ⟨_, rfl⟩ ⟨_, rfl⟩ h1 (by omega)
set_option maxRecDepth 100000 in
set_option maxHeartbeats 3200000 in
theorem matchAlike_from {M : MatchM} {F : M.St → Nat → Thing} {Lv : World → Prop} (HM : MatchOK M F Lv) (v : Value) (b : List Int) (times part level : Int) (w : World) (HLV : Lv w) (hg : shMBs.good w [v] b) (ht : (Lit.int .u8 times).wf = true) (hpt : (Lit.int .u16 part).wf = true) (_ : (Lit.int .i64 level).wf = true) :
    Calls Tryd.prog 5 #[v, .int .u8 times, .int .u16 part, .int .i64 level] w fun e w' => e = .returned (.bool true) ∧ Below w.heap.size w w' := by
  obtain ⟨bs, hb256, hv⟩ := mbs_of hg
  have htr := Go.bounds_u8 ht
  have hur := Go.bounds_u16 hpt
  clear hg ht hpt
  obtain ⟨tm, rfl⟩ := Int.eq_ofNat_of_zero_le htr.1
  obtain ⟨pt, rfl⟩ := Int.eq_ofNat_of_zero_le hur.1
  clear htr hur
  obtain ⟨i1, hj0, hy0, hy1, hy2⟩ := info_parts infoTok9
  obtain ⟨n, hn⟩ : ∃ n, n = bs.length := ⟨_, rfl⟩
  rw [← hn] at hv
  obtain ⟨ao, cap, rfl, _, _⟩ := hv.form
  have hn0 : (0 : Int) ≤ (n : Int) := Int.natCast_nonneg _
  by_cases h5 : 500 < n
  · have h5I : (500 : Int) < (n : Int) := by omega
    have HA := hid (h_answers9 HM HLV (Held.start w))
    clear hv hn
    go_enter Tryd.func5, Tryd.ntmps5
    go_wp2_with fail
    refine HA.out.mono ?_
    rintro e w1 ⟨rfl, hh⟩
    have HE := hid hh.below
    clear hh
    go_wp2
    go_ret
    exact ⟨rfl, HE.out⟩
  · have h5I : ¬ (500 : Int) < (n : Int) := by omega
    have HT := hid (text_any _ n tm 1 bs w hv hb256 (by omega))
    obtain ⟨X, hX⟩ : ∃ X, X = textN bs (decide (1 % 2 = 1)) (tm % 40 + 1) := ⟨_, rfl⟩
    have hXl : X.length ≤ 20000 := by
      rw [hX, textN_length, ← hn]
      have h1 : (tm % 40 + 1) * n ≤ 40 * 500 := Nat.mul_le_mul (by omega) (by omega)
      omega
    have hXb : ∀ b ∈ X, b < 256 := by rw [hX]; exact textN_bytes bs _ hb256 _ (by omega)
    rw [← hX] at HT
    obtain ⟨m, hm⟩ : ∃ m, m = X.length := ⟨_, rfl⟩
    have hm2 : m ≤ 20000 := by omega
    have HXB := hid (And.intro hXb hm)
    unfold byT at HT
    rw [← hm] at HT
    have hm0 : (0 : Int) ≤ (m : Int) := Int.natCast_nonneg _
    obtain ⟨r, hr⟩ : ∃ r, r = pt % 3000 := ⟨_, rfl⟩
    have hrI : (pt : Int) % 3000 = (r : Int) := by omega
    have hrT : (pt : Int).tmod 3000 = (r : Int) := by rw [hr]; rfl
    have hr0 : (0 : Int) ≤ (r : Int) := Int.natCast_nonneg _
    have hr3 : r < 3000 := by omega
    obtain ⟨N, hN⟩ : ∃ N, N = r + 1 := ⟨_, rfl⟩
    have hNI : (r : Int) + 1 = (N : Int) := by omega
    have hN0 : (0 : Int) ≤ (N : Int) := Int.natCast_nonneg _
    have hN1 : 1 ≤ N := by omega
    have hN3 : N ≤ 3000 := by omega
    have HNW := hid (fun w1 (Rs : List Thing) (hh : Held w w1 Rs) => HM.new level w w1 Rs HLV hh)
    clear hv hn hX hXl hXb hm hr hN hb256
    go_enter Tryd.func5, Tryd.ntmps5
    go_wp2_with fail
    refine HT.out.mono ?_
    rintro e w1 ⟨u, rfl, hh⟩
    obtain ⟨uo, uc, rfl, huc, hum⟩ := hh.own.form
    have HN2 := hid (HNW.out w1 _ hh)
    clear hh HT HNW
    go_wp2_with fail
    refine HN2.out.mono ?_
    rintro e w2 ⟨B, rfl, hh⟩
    have H2 := hid ((hh.nil 32 3).swap)
    clear hh HN2
    go_wp2
    go_loopg [12, 13] (m + 2) (fun g t12 t13 wr => ∃ (a k : Nat) (s : M.St) (lo : Option Addr) (lc : Nat), a ≤ m + 3000 ∧ m - a < g ∧ t13 = .int .i64 (a : Int) ∧ t12 = .slice lo k lc ∧ Hid (M.inp s = X.take a ∧ M.Ok s ∧ M.Clean level s ∧ k = (M.outs s).length) ∧ k ≤ 20000 ∧
      Hid (Held w wr [F s B, ownT 32 3 (.slice lo k lc) k (toksV (M.outs s)), ownT 5 1 (.slice uo m uc) m (u8s X)]))
    case atStart =>
      refine ⟨0, 0, M.start level, none, 0, by omega, by omega, rfl, rfl, hid ⟨by rw [HM.laws.inp_start]; rfl, HM.laws.ok_start _, HM.laws.clean_start _, by rw [HM.laws.outs_start]; rfl⟩, by omega, hid ?_⟩
      rw [HM.laws.outs_start]
      exact H2.out
    case round =>
      obtain ⟨a, k, s, lo, lc, ha, hg, rfl, rfl, HS, hk, HH⟩ := hrel
      have ha0 : (0 : Int) ≤ (a : Int) := Int.natCast_nonneg _
      by_cases ham : a < m
      · have hamI : (a : Int) < (m : Int) := by omega
        obtain ⟨q, hq⟩ : ∃ q, q = a + N := ⟨_, rfl⟩
        have hqI : (a : Int) + (N : Int) = (q : Int) := by omega
        obtain ⟨e', he'⟩ : ∃ e', e' = min q m := ⟨_, rfl⟩
        have hae : a ≤ e' := by omega
        have hem : e' ≤ m := by omega
        have hq0 : (0 : Int) ≤ (q : Int) := Int.natCast_nonneg _
        have he0 : (0 : Int) ≤ (e' : Int) := Int.natCast_nonneg _
        have haeI : (a : Int) ≤ (e' : Int) := by omega
        have hemI : (e' : Int) ≤ (m : Int) := by omega
        have hcut := cut_run9 uo m uc a e' hae hem huc
        obtain ⟨P, hP⟩ : ∃ P, P = (X.drop a).take (e' - a) := ⟨_, rfl⟩
        have hrd := (HH.out.drop.drop.own.rd.cut (L := a) (H := e') hae hem)
        have e2 : ((u8s X).drop (a * 1)).take ((e' - a) * 1) = u8s P := by
          rw [Nat.mul_one, Nat.mul_one, hP]
          simp [u8s, List.map_drop, List.map_take]
        rw [e2] at hrd
        have hPl : P.length = e' - a := by
          have := hrd.1; rw [u8s_length] at this; omega
        have hPb : ∀ b ∈ P, b < 256 := by rw [hP]; exact fun b hb => HXB.out.1 b (List.mem_of_mem_drop (List.mem_of_mem_take hb))
        unfold sliced at hcut hrd
        generalize (if uc = a then uo else uo.map fun (x : Addr) => x.add (a * 1)) = a' at hcut hrd
        obtain ⟨hs1, hs2, hs3, hs4⟩ := HS.out
        have hsl : (M.inp s).length = a := by rw [hs1, List.length_take, ← HXB.out.2]; omega
        have HW := hid (HM.write s B _ (e' - a) P w wr _ HH.out hs2 hrd hPb (by omega))
        have hok2 := HM.laws.ok_write s P hs2 hPb (by omega)
        have hinp2 : M.inp (M.write s P) = X.take e' := by
          rw [HM.laws.inp_write, hs1, hP, ← List.take_add, show a + (e' - a) = e' by omega]
        have hil2 : (M.inp (M.write s P)).length = e' := by rw [hinp2, List.length_take, ← HXB.out.2]; omega
        have hok3 := HM.laws.ok_toks _ false hok2
        have hin3 : M.inp (M.toks (M.write s P) false).1 = X.take e' := by rw [HM.laws.inp_toks, hinp2]
        have hout3 : M.outs (M.toks (M.write s P) false).1 = M.outs s ++ (M.toks (M.write s P) false).2 := by rw [HM.laws.outs_toks, HM.laws.outs_write]
        have hlen3 := outs_len HM.laws _ hok3 (by rw [hin3, List.length_take]; unfold most; omega)
        rw [hin3, List.length_take, hout3, List.length_append, ← hs4] at hlen3
        have HTK := hid (fun w1 (hh : Held w w1 [F (M.write s P) B, ownT 32 3 (.slice lo k lc) k (toksV (M.outs s)), ownT 5 1 (.slice uo m uc) m (u8s X)]) => HM.toks _ B false w w1 _ hh hok2 (by omega))
        obtain ⟨k2, hk2⟩ : ∃ k2, k2 = (M.toks (M.write s P) false).2.length := ⟨_, rfl⟩
        unfold tokT at HTK
        rw [← hk2] at HTK hlen3
        have hkk : k + k2 ≤ 20000 := by omega
        have HS3 : Hid (M.inp (M.toks (M.write s P) false).1 = X.take q ∧ M.Ok (M.toks (M.write s P) false).1 ∧ M.Clean level (M.toks (M.write s P) false).1 ∧ k + k2 = (M.outs (M.toks (M.write s P) false).1).length) := hid ⟨by
            rw [hin3, he']
            by_cases h : q ≤ m
            · rw [Nat.min_eq_left h]
            · rw [Nat.min_eq_right (by omega), List.take_of_length_le (by rw [← HXB.out.2]; exact Nat.le_refl _), List.take_of_length_le (by rw [← HXB.out.2]; omega)], hok3, HM.laws.clean_toks _ _ (HM.laws.clean_write _ _ _ hs3), by rw [hout3, List.length_append, ← hs4, ← hk2]⟩
        have HO3 := hid hout3
        have hqm : q ≤ m + 3000 := by omega
        have hmq : m - q < m - a := by omega
        have hce : (q ≤ m ∧ e' = q) ∨ (m < q ∧ e' = m) := by omega
        generalize M.toks (M.write s P) false = R at *
        generalize M.write s P = s2 at *
        clear hq he' hP e2 hrd hPl hPb hs1 hs2 hs3 hs4 hsl hok2 hinp2 hil2 hok3 hin3 hout3 hlen3 hk2 HS
        rcases hce with ⟨hce, rfl⟩ | ⟨hce, rfl⟩
        · have hcI : ¬ (m : Int) < (e' : Int) := by omega
          go_wp2_with fail
          refine HW.out.mono ?_
          rintro e w3 ⟨rfl, hh⟩
          have HTK2 := hid (HTK.out w3 hh)
          clear hh HW HTK
          go_wp2_with fail
          refine HTK2.out.mono ?_
          rintro e w4 ⟨y, rfl, hh⟩
          obtain ⟨yo, yc, rfl, _, _⟩ := hh.own.form
          have HR4 := hid hh.own.rd
          have H4 := hid hh.third
          clear hh HTK2
          go_wp2_with (refine wpList_app_held rfl (.tmp 50) (.tmp 52) 25 rfl 32 i1 (.agg #[.int .u8 0, .int .i64 0, .int .i64 0]) 3 24 Tryd.underlying25 hj0 hy0 hy1 hy2 rfl (by decide) _ k _ rfl H4.out _ k2 _ rfl HR4.out (toksV_one _) (k + k2) rfl (by unfold maxLen; omega) (by omega) ?_; intro ao1 cap1 w5 h5; rw [← toksV_app, ← HO3.out] at h5; have H5 := hid h5; clear h5)
          go_roundg (gk - 1)
          case measure => omega
          case rel => exact ⟨e', k + k2, R.1, _, _, hqm, by omega, by go_num, rfl, HS3, hkk, hid H5.out.third.third.drop⟩
        · have hcI : (e' : Int) < (q : Int) := by omega
          go_wp2_with fail
          refine HW.out.mono ?_
          rintro e w3 ⟨rfl, hh⟩
          have HTK2 := hid (HTK.out w3 hh)
          clear hh HW HTK
          go_wp2_with fail
          refine HTK2.out.mono ?_
          rintro e w4 ⟨y, rfl, hh⟩
          obtain ⟨yo, yc, rfl, _, _⟩ := hh.own.form
          have HR4 := hid hh.own.rd
          have H4 := hid hh.third
          clear hh HTK2
          go_wp2_with (refine wpList_app_held rfl (.tmp 50) (.tmp 52) 25 rfl 32 i1 (.agg #[.int .u8 0, .int .i64 0, .int .i64 0]) 3 24 Tryd.underlying25 hj0 hy0 hy1 hy2 rfl (by decide) _ k _ rfl H4.out _ k2 _ rfl HR4.out (toksV_one _) (k + k2) rfl (by unfold maxLen; omega) (by omega) ?_; intro ao1 cap1 w5 h5; rw [← toksV_app, ← HO3.out] at h5; have H5 := hid h5; clear h5)
          go_roundg (gk - 1)
          case measure => omega
          case rel => exact ⟨q, k + k2, R.1, _, _, hqm, by omega, by go_num, rfl, HS3, hkk, hid H5.out.third.third.drop⟩
      · have hamI : ¬ (a : Int) < (m : Int) := by omega
        obtain ⟨hs1, hs2, hs3, hs4⟩ := HS.out
        have hs5 : M.inp s = X := by rw [hs1, List.take_of_length_le (by rw [← HXB.out.2]; omega)]
        have hil : (M.inp s).length = m := by rw [hs5, ← HXB.out.2]
        have hout3 := HM.laws.outs_toks s true
        have hone := HM.laws.one_is level s hs2 hs3
        rw [hs5] at hone
        have hok3 := HM.laws.ok_toks s true hs2
        have hlen3 := outs_len HM.laws _ hok3 (by rw [HM.laws.inp_toks, hil]; unfold most; omega)
        rw [HM.laws.inp_toks, hil, hout3, List.length_append, ← hs4] at hlen3
        have HTK := hid (HM.toks s B true w wr _ HH.out hs2 (by omega))
        have hkl : (M.one X level).length = k + (M.toks s true).2.length := by rw [← hone, hout3, List.length_append, ← hs4]
        have hon2 : toksV (M.outs s) ++ toksV (M.toks s true).2 = toksV (M.one X level) := by rw [← toksV_app, ← hout3, hone]
        have HO := hid (fun w1 (Rs : List Thing) (hh : Held w w1 Rs) (hr : Rd w1 1 (.slice uo m uc) m (u8s X)) => HM.one (.slice uo m uc) m X level w w1 Rs HLV hh hr HXB.out.1 (by omega))
        obtain ⟨k2, hk2⟩ : ∃ k2, k2 = (M.toks s true).2.length := ⟨_, rfl⟩
        obtain ⟨K, hK⟩ : ∃ K, K = k + k2 := ⟨_, rfl⟩
        unfold tokT at HTK HO
        rw [← hk2] at HTK hlen3 hkl
        rw [hkl, ← hK] at HO
        have hKb : K ≤ 20000 := by omega
        have HKK := hid hK
        have HON := hid hon2
        generalize M.one X level = L at *
        generalize M.toks s true = R at *
        have HA := hid (fun w1 (Rs : List Thing) (hh : Held w w1 Rs) => h_answers9 HM HLV hh)
        clear hs1 hs2 hs3 hs4 hs5 hil hout3 hone hok3 hlen3 hkl hon2 hk2 hK HS
        go_wp2_with fail
        refine HTK.out.mono ?_
        rintro e w4 ⟨y, rfl, hh⟩
        obtain ⟨yo, yc, rfl, _, _⟩ := hh.own.form
        have HR4 := hid hh.own.rd
        have H4 := hid hh.third
        clear hh HTK
        go_wp2_with (refine wpList_app_held rfl (.tmp 54) (.tmp 56) 25 rfl 32 i1 (.agg #[.int .u8 0, .int .i64 0, .int .i64 0]) 3 24 Tryd.underlying25 hj0 hy0 hy1 hy2 rfl (by decide) _ k _ rfl H4.out _ k2 _ rfl HR4.out (toksV_one _) K HKK.out (by unfold maxLen; omega) (by omega) ?_; intro ao1 cap1 w5 h5; rw [HON.out] at h5; have H5 := hid h5; clear h5)
        refine (HA.out w5 _ H5.out).mono ?_
        rintro e w6 ⟨rfl, hh⟩
        have H6 := hid hh
        clear hh H5 HA
        go_wp2_with fail
        refine (HO.out w6 _ H6.out H6.out.fourth.own.rd).mono ?_
        rintro e w7 ⟨z, rfl, hh⟩
        obtain ⟨zo, zc, rfl, _, _⟩ := hh.own.form
        have H7 := hid hh
        clear hh HO H6
        go_wp2_with fail
        refine (sametoks_any (.slice ao1 K cap1) (.slice zo K zc) K L w7 H7.out.drop.own.rd H7.out.own.rd (by omega)).mono ?_
        rintro e w8 ⟨rfl, c, rfl⟩
        have HE := hid (H7.out.drewN c).below
        clear H7
        go_wp2
        go_ret
        exact ⟨rfl, HE.out⟩
end Go.Proofs.YtjmdgcppllnkdaaDoor
