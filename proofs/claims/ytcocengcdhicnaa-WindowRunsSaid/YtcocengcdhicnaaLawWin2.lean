/-
  The law WindowRuns, of WindowOK.
-/
import Derived.Test.YtcocengcdhicnaaLawWin0
import Derived.Deep.DeepCutAuto
namespace Go.Proofs.Ytcocengcdhicnaa
open Go.RowKit

set_option maxRecDepth 100000 in
set_option maxHeartbeats 3200000 in
theorem windowRuns_from {W : List Nat → Nat → Thing} (HW : WindowOK W) (u : Value) (b : List Int) (dist n : Int) (w : World) (hb : shWinBytes.good w [u] b) (hd : (Lit.int .u8 dist).wf = true) (hn : (Lit.int .u8 n).wf = true) :
    Calls Try.prog 4 #[u, .int .u8 dist, .int .u8 n] w fun e w' => e = .returned (.bool true) ∧ Below w.heap.size w w' := by
  obtain ⟨bs, _, hb256, hu⟩ := winBytes_of hb
  clear hb
  have hdr := Go.bounds_u8 hd
  have hnr := Go.bounds_u8 hn
  clear hd hn
  obtain ⟨dd, rfl⟩ := Int.eq_ofNat_of_zero_le hdr.1
  obtain ⟨nn, rfl⟩ := Int.eq_ofNat_of_zero_le hnr.1
  obtain ⟨N, hN⟩ : ∃ N, N = bs.length := ⟨_, rfl⟩
  rw [← hN] at hu
  have HN := hid hN
  clear hN
  obtain ⟨bo, bc, rfl, _, _⟩ := hu.form
  have HU := hid hu
  clear hu
  have hN0 : (0 : Int) ≤ (N : Int) := Int.natCast_nonneg _
  have HNW := hid (HW.new w w [] (Held.start w))
  go_enter Try.func4, Try.ntmps4
  go_wp2_with fail
  refine HNW.out.mono ?_
  rintro e w1 ⟨B, rfl, hh⟩
  have HA := hid (h_answers7 HW hh)
  clear hh HNW
  go_wp2_with fail
  refine HA.out.mono ?_
  rintro e w2 ⟨rfl, hh⟩
  have H2 := hid hh
  clear hh HA
  by_cases hbad : N = 0 ∨ 1000 < N
  · have HA2 := hid (h_answers7 HW H2.out)
    have h1 : ((N : Int) == 0) = decide (N = 0) := by rw [Bool.eq_iff_iff]; simp
    rcases Nat.eq_zero_or_pos N with h0 | h0
    · have h2 : decide (N = 0) = true := by simp [h0]
      rw [h2] at h1
      go_wp2_with fail
      refine HA2.out.mono ?_
      rintro e w3 ⟨rfl, hh⟩
      have HE := hid hh.below
      clear hh HA2 H2
      go_wp2
      go_ret
      exact ⟨rfl, HE.out⟩
    · have h2 : decide (N = 0) = false := by simp; omega
      have h3 : decide ((1000 : Int) < (N : Int)) = true := by simp; omega
      rw [h2] at h1
      go_wp2_with fail
      refine HA2.out.mono ?_
      rintro e w3 ⟨rfl, hh⟩
      have HE := hid hh.below
      clear hh HA2 H2
      go_wp2
      go_ret
      exact ⟨rfl, HE.out⟩
  · have h1 : ((N : Int) == 0) = false := by simp; omega
    have h3 : decide ((1000 : Int) < (N : Int)) = false := by simp; omega
    obtain ⟨d, hd⟩ : ∃ d, d = dd % N + 1 := ⟨_, rfl⟩
    have hdn := Nat.mod_lt dd (show 0 < N by omega)
    have hdN : d ≤ N := by omega
    have hd1 : 1 ≤ d := by omega
    have hdI : (dd : Int).tmod (N : Int) + 1 = (d : Int) := by rw [hd]; rfl
    have hdI2 : (dd : Int) % (N : Int) + 1 = (d : Int) := by rw [hd]; rfl
    have hd0 : (0 : Int) ≤ (d : Int) := Int.natCast_nonneg _
    have hNz : ¬ (N : Int) = 0 := by omega
    clear hd hdn
    have HAD := hid (HW.add [] B (.slice bo N bc) N bs w w2 [] H2.out (H2.out.old HU.out) hb256 (by simp) (by simp; omega))
    clear H2
    go_wp2_with fail
    refine HAD.out.mono ?_
    rintro e w3 ⟨rfl, hh⟩
    rw [List.nil_append] at hh
    have HCP := hid (HW.copy bs B (nn + 1) d w w3 [] hh hb256 (by rw [← HN.out]; omega) (by omega) (by omega) hd1 (by rw [← HN.out]; omega) (by omega))
    have hk : ((nn + 1 : Nat) : Int) = (nn : Int) + 1 := by omega
    rw [hk] at HCP
    clear hh HAD
    go_wp2_with fail
    refine HCP.out.mono ?_
    rintro e w4 ⟨v, rfl, hh⟩
    obtain ⟨vo, vc, rfl, _, _⟩ := hh.own.form
    obtain ⟨g, off, rfl, hcell, _, _⟩ := hh.own.site (by omega)
    obtain ⟨g2, off2, rfl, hcell2⟩ := (hh.old HU.out).spot (by omega)
    have HE := hid (fun c => (hh.drewN c).below)
    have HC1 : Hid (∀ i, i < nn + 1 → ∃ x : Nat, bs[N - d + i % d]? = some x ∧ w4.cell? ⟨g, off + i, none⟩ = some (.int .u8 (x : Int)) ∧ w4.cell? ⟨g2, off2 + (N - d + i % d), none⟩ = some (.int .u8 (x : Int))) := by
      refine hid fun i hi => ?_
      have hm := Nat.mod_lt i (show 0 < d by omega)
      have hlt : N - d + i % d < bs.length := by rw [← HN.out]; omega
      have hx : bs[N - d + i % d]? = some bs[N - d + i % d] := List.getElem?_eq_getElem hlt
      have ho := out_get bs d (nn + 1) i hi hd1 (by rw [← HN.out]; omega)
      rw [← HN.out, hx] at ho
      exact ⟨_, hx, hcell i _ (by rw [u8s_get, ho]; rfl), hcell2 _ _ (by rw [u8s_get, hx]; rfl)⟩
    clear hh HCP hcell hcell2
    have hnn0 : (0 : Int) ≤ (nn : Int) := Int.natCast_nonneg _
    go_wp2
    go_loopg [12] (nn + 3) (fun k t12 wr => ∃ (i c : Nat), i ≤ nn + 1 ∧ nn + 1 - i < k ∧ t12 = .int .i64 (i : Int) ∧ wr = w4.drewN c)
    case atStart => exact ⟨0, 0, by omega, by omega, rfl, rfl⟩
    case round =>
      obtain ⟨i, cd, hi, hk2, rfl, rfl⟩ := hrel
      have hi0 : (0 : Int) ≤ (i : Int) := Int.natCast_nonneg _
      by_cases hin : i < nn + 1
      · have hiI : (i : Int) < (nn : Int) + 1 := by omega
        obtain ⟨x, _, c1, c2⟩ := HC1.out i hin
        obtain ⟨r, hr⟩ : ∃ r, r = i % d := ⟨_, rfl⟩
        have hrd : r < d := by rw [hr]; exact Nat.mod_lt i (by omega)
        have hrI : (i : Int).tmod (d : Int) = (r : Int) := by rw [hr]; rfl
        rw [← hr] at c2
        obtain ⟨q, hq⟩ : ∃ q, q = N - d := ⟨_, rfl⟩
        rw [← hq] at c2
        have hqI : (N : Int) - (d : Int) = (q : Int) := by omega
        have hqr : q + r < N := by omega
        have hr0 : (0 : Int) ≤ (r : Int) := Int.natCast_nonneg _
        have hq0 : (0 : Int) ≤ (q : Int) := Int.natCast_nonneg _
        have hdz : ((d : Int) == 0) = false := by simp; omega
        have hdz2 : ¬ (d : Int) = 0 := by omega
        have hxx : ((x : Int) != (x : Int)) = false := by simp
        have hw0 : IntKind.i64.wrap ((N : Int) - (d : Int)) = (q : Int) := by rw [hqI]; exact IntWalk.i64_in _ (by omega)
        have hw1 : IntKind.i64.wrap ((i : Int).tmod (d : Int)) = (r : Int) := by rw [hrI]; exact IntWalk.i64_in _ (by omega)
        have hw2 : IntKind.i64.wrap ((q : Int) + (r : Int)) = (q : Int) + (r : Int) := IntWalk.i64_in _ (by omega)
        have hqr1 : (0 : Int) ≤ (q : Int) + (r : Int) := by omega
        have hqr2 : (q : Int) + (r : Int) < (N : Int) := by omega
        have hqr3 : ((q : Int) + (r : Int)).toNat = q + r := by omega
        have hi1 : (i : Int) < ((nn + 1 : Nat) : Int) := by omega
        clear hr hq
        go_wp2
        go_quiet (fail)
        go_wp2
        go_roundg (gk - 1)
        case measure => omega
        case rel => exact ⟨i + 1, _, by omega, by omega, by go_num, rfl⟩
      · have hiI : ¬ (i : Int) < (nn : Int) + 1 := by omega
        go_wp2
        go_ret
        exact ⟨rfl, HE.out _⟩
end Go.Proofs.Ytcocengcdhicnaa
