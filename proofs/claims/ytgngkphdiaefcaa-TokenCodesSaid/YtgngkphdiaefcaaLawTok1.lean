/-
  The laws TokenCodes and TokenAll.
-/
import Derived.Test.YtgngkphdiaefcaaLawTok0
import Derived.OpenShut
import Derived.Deep.DeepCutAuto
namespace Go.Proofs.Ytgngkphdiaefcaa
open Go.RowKit

set_option maxRecDepth 100000 in
set_option maxHeartbeats 1600000 in
theorem tokenCodes_walk (n code : Int) (w : World) (_ : (Lit.int .i64 n).wf = true) (_ : (Lit.int .i64 code).wf = true) :
    Calls Try.prog 3 #[.int .i64 n, .int .i64 code] w fun e w' => e = .returned (.bool true) ∧ Below w.heap.size w w' := by
  have HL := hid (lenCode_any n w)
  have HR := hid (refLenCode_any n w)
  have HD := hid (distCode_any n w)
  have HE := hid (refDistCode_any n w)
  have HA := hid (h_answers8 w)
  have HB := hid (lenBase_any code)
  have HC := hid (refLens_any code)
  have HF := hid (distBase_any code)
  have HG := hid (refDists_any code)
  obtain ⟨b1, b2, b3, hb⟩ := lensOf_form code
  obtain ⟨c1, c2, c3, hc⟩ := distsOf_form code
  rw [hb] at HB HC
  rw [hc] at HF HG
  clear hb hc
  go_enter Try.func3, Try.ntmps3
  go_wp2_with fail
  refine HL.out.mono ?_
  rintro e w1 ⟨⟨v, rfl, hv⟩, rfl⟩
  obtain ⟨x1, x2, x3, rfl⟩ := hv.form
  have HV := hid hv
  clear hv HL
  go_wp2_with fail
  refine HR.out.mono ?_
  rintro e w1 ⟨⟨v, rfl, hv⟩, rfl⟩
  obtain rfl := hv.same HV.out
  clear hv HR HV
  go_wp2_with fail
  refine HD.out.mono ?_
  rintro e w1 ⟨⟨v, rfl, hv⟩, rfl⟩
  obtain ⟨y1, y2, y3, rfl⟩ := hv.form
  have HV := hid hv
  clear hv HD
  go_wp2_with fail
  refine HE.out.mono ?_
  rintro e w1 ⟨⟨v, rfl, hv⟩, rfl⟩
  obtain rfl := hv.same HV.out
  clear hv HE HV
  have hn : ∀ x : Int, (x != x) = false := by simp
  have n1 := hn x1
  have n2 := hn x2
  have n3 := hn x3
  have n4 := hn y1
  have n5 := hn y2
  have n6 := hn y3
  clear hn
  go_wp2_with fail
  refine HA.out.mono ?_
  rintro e w2 ⟨rfl, hm⟩
  have HM := hid hm.toBelow
  clear hm HA
  go_wp2_with fail
  refine (HB.out _).mono ?_
  rintro e w3 ⟨rfl, rfl⟩
  go_wp2_with fail
  refine (HC.out _).mono ?_
  rintro e w3 ⟨rfl, rfl⟩
  go_wp2_with fail
  refine (HF.out _).mono ?_
  rintro e w3 ⟨rfl, rfl⟩
  go_wp2_with fail
  refine (HG.out _).mono ?_
  rintro e w3 ⟨rfl, rfl⟩
  have hn : ∀ x : Int, (x == x) = true := by simp
  have n1 := hn b1
  have n2 := hn b2
  have n4 := hn c1
  have n5 := hn c2
  have n6 : (b3 == b3) = true := by simp
  have n7 : (c3 == c3) = true := by simp
  clear hn
  go_wp2
  go_ret
  exact ⟨rfl, HM.out⟩
set_option maxRecDepth 100000 in
set_option maxHeartbeats 3200000 in
theorem tokenAll_walk (from' : Int) (w : World) (hf : (Lit.int .u16 from').wf = true) :
    Calls Try.prog 4 #[.int .u16 from'] w fun e w' => e = .returned (.bool true) ∧ Below w.heap.size w w' := by
  have hfr := Go.bounds_u16 hf
  clear hf
  obtain ⟨f, rfl⟩ := Int.eq_ofNat_of_zero_le hfr.1
  have hf1 : f < 65536 := by omega
  clear hfr
  have hf0 : (0 : Int) ≤ (f : Int) := Int.natCast_nonneg _
  have HA := hid (h_answers8 w)
  go_enter Try.func4, Try.ntmps4
  go_wp2
  go_loopg [3] (302) (fun g t3 wr => ∃ k : Nat, k ≤ 300 ∧ 300 - k < g ∧ t3 = .int .i64 (k : Int) ∧ wr = w)
  case atStart => exact ⟨0, by omega, by omega, rfl, rfl⟩
  case round =>
    obtain ⟨k, hk, hg, rfl, rfl⟩ := hrel
    have hk0 : (0 : Int) ≤ (k : Int) := Int.natCast_nonneg _
    by_cases hk3 : k < 300
    · have hkI : (k : Int) < 300 := by omega
      obtain ⟨s2, gs⟩ : ∃ s2, s2 = f * 5 + k * 131 := ⟨_, rfl⟩
      have gsI : (f : Int) * 5 + (k : Int) * 131 = (s2 : Int) := by omega
      obtain ⟨r2, gr⟩ : ∃ r2, r2 = s2 % 32768 := ⟨_, rfl⟩
      have grI : (s2 : Int) % 32768 = (r2 : Int) := by omega
      have grT : (s2 : Int).tmod 32768 = (r2 : Int) := by rw [gr]; rfl
      have gr1 : r2 < 32768 := by omega
      have gs0 : (0 : Int) ≤ (s2 : Int) := Int.natCast_nonneg _
      have gr0 : (0 : Int) ≤ (r2 : Int) := Int.natCast_nonneg _
      have gs1 : s2 < 400000 := by omega
      obtain ⟨m2, gm⟩ : ∃ m2, m2 = 1 + r2 := ⟨_, rfl⟩
      have gmI : 1 + (r2 : Int) = (m2 : Int) := by omega
      have gm0 : (0 : Int) ≤ (m2 : Int) := Int.natCast_nonneg _
      have gm1 : m2 ≤ 32768 := by omega
      have gm2 : 1 ≤ m2 ∧ m2 ≤ 32768 := by omega
      have HL2 := hid (distCode_any (m2 : Int) wr)
      clear gs gr gm
      obtain ⟨s, hs⟩ : ∃ s, s = f + k := ⟨_, rfl⟩
      have hsI : (f : Int) + (k : Int) = (s : Int) := by omega
      obtain ⟨r, hr⟩ : ∃ r, r = s % 256 := ⟨_, rfl⟩
      have hrI : (s : Int) % 256 = (r : Int) := by omega
      have hrT : (s : Int).tmod 256 = (r : Int) := by rw [hr]; rfl
      have hr1 : r < 256 := by omega
      have hs0 : (0 : Int) ≤ (s : Int) := Int.natCast_nonneg _
      have hr0 : (0 : Int) ≤ (r : Int) := Int.natCast_nonneg _
      have hs1 : s < 66000 := by omega
      obtain ⟨m, hm⟩ : ∃ m, m = 3 + r := ⟨_, rfl⟩
      have hmI : 3 + (r : Int) = (m : Int) := by omega
      have hm0 : (0 : Int) ≤ (m : Int) := Int.natCast_nonneg _
      have hm1 : m ≤ 300 := by omega
      have hm2 : 3 ≤ m ∧ m ≤ 258 := by omega
      have HL := hid (lenCode_any (m : Int) wr)
      clear hs hr hm
      go_wp2_with fail
      refine HL.out.mono ?_
      rintro e w1 ⟨⟨v, rfl, hv⟩, rfl⟩
      rcases hv with ⟨hv, _⟩ | ⟨n, c, q, x, z, h0, h1, h2, hc, hq, hx, hz, rfl⟩
      · exfalso; omega
      have HB := lenBase_any (q : Int) wr
      rw [lens_at' q c hq hc.1] at HB
      have hle := hc.2.1
      have hfit := len_fits hc h2
      have hx5 := lX_le c hc.1
      obtain ⟨y, hy⟩ : ∃ y, y = lB c := ⟨_, rfl⟩
      rw [← hy, ← hx] at HB
      rw [← hx] at hx5
      rw [← hy] at hle hz
      rw [← hx, ← hy, ← hz] at hfit
      have HB := hid HB
      have hyn : y + z = n := by rw [hz]; exact Nat.add_sub_cancel' hle
      clear hc hq hx hz hy h1 hle HL
      obtain ⟨p, hp⟩ : ∃ p, p = 2 ^ x := ⟨_, rfl⟩
      have hpI : (2 : Int) ^ x = (p : Int) := by rw [hp]; push_cast; rfl
      have hp5 : p ≤ 2 ^ 5 := by rw [hp]; exact Nat.pow_le_pow_right (by decide) hx5
      rw [← hp] at hfit
      have hp32 : p ≤ 32 := hp5
      clear hp hp5
      have hyz : (y : Int) + (z : Int) = (m : Int) := by omega
      have hx0 : (0 : Int) ≤ (x : Int) := Int.natCast_nonneg _
      have hy0 : (0 : Int) ≤ (y : Int) := Int.natCast_nonneg _
      have hz0 : (0 : Int) ≤ (z : Int) := Int.natCast_nonneg _
      have hzp2 : decide ((p : Int) ≤ (z : Int)) = false := decide_eq_false (by omega)
      have hzp3 : decide (p ≤ z) = false := decide_eq_false (by omega)
      have hz2 : decide ((z : Int) < 0) = false := decide_eq_false (by omega)
      have hxx : ((x : Int) != (x : Int)) = false := by simp
      have hrr : ((m : Int) != (m : Int)) = false := by simp
      have hzb : z ≤ 32 := by omega
      have hyb : y ≤ 300 := by omega
      have hw1 : wrap64 (p : Int) = (p : Int) := by unfold wrap64; omega
      have hxb : x ≤ 5 := by omega
      clear hfit hp32 hyn h0 h2
      go_wp2_with fail
      refine HB.out.mono ?_
      rintro e w1 ⟨rfl, rfl⟩
      go_wp2_with fail
      refine HL2.out.mono ?_
      clear hyz hw1 hpI hzp3 hzp2 hz2 hxx hrr hzb hyb hxb hx0 hy0 hz0 hx5
      rintro e w1 ⟨⟨v, rfl, hv⟩, rfl⟩
      rcases hv with ⟨hv, _⟩ | ⟨n, c, q, x, z, h0, h1, h2, hc, hq, hx, hz, rfl⟩
      · exfalso; omega
      have HB := distBase_any (q : Int) wr
      rw [dists_at' q c hq hc.1] at HB
      have hle := hc.2.1
      have hfit := dist_fits hc h2
      have hx13 := dX_le c hc.1
      obtain ⟨y, hy⟩ : ∃ y, y = dB c := ⟨_, rfl⟩
      rw [← hy, ← hx] at HB
      rw [← hx] at hx13
      rw [← hy] at hle hz
      rw [← hx, ← hy, ← hz] at hfit
      have HB := hid HB
      have hyn : y + z = n := by rw [hz]; exact Nat.add_sub_cancel' hle
      clear hc hq hx hz hy h1 hle HL2
      obtain ⟨p, hp⟩ : ∃ p, p = 2 ^ x := ⟨_, rfl⟩
      have hpI : (2 : Int) ^ x = (p : Int) := by rw [hp]; push_cast; rfl
      have hp5 : p ≤ 2 ^ 13 := by rw [hp]; exact Nat.pow_le_pow_right (by decide) hx13
      rw [← hp] at hfit
      have hp32 : p ≤ 8192 := hp5
      clear hp hp5
      have hyz : (y : Int) + (z : Int) = (m2 : Int) := by omega
      have hx0 : (0 : Int) ≤ (x : Int) := Int.natCast_nonneg _
      have hy0 : (0 : Int) ≤ (y : Int) := Int.natCast_nonneg _
      have hz0 : (0 : Int) ≤ (z : Int) := Int.natCast_nonneg _
      have hzp2 : decide ((p : Int) ≤ (z : Int)) = false := decide_eq_false (by omega)
      have hzp3 : decide (p ≤ z) = false := decide_eq_false (by omega)
      have hz2 : decide ((z : Int) < 0) = false := decide_eq_false (by omega)
      have hxx : ((x : Int) != (x : Int)) = false := by simp
      have hrr : ((m2 : Int) != (m2 : Int)) = false := by simp
      have hzb : z ≤ 8192 := by omega
      have hyb : y ≤ 32768 := by omega
      have hw1 : wrap64 (p : Int) = (p : Int) := by unfold wrap64; omega
      have hxb : x ≤ 13 := by omega
      clear hfit hp32 hyn h0 h2
      go_wp2_with fail
      refine HB.out.mono ?_
      rintro e w1 ⟨rfl, rfl⟩
      go_wp2_with fail
      go_roundg (gk - 1)
      case measure => clear hw1; omega
      case rel => exact ⟨k + 1, by clear hw1; omega, by clear hw1; omega, by go_num, rfl⟩
    · have hkI : ¬ (k : Int) < 300 := by omega
      go_wp2_with fail
      refine HA.out.mono ?_
      rintro e w2 ⟨rfl, hm⟩
      have HM := hid hm.toBelow
      clear hm HA
      go_wp2
      go_ret
      exact ⟨rfl, HM.out⟩
end Go.Proofs.Ytgngkphdiaefcaa
