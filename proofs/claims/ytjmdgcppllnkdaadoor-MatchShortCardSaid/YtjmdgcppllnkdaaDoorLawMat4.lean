/-
  The law MatchShort, of MatchOK.
-/
import Derived.Test.YtjmdgcppllnkdaaDoorLawMat1
namespace Go.Proofs.YtjmdgcppllnkdaaDoor
open Go.RowKit

theorem made_cells9 (z : Value) (n : Nat) (hz : z.cells = #[z]) : (madeCells z.cells (n * 1)).toList = List.replicate n z := by
  rw [Nat.mul_one, hz]
  refine List.ext_getElem? fun j => ?_
  by_cases hj : j < n
  · simp [madeCells, hj, Nat.mod_one]
  · rw [List.getElem?_eq_none (by simp [madeCells]; omega), List.getElem?_eq_none (by simp; omega)]
theorem rep_set9 (n i x : Nat) (h : i < n) : (List.replicate i x ++ List.replicate (n - i) 0).set i x = List.replicate (i + 1) x ++ List.replicate (n - (i + 1)) 0 := by
  rw [List.set_append_right _ _ (by simp), List.length_replicate, Nat.sub_self, show n - i = (n - (i + 1)) + 1 by omega, List.replicate_succ, List.set_cons_zero, List.replicate_succ', List.append_assoc]
  rfl
set_option maxRecDepth 100000 in
set_option maxHeartbeats 3200000 in
theorem matchShort_from {M : MatchM} {F : M.St → Nat → Thing} {Lv : World → Prop} (HM : MatchOK M F Lv) (c more level : Int) (w : World) (HLV : Lv w) (hc : (Lit.int .u8 c).wf = true) (hm : (Lit.int .u16 more).wf = true) (hl : (Lit.int .u8 level).wf = true) :
    Calls Tryd.prog 6 #[.int .u8 c, .int .u16 more, .int .u8 level] w fun e w' => e = .returned (.bool true) ∧ Below w.heap.size w w' := by
  have hcr := Go.bounds_u8 hc
  have hmr := Go.bounds_u16 hm
  have hlr := Go.bounds_u8 hl
  clear hc hm hl
  obtain ⟨cc, rfl⟩ := Int.eq_ofNat_of_zero_le hcr.1
  obtain ⟨mm, rfl⟩ := Int.eq_ofNat_of_zero_le hmr.1
  obtain ⟨lv, rfl⟩ := Int.eq_ofNat_of_zero_le hlr.1
  obtain ⟨iu, hiu, hu0, hu1, hu2⟩ := info_parts infoByte9
  have hc256 : cc < 256 := by omega
  obtain ⟨q, hq⟩ : ∃ q, q = mm % 5000 := ⟨_, rfl⟩
  have hqI : (mm : Int) % 5000 = (q : Int) := by omega
  have hqT : (mm : Int).tmod 5000 = (q : Int) := by rw [hq]; rfl
  have hq5 : q < 5000 := by omega
  have hq0 : (0 : Int) ≤ (q : Int) := Int.natCast_nonneg _
  obtain ⟨N, hN⟩ : ∃ N, N = 517 + q := ⟨_, rfl⟩
  have hNI : (517 : Int) + (q : Int) = (N : Int) := by omega
  have hN0 : (0 : Int) ≤ (N : Int) := Int.natCast_nonneg _
  have hN1 : 517 ≤ N := by omega
  have hN2 : N ≤ 6000 := by omega
  obtain ⟨r, hr⟩ : ∃ r, r = lv % 9 := ⟨_, rfl⟩
  have hrI : (lv : Int) % 9 = (r : Int) := by omega
  have hrT : (lv : Int).tmod 9 = (r : Int) := by rw [hr]; rfl
  have hr0 : (0 : Int) ≤ (r : Int) := Int.natCast_nonneg _
  have hr9 : r < 9 := by omega
  have hb : ∀ b ∈ List.replicate N cc, b < 256 := fun b h => by rw [List.eq_of_mem_replicate h]; exact hc256
  have hsh := HM.laws.short cc N ((r : Int) + 1) hc256 hN1 hN2 (by omega) (by omega)
  have HO := hid (fun w1 (u : Value) (Rs : List Thing) (hh : Held w w1 Rs) (hr : Rd w1 1 u N (u8s (List.replicate N cc))) => HM.one u N (List.replicate N cc) ((r : Int) + 1) w w1 Rs HLV hh hr hb (by omega))
  generalize M.one (List.replicate N cc) ((r : Int) + 1) = L at *
  obtain ⟨k, hk⟩ : ∃ k, k = L.length := ⟨_, rfl⟩
  unfold tokT at HO
  rw [← hk] at HO hsh
  have hk0 : (0 : Int) ≤ (k : Int) := Int.natCast_nonneg _
  obtain ⟨k10, hk10⟩ : ∃ k10, k10 = 10 * k := ⟨_, rfl⟩
  have hkI : 10 * (k : Int) = (k10 : Int) := by omega
  have hk100 : (0 : Int) ≤ (k10 : Int) := Int.natCast_nonneg _
  have hkb : k10 ≤ 6000 := by omega
  have hkt : decide ((k10 : Int) < (N : Int)) = true := decide_eq_true (by omega)
  have hkt2 : decide (k10 < N) = true := decide_eq_true (by omega)
  have HA := hid (fun w1 (Rs : List Thing) (hh : Held w w1 Rs) => h_answers9 HM HLV hh)
  clear hq hN hr hk hk10 hsh hb hcr hmr hlr
  go_enter Tryd.func6, Tryd.ntmps6
  go_wp2_with (refine wpList_make_own rfl 22 (.tmp 16) (.tmp 16) rfl 5 iu (.int .u8 0) 1 Tryd.underlying22 hiu hu0 hu1 .i64 N rfl rfl (by rw [hu2]; omega) (by unfold maxLen; omega) ?_; intro v1 w4 zs ho1 hm1 hf1 hv1 hzs; rw [made_cells9 _ _ rfl] at hzs; subst hzs; subst hv1; have H4 := hid ((Held.start w).pushOwn ho1 hm1 hf1); clear hm1 hf1 ho1)
  obtain ⟨BK, hBK⟩ : ∃ BK, BK = w.heap.size := ⟨_, rfl⟩
  rw [← hBK] at H4 ⊢
  have HBK := hid hBK
  clear hBK
  have H4' : Hid (Held w w4 [ownT 5 1 (.slice (some ⟨BK, 0, none⟩) N N) N (u8s (List.replicate 0 cc ++ List.replicate (N - 0) 0))]) := hid (by
    have h := H4.out
    simpa [u8s] using h)
  go_loopg [9] (N + 2) (fun g t9 wr => ∃ i : Nat, i ≤ N ∧ N - i < g ∧ t9 = .int .i64 (i : Int) ∧ Hid (Held w wr [ownT 5 1 (.slice (some ⟨BK, 0, none⟩) N N) N (u8s (List.replicate i cc ++ List.replicate (N - i) 0))]))
  case atStart => exact ⟨0, by omega, by omega, rfl, H4'⟩
  case round =>
    obtain ⟨i, hi, hg, rfl, HH⟩ := hrel
    have hi0' : (0 : Int) ≤ (i : Int) := Int.natCast_nonneg _
    by_cases hin : i < N
    · have hiI : (i : Int) < (N : Int) := by omega
      obtain ⟨g, off, he, hcell, hfr, hput⟩ := HH.out.own.site (by omega)
      simp only [Option.some.injEq, Addr.mk.injEq, and_true] at he
      obtain ⟨rfl, rfl⟩ := he
      have hc1 := hcell i (.int .u8 0) (by rw [u8s_get, List.getElem?_append_right (by simp), List.length_replicate, Nat.sub_self, List.getElem?_replicate, if_pos (by omega)]; rfl)
      have hfr1 := hfr i
      have H5 := hid (HH.out.putOwn (hput i (.int .u8 (cc : Int)) hin) (Mod.set wr BK (0 + i) _))
      have HS : Hid ((u8s (List.replicate i cc ++ List.replicate (N - i) 0)).set i (.int .u8 (cc : Int)) = u8s (List.replicate (i + 1) cc ++ List.replicate (N - (i + 1)) 0)) := hid (by rw [← u8s_put, rep_set9 N i cc hin])
      rw [Nat.zero_add] at hc1 hfr1 H5
      clear hcell hfr hput
      go_wp2
      go_roundg (gk - 1)
      case measure => omega
      case rel => exact ⟨i + 1, by omega, by omega, by go_num, by have h := H5.out; rw [HS.out] at h; exact h⟩
    · obtain rfl : i = N := by omega
      have hiI : ¬ (i : Int) < (i : Int) := by omega
      have H5 : Hid (Held w wr [ownT 5 1 (.slice (some ⟨BK, 0, none⟩) i i) i (u8s (List.replicate i cc))]) := hid (by
        have h := HH.out
        rw [Nat.sub_self, List.replicate_zero, List.append_nil] at h
        exact h)
      clear HH H4 H4'
      go_wp2_with fail
      refine (HO.out wr _ _ H5.out H5.out.own.rd).mono ?_
      rintro e w5 ⟨y, rfl, hh⟩
      obtain ⟨yo, yc, rfl, _, _⟩ := hh.own.form
      have HW := hid (HM.writeNil (.slice (some ⟨BK, 0, none⟩) i i) i (List.replicate i cc) w w5 _ hh hh.drop.own.rd)
      clear hh HO H5
      go_wp2_with fail
      refine HW.out.mono ?_
      rintro e w6 ⟨rfl, hh⟩
      have HA2 := hid (HA.out w6 _ hh)
      clear hh HW
      go_wp2_with fail
      refine HA2.out.mono ?_
      rintro e w7 ⟨rfl, hh⟩
      have HT := hid (HM.toksNil true w w7 _ hh)
      clear hh HA2
      go_wp2_with fail
      refine HT.out.mono ?_
      rintro e w8 ⟨z, rfl, hz, hh⟩
      obtain ⟨zo, zc, rfl, _, _⟩ := hz.form
      have HWT := hid (HM.waitNil w w8 _ hh)
      clear hh HT hz
      go_wp2_with fail
      refine HWT.out.mono ?_
      rintro e w9 ⟨rfl, hh⟩
      have HE := hid hh.below
      clear hh HWT
      go_wp2
      go_ret
      exact ⟨rfl, HE.out⟩
end Go.Proofs.YtjmdgcppllnkdaaDoor
