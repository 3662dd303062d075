/-
  The law WindowFar, of WindowOK.
-/
import Derived.Test.YtcocengcdhicnaaLawWin0
import Derived.Test.YtcocengcdhicnaaArr
import Derived.Deep.DeepCutAuto
namespace Go.Proofs.Ytcocengcdhicnaa
open Go.RowKit

set_option maxRecDepth 100000 in
set_option maxHeartbeats 3200000 in
theorem rep_set (n i x : Nat) (h : i < n) : (List.replicate i x ++ List.replicate (n - i) 0).set i x = List.replicate (i + 1) x ++ List.replicate (n - (i + 1)) 0 := by
  rw [List.set_append_right _ _ (by simp), List.length_replicate, Nat.sub_self, show n - i = (n - (i + 1)) + 1 by omega, List.replicate_succ, List.set_cons_zero, List.replicate_succ', List.append_assoc]
  rfl
set_option maxRecDepth 100000 in
set_option maxHeartbeats 3200000 in
theorem windowFar_from {W : List Nat → Nat → Thing} (HW : WindowOK W) (more c : Int) (w : World) (hm : (Lit.int .u16 more).wf = true) (hc : (Lit.int .u8 c).wf = true) :
    Calls Try.prog 6 #[.int .u16 more, .int .u8 c] w fun e w' => e = .returned (.bool true) ∧ Below w.heap.size w w' := by
  have hmr := Go.bounds_u16 hm
  have hcr := Go.bounds_u8 hc
  clear hm hc
  obtain ⟨mm, rfl⟩ := Int.eq_ofNat_of_zero_le hmr.1
  obtain ⟨cc, rfl⟩ := Int.eq_ofNat_of_zero_le hcr.1
  obtain ⟨iu, hiu, hu0, hu1, hu2⟩ := info_parts infoByte7
  obtain ⟨m, hm⟩ : ∃ m, m = mm % 4 := ⟨_, rfl⟩
  have hm3 : m ≤ 3 := by omega
  have hmI : (mm : Int) % 4 = (m : Int) := by omega
  have hm0 : (0 : Int) ≤ (m : Int) := Int.natCast_nonneg _
  obtain ⟨x1, hx1⟩ : ∃ x, x = (cc + 1) % 256 := ⟨_, rfl⟩
  obtain ⟨x2, hx2⟩ : ∃ x, x = (cc + 2) % 256 := ⟨_, rfl⟩
  obtain ⟨x9, hx9⟩ : ∃ x, x = (cc + 9) % 256 := ⟨_, rfl⟩
  have hx1I : ((cc : Int) + 1) % 256 = (x1 : Int) := by omega
  have hx2I : ((cc : Int) + 2) % 256 = (x2 : Int) := by omega
  have hx9I : ((cc : Int) + 9) % 256 = (x9 : Int) := by omega
  have hb1 : x1 < 256 := by omega
  have hb2 : x2 < 256 := by omega
  have hb9 : x9 < 256 := by omega
  have HX := hid (And.intro hx1 hx2)
  obtain ⟨N, hN⟩ : ∃ N, N = 32765 + m := ⟨_, rfl⟩
  have hNI : (32765 : Int) + (m : Int) = (N : Int) := by omega
  have hN0 : (0 : Int) ≤ (N : Int) := Int.natCast_nonneg _
  obtain ⟨wv, hwv⟩ : ∃ wv, wv = (cc + m) % 256 := ⟨_, rfl⟩
  have hwvI : ((cc : Int) + (m : Int)) % 256 = (wv : Int) := by omega
  have HWV := hid (And.intro hwv (And.intro hx9 (And.intro hN (And.intro hx1 hx2))))
  have hNb : N ≤ 32768 := by omega
  have hNc : 32765 ≤ N := by omega
  clear hm hx1 hx2 hx9 hwv hN
  have HNW := hid (HW.new w w [] (Held.start w))
  go_enter Try.func6, Try.ntmps6
  go_wp2_with fail
  refine HNW.out.mono ?_
  rintro e w1 ⟨B, rfl, hh⟩
  have HA := hid (h_answers7 HW hh)
  clear hh HNW
  go_wp2_with fail
  refine HA.out.mono ?_
  rintro e w2 ⟨rfl, hh⟩
  have hl := hh.lit 5 1 (u8s [cc, x1, x2]) 3 (by decide) rfl
  have HAD := hid (HW.add [] B _ 3 [cc, x1, x2] w _ _ hl.swap hl.own.rd (by intro b hb; simp at hb; omega) (by simp) (by simp))
  clear hh HA hl
  go_wp2_with fail
  refine HAD.out.mono ?_
  rintro e w3 ⟨rfl, hh⟩
  rw [List.nil_append] at hh
  have H3 := hid hh.swap.drop
  clear hh HAD
  go_wp2_with ((with_reducible show wpList _ _ _ (⟨some 34, _, _, _, _, _⟩ :: _) _ _); refine wpList_make_own rfl 26 (.tmp 33) (.tmp 33) rfl 5 iu (.int .u8 0) 1 Try.underlying26 hiu hu0 hu1 .i64 N rfl rfl (by rw [hu2]; omega) (by unfold maxLen; omega) ?_; intro v1 w4 zs ho1 hm1 hf1 hv1 hzs; rw [made_cells7 _ _ rfl] at hzs; subst hzs; subst hv1; have H4 := hid (H3.out.pushOwn ho1 hm1 hf1); clear hm1 hf1 ho1)
  generalize w3.heap.size = G at H4 ⊢
  have H5 : Hid (Held w w4 [ownT 5 1 (.slice (some ⟨G, 0, none⟩) N N) N (u8s (List.replicate 0 x9 ++ List.replicate (N - 0) 0)), W [cc, x1, x2] B]) := by
    have h := H4.out
    refine hid ?_
    rw [List.replicate_zero, List.nil_append, Nat.sub_zero, ← nums_u8, nums_replicate]
    exact h
  clear H4 H3
  go_loopg [8] (N + 2) (fun k t8 wr => ∃ (i : Nat), i ≤ N ∧ N - i < k ∧ t8 = .int .i64 (i : Int) ∧ Hid (Held w wr [ownT 5 1 (.slice (some ⟨G, 0, none⟩) N N) N (u8s (List.replicate i x9 ++ List.replicate (N - i) 0)), W [cc, x1, x2] B]))
  case atStart => exact ⟨0, by omega, by omega, rfl, H5⟩
  case round =>
    obtain ⟨i, hi, hk2, rfl, HH⟩ := hrel
    have hi0 : (0 : Int) ≤ (i : Int) := Int.natCast_nonneg _
    by_cases hin : i < N
    · have hiI : (i : Int) < (N : Int) := by omega
      obtain ⟨g, off, hg, hocell, hofr, hoput⟩ := HH.out.own.site (by omega)
      simp only [Option.some.injEq, Addr.mk.injEq, and_true] at hg
      obtain ⟨rfl, rfl⟩ := hg
      have hc1 := hocell i (.int .u8 0) (by rw [u8s_get, List.getElem?_append_right (by simp), List.length_replicate, Nat.sub_self, List.getElem?_replicate, if_pos (by omega)]; rfl)
      have hf1 := hofr i
      have h6 := HH.out.putOwn (hoput i (.int .u8 (x9 : Int)) hin) (Mod.set wr G (0 + i) _)
      rw [← nums_u8, nums_set, rep_set _ _ _ hin, nums_u8] at h6
      have H6 := hid h6
      rw [Nat.zero_add] at hc1 hf1 H6
      clear hocell hofr hoput h6 HH
      go_wp2
      go_roundg (gk - 1)
      case measure => omega
      case rel => exact ⟨i + 1, by omega, by omega, by go_num, H6⟩
    · obtain rfl : N = i := by omega
      have hiI : ¬ (N : Int) < (N : Int) := by omega
      have h7 := HH.out
      rw [Nat.sub_self, List.replicate_zero, List.append_nil] at h7
      have H7 := hid h7.swap
      clear h7 HH
      have hR1 : Rd wr 1 (.slice (some ⟨G, 0, none⟩) 1000 N) 1000 (u8s (List.replicate 1000 x9)) := by
        have h := H7.out.swap.own.rd.front (H := 1000) (by omega)
        rw [← nums_u8, nums_replicate, List.take_replicate, show min (1000 * 1) N = 1000 by omega] at h
        rw [← nums_u8, nums_replicate]
        exact h
      have h9 : ∀ k, ∀ b ∈ List.replicate k x9, b < 256 := fun k b hb => by have := List.eq_of_mem_replicate hb; omega
      have h3 : ∀ b ∈ [cc, x1, x2], b < 256 := by intro b hb; simp at hb; omega
      have H9 := hid (And.intro h9 h3)
      have HA1 := hid (HW.add [cc, x1, x2] B _ 1000 (List.replicate 1000 x9) w wr _ H7.out hR1 (h9 _) h3 (by simp))
      clear H7 hR1 h9 h3
      go_wp2_with fail
      refine HA1.out.mono ?_
      rintro e w5 ⟨rfl, hh⟩
      have H8 := hid hh
      clear hh HA1
      have hR2 : Rd w5 1 (.slice (some ⟨G, 1000, none⟩) (N - 1000) (N - 1000)) (N - 1000) (u8s (List.replicate (N - 1000) x9)) := by
        obtain ⟨g, off, hg, hocell, _, _⟩ := H8.out.swap.own.site (by omega)
        simp only [Option.some.injEq, Addr.mk.injEq, and_true] at hg
        obtain ⟨rfl, rfl⟩ := hg
        refine ⟨by simp [u8s_length], _, _, rfl, Nat.le_refl _, by unfold maxLen; omega, by simp, .inr ⟨_, _, rfl, fun j u hu => ?_⟩⟩
        have hj : j < N - 1000 := by have := (List.getElem?_eq_some_iff.1 hu).1; simpa [u8s_length] using this
        have := hocell (1000 + j) u (by
          rw [u8s_get, List.getElem?_replicate, if_pos (by omega)]
          rw [u8s_get, List.getElem?_replicate, if_pos hj] at hu
          exact hu)
        rw [Nat.zero_add] at this
        exact this
      have HA2 := hid (HW.add _ B _ (N - 1000) (List.replicate (N - 1000) x9) w w5 _ H8.out hR2 (H9.out.1 _) (fun b hb => (List.mem_append.1 hb).elim (H9.out.2 b) (H9.out.1 _ b)) (by simp; omega))
      clear H8 hR2
      obtain ⟨all, hall⟩ : ∃ all, all = [cc, x1, x2] ++ List.replicate 1000 x9 ++ List.replicate (N - 1000) x9 := ⟨_, rfl⟩
      have hal : all.length = N + 3 := by rw [hall]; simp; omega
      have ha256 : ∀ b ∈ all, b < 256 := by
        intro b hb
        rw [hall] at hb
        rcases List.mem_append.1 hb with hb | hb
        · rcases List.mem_append.1 hb with hb | hb
          · exact H9.out.2 b hb
          · exact H9.out.1 _ b hb
        · exact H9.out.1 _ b hb
      rw [← hall] at HA2
      have hy : all[m]? = some (if m = 3 then x9 else wv) := by
        obtain ⟨e1, e2, _, e4, e5⟩ := HWV.out
        rw [hall]
        have h4 : m = 0 ∨ m = 1 ∨ m = 2 ∨ m = 3 := by omega
        rcases h4 with rfl | rfl | rfl | rfl
        · have : cc = wv := by omega
          simp [this]
        · have : x1 = wv := by omega
          simp [this]
        · have : x2 = wv := by omega
          simp [this]
        · simp
      obtain ⟨y, hyy⟩ : ∃ y, y = if m = 3 then x9 else wv := ⟨_, rfl⟩
      rw [← hyy] at hy
      have ho : out all 32768 1 = [y] := by
        refine List.ext_getElem? fun j => ?_
        by_cases hj : j < 1
        · obtain rfl : j = 0 := by omega
          rw [out_get all 32768 1 0 (by omega) (by omega) (by omega), show all.length - 32768 + 0 % 32768 = m by have := HWV.out.2.2.1; omega, hy]; rfl
        · rw [List.getElem?_eq_none (by rw [out_length]; omega), List.getElem?_eq_none (by simp; omega)]
      have HAL := hid (And.intro hal (And.intro ha256 ho))
      have HY := hid hyy
      clear hal ha256 ho hall hy hyy
      go_wp2_with fail
      refine HA2.out.mono ?_
      rintro e w6 ⟨rfl, hh⟩
      have HC1 := hid (HW.copy all B 1 32768 w w6 _ hh HAL.out.2.1 (by have := HAL.out.1; omega) (by omega) (by omega) (by omega) (by have := HAL.out.1; omega) (by omega))
      rw [HAL.out.2.2] at HC1
      clear hh HA2
      go_wp2_with fail
      refine HC1.out.mono ?_
      rintro e w7 ⟨v, rfl, hh⟩
      obtain ⟨vo, vc, rfl, _, _⟩ := hh.own.form
      have H10 := hid hh
      have HC2 := hid (HW.copyCode (ext all 32768 1) B 1 32769 w w7 _ hh.swap (by rw [ext_length]; have := HAL.out.1; omega) (by omega) (by omega) (by right; rw [ext_length]; have := HAL.out.1; omega))
      clear hh HC1 H10
      go_wp2_with fail
      refine HC2.out.mono ?_
      rintro e w8 ⟨v2, rfl, _, hh⟩
      obtain ⟨g, off, rfl, hcell, _, _⟩ := hh.swap.own.site (by omega)
      have hc0 := hcell 0 (.int .u8 (y : Int)) rfl
      rw [Nat.add_zero] at hc0
      have HLN := hid (HW.len (ext all 32768 1) B 32768 w w8 _ hh (by rw [ext_length]; have := HAL.out.1; omega) (by rw [ext_length]; have := HAL.out.1; omega))
      clear hh HC2 hcell
      by_cases hm3' : m = 3
      · have hmz : ((m : Int) == 3) = true := by simp; omega
        have hyx : y = x9 := by rw [HY.out, if_pos hm3']
        subst hyx
        have hyy : ((y : Int) == (y : Int)) = true := by simp
        clear hm3'
        go_wp2_with fail
        refine HLN.out.mono ?_
        rintro e w9 ⟨rfl, hh⟩
        have HE := hid hh.below
        clear hh HLN
        go_wp2
        go_ret
        exact ⟨rfl, HE.out⟩
      · have hmz : ((m : Int) == 3) = false := by simp; omega
        have hyx : y = wv := by rw [HY.out, if_neg hm3']
        subst hyx
        have hyy : ((y : Int) == (y : Int)) = true := by simp
        clear hm3'
        go_wp2_with fail
        refine HLN.out.mono ?_
        rintro e w9 ⟨rfl, hh⟩
        have HE := hid hh.below
        clear hh HLN
        go_wp2
        go_ret
        exact ⟨rfl, HE.out⟩
end Go.Proofs.Ytcocengcdhicnaa
