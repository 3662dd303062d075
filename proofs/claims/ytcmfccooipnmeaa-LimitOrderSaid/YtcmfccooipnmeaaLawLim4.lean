/-
  The walk of the law LimitFlat, from what Lengths returns.
-/
import Derived.Test.YtcmfccooipnmeaaLawLim0
namespace Go.Proofs.Ytcmfccooipnmeaa
open Go.RowKit

theorem codedN_flat (c : Nat) (hc : 0 < c) : ∀ n : Nat, codedN (List.replicate n c) = n
  | 0 => rfl
  | n + 1 => by rw [List.replicate_succ, codedN, if_pos hc, codedN_flat c hc n]; omega
theorem castL_toNat (l : List Nat) : (castL l).map Int.toNat = l := by
  unfold castL; rw [List.map_map]; exact (List.map_congr_left fun x _ => by simp).trans (List.map_id l)
/-- frequencies that have lengths -/
theorem may_of {f : List Nat} {m : Nat} (h1 : f.length ≤ 288) (h2 : 1 ≤ m) (h3 : m ≤ 15) (h4 : ∀ a ∈ f, a ≤ 1048576) (h5 : codedN f ≤ 2 ^ m) : mayOf (castL f) (m : Int) = 0 := by
  unfold mayOf
  rw [if_neg, if_neg]
  · rw [coded_cast, Int.toNat_natCast]; omega
  · rintro (h | h | h | h)
    · rw [castL_length] at h; omega
    · omega
    · omega
    · have : frqIn (castL f) = true := by
        rw [frqIn_iff]
        intro a ha
        unfold castL at ha
        obtain ⟨b, hb, rfl⟩ := List.mem_map.1 ha
        have := h4 b hb
        omega
      rw [this] at h; cases h
theorem nums_app4 (a b : List Nat) : nums .i64 (a ++ b) = nums .i64 a ++ nums .i64 b := by simp [nums]
theorem infoInt4 : (Try.prog.info? 3).map (fun i => (i.zero, i.size, i.bytes)) = some (some (Value.int .i64 0), 1, 8) := by kernel_rfl
set_option maxRecDepth 100000 in
set_option maxHeartbeats 3200000 in
theorem limitFlat_from (H : LengthsOK) (x o y : Int) (w : World) (hx : (Lit.int .u8 x).wf = true) (ho : (Lit.int .u16 o).wf = true) (hy : (Lit.int .u8 y).wf = true) :
    Calls Try.prog 6 #[.int .u8 x, .int .u16 o, .int .u8 y] w fun e w' => e = .returned (.bool true) ∧ Below w.heap.size w w' := by
  have hx1 := Go.bounds_u8 hx
  have ho1 := Go.bounds_u16 ho
  have hy1 := Go.bounds_u8 hy
  clear hx ho hy
  obtain ⟨x, rfl⟩ := Int.eq_ofNat_of_zero_le hx1.1
  obtain ⟨o, rfl⟩ := Int.eq_ofNat_of_zero_le ho1.1
  obtain ⟨y, rfl⟩ := Int.eq_ofNat_of_zero_le hy1.1
  obtain ⟨r, hr⟩ : ∃ r, r = x % 8 := ⟨_, rfl⟩
  have hrI : (x : Int) % 8 = (r : Int) := by omega
  obtain ⟨k, hk⟩ : ∃ k, k = r + 1 := ⟨_, rfl⟩
  have hkI : (r : Int) + 1 = (k : Int) := by omega
  obtain ⟨r2, hr2⟩ : ∃ r, r = y % 15 := ⟨_, rfl⟩
  have hr2I : (y : Int) % 15 = (r2 : Int) := by omega
  obtain ⟨m, hm⟩ : ∃ m, m = r2 + 1 := ⟨_, rfl⟩
  have hmI : (r2 : Int) + 1 = (m : Int) := by omega
  obtain ⟨r3, hr3⟩ : ∃ r, r = y % 13 := ⟨_, rfl⟩
  have hr3I : (y : Int) % 13 = (r3 : Int) := by omega
  obtain ⟨m3, hm3⟩ : ∃ m3, m3 = 3 + r3 := ⟨_, rfl⟩
  have hm3I : (3 : Int) + (r3 : Int) = (m3 : Int) := by omega
  obtain ⟨c, hc⟩ : ∃ c, c = o + 1 := ⟨_, rfl⟩
  have hcI : (o : Int) + 1 = (c : Int) := by omega
  obtain ⟨c4, hc4⟩ : ∃ c4, c4 = o + 4 := ⟨_, rfl⟩
  have hc4I : (o : Int) + 4 = (c4 : Int) := by omega
  have hk1 : 1 ≤ k := by omega
  have hk8 : k ≤ 8 := by omega
  have hm1 : 1 ≤ m := by omega
  have hm15 : m ≤ 15 := by omega
  have hm33 : 3 ≤ m3 := by omega
  have hm315 : m3 ≤ 15 := by omega
  have hcb : c ≤ 65536 := by omega
  have hc4b : c4 ≤ 65539 := by omega
  have hc1 : 1 ≤ c := by omega
  have HC4 := hid hc4
  have HLO := hid H
  have H0 := hid (Held.start w)
  obtain ⟨i0, hi0, hz0, hz1, hz2⟩ := info_parts infoInt4
  clear hr hk hr2 hm hr3 hm3 hc hc4 H hx1 ho1 hy1
  by_cases hkm : m < k
  · have hkmI : (m : Int) < (k : Int) := by omega
    go_enter Try.func6, Try.ntmps6
    go_wp2_with fail
    refine (h_answers5 HLO.out H0.out).mono ?_
    rintro e w1 ⟨rfl, hM⟩
    have HB := hid hM.below
    clear hM
    go_wp2
    go_ret
    exact ⟨rfl, HB.out⟩
  have hkmI : ¬ (m : Int) < (k : Int) := by omega
  obtain ⟨P, hP⟩ : ∃ P, P = 2 ^ k := ⟨_, rfl⟩
  have hPI : (2 : Int) ^ k = (P : Int) := by rw [hP]; simp
  have hP256 : P ≤ 256 := by rw [hP]; exact Nat.pow_le_pow_right (n := 2) (by decide) hk8
  have hP2 : 2 ≤ P := by rw [hP]; exact Nat.pow_le_pow_right (n := 2) (by decide) hk1
  have HP := hid hP
  have HN0 := hid (H0.out.nil 3 1)
  clear hP
  go_enter Try.func6, Try.ntmps6
  go_wp2
  go_loopg [9, 10] (P + 1) (fun g t9 t10 wr => ∃ (i : Nat) (so : Option Addr) (sc : Nat), i ≤ P ∧ P - i < g ∧ t10 = .int .i64 (i : Int) ∧ t9 = .slice so i sc ∧ Hid (Held w wr [ownT 3 1 (.slice so i sc) i (nums .i64 (List.replicate i c))]))
  case atStart => exact ⟨0, none, 0, by omega, by omega, rfl, rfl, HN0⟩
  case round =>
    obtain ⟨i, so, sc, hi, hg, rfl, rfl, HH⟩ := hrel
    have hi0' : (0 : Int) ≤ (i : Int) := Int.natCast_nonneg _
    by_cases hiP : i < P
    · have hiPI : (i : Int) < (P : Int) := by omega
      have HH1 := hid (HH.out.lit 3 1 [.int .i64 (c : Int)] 1 (by decide) rfl).swap
      go_wp2_with ((with_reducible show wpList _ _ _ (⟨some 41, _, _, _, _, _⟩ :: _) _ _); refine wpList_app_held rfl (.tmp 36) (.tmp 40) 22 rfl 3 i0 (.int .i64 0) 1 8 Try.underlying22 hi0 hz0 hz1 hz2 rfl (by decide) _ i (nums .i64 (List.replicate i c)) rfl HH1.out _ 1 [.int .i64 (c : Int)] rfl HH1.out.swap.own.rd (by simp [Value.oneCell']) (i + 1) rfl (by unfold maxLen; omega) (by omega) ?_; intro ao1 cap1 w1 h1; have HH2 := hid h1.one; clear h1)
      go_roundg (gk - 1)
      case measure => omega
      case rel => exact ⟨i + 1, ao1, cap1, by omega, by omega, by go_num, rfl, by unfold Hid; have h := HH2.out; rw [List.replicate_succ', nums_app4]; exact h⟩
    · obtain rfl : P = i := by omega
      have hiPI : ¬ (P : Int) < (P : Int) := by omega
      have hmay : mayOf (castL (List.replicate P c)) (m : Int) = 0 := may_of (by simp; omega) hm1 hm15 (fun a ha => by have := List.eq_of_mem_replicate ha; omega) (by rw [codedN_flat c hc1, HP.out]; exact Nat.pow_le_pow_right (by decide) (by omega))
      have HLE := hid (h_lengths HLO.out HH.out (f := castL (List.replicate P c)) (m : Int) (by have h := HH.out.own.rd; rw [nums_ints] at h; exact h) (by omega))
      rw [hmay] at HLE
      clear hmay
      go_wp2_with fail
      refine HLE.out.mono ?_
      rintro e w2 ⟨lo, lc, N, l, rfl, HNL, h1, HL1⟩
      have H1 := hid h1
      clear h1
      have HLK : Hid (LenOK (List.replicate P c) m l) := by
        have h := HL1.out.2 (by first | rfl | trivial)
        rw [castL_toNat, Int.toNat_natCast] at h; exact h
      have HO := hid (HLK.out.best (by rw [codedN_flat c hc1]; exact hP2))
      have HALL : Hid (∀ a ∈ l, a = k) := by
        have h := HO.out
        rw [HP.out] at h
        exact h.flat hk1 hk8 (by omega) hm15 hc1
      go_wp2_with fail
      refine (h_answers5 HLO.out H1.out).mono ?_
      rintro e w3 ⟨rfl, h1⟩
      have H2 := hid h1
      clear h1
      have hNb : N ≤ 256 := by
        have h1 := HNL.out
        have h2 := HLK.out.len
        rw [List.length_replicate] at h2
        omega
      go_wp2
      go_loopg [13] (N + 1) (fun g t13 wr => ∃ i : Nat, i ≤ N ∧ N - i < g ∧ t13 = .int .i64 (i : Int) ∧ wr = w3)
      case atStart => exact ⟨0, by omega, by omega, rfl, rfl⟩
      case round =>
        obtain ⟨i, hi, hg, rfl, rfl⟩ := hrel
        have hi0' : (0 : Int) ≤ (i : Int) := Int.natCast_nonneg _
        by_cases hiN : i < N
        · have hiNI : (i : Int) < (N : Int) := by omega
          obtain ⟨a, ha⟩ := get_some (l := l) (i := i) (by have := HNL.out; omega)
          obtain rfl : a = k := HALL.out a (List.mem_of_getElem? ha)
          obtain ⟨g2, off2, rfl, _⟩ := H2.out.own.rd.spot (by omega)
          have hc1' := H2.out.own.rd.at (show (nums .i64 l)[i]? = some (.int .i64 (a : Int)) by rw [nums_get, ha]; rfl)
          have hne : ((a : Int) != (a : Int)) = false := by simp
          clear ha
          go_wp2
          go_roundg (gk - 1)
          case measure => omega
          case rel => exact ⟨i + 1, by omega, by omega, by go_num, rfl⟩
        · have hiNI : ¬ (i : Int) < (N : Int) := by omega
          have HG : Hid (Held w (wr.alloc (.cells #[.int .i64 1, .int .i64 2, .int .i64 (c4 : Int), .int .i64 1] 3)) (ownT 3 1 (.slice (some ⟨wr.heap.size, 0, none⟩) 4 4) 4 (ints (castL [1, 2, c4, 1])) :: _)) :=
            H2.out.lit 3 1 (ints (castL [1, 2, c4, 1])) 4 (by decide) rfl
          have hmay : mayOf (castL [1, 2, c4, 1]) (m3 : Int) = 0 := may_of (by simp) (by omega) hm315 (fun a ha => by simp at ha; omega) (by
            have h8 : 2 ^ 3 ≤ 2 ^ m3 := Nat.pow_le_pow_right (by decide) hm33
            have h4 : codedN [1, 2, c4, 1] ≤ 4 := codedN_le _
            omega)
          have HLE2 := hid (h_lengths HLO.out HG.out (f := castL [1, 2, c4, 1]) (m3 : Int) HG.out.own.rd (by omega))
          rw [hmay] at HLE2
          clear hmay
          go_wp2_with fail
          refine HLE2.out.mono ?_
          rintro e w4 ⟨lo2, lc2, N2, l2, rfl, HNL2, h1, HL2⟩
          have H3 := hid h1
          clear h1
          have HLK2 : Hid (LenOK [1, 2, c4, 1] m3 l2) := by
            have h := HL2.out.2 (by first | rfl | trivial)
            rw [castL_toNat, Int.toNat_natCast] at h; exact h
          have HO2 : Hid (l2[2]? = some 1) := by
            have h := HLK2.out.best (by rw [HC4.out]; simp [codedN])
            rw [HC4.out] at h
            exact h.four hm33 hm315
          obtain rfl : N2 = 4 := by rw [HNL2.out, HLK2.out.len]; rfl
          obtain ⟨g3, off3, rfl, _⟩ := H3.out.own.rd.spot (by omega)
          have hc2' := H3.out.own.rd.at (show (nums .i64 l2)[2]? = some (.int .i64 ((1 : Nat) : Int)) by rw [nums_get, HO2.out]; rfl)
          have HB := hid H3.out.below
          go_wp2
          go_ret
          exact ⟨rfl, HB.out⟩
end Go.Proofs.Ytcmfccooipnmeaa
