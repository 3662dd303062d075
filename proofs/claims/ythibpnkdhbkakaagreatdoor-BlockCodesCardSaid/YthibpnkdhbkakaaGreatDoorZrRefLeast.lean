/-
  The reference's Least.
-/
import Derived.Test.YthibpnkdhbkakaaGreatDoorProg
import Derived.Test.YthibpnkdhbkakaaGreatDoorZq27
import Derived.Test.YthibpnkdhbkakaaGreatDoorZq02
import Derived.Test.YthibpnkdhbkakaaGreatDoorZrLeastMath
import Derived.StillTailTactics
namespace Go.Proofs.YthibpnkdhbkakaaGreatDoor
set_option maxRecDepth 5000
open Go.RowKit

theorem infoIntL : (Tryz.prog.info? 3).map (fun i => (i.zero, i.size, i.bytes)) = some (some (Value.int .i64 0), 1, 8) := by kernel_rfl
theorem infoRowL : (Tryz.prog.info? 37).map (fun i => (i.zero, i.size, i.bytes)) = some (some (Value.slice none 0 0), 1, 24) := by kernel_rfl
theorem nums_append (k : IntKind) (a b : List Nat) : nums k (a ++ b) = nums k a ++ nums k b := by simp [nums]
set_option maxRecDepth 100000 in
set_option maxHeartbeats 6400000 in
theorem least_any (v : Value) (f : List Nat) (m : Nat) (w : World) (n : Nat) (hv : Rd w 1 v n (nums .i64 f)) (hn : n = f.length) (hn2 : n ≤ 288) (hf : ∀ a ∈ f, a ≤ 1048576) (hc : (came f).length ≤ 60) (hc2 : 1 ≤ (came f).length) (hm : 1 ≤ m) (hm2 : m ≤ 15) :
    Calls Tryz.prog 21 #[v, .int .i64 (m : Int)] w fun e w' => (∃ (s : List Nat) (z : Nat), e = .returned (.int .i64 (z : Int)) ∧ Down s ∧ s.Perm (came f) ∧ (z = 1152921504606846976 ∨ Has s m s.length 0 z) ∧ (∀ c, Has s m s.length 0 c → z ≤ c)) ∧ Mod w w' (fun _ => False) := by
  obtain ⟨ao, cap, rfl, _, _⟩ := hv.form
  obtain ⟨i0, hi0, hz0, hz1, hz2⟩ := info_parts infoIntL
  have HF := hid hf
  have HC := hid hc
  have HC2 := hid hc2
  have HN := hid hn
  have H0 := hid ((Held.start w).nil 3 1)
  clear hf hc hc2 hn
  go_enter Tryz.func21, Tryz.ntmps21
  go_wp2
  go_loopg [5, 6] (n + 1) (fun k t5 t6 wr => ∃ (i : Nat) (s : List Nat) (so : Option Addr) (sc L : Nat), i ≤ n ∧ n - i < k ∧ t6 = .int .i64 (i : Int) ∧ t5 = .slice so L sc ∧ Hid (L = s.length) ∧ L ≤ i ∧ Hid (Down s) ∧ Hid (s.Perm (came (f.take i))) ∧ Hid (Held w wr [ownT 3 1 (.slice so L sc) L (nums .i64 s)]))
  case atStart => exact ⟨0, [], none, 0, 0, by omega, by omega, rfl, rfl, rfl, by omega, trivial, List.Perm.refl _, H0⟩
  case round =>
    obtain ⟨i, s, so, sc, L, hi, hk, rfl, rfl, HL, hLi, HD, HP, HH⟩ := hrel
    obtain ⟨gx, rfl⟩ : ∃ g, g = gk := ⟨gk, rfl⟩
    have hi0' : (0 : Int) ≤ (i : Int) := Int.natCast_nonneg _
    by_cases hin : i < n
    · have hi1 : (i : Int) < (n : Int) := by omega
      obtain ⟨x, hx⟩ : ∃ x, f[i]? = some x := ⟨f[i]'(by have := HN.out; omega), List.getElem?_eq_getElem _⟩
      have hxl : x ≤ 1048576 := HF.out x (List.mem_of_getElem? hx)
      obtain ⟨g1, off1, rfl, hcell⟩ := (HH.out.old hv).spot (by omega)
      have hc1 := hcell i _ (by rw [nums_get, hx]; rfl)
      have HX := hid hx
      clear hcell hx
      by_cases hx0 : 0 < x
      · have hx0I : (0 : Int) < (x : Int) := by omega
        have HH1 := hid (HH.out.lit 3 1 [.int .i64 0] 1 (by decide) rfl).swap
        go_wp2_with ((with_reducible show wpList _ _ _ (⟨some 38, _, _, _, _, _⟩ :: _) _ _); refine wpList_app_held rfl (.tmp 36) (.tmp 37) 37 rfl 3 i0 (.int .i64 0) 1 8 Tryz.underlying37 hi0 hz0 hz1 hz2 rfl (by decide) _ L (nums .i64 s) rfl HH1.out _ 1 [.int .i64 0] rfl HH1.out.swap.own.rd (by simp [Value.oneCell']) (L + 1) rfl (by unfold maxLen; omega) (by omega) ?_; intro ao1 cap1 w1 h1; have HH2 := hid h1.one; clear h1)
        have HG : Hid (Held w w1 [ownT 3 1 (.slice ao1 (L + 1) cap1) (L + 1) (nums .i64 (gap s L 0))]) := by
          have h := HH2.out
          have e : nums .i64 s ++ [.int .i64 0] = nums .i64 (gap s L 0) := by rw [show L = s.length from HL.out, ← gap_end, nums_append]; rfl
          rw [e] at h; exact h
        clear HH2
        go_loopg [7] (L + 2) (fun k t7 wq => ∃ (k1 y : Nat), k1 ≤ L ∧ k1 < k ∧ t7 = .int .i64 (k1 : Int) ∧ Hid (∀ b ∈ s.drop k1, b < x) ∧ Hid (Held w wq [ownT 3 1 (.slice ao1 (L + 1) cap1) (L + 1) (nums .i64 (gap s k1 y))]))
        case atStart => exact ⟨L, 0, by omega, by omega, rfl, by unfold Hid; rw [show L = s.length from HL.out]; simp, HG⟩
        case round =>
          obtain ⟨k, y, hkL, hk2, rfl, HLT, HJ⟩ := hrel
          have hk0' : (0 : Int) ≤ (k : Int) := Int.natCast_nonneg _
          have hk1' : (k : Int) < ((L : Int) + 1) := by omega
          have hin' := HJ.out.old hv
          have hc1 := hin'.at (show (nums .i64 f)[i]? = some (.int .i64 (x : Int)) by rw [nums_get, HX.out]; rfl)
          obtain ⟨g2, off2, rfl, hocell, hofr, hoput⟩ := HJ.out.own.site (by omega)
          by_cases hk0 : k = 0
          · subst hk0
            have hb0 : decide ((0 : Int) < ((0 : Nat) : Int)) = false := by decide
            have hb3 : decide ((0 : Nat) < 0) = false := by decide
            have HDN : Hid (Down (gap s 0 x)) := gap_down s 0 x HD.out (fun b hb => Nat.le_of_lt (HLT.out b hb)) (by simp)
            have HPN : Hid ((gap s 0 x).Perm (came (f.take (i + 1)))) := came_gap HX.out hx0 HP.out
            clear hocell hofr hoput
            go_wp2
            go_quiet (fail)
            have HJ2 := hid (HJ.out.drewN nq)
            generalize wr.drewN nq = w3 at HJ2 ⊢
            have hc1 := (HJ2.out.old hv).at (show (nums .i64 f)[i]? = some (.int .i64 (x : Int)) by rw [nums_get, HX.out]; rfl)
            obtain ⟨g3, off3, hg3, hocell, hofr, hoput⟩ := HJ2.out.own.site (by omega)
            simp only [Option.some.injEq, Addr.mk.injEq, and_true] at hg3
            obtain ⟨rfl, rfl⟩ := hg3
            have hck := hocell 0 _ (by rw [nums_get, gap_at s 0 y (by have := HL.out; omega)]; rfl)
            have hfk := hofr 0
            simp only [Nat.add_zero] at hck hfk
            have HS := hid (HJ2.out.putOwn (hoput 0 (.int .i64 (x : Int)) (by omega)) (Mod.set w3 g2 (off2 + 0) _))
            have HG2 : Hid ((gap s 0 y).set 0 x = gap s 0 x) := gap_set s 0 x y (by have := HL.out; omega)
            clear hocell hofr hoput
            go_wp2
            go_roundg (gx - 1)
            case measure => omega
            case rel => exact ⟨i + 1, gap s 0 x, _, cap1, L + 1, by omega, by omega, by go_num, rfl, by unfold Hid; rw [gapL_length, ← HL.out], by omega, HDN, HPN, by unfold Hid; have h := HS.out; rw [nums_set, HG2.out] at h; simpa using h⟩
          · obtain ⟨j, hj⟩ : ∃ j, k = j + 1 := ⟨k - 1, by omega⟩
            have hjI : (k : Int) - 1 = (j : Int) := by omega
            have hj0 : (0 : Int) ≤ (j : Int) := Int.natCast_nonneg _
            have hjL : (j : Int) < (L : Int) + 1 := by omega
            obtain ⟨a, ha⟩ : ∃ a, s[j]? = some a := ⟨s[j]'(by have := HL.out; omega), List.getElem?_eq_getElem _⟩
            have hcj := hocell j _ (by rw [nums_get, hj, gap_get s j y a ha]; rfl)
            have hck := hocell k _ (by rw [nums_get, gap_at s k y (by have := HL.out; omega)]; rfl)
            have hfk := hofr k
            have hb0 : decide ((0 : Int) < (k : Int)) = true := by simp; omega
            have hb3 : decide (0 < k) = true := by simp; omega
            have HA := hid ha
            have HJJ := hid hj
            by_cases hax : a < x
            · have hb1 : decide ((a : Int) < (x : Int)) = true := by simp; omega
              have hb2 : decide (a < x) = true := by simp; omega
              have HLT2 : Hid (∀ b ∈ s.drop j, b < x) := by have h := HLT.out; rw [HJJ.out] at h; exact drop_lt HA.out hax h
              clear hocell hofr hoput ha hj
              go_wp2
              go_quiet (fail)
              have HJ2 := hid (HJ.out.drewN nq)
              generalize wr.drewN nq = w3 at HJ2 ⊢
              obtain ⟨g3, off3, hg3, hocell, hofr, hoput⟩ := HJ2.out.own.site (by omega)
              simp only [Option.some.injEq, Addr.mk.injEq, and_true] at hg3
              obtain ⟨rfl, rfl⟩ := hg3
              have hcj := hocell j _ (by rw [nums_get, HJJ.out, gap_get s j y a HA.out]; rfl)
              have hck := hocell k _ (by rw [nums_get, gap_at s k y (by have := HL.out; omega)]; rfl)
              have hfk := hofr k
              have HS := hid (HJ2.out.putOwn (hoput k (.int .i64 (a : Int)) (by omega)) (Mod.set w3 g2 (off2 + k) _))
              have HG2 : Hid ((gap s k y).set k a = gap s j a) := by unfold Hid; rw [HJJ.out]; exact gap_shift s j y a HA.out
              clear hocell hofr hoput
              go_wp2
              go_roundg (gk - 1)
              case measure => omega
              case rel => exact ⟨j, a, by omega, by omega, by go_num, HLT2, by unfold Hid; have h := HS.out; rw [nums_set, HG2.out] at h; simpa using h⟩
            · have hb1 : decide ((a : Int) < (x : Int)) = false := by simp; omega
              have hb2 : decide (a < x) = false := by simp; omega
              clear ha hj
              have HDN : Hid (Down (gap s k x)) := gap_down s k x HD.out (fun b hb => Nat.le_of_lt (HLT.out b hb)) (by rw [HJJ.out]; exact take_ge HD.out HA.out (by omega))
              have HPN : Hid ((gap s k x).Perm (came (f.take (i + 1)))) := came_gap HX.out hx0 HP.out
              clear hocell hofr hoput
              go_wp2
              go_quiet (fail)
              have HJ2 := hid (HJ.out.drewN nq)
              generalize wr.drewN nq = w3 at HJ2 ⊢
              have hc1 := (HJ2.out.old hv).at (show (nums .i64 f)[i]? = some (.int .i64 (x : Int)) by rw [nums_get, HX.out]; rfl)
              obtain ⟨g3, off3, hg3, hocell, hofr, hoput⟩ := HJ2.out.own.site (by omega)
              simp only [Option.some.injEq, Addr.mk.injEq, and_true] at hg3
              obtain ⟨rfl, rfl⟩ := hg3
              have hck := hocell k _ (by rw [nums_get, gap_at s k y (by have := HL.out; omega)]; rfl)
              have hfk := hofr k
              have HS := hid (HJ2.out.putOwn (hoput k (.int .i64 (x : Int)) (by omega)) (Mod.set w3 g2 (off2 + k) _))
              have HG2 : Hid ((gap s k y).set k x = gap s k x) := gap_set s k x y (by have := HL.out; omega)
              clear hocell hofr hoput
              go_wp2
              go_roundg (gx - 1)
              case measure => omega
              case rel => exact ⟨i + 1, gap s k x, _, cap1, L + 1, by omega, by omega, by go_num, rfl, by unfold Hid; rw [gapL_length, ← HL.out], by omega, HDN, HPN, by unfold Hid; have h := HS.out; rw [nums_set, HG2.out] at h; simpa using h⟩
      · have hx0I : ¬ (0 : Int) < (x : Int) := by omega
        have HE : Hid (came (f.take (i + 1)) = came (f.take i)) := came_skip HX.out hx0
        go_wp2
        go_roundg (gx - 1)
        case measure => omega
        case rel => exact ⟨i + 1, s, so, sc, L, by omega, by omega, by go_num, rfl, HL, by omega, HD, by unfold Hid; rw [HE.out]; exact HP.out, HH⟩
    · have hi1 : ¬ (i : Int) < (n : Int) := by omega
      have HP2 : Hid (s.Perm (came f)) := by have h := HP.out; rwa [List.take_of_length_le (by have := HN.out; omega)] at h
      have HL2 : Hid (L = (came f).length) := by unfold Hid; rw [HL.out]; exact HP2.out.length_eq
      have hL1 : 1 ≤ L := by have := HC2.out; have := HL2.out; omega
      have hL60 : L ≤ 60 := by have := HC.out; have := HL2.out; omega
      obtain ⟨i1, hi1', hy0, hy1, hy2⟩ := info_parts infoRowL
      go_wp2_with ((with_reducible show wpList _ _ _ (⟨some 74, _, _, _, _, _⟩ :: _) _ _); refine wpList_make_own rfl 68 (.tmp 73) (.tmp 73) rfl 37 i1 (.slice none 0 0) 1 Tryz.underlying68 hi1' hy0 hy1 .i64 (L + 1) rfl rfl (by rw [hy2]; omega) (by unfold maxLen; omega) ?_; intro v1 w4 zs ho1 hm1 hf1 hv1 hzs; have HB1 := hid ((HH.out.same hm1)); have HB2 := hid ((HH.out).pushOwn ho1 hm1 hf1); have HV1 := hid hv1; have HZS := hid hzs; clear hm1 hf1 hv1 hzs ho1)
      obtain ⟨N, hN⟩ : ∃ N, N = L + 1 := ⟨_, rfl⟩
      have hNI : (L : Int) + 1 = (N : Int) := by omega
      obtain ⟨B, hB⟩ : ∃ B, B = wr.heap.size := ⟨_, rfl⟩
      have hVV : v1 = .slice (some ⟨B, 0, none⟩) N N := by rw [hB, hN]; exact HV1.out
      have HM0 : Hid (Held w w4 [matT 37 3 B (fun _ => 0) 0 N (fun _ _ => 0), ownT 3 1 (.slice so L sc) L (nums .i64 s)]) := by
        have h := HB2.out
        rw [HZS.out, made_cells _ _ rfl, hVV, ← hN] at h
        exact h.matStart _ _
      subst hVV
      have HNL := hid hN
      clear hN hB HB1 HB2 HV1 HZS HH
      rw [hNI]
      go_loopg [11] (L + 3) (fun k t11 wr => ∃ (i : Nat) (b : Nat → Nat) (V : Nat → Nat → Nat), i ≤ N ∧ N - i < k ∧ t11 = .int .i64 (i : Int) ∧ Hid (∀ x y, x < i → y < N → V x y = 1152921504606846976) ∧ Hid (Held w wr [matT 37 3 B b i N V, ownT 3 1 (.slice so L sc) L (nums .i64 s)]))
      case atStart => exact ⟨0, _, _, by omega, by have := HNL.out; omega, rfl, fun x y h _ => by omega, HM0⟩
      case round =>
        obtain ⟨i, b, V, hiN, hk3, rfl, HVV, HH⟩ := hrel
        obtain ⟨gy, rfl⟩ : ∃ g, g = gk := ⟨gk, rfl⟩
        have hi0' : (0 : Int) ≤ (i : Int) := Int.natCast_nonneg _
        by_cases hiL : i < N
        · have hiI : (i : Int) ≤ (L : Int) := by have := HNL.out; omega
          have hiI2 : (i : Int) < (N : Int) := by omega
          go_wp2_with ((with_reducible show wpList _ _ _ (⟨some 84, _, _, _, _, _⟩ :: _) _ _); refine wpList_make_own rfl 37 (.tmp 83) (.tmp 83) rfl 3 i0 (.int .i64 0) 1 Tryz.underlying37 hi0 hz0 hz1 .i64 N (by first | rfl | (show Value.int _ _ = _; rw [← hNI])) (by first | rfl | (show Value.int _ _ = _; rw [← hNI])) (by rw [hz2]; have := HNL.out; omega) (by unfold maxLen; have := HNL.out; omega) ?_; intro v2 w5 zs ho1 hm1 hf1 hv1 hzs; subst hv1; have HR1 := hid (HH.out.pushOwn ho1 hm1 hf1).swap; have hrow := HR1.out.matRow hiL; have hrc : w5.cell? ⟨B, i, none⟩ = some (.slice none 0 0) := (by have h := hrow.1; simpa [rowV] using h); have hrf := hrow.2; have HZ2 := hid hzs; clear hm1 hf1 hzs ho1 hrow)
          have HG : Hid (Held w (w5.setCell ⟨B, i, none⟩ (.slice (some ⟨wr.heap.size, 0, none⟩) N N)) [matT 37 3 B (atK b i wr.heap.size) (i + 1) N (addRow V i fun _ => 0), ownT 3 1 (.slice so L sc) L (nums .i64 s)]) :=
            HR1.out.matGrow hiL _ (by rw [HZ2.out, made_cells _ _ rfl, zeros_row])
          have HVV2 : Hid (∀ x y, x < i → y < N → addRow V i (fun _ => 0) x y = 1152921504606846976) := by
            intro x y hx hy
            rw [addRow, if_neg (by omega)]; exact HVV.out x y hx hy
          generalize addRow V i (fun _ => 0) = V2 at HG HVV2
          generalize atK b i wr.heap.size = b2 at HG
          generalize w5.setCell ⟨B, i, none⟩ (.slice (some ⟨wr.heap.size, 0, none⟩) N N) = w6 at HG ⊢
          clear HR1 HZ2 hrc hrf
          go_loopg [12] (L + 3) (fun k t12 wr => ∃ (j : Nat) (V : Nat → Nat → Nat), j ≤ N ∧ N - j < k ∧ t12 = .int .i64 (j : Int) ∧ Hid (∀ x y, x < i → y < N → V x y = 1152921504606846976) ∧ Hid (∀ y, y < j → V i y = 1152921504606846976) ∧ Hid (Held w wr [matT 37 3 B b2 (i + 1) N V, ownT 3 1 (.slice so L sc) L (nums .i64 s)]))
          case atStart => exact ⟨0, V2, by omega, by have := HNL.out; omega, rfl, HVV2, fun y hy => by omega, HG⟩
          case round =>
            obtain ⟨j, V3, hjN, hk4, rfl, HV3, HV4, HJ⟩ := hrel
            have hj0 : (0 : Int) ≤ (j : Int) := Int.natCast_nonneg _
            by_cases hjL : j < N
            · have hjI : (j : Int) ≤ (L : Int) := by have := HNL.out; omega
              have hjI2 : (j : Int) < (N : Int) := by omega
              have hr1 := (HJ.out.matRow hiL).1
              rw [rowV_lt b2 (i + 1) N i (by omega)] at hr1
              obtain ⟨hr2, hr3⟩ := HJ.out.matCell (i := i) (j := j) (by omega) hjL
              have HS := hid (HJ.out.matSet (i := i) (j := j) (by omega) hjL 1152921504606846976)
              go_wp2
              go_roundg (gk - 1)
              case measure => omega
              case rel => exact ⟨j + 1, put2 V3 i j 1152921504606846976, by omega, by omega, by go_num, fun x y hx hy => by rw [put2, if_neg (by omega)]; exact HV3.out x y hx hy, fun y hy => by
                  rw [put2]
                  by_cases e : y = j
                  · rw [if_pos ⟨rfl, e⟩]
                  · rw [if_neg (by omega)]; exact HV4.out y (by omega), HS⟩
            · have hjI : ¬ (j : Int) ≤ (L : Int) := by have := HNL.out; omega
              go_wp2
              go_roundg (gy - 1)
              case measure => omega
              case rel => exact ⟨i + 1, b2, V3, by omega, by omega, by go_num, fun x y hx hy => by
                  by_cases e : x = i
                  · rw [e]; exact HV4.out y (by omega)
                  · exact HV3.out x y (by omega) hy, HJ⟩
        · obtain rfl : N = i := by omega
          have hiI : ¬ (N : Int) ≤ (L : Int) := by have := HNL.out; omega
          have hr1 := (HH.out.matRow (i := 0) (by omega)).1
          rw [rowV_lt b N N 0 (by omega)] at hr1
          obtain ⟨hr2, hr3⟩ := HH.out.matCell (i := 0) (j := 1) (by omega) (by have := HNL.out; omega)
          have HS := hid (HH.out.matSet (i := 0) (j := 1) (by omega) (by have := HNL.out; omega) 0)
          have h1N : (1 : Int) < (N : Int) := by have := HNL.out; omega
          have h0N : (0 : Int) < (N : Int) := by have := HNL.out; omega
          go_wp2
          have HLS : Hid (L = s.length) := HL
          have HSD : Hid (SoundT s 0 (put2 V 0 1 0)) := start_sound s _ (by simp [put2]) (fun x y hx hy hne => by
            rw [put2, if_neg hne]; exact HVV.out x y (by have := HNL.out; have := HLS.out; omega) (by have := HNL.out; have := HLS.out; omega))
          have HCP : Hid (CompT s 0 (put2 V 0 1 0)) := start_comp s _ (by simp [put2])
          have HTS : Hid (total s ≤ 62914560) := by
            unfold Hid
            have h1 := total_le 1048576 s fun x hx => HF.out x (List.mem_filter.1 (HP2.out.mem_iff.1 hx)).1
            have := HLS.out
            have : s.length * 1048576 ≤ 60 * 1048576 := Nat.mul_le_mul_right _ (by omega)
            omega
          have HS0 : Hid (Held w (wr.setCell ⟨b 0, 1, none⟩ (.int .i64 0)) [matT 37 3 B b N N (put2 V 0 1 0), ownT 3 1 (.slice so L sc) L (nums .i64 s)]) := HS.out
          generalize put2 V 0 1 0 = V0 at HS0 HSD HCP
          generalize wr.setCell ⟨b 0, 1, none⟩ (.int .i64 0) = w7 at HS0 ⊢
          clear HS hr1 hr2 hr3 HVV HH HM0
          go_loopg [10, 13] (m + 2) (fun k t10 t13 wr => ∃ (d e B : Nat) (b : Nat → Nat) (V : Nat → Nat → Nat), 1 ≤ e ∧ e ≤ m + 1 ∧ m + 1 - e < k ∧ t13 = .int .i64 (e : Int) ∧ t10 = .slice (some ⟨B, 0, none⟩) N N ∧ Hid (e = d + 1) ∧ Hid (SoundT s d V) ∧ Hid (CompT s d V) ∧ Hid (Held w wr [matT 37 3 B b N N V, ownT 3 1 (.slice so L sc) L (nums .i64 s)]))
          case atStart => exact ⟨0, 1, B, b, V0, by omega, by omega, by omega, rfl, rfl, rfl, HSD, HCP, HS0⟩
          case round =>
            obtain ⟨d, e, B, b, V, he1, hem, hk5, rfl, rfl, HED, HSD, HCP, HM⟩ := hrel
            obtain ⟨gd, rfl⟩ : ∃ g, g = gk := ⟨gk, rfl⟩
            by_cases hem2 : e ≤ m
            · have heI : (e : Int) ≤ (m : Int) := by omega
              have hLB : (L : Int) < (N : Int) := by have := HNL.out; omega
              go_wp2_with ((with_reducible show wpList _ _ _ (⟨some 109, _, _, _, _, _⟩ :: _) _ _); refine wpList_make_own rfl 68 (.tmp 108) (.tmp 108) rfl 37 i1 (.slice none 0 0) 1 Tryz.underlying68 hi1' hy0 hy1 .i64 N (by first | rfl | (show Value.int _ _ = _; rw [← hNI])) (by first | rfl | (show Value.int _ _ = _; rw [← hNI])) (by rw [hy2]; have := HNL.out; omega) (by unfold maxLen; have := HNL.out; omega) ?_; intro v1 w4 zs ho1 hm1 hf1 hv1 hzs; have HB2 := hid (HM.out.pushOwn ho1 hm1 hf1); have HV1 := hid hv1; have HZS := hid hzs; clear hm1 hf1 hv1 hzs ho1)
              obtain ⟨B2, hB2⟩ : ∃ B2, B2 = wr.heap.size := ⟨_, rfl⟩
              have hVV : v1 = .slice (some ⟨B2, 0, none⟩) N N := by rw [hB2]; exact HV1.out
              have HM0 : Hid (Held w w4 [matT 37 3 B2 (fun _ => 0) 0 N (fun _ _ => 0), matT 37 3 B b N N V, ownT 3 1 (.slice so L sc) L (nums .i64 s)]) := by
                have h := HB2.out
                rw [HZS.out, made_cells _ _ rfl, hVV] at h
                exact h.matStart _ _
              subst hVV
              clear hB2 HB2 HV1 HZS
              try rw [hNI]
              go_loopg [15] (L + 3) (fun k t15 wr => ∃ (i : Nat) (bb : Nat → Nat) (VV : Nat → Nat → Nat), i ≤ N ∧ N - i < k ∧ t15 = .int .i64 (i : Int) ∧ Hid (∀ x y, x < i → y < N → VV x y = 1152921504606846976) ∧ Hid (Held w wr [matT 37 3 B2 bb i N VV, matT 37 3 B b N N V, ownT 3 1 (.slice so L sc) L (nums .i64 s)]))
              case atStart => exact ⟨0, _, _, by omega, by have := HNL.out; omega, rfl, fun x y h _ => by omega, HM0⟩
              case round =>
                obtain ⟨i, bb, VV, hiN, hk3, rfl, HVV, HH⟩ := hrel
                obtain ⟨gy, rfl⟩ : ∃ g, g = gk := ⟨gk, rfl⟩
                have hi0' : (0 : Int) ≤ (i : Int) := Int.natCast_nonneg _
                by_cases hiL : i < N
                · have hiI : (i : Int) ≤ (L : Int) := by have := HNL.out; omega
                  have hiI2 : (i : Int) < (N : Int) := by omega
                  go_wp2_with ((with_reducible show wpList _ _ _ (⟨some 119, _, _, _, _, _⟩ :: _) _ _); refine wpList_make_own rfl 37 (.tmp 118) (.tmp 118) rfl 3 i0 (.int .i64 0) 1 Tryz.underlying37 hi0 hz0 hz1 .i64 N (by first | rfl | (show Value.int _ _ = _; rw [← hNI])) (by first | rfl | (show Value.int _ _ = _; rw [← hNI])) (by rw [hz2]; have := HNL.out; omega) (by unfold maxLen; have := HNL.out; omega) ?_; intro v2 w5 zs ho1 hm1 hf1 hv1 hzs; subst hv1; have HR1 := hid (HH.out.pushOwn ho1 hm1 hf1).swap; have hrow := HR1.out.matRow hiL; have hrc : w5.cell? ⟨B2, i, none⟩ = some (.slice none 0 0) := (by have h := hrow.1; simpa [rowV] using h); have hrf := hrow.2; have HZ2 := hid hzs; clear hm1 hf1 hzs ho1 hrow)
                  have HG : Hid (Held w (w5.setCell ⟨B2, i, none⟩ (.slice (some ⟨wr.heap.size, 0, none⟩) N N)) [matT 37 3 B2 (atK bb i wr.heap.size) (i + 1) N (addRow VV i fun _ => 0), matT 37 3 B b N N V, ownT 3 1 (.slice so L sc) L (nums .i64 s)]) :=
                    HR1.out.matGrow hiL _ (by rw [HZ2.out, made_cells _ _ rfl, zeros_row])
                  have HVV2 : Hid (∀ x y, x < i → y < N → addRow VV i (fun _ => 0) x y = 1152921504606846976) := by
                    intro x y hx hy
                    rw [addRow, if_neg (by omega)]; exact HVV.out x y hx hy
                  generalize addRow VV i (fun _ => 0) = V2 at HG HVV2
                  generalize atK bb i wr.heap.size = b2 at HG
                  generalize w5.setCell ⟨B2, i, none⟩ (.slice (some ⟨wr.heap.size, 0, none⟩) N N) = w6 at HG ⊢
                  clear HR1 HZ2 hrc hrf
                  go_loopg [16] (L + 3) (fun k t16 wr => ∃ (j : Nat) (VV : Nat → Nat → Nat), j ≤ N ∧ N - j < k ∧ t16 = .int .i64 (j : Int) ∧ Hid (∀ x y, x < i → y < N → VV x y = 1152921504606846976) ∧ Hid (∀ y, y < j → VV i y = 1152921504606846976) ∧ Hid (Held w wr [matT 37 3 B2 b2 (i + 1) N VV, matT 37 3 B b N N V, ownT 3 1 (.slice so L sc) L (nums .i64 s)]))
                  case atStart => exact ⟨0, V2, by omega, by have := HNL.out; omega, rfl, HVV2, fun y hy => by omega, HG⟩
                  case round =>
                    obtain ⟨j, V3, hjN, hk4, rfl, HV3, HV4, HJ⟩ := hrel
                    have hj0 : (0 : Int) ≤ (j : Int) := Int.natCast_nonneg _
                    by_cases hjL : j < N
                    · have hjI : (j : Int) ≤ (L : Int) := by have := HNL.out; omega
                      have hjI2 : (j : Int) < (N : Int) := by omega
                      have hr1 := (HJ.out.matRow hiL).1
                      rw [rowV_lt b2 (i + 1) N i (by omega)] at hr1
                      obtain ⟨hr2, hr3⟩ := HJ.out.matCell (i := i) (j := j) (by omega) hjL
                      have HS := hid (HJ.out.matSet (i := i) (j := j) (by omega) hjL 1152921504606846976)
                      go_wp2
                      go_roundg (gk - 1)
                      case measure => omega
                      case rel => exact ⟨j + 1, put2 V3 i j 1152921504606846976, by omega, by omega, by go_num, fun x y hx hy => by rw [put2, if_neg (by omega)]; exact HV3.out x y hx hy, fun y hy => by
                          rw [put2]
                          by_cases e : y = j
                          · rw [if_pos ⟨rfl, e⟩]
                          · rw [if_neg (by omega)]; exact HV4.out y (by omega), HS⟩
                    · have hjI : ¬ (j : Int) ≤ (L : Int) := by have := HNL.out; omega
                      go_wp2
                      go_roundg (gy - 1)
                      case measure => omega
                      case rel => exact ⟨i + 1, b2, V3, by omega, by omega, by go_num, fun x y hx hy => by
                          by_cases e : x = i
                          · rw [e]; exact HV4.out y (by omega)
                          · exact HV3.out x y (by omega) hy, HJ⟩
                · obtain rfl : N = i := by omega
                  have hiI : ¬ (N : Int) ≤ (L : Int) := by have := HNL.out; omega
                  have hLN : L < N := by have := HNL.out; omega
                  have h0N : (0 : Int) < (N : Int) := by have := HNL.out; omega
                  have hr1 := (HH.out.matRow hLN).1
                  rw [rowV_lt bb N N L hLN] at hr1
                  obtain ⟨hr2, hr3⟩ := HH.out.matCell (i := L) (j := 0) hLN (by omega)
                  have hq1 := (HH.out.swap.matRow hLN).1
                  rw [rowV_lt b N N L hLN] at hq1
                  obtain ⟨hq2, _⟩ := HH.out.swap.matCell (i := L) (j := 0) hLN (by omega)
                  have HS := hid (HH.out.matSet (i := L) (j := 0) hLN (by omega) (V L 0))
                  go_wp2
                  go_region
                  all_goals
                    go_wp2
                    have HV2S : Hid (SoundT s (d + 1) (put2 VV L 0 (V L 0))) := by
                      intro x y hx hy
                      unfold put2
                      split
                      · rename_i h
                        rw [h.1, h.2]
                        rcases HSD.out L 0 (by have := HLS.out; omega) (by omega) with h1 | h1
                        · exact .inl h1
                        · rw [HLS.out] at h1 ⊢
                          exact .inr (Has.rest h1)
                      · exact .inl (HVV.out x y (by have := HLS.out; omega) (by have := HLS.out; omega))
                    have HV2R : Hid (put2 VV L 0 (V L 0) L 0 ≤ V L 0) := by unfold Hid; simp [put2]
                    have HS0 : Hid (Held w (wr.setCell ⟨bb L, 0, none⟩ (.int .i64 (V L 0 : Int))).drew [matT 37 3 B2 bb N N (put2 VV L 0 (V L 0)), matT 37 3 B b N N V, ownT 3 1 (.slice so L sc) L (nums .i64 s)]) := HS.out.drew
                    generalize put2 VV L 0 (V L 0) = V20 at HV2S HV2R HS0
                    generalize (wr.setCell ⟨bb L, 0, none⟩ (.int .i64 (V L 0 : Int))).drew = w8 at HS0 ⊢
                    clear HS hr1 hr2 hr3 hq1 hq2 HVV HH HM0
                    go_loopg [17] (L + 3) (fun k t17 wr => ∃ (i : Nat) (V2 : Nat → Nat → Nat), i ≤ L ∧ L - i < k ∧ t17 = .int .i64 (i : Int) ∧ Hid (SoundT s (d + 1) V2) ∧ Hid (DoneT s d V V2 i 0 0) ∧ Hid (V2 L 0 ≤ V L 0) ∧ Hid (Held w wr [matT 37 3 B2 bb N N V2, matT 37 3 B b N N V, ownT 3 1 (.slice so L sc) L (nums .i64 s)]))
                    case atStart => exact ⟨0, V20, by omega, by omega, rfl, HV2S, fun i' o' t' h => by omega, HV2R, HS0⟩
                    case round =>
                      obtain ⟨i, V2, hiL, hk6, rfl, HSN, HDN, HRR, HH⟩ := hrel
                      obtain ⟨gi, rfl⟩ : ∃ g, g = gk := ⟨gk, rfl⟩
                      have hi0' : (0 : Int) ≤ (i : Int) := Int.natCast_nonneg _
                      by_cases hiL2 : i < L
                      · have hiI : (i : Int) < (L : Int) := by omega
                        have hiN : i < N := by omega
                        have hiNI : (i : Int) < (N : Int) := by omega
                        have HDN1 : Hid (DoneT s d V V2 i 1 0) := HDN.out.first
                        go_wp2
                        go_loopg [18] (L + 3) (fun k t18 wr => ∃ (o : Nat) (V2 : Nat → Nat → Nat), 1 ≤ o ∧ o ≤ N ∧ N - o < k ∧ t18 = .int .i64 (o : Int) ∧ Hid (SoundT s (d + 1) V2) ∧ Hid (DoneT s d V V2 i o 0) ∧ Hid (V2 L 0 ≤ V L 0) ∧ Hid (Held w wr [matT 37 3 B2 bb N N V2, matT 37 3 B b N N V, ownT 3 1 (.slice so L sc) L (nums .i64 s)]))
                        case atStart => exact ⟨1, V2, by omega, by omega, by have := HNL.out; omega, rfl, HSN, HDN1, HRR, HH⟩
                        case round =>
                          clear HDN HDN1 HSN HRR HH
                          obtain ⟨o, V2, ho1, hoN, hk7, rfl, HSN, HDN, HRR, HH⟩ := hrel
                          obtain ⟨go, rfl⟩ : ∃ g, g = gk := ⟨gk, rfl⟩
                          have ho0 : (0 : Int) ≤ (o : Int) := Int.natCast_nonneg _
                          by_cases hoL : o ≤ L
                          · have hoI : (o : Int) ≤ (L : Int) := by omega
                            have hoN2 : o < N := by have := HNL.out; omega
                            have hoNI : (o : Int) < (N : Int) := by omega
                            have hb1 := (HH.out.swap.matRow hiN).1
                            rw [rowV_lt b N N i hiN] at hb1
                            obtain ⟨hb2, _⟩ := HH.out.swap.matCell (i := i) (j := o) hiN hoN2
                            obtain ⟨vo, hvo⟩ : ∃ vo, vo = V i o := ⟨_, rfl⟩
                            rw [← hvo] at hb2
                            have HVO := hid hvo
                            clear hvo
                            by_cases hfar : vo = 1152921504606846976
                            · have hfI : ((vo : Int) == 1152921504606846976) = true := by simp; omega
                              have hfI2 : (vo : Int) = 1152921504606846976 := by omega
                              have HDN2 : Hid (DoneT s d V V2 i (o + 1) 0) := HDN.out.skip (.inl (by rw [← HVO.out]; exact hfar))
                              clear hfar
                              go_wp2
                              go_roundg (go - 1)
                              case measure => omega
                              case rel => exact ⟨o + 1, V2, by omega, by omega, by omega, by go_num, HSN, HDN2, HRR, HH⟩
                            · have hfI : ((vo : Int) == 1152921504606846976) = false := by simp; omega
                              have hfI2 : ¬ (vo : Int) = 1152921504606846976 := by omega
                              have HSI : Hid (Has s d i o (V i o)) := (HSD.out i o (by have := HLS.out; omega) (by have := HLS.out; omega)).resolve_left (by rw [← HVO.out]; exact hfar)
                              have hvob : vo ≤ 943718400 := by rw [HVO.out]; exact HSI.out.small (by have := HED.out; omega) HTS.out
                              obtain ⟨z, hz⟩ : ∃ z, z = 2 * o := ⟨_, rfl⟩
                              have hzI : (2 : Int) * (o : Int) = (z : Int) := by omega
                              have HZ := hid hz
                              obtain ⟨g3, off3, rfl, _⟩ := HH.out.third.own.rd.spot (by omega)
                              clear hz hfar
                              go_wp2
                              go_loopg [20, 21] (L + 3) (fun k t20 t21 wr => ∃ (t c : Nat) (V2 : Nat → Nat → Nat), i + t ≤ L + 1 ∧ L + 1 - (i + t) < k ∧ t ≤ z + 1 ∧ t21 = .int .i64 (t : Int) ∧ t20 = .int .i64 (c : Int) ∧ Hid (c = V i o + (d + 1) * total ((s.drop i).take (t - 1))) ∧ c ≤ 943718400 ∧ Hid (SoundT s (d + 1) V2) ∧ Hid (DoneT s d V V2 i o t) ∧ Hid (V2 L 0 ≤ V L 0) ∧ Hid (Held w wr [matT 37 3 B2 bb N N V2, matT 37 3 B b N N V, ownT 3 1 (.slice (some ⟨g3, off3, none⟩) L sc) L (nums .i64 s)]))
                              case atStart => exact ⟨0, vo, V2, by omega, by omega, by omega, rfl, rfl, by unfold Hid; rw [HVO.out]; simp [total], hvob, HSN, HDN, HRR, HH⟩
                              case round =>
                                clear HDN HSN HRR HH
                                obtain ⟨t, c, V2, hit, hk8, htz, rfl, rfl, HC1, hcb, HSN, HDN, HRR, HH⟩ := hrel
                                have ht0 : (0 : Int) ≤ (t : Int) := Int.natCast_nonneg _
                                obtain ⟨p, hp⟩ : ∃ p, p = i + t := ⟨_, rfl⟩
                                have hpI : (i : Int) + (t : Int) = (p : Int) := by omega
                                have HPP := hid hp
                                by_cases hcond : p ≤ L ∧ t ≤ z
                                · have hc1 : decide ((p : Int) ≤ (L : Int)) = true := by simp; omega
                                  have hc1' : decide (p ≤ L) = true := by simp; omega
                                  have hc2 : decide ((t : Int) ≤ (z : Int)) = true := by simp; omega
                                  have hc2' : decide (t ≤ z) = true := by simp; omega
                                  have hpLI : (p : Int) ≤ (L : Int) := by omega
                                  have htzI : (t : Int) ≤ (z : Int) := by omega
                                  have hpN : p < N := by have := HNL.out; omega
                                  have hpNI : (p : Int) < (N : Int) := by omega
                                  have hp0 : (0 : Int) ≤ (p : Int) := Int.natCast_nonneg _
                                  have ht2 : t ≤ 2 * o := by have := HZ.out; omega
                                  obtain ⟨lf, hlf⟩ : ∃ lf, lf = 2 * o - t := ⟨_, rfl⟩
                                  have hlfI0 : (z : Int) - (t : Int) = (lf : Int) := by have := HZ.out; omega
                                  have HLF := hid hlf
                                  clear hlf
                                  have hpL : p ≤ L := hcond.1
                                  clear hcond
                                  by_cases htp : t = 0
                                  · have htI : ¬ (0 : Int) < (t : Int) := by omega
                                    obtain ⟨c2, hc2e⟩ : ∃ c2, c2 = c := ⟨_, rfl⟩
                                    have hc2b : c2 ≤ 943718400 := by omega
                                    have HT0 := hid htp
                                    subst hc2e
                                    clear hp htp
                                    have HCC : Hid (c2 = V i o + (d + 1) * total ((s.drop i).take t)) := by unfold Hid; rw [HC1.out, HT0.out]
                                    by_cases hlf : L < lf
                                    · have hlfI : (L : Int) < (lf : Int) := by omega
                                      have HDN2 : Hid (DoneT s d V V2 i o (t + 1)) := HDN.out.pass (.inl (by have := HLS.out; have := HLF.out; omega))
                                      skip
                                      go_wp2
                                      go_roundg (gk - 1)
                                      case measure => omega
                                      case rel => exact ⟨t + 1, c2, V2, by omega, by omega, by omega, by go_num, rfl, by unfold Hid; rw [HCC.out]; rfl, hc2b, HSN, HDN2, HRR, HH⟩
                                    · have hlfI : ¬ (L : Int) < (lf : Int) := by omega
                                      have hlfN : lf < N := by have := HNL.out; omega
                                      have hlfN2 : (lf : Int) < (N : Int) := by omega
                                      have hlf0 : (0 : Int) ≤ (lf : Int) := Int.natCast_nonneg _
                                      have hn1 := (HH.out.matRow (i := p) hpN).1
                                      rw [rowV_lt bb N N p hpN] at hn1
                                      obtain ⟨hn2, hn3⟩ := HH.out.matCell (i := p) (j := lf) hpN hlfN
                                      have HSTEP : Hid (Has s (d + 1) p lf c2) := by
                                        have h := Has.step HSI.out (by have := HLS.out; omega) ho1 (by have := HLS.out; omega) ht2 (by have := HLS.out; have := HPP.out; omega) (by have := HLS.out; have := HLF.out; omega)
                                        rw [← HPP.out, ← HLF.out, ← HCC.out] at h; exact h
                                      obtain ⟨old, hold⟩ : ∃ old, old = V2 p lf := ⟨_, rfl⟩
                                      rw [← hold] at hn2
                                      by_cases hlt : c2 < old
                                      · have hltI : (c2 : Int) < (old : Int) := by omega
                                        have HS2 := hid (HH.out.matSet (i := p) (j := lf) hpN hlfN c2)
                                        have HLESS : Hid (∀ x y, put2 V2 p lf c2 x y ≤ V2 x y) := by
                                          intro x y
                                          unfold put2
                                          split
                                          · rename_i h; rw [h.1, h.2]; omega
                                          · exact Nat.le_refl _
                                        have HDN2 : Hid (DoneT s d V (put2 V2 p lf c2) i o (t + 1)) := (HDN.out.less HLESS.out).pass (.inr (by rw [← HPP.out, ← HLF.out, ← HCC.out]; simp [put2]))
                                        have HSN2 : Hid (SoundT s (d + 1) (put2 V2 p lf c2)) := by
                                          intro x y hx hy
                                          unfold put2
                                          split
                                          · rename_i h; rw [h.1, h.2]; exact .inr HSTEP.out
                                          · exact HSN.out x y hx hy
                                        have HRR2 : Hid (put2 V2 p lf c2 L 0 ≤ V L 0) := Nat.le_trans (HLESS.out L 0) HRR.out
                                        have HOLD := hid hold
                                        clear hold
                                        skip
                                        go_wp2
                                        go_roundg (gk - 1)
                                        case measure => omega
                                        case rel => exact ⟨t + 1, c2, put2 V2 p lf c2, by omega, by omega, by omega, by go_num, rfl, by unfold Hid; rw [HCC.out]; rfl, hc2b, HSN2, HDN2, HRR2, by unfold Hid; have h := HS2.out; exact h⟩
                                      · have hltI : ¬ (c2 : Int) < (old : Int) := by omega
                                        have HDN2 : Hid (DoneT s d V V2 i o (t + 1)) := HDN.out.pass (.inr (by rw [← HPP.out, ← HLF.out, ← HCC.out, ← hold]; omega))
                                        have HOLD := hid hold
                                        clear hold
                                        skip
                                        go_wp2
                                        go_roundg (gk - 1)
                                        case measure => omega
                                        case rel => exact ⟨t + 1, c2, V2, by omega, by omega, by omega, by go_num, rfl, by unfold Hid; rw [HCC.out]; rfl, hc2b, HSN, HDN2, HRR, HH⟩
                                  · have htI : (0 : Int) < (t : Int) := by omega
                                    obtain ⟨q, hq⟩ : ∃ q, p = q + 1 := ⟨p - 1, by omega⟩
                                    have hqI : (p : Int) - 1 = (q : Int) := by omega
                                    have hq0 : (0 : Int) ≤ (q : Int) := Int.natCast_nonneg _
                                    have hqL : (q : Int) < (L : Int) := by omega
                                    obtain ⟨x, hx⟩ : ∃ x, s[q]? = some x := ⟨s[q]'(by have := HLS.out; omega), List.getElem?_eq_getElem _⟩
                                    have hxb : x ≤ 1048576 := HF.out x (List.mem_filter.1 (HP2.out.mem_iff.1 (List.mem_of_getElem? hx))).1
                                    have hxc := HH.out.third.own.rd.at (show (nums .i64 s)[q]? = some (.int .i64 (x : Int)) by rw [nums_get, hx]; rfl)
                                    obtain ⟨y, hy⟩ : ∃ y, y = e * x := ⟨_, rfl⟩
                                    have hyI : (e : Int) * (x : Int) = (y : Int) := by rw [hy]; simp
                                    have hyb : y ≤ 15728640 := by rw [hy]; exact Nat.mul_le_mul (show e ≤ 15 by omega) hxb
                                    obtain ⟨c2, hc2e⟩ : ∃ c2, c2 = c + y := ⟨_, rfl⟩
                                    have hc2I : (c : Int) + (y : Int) = (c2 : Int) := by omega
                                    have HCCC : Hid (c2 = V i o + (d + 1) * total ((s.drop i).take t)) := by
                                      unfold Hid
                                      obtain ⟨u, rfl⟩ : ∃ u, t = u + 1 := ⟨t - 1, by omega⟩
                                      rw [total_take_succ s i u x (by rw [show i + u = q by omega]; exact hx), Nat.mul_add, hc2e, hy, HC1.out, HED.out, Nat.add_sub_cancel]; omega
                                    have hc2b : c2 ≤ 943718400 := by
                                      rw [HCCC.out]
                                      have h1 := HSI.out.bound
                                      have e1 : s.take (i + t) = s.take i ++ (s.drop i).take t := List.take_add
                                      have h2 := total_take_le s (i + t)
                                      rw [e1, total_append] at h2
                                      have h3 := HTS.out
                                      have h4 : (d + 1) * (total (s.take i) + total ((s.drop i).take t)) ≤ 15 * 62914560 := Nat.mul_le_mul (by have := HED.out; omega) (by omega)
                                      rw [Nat.mul_add, Nat.add_mul d 1 (total (s.take i)), Nat.one_mul] at h4
                                      omega
                                    have HXX := hid hx
                                    clear hp hq hx hy hc2e
                                    have HCC : Hid (c2 = V i o + (d + 1) * total ((s.drop i).take t)) := HCCC
                                    by_cases hlf : L < lf
                                    · have hlfI : (L : Int) < (lf : Int) := by omega
                                      have HDN2 : Hid (DoneT s d V V2 i o (t + 1)) := HDN.out.pass (.inl (by have := HLS.out; have := HLF.out; omega))
                                      skip
                                      go_wp2
                                      go_roundg (gk - 1)
                                      case measure => omega
                                      case rel => exact ⟨t + 1, c2, V2, by omega, by omega, by omega, by go_num, by go_num, by unfold Hid; rw [HCC.out]; rfl, hc2b, HSN, HDN2, HRR, HH⟩
                                    · have hlfI : ¬ (L : Int) < (lf : Int) := by omega
                                      have hlfN : lf < N := by have := HNL.out; omega
                                      have hlfN2 : (lf : Int) < (N : Int) := by omega
                                      have hlf0 : (0 : Int) ≤ (lf : Int) := Int.natCast_nonneg _
                                      have hn1 := (HH.out.matRow (i := p) hpN).1
                                      rw [rowV_lt bb N N p hpN] at hn1
                                      obtain ⟨hn2, hn3⟩ := HH.out.matCell (i := p) (j := lf) hpN hlfN
                                      have HSTEP : Hid (Has s (d + 1) p lf c2) := by
                                        have h := Has.step HSI.out (by have := HLS.out; omega) ho1 (by have := HLS.out; omega) ht2 (by have := HLS.out; have := HPP.out; omega) (by have := HLS.out; have := HLF.out; omega)
                                        rw [← HPP.out, ← HLF.out, ← HCC.out] at h; exact h
                                      obtain ⟨old, hold⟩ : ∃ old, old = V2 p lf := ⟨_, rfl⟩
                                      rw [← hold] at hn2
                                      by_cases hlt : c2 < old
                                      · have hltI : (c2 : Int) < (old : Int) := by omega
                                        have HS2 := hid (HH.out.matSet (i := p) (j := lf) hpN hlfN c2)
                                        have HLESS : Hid (∀ x y, put2 V2 p lf c2 x y ≤ V2 x y) := by
                                          intro x y
                                          unfold put2
                                          split
                                          · rename_i h; rw [h.1, h.2]; omega
                                          · exact Nat.le_refl _
                                        have HDN2 : Hid (DoneT s d V (put2 V2 p lf c2) i o (t + 1)) := (HDN.out.less HLESS.out).pass (.inr (by rw [← HPP.out, ← HLF.out, ← HCC.out]; simp [put2]))
                                        have HSN2 : Hid (SoundT s (d + 1) (put2 V2 p lf c2)) := by
                                          intro x y hx hy
                                          unfold put2
                                          split
                                          · rename_i h; rw [h.1, h.2]; exact .inr HSTEP.out
                                          · exact HSN.out x y hx hy
                                        have HRR2 : Hid (put2 V2 p lf c2 L 0 ≤ V L 0) := Nat.le_trans (HLESS.out L 0) HRR.out
                                        have HOLD := hid hold
                                        clear hold
                                        skip
                                        go_wp2
                                        go_roundg (gk - 1)
                                        case measure => omega
                                        case rel => exact ⟨t + 1, c2, put2 V2 p lf c2, by omega, by omega, by omega, by go_num, by go_num, by unfold Hid; rw [HCC.out]; rfl, hc2b, HSN2, HDN2, HRR2, by unfold Hid; have h := HS2.out; exact h⟩
                                      · have hltI : ¬ (c2 : Int) < (old : Int) := by omega
                                        have HDN2 : Hid (DoneT s d V V2 i o (t + 1)) := HDN.out.pass (.inr (by rw [← HPP.out, ← HLF.out, ← HCC.out, ← hold]; omega))
                                        have HOLD := hid hold
                                        clear hold
                                        skip
                                        go_wp2
                                        go_roundg (gk - 1)
                                        case measure => omega
                                        case rel => exact ⟨t + 1, c2, V2, by omega, by omega, by omega, by go_num, by go_num, by unfold Hid; rw [HCC.out]; rfl, hc2b, HSN, HDN2, HRR, HH⟩
                                · have hex : decide ((p : Int) ≤ (L : Int)) = false ∨ decide ((p : Int) ≤ (L : Int)) = true ∧ decide ((t : Int) ≤ (z : Int)) = false := by simp; omega
                                  have HDN2 : Hid (DoneT s d V V2 i (o + 1) 0) := HDN.out.skip (.inr (by have := HLS.out; have := HZ.out; omega))
                                  have hcond' : ¬ p ≤ L ∨ p ≤ L ∧ ¬ t ≤ z := by omega
                                  clear hex hp hcond
                                  rcases hcond' with h1 | ⟨h1, h2⟩
                                  · have hc1 : decide ((p : Int) ≤ (L : Int)) = false := by simp; omega
                                    have hc1' : decide (p ≤ L) = false := by simp; omega
                                    go_wp2
                                    go_roundg (go - 1)
                                    case measure => omega
                                    case rel => exact ⟨o + 1, V2, by omega, by omega, by omega, by go_num, HSN, HDN2, HRR, HH⟩
                                  · have hc1 : decide ((p : Int) ≤ (L : Int)) = true := by simp; omega
                                    have hc1' : decide (p ≤ L) = true := by simp; omega
                                    have hc2 : decide ((t : Int) ≤ (z : Int)) = false := by simp; omega
                                    have hc2' : decide (t ≤ z) = false := by simp; omega
                                    have h2I : ¬ (t : Int) ≤ (z : Int) := by omega
                                    go_wp2
                                    all_goals first
                                      | (exfalso; omega)
                                      | (go_roundg (go - 1)
                                         case measure => omega
                                         case rel => exact ⟨o + 1, V2, by omega, by omega, by omega, by go_num, HSN, HDN2, HRR, HH⟩)
                          · have hoI : ¬ (o : Int) ≤ (L : Int) := by omega
                            have HDN2 : Hid (DoneT s d V V2 (i + 1) 0 0) := by
                              have := HLS.out
                              refine DoneT.row (o := o) ?_ (by omega)
                              exact HDN.out
                            go_wp2
                            go_roundg (gi - 1)
                            case measure => omega
                            case rel => exact ⟨i + 1, V2, by omega, by omega, by go_num, HSN, HDN2, HRR, HH⟩
                      · obtain rfl : L = i := by omega
                        have hiI : ¬ (L : Int) < (L : Int) := by omega
                        have HCP2 : Hid (CompT s (d + 1) V2) := by
                          have h1 := HDN.out
                          have h2 := HRR.out
                          rw [HLS.out] at h1 h2
                          exact next_comp HCP.out (by have := HED.out; omega) HTS.out h1 h2
                        have HM2 := hid HH.out.swap.drop
                        go_wp2
                        go_roundg (gd - 1)
                        case measure => omega
                        case rel => exact ⟨d + 1, e + 1, B2, bb, V2, by omega, by omega, by omega, by go_num, rfl, by unfold Hid; rw [HED.out], HSN, HCP2, HM2⟩
            · have heI : ¬ (e : Int) ≤ (m : Int) := by omega
              have hLN : L < N := by have := HNL.out; omega
              have hLNI : (L : Int) < (N : Int) := by omega
              have hL0 : (0 : Int) ≤ (L : Int) := Int.natCast_nonneg _
              have h0NI : (0 : Int) < (N : Int) := by omega
              have hr1 := (HM.out.matRow hLN).1
              rw [rowV_lt b N N L hLN] at hr1
              obtain ⟨hr2, _⟩ := HM.out.matCell (i := L) (j := 0) hLN (by omega)
              have HDM : Hid (d = m) := by unfold Hid; have := HED.out; omega
              have HRES : Hid ((V L 0 = 1152921504606846976 ∨ Has s m s.length 0 (V L 0)) ∧ ∀ c, Has s m s.length 0 c → V L 0 ≤ c) := by
                have h1 := HSD.out L 0 (by have := HLS.out; omega) (by omega)
                have h2 := HCP.out
                rw [HDM.out] at h1 h2
                refine ⟨by rw [← HLS.out]; exact h1, fun c hc => ?_⟩
                rw [← HLS.out] at hc
                exact h2 _ _ _ hc
              go_wp2
              go_ret
              exact ⟨⟨s, V L 0, rfl, HD.out, HP2.out, HRES.out⟩, HM.out.mod⟩
end Go.Proofs.YthibpnkdhbkakaaGreatDoor
