/-
  The law BlockCodes over the landed package.
-/
import Derived.Test.YthibpnkdhbkakaaGreatDoorZrBlkLeast
import Derived.Test.YthibpnkdhbkakaaGreatDoorZq34
import Derived.Test.YthibpnkdhbkakaaGreatDoorZrRefLeast
import Derived.Test.YthibpnkdhbkakaaGreatDoorZq17
namespace Go.Proofs.YthibpnkdhbkakaaGreatDoor
set_option maxRecDepth 5000
open Go.RowKit

theorem infoIntC : (Tryz.prog.info? 3).map (fun i => (i.zero, i.size, i.bytes)) = some (some (Value.int .i64 0), 1, 8) := by kernel_rfl
theorem nums_zero (n : Nat) : List.replicate n (Value.int .i64 0) = nums .i64 (List.replicate n 0) := by simp [nums]
section
variable {w0 w : World} {Rs : List Thing}
theorem h_rchk (h : Held w0 w Rs) {v : Value} {n : Nat} (most : Int) (l : List Int) (hv : Rd w 1 v n (ints l)) (hn : n = l.length) (hl : n < 1000000) :
    Calls Tryz.prog 23 #[v, .int .i64 most] w fun e w' => e = .returned (.int .i64 ((checkOf l most : Nat) : Int)) ∧ Held w0 w' Rs := by
  subst hn
  exact (refcheck_any v l most w hv hl).mono fun _ _ ⟨h1, h2⟩ => ⟨h1, h2 ▸ h⟩
/-- one more of a symbol, in an own slice of numbers -/
theorem Held.inc {A n : Nat} {f : List Nat} (h : Held w0 w (ownT 3 1 (.slice (some ⟨A, 0, none⟩) n n) n (nums .i64 f) :: Rs)) {k x : Nat} (hk : k < n) (hx : f[k]? = some x) :
    w.cell? ⟨A, k, none⟩ = some (.int .i64 (x : Int)) ∧ w.frozen? ⟨A, k, none⟩ = false ∧ Held w0 (w.setCell ⟨A, k, none⟩ (.int .i64 ((x : Int) + 1))) (ownT 3 1 (.slice (some ⟨A, 0, none⟩) n n) n (nums .i64 (f.set k (x + 1))) :: Rs) := by
  obtain ⟨g, off, hg, hcell, hfr, hput⟩ := h.own.site (by omega)
  simp only [Option.some.injEq, Addr.mk.injEq, and_true] at hg
  obtain ⟨rfl, rfl⟩ := hg
  have h1 := hcell k (.int .i64 (x : Int)) (by simp [nums, hx])
  have h2 := hfr k
  have h3 := h.putOwn (hput k (.int .i64 ((x + 1 : Nat) : Int)) hk) (Mod.set w A (0 + k) _)
  rw [nums_set] at h3
  rw [Nat.zero_add] at h1 h2 h3
  exact ⟨h1, h2, h3⟩
end
set_option maxRecDepth 100000 in
set_option maxHeartbeats 6400000 in
theorem blockCodes_at (v : Value) (l : List Tok) (w : World) (HLV : Ordr w) (hg : shToks.good w [v] l) :
    Calls Tryz.prog 5 #[v] w fun e w' => e = .returned (.bool true) ∧ Below w.heap.size w w' := by
  obtain ⟨hok, hv⟩ := toks_of hg
  obtain ⟨i0, hi, hz0, hz1, hz2⟩ := info_parts infoIntC
  obtain ⟨n, hn⟩ : ∃ n, n = l.length := ⟨_, rfl⟩
  rw [← hn] at hv
  obtain ⟨ao, cap, rfl, _, _⟩ := hv.form
  have HV := hid hv
  have HN := hid hn
  have HK := hid hok
  have HO := hid HLV
  have hn0 : (0 : Int) ≤ (n : Int) := Int.natCast_nonneg _
  have HA := hid (fun (w' : World) (Rs : List Thing) (h : Held w w' Rs) => h_answers10 blockOK HLV h)
  have HS := hid (h_sound10 (Held.start w) (.slice ao n cap) n l hv hok)
  clear hv hn hok hg HLV
  by_cases h1 : 400 < n
  · have h1I : (400 : Int) < (n : Int) := by omega
    go_enter Tryz.func5, Tryz.ntmps5
    go_wp2_with fail
    refine (HA.out _ _ (Held.start w)).mono ?_
    rintro e w1 ⟨rfl, hh⟩
    have H1 := hid hh.mod.toBelow
    clear hh
    go_wp2
    go_ret
    exact ⟨rfl, H1.out⟩
  · have h1I : ¬ (400 : Int) < (n : Int) := by omega
    go_enter Tryz.func5, Tryz.ntmps5
    go_wp2_with fail
    refine (HS.out (by omega)).mono ?_
    rintro e w1 ⟨rfl, hh⟩
    have H1 := hid hh
    clear hh HS
    by_cases hs : (expT [] l).1 = 0
    · rw [decide_eq_true hs]
      have HSD := hid (expT_sound l [] hs)
      clear hs
      go_wp2_with first
        | ((with_reducible show wpList _ _ _ (⟨some 26, _, _, _, _, _⟩ :: _) _ _); refine wpList_make_own rfl 37 (.const (.int .i64 286)) (.const (.int .i64 286)) rfl 3 i0 (.int .i64 0) 1 Tryz.underlying37 hi hz0 hz1 .i64 286 rfl rfl (by rw [hz2]; omega) (by unfold maxLen; omega) ?_; intro v1 w2 zs ho1 hm1 hf1 hv1 hzs; rw [made_cellsB _ _ rfl, nums_zero] at hzs; subst hzs; subst hv1; have H2 := hid (H1.out.pushOwn ho1 hm1 hf1); clear hm1 hf1 ho1)
        | ((with_reducible show wpList _ _ _ (⟨some 27, _, _, _, _, _⟩ :: _) _ _); refine wpList_make_own rfl 37 (.const (.int .i64 30)) (.const (.int .i64 30)) rfl 3 i0 (.int .i64 0) 1 Tryz.underlying37 hi hz0 hz1 .i64 30 rfl rfl (by rw [hz2]; omega) (by unfold maxLen; omega) ?_; intro v2 w3 zs2 ho2 hm2 hf2 hv2 hzs2; rw [made_cellsB _ _ rfl, nums_zero, dstF_start] at hzs2; subst hzs2; subst hv2; have h3 := (H2.out.pushOwn ho2 hm2 hf2).swap; obtain ⟨k256, f256, h4⟩ := h3.inc (k := 256) (x := 0) (by decide) (by rw [List.getElem?_replicate, if_pos (by decide)]); have H4 := hid h4; clear hm2 hf2 ho2 h3 h4)
        | fail
      rw [litF_start] at H4
      go_loopg [5, 6, 7] 402 (fun k t5 t6 t7 wr => ∃ (i x y : Nat), i ≤ n ∧ n - i < k ∧ t7 = .int .i64 (i : Int) ∧ t5 = .int .i64 (x : Int) ∧ t6 = .int .i64 (y : Int) ∧ x ≤ i + 1 ∧ y ≤ i ∧ Hid (x = codedN (litF (l.take i)) ∧ y = codedN (dstF (l.take i))) ∧
        Hid (Held w wr [ownT 3 1 (.slice (some ⟨w1.heap.size, 0, none⟩) 286 286) 286 (nums .i64 (litF (l.take i))), ownT 3 1 (.slice (some ⟨w2.heap.size, 0, none⟩) 30 30) 30 (nums .i64 (dstF (l.take i)))]))
      case atStart => exact ⟨0, 1, 0, by omega, by omega, rfl, rfl, rfl, by omega, by omega, hid ⟨litF_one.symm, dstF_none.symm⟩, H4⟩
      case round =>
        obtain ⟨i, x, y, hi, hk, rfl, rfl, rfl, hx1, hy1, HXY, HH⟩ := hrel
        have hi0 : (0 : Int) ≤ (i : Int) := Int.natCast_nonneg _
        by_cases hin : i < n
        · have hiI : (i : Int) < (n : Int) := by omega
          obtain ⟨⟨ta, tl, td⟩, ht⟩ : ∃ t, l[i]? = some t := ⟨l[i]'(by have := HN.out; omega), List.getElem?_eq_getElem _⟩
          obtain ⟨g, off, rfl, c0, c1, c2⟩ := (HH.out.old HV.out).tok ht
          have htm := List.mem_of_getElem? ht
          have hs1 := HSD.out _ htm
          have hb1 := HK.out _ htm
          have htk : l.take (i + 1) = l.take i ++ [(ta, tl, td)] := by rw [List.take_add_one, ht]; rfl
          have hsy := symOf_lt hs1 hb1
          obtain ⟨K, hK⟩ : ∃ K, K = l.take i := ⟨_, rfl⟩
          have hKl : K.length ≤ 400 := by rw [hK]; simp; omega
          rw [← hK] at HH HXY htk
          obtain ⟨a, ha⟩ : ∃ a, a = litE K (symOf (ta, tl, td)) := ⟨_, rfl⟩
          have hal : a ≤ 401 := by rw [ha]; have := litE_le K (symOf (ta, tl, td)); omega
          have hga := litF_get K hsy
          have hput := litF_put K (ta, tl, td)
          have hcod := codedN_put a (litF K) (symOf (ta, tl, td)) (by rw [ha]; exact hga)
          rw [← ha] at hga hput
          rw [hput] at hcod
          by_cases hl0 : tl = 0
          · subst hl0
            have hsame := dstF_same K (ta, 0, td) rfl
            obtain ⟨z, rfl⟩ := Int.eq_ofNat_of_zero_le hb1.1
            have hz : z ≤ 255 := by have : (z : Int) ≤ 255 := hb1.2; omega
            have hsz : symOf ((z : Int), 0, td) = z := by unfold symOf; rw [if_pos rfl]; rfl
            rw [hsz] at hga hput
            rw [← htk] at hput hcod hsame
            obtain ⟨k1, f1, h5⟩ := HH.out.inc (k := z) (x := a) (by omega) hga
            rw [hput, ← hsame] at h5
            have H5 := hid h5
            have hzI : (z : Int) < 286 := by omega
            have hz0' : (0 : Int) ≤ (z : Int) := Int.natCast_nonneg _
            have HC := hid (And.intro hcod hsame)
            clear hga hput hcod hsame h5 ht htm hs1 hb1 htk hsy hK ha hsz
            by_cases ha0 : a = 0
            · have hb2 : ((a : Int) == 0) = true := by simp [ha0]
              have HC2 : Hid (x + 1 = codedN (litF (l.take (i + 1))) ∧ y = codedN (dstF (l.take (i + 1)))) := hid ⟨by rw [HC.out.1, if_pos ha0, ← HXY.out.1], by rw [HC.out.2]; exact HXY.out.2⟩
              rw [ha0, show ((0 : Nat) : Int) + 1 = 1 from rfl] at H5
              go_wp2
              go_roundg (gk - 1)
              case measure => omega
              case rel => exact ⟨i + 1, x + 1, y, by omega, by omega, by go_num, by go_num, rfl, by omega, by omega, HC2, H5⟩
            · have hb2 : ((a : Int) == 0) = false := by simp [ha0]
              have HC2 : Hid (x = codedN (litF (l.take (i + 1))) ∧ y = codedN (dstF (l.take (i + 1)))) := hid ⟨by rw [HC.out.1, if_neg ha0, ← HXY.out.1, Nat.add_zero], by rw [HC.out.2]; exact HXY.out.2⟩
              go_wp2
              go_roundg (gk - 1)
              case measure => omega
              case rel => exact ⟨i + 1, x, y, by omega, by omega, by go_num, rfl, rfl, by omega, by omega, HC2, H5⟩
          · obtain ⟨hx0, ⟨hn1, hn2⟩, hd1, hd2⟩ := sound_match hs1 hl0
            have hx0 : ta = 0 := hx0
            have hn1 : 3 ≤ tl := hn1
            have hn2 : tl ≤ 258 := hn2
            have hd1 : 1 ≤ td := hd1
            have hd2 : td ≤ 32768 := hd2
            subst hx0
            have HLC := lenC_is hs1 hl0
            have HDC := dstC_is hs1 hl0
            have hsz : symOf (0, tl, td) = 257 + lenC (0, tl, td) := by unfold symOf; rw [if_neg hl0]
            obtain ⟨b, hb⟩ : ∃ b, b = dstN K (dstC (0, tl, td)) := ⟨_, rfl⟩
            have hbl : b ≤ 400 := by rw [hb]; exact Nat.le_trans (dstN_le _ _) hKl
            have hgb := dstF_get K HDC.1
            have hput2 := dstF_put K (0, tl, td) hl0
            have hcod2 := codedN_put b (dstF K) (dstC (0, tl, td)) (by rw [hb]; exact hgb)
            rw [← hb] at hgb hput2
            rw [hput2] at hcod2
            rw [hsz] at hga hput
            rw [← htk] at hput hcod hput2 hcod2
            generalize lenC (0, tl, td) = c at HLC hga hput hsz
            generalize dstC (0, tl, td) = q at HDC hgb hput2 hb
            obtain ⟨tl, rfl⟩ := Int.eq_ofNat_of_zero_le (show 0 ≤ tl by omega)
            obtain ⟨td, rfl⟩ := Int.eq_ofNat_of_zero_le (show 0 ≤ td by omega)
            simp only [Int.toNat_natCast] at HLC HDC
            have hc29 := HLC.1
            have hq30 := HDC.1
            have hL := hid (refLenCode_any ((tl : Nat) : Int))
            have hD := hid (refDistCode_any ((td : Nat) : Int))
            obtain ⟨s, hsd⟩ : ∃ s, s = 257 + c := ⟨_, rfl⟩
            have hL1 : Hid (∀ v, IsLenCode ((tl : Nat) : Int) v → v = .tuple #[.int .i64 (s : Int), .int .i64 ((lX c : Nat) : Int), .int .i64 ((tl - lB c : Nat) : Int)]) := hid fun v hv => by
              rcases hv with ⟨h, _⟩ | ⟨k, c2, q2, x2, z2, e1, _, _, e2, rfl, rfl, rfl, rfl⟩
              · omega
              · obtain rfl : tl = k := by omega
                obtain rfl := e2.same HLC
                rw [hsd]
            have hD1 : Hid (∀ v, IsDistCode ((td : Nat) : Int) v → v = .tuple #[.int .i64 (q : Int), .int .i64 ((dX q : Nat) : Int), .int .i64 ((td - dB q : Nat) : Int)]) := hid fun v hv => by
              rcases hv with ⟨h, _⟩ | ⟨k, c2, q2, x2, z2, e1, _, _, e2, rfl, rfl, rfl, rfl⟩
              · omega
              · obtain rfl : td = k := by omega
                obtain rfl := e2.same HDC
                rw [Nat.zero_add]
            rw [← hsd] at hga hput
            obtain ⟨k2, f2, h5⟩ := HH.out.swap.inc (k := q) (x := b) hq30 hgb
            rw [hput2] at h5
            obtain ⟨k1, f1, h6⟩ := h5.swap.inc (k := s) (x := a) (by omega) hga
            rw [hput] at h6
            have H6 := hid h6
            have hsI : (s : Int) < 286 := by omega
            have hs0' : (0 : Int) ≤ (s : Int) := Int.natCast_nonneg _
            have hqI : (q : Int) < 30 := by omega
            have hq0' : (0 : Int) ≤ (q : Int) := Int.natCast_nonneg _
            have htlI : (0 : Int) < (tl : Int) := by omega
            have HC := hid (And.intro hcod hcod2)
            clear hga hput hcod hput2 hcod2 h5 h6 ht htm hs1 hb1 htk hsy hK ha hb hsz hgb HLC HDC hsd
            have hab : (a = 0 ∨ a ≠ 0) ∧ (b = 0 ∨ b ≠ 0) := by omega
            rcases hab with ⟨ha0 | ha0, hb0 | hb0⟩
            · have hb2 : ((a : Int) == 0) = true := by simp [ha0]
              have hb3 : ((b : Int) == 0) = true := by simp [hb0]
              have HC2 : Hid (x + 1 = codedN (litF (l.take (i + 1))) ∧ y + 1 = codedN (dstF (l.take (i + 1)))) := hid ⟨by rw [HC.out.1, if_pos ha0, ← HXY.out.1], by rw [HC.out.2, if_pos hb0, ← HXY.out.2]⟩
              rw [hb0, show ((0 : Nat) : Int) + 1 = 1 from rfl] at k1 f1 H6
              rw [ha0, show ((0 : Nat) : Int) + 1 = 1 from rfl] at H6
              go_wp2_with fail
              refine (hL.out _).mono ?_
              rintro e w4 ⟨⟨v, rfl, hv⟩, rfl⟩
              obtain rfl := hL1.out v hv
              clear hv hL
              go_wp2_with fail
              refine (hD.out _).mono ?_
              rintro e w4 ⟨⟨v, rfl, hv⟩, rfl⟩
              obtain rfl := hD1.out v hv
              clear hv hD
              go_wp2
              go_roundg (gk - 1)
              case measure => omega
              case rel => exact ⟨i + 1, x + 1, y + 1, by omega, by omega, by go_num, by go_num, by go_num, by omega, by omega, HC2, H6⟩
            · have hb2 : ((a : Int) == 0) = true := by simp [ha0]
              have hb3 : ((b : Int) == 0) = false := by simp [hb0]
              have HC2 : Hid (x + 1 = codedN (litF (l.take (i + 1))) ∧ y = codedN (dstF (l.take (i + 1)))) := hid ⟨by rw [HC.out.1, if_pos ha0, ← HXY.out.1], by rw [HC.out.2, if_neg hb0, ← HXY.out.2, Nat.add_zero]⟩
              rw [ha0, show ((0 : Nat) : Int) + 1 = 1 from rfl] at H6
              go_wp2_with fail
              refine (hL.out _).mono ?_
              rintro e w4 ⟨⟨v, rfl, hv⟩, rfl⟩
              obtain rfl := hL1.out v hv
              clear hv hL
              go_wp2_with fail
              refine (hD.out _).mono ?_
              rintro e w4 ⟨⟨v, rfl, hv⟩, rfl⟩
              obtain rfl := hD1.out v hv
              clear hv hD
              go_wp2
              go_roundg (gk - 1)
              case measure => omega
              case rel => exact ⟨i + 1, x + 1, y, by omega, by omega, by go_num, by go_num, by go_num, by omega, by omega, HC2, H6⟩
            · have hb2 : ((a : Int) == 0) = false := by simp [ha0]
              have hb3 : ((b : Int) == 0) = true := by simp [hb0]
              have HC2 : Hid (x = codedN (litF (l.take (i + 1))) ∧ y + 1 = codedN (dstF (l.take (i + 1)))) := hid ⟨by rw [HC.out.1, if_neg ha0, ← HXY.out.1, Nat.add_zero], by rw [HC.out.2, if_pos hb0, ← HXY.out.2]⟩
              rw [hb0, show ((0 : Nat) : Int) + 1 = 1 from rfl] at k1 f1 H6
              go_wp2_with fail
              refine (hL.out _).mono ?_
              rintro e w4 ⟨⟨v, rfl, hv⟩, rfl⟩
              obtain rfl := hL1.out v hv
              clear hv hL
              go_wp2_with fail
              refine (hD.out _).mono ?_
              rintro e w4 ⟨⟨v, rfl, hv⟩, rfl⟩
              obtain rfl := hD1.out v hv
              clear hv hD
              go_wp2
              go_roundg (gk - 1)
              case measure => omega
              case rel => exact ⟨i + 1, x, y + 1, by omega, by omega, by go_num, by go_num, by go_num, by omega, by omega, HC2, H6⟩
            · have hb2 : ((a : Int) == 0) = false := by simp [ha0]
              have hb3 : ((b : Int) == 0) = false := by simp [hb0]
              have HC2 : Hid (x = codedN (litF (l.take (i + 1))) ∧ y = codedN (dstF (l.take (i + 1)))) := hid ⟨by rw [HC.out.1, if_neg ha0, ← HXY.out.1, Nat.add_zero], by rw [HC.out.2, if_neg hb0, ← HXY.out.2, Nat.add_zero]⟩
              go_wp2_with fail
              refine (hL.out _).mono ?_
              rintro e w4 ⟨⟨v, rfl, hv⟩, rfl⟩
              obtain rfl := hL1.out v hv
              clear hv hL
              go_wp2_with fail
              refine (hD.out _).mono ?_
              rintro e w4 ⟨⟨v, rfl, hv⟩, rfl⟩
              obtain rfl := hD1.out v hv
              clear hv hD
              go_wp2
              go_roundg (gk - 1)
              case measure => omega
              case rel => exact ⟨i + 1, x, y, by omega, by omega, by go_num, by go_num, by go_num, by omega, by omega, HC2, H6⟩
        · have hiI : ¬ (i : Int) < (n : Int) := by omega
          have hti : l.take i = l := List.take_of_length_le (by have := HN.out; omega)
          rw [hti] at HH HXY
          have hx4 : x ≤ 401 := by omega
          have hy4 : y ≤ 400 := by omega
          have hml : l.length < 1048576 := by have := HN.out; omega
          have hmy2 : mayK 2 l [] := .inr ⟨.inr rfl, HSD.out, hml⟩
          have hmy1 : mayK 1 l [] := .inr ⟨.inl rfl, HSD.out, hml⟩
          have hC2 := cost_blk 2 l [] (.slice ao n cap) (.slice none 0 0) n 0 HO.out HH.out (HH.out.old HV.out) (Rd.nil _ _) HK.out (by omega)
          rw [show costK (blkF lensF) 2 l [] = ((3 + sizeK 2 l [] : Nat) : Int) from costK_may (kind := 2) hmy2] at hC2
          have HC2 := hid hC2
          have HC1 := hid (fun (wx : World) (Qs : List Thing) (h : Held w wx Qs) => by
            have h1 := cost_blk 1 l [] (.slice ao n cap) (.slice none 0 0) n 0 HO.out h (h.old HV.out) (Rd.nil _ _) HK.out (by omega)
            rw [show costK (blkF lensF) 1 l [] = ((3 + sizeK 1 l [] : Nat) : Int) from costK_may (kind := 1) hmy1] at h1
            exact h1)
          have hsz2 : sizeK 2 l [] < 200000000 := Nat.lt_of_lt_of_le (sizeK_le hmy2) (by decide)
          have hsz1 : sizeK 1 l [] < 200000000 := Nat.lt_of_lt_of_le (sizeK_le hmy1) (by decide)
          have hmore := size_more (l := l) HSD.out HK.out
          have hfix := size_fixed l
          obtain ⟨p, hp⟩ : ∃ p, p = 3 + sizeK 2 l [] := ⟨_, rfl⟩
          obtain ⟨r, hr⟩ : ∃ r, r = 3 + sizeK 1 l [] := ⟨_, rfl⟩
          rw [← hp] at HC2
          rw [← hr] at HC1
          have hrI : (10 : Int) ≤ (r : Int) := by omega
          have HM : Hid (∀ z1 z2 : Nat, (z1 = 0 ∨ z1 = csum (litC lensF l) (litE l) 286) → (z2 = 0 ∨ z2 = csum (dstL lensF l) (dstN l) 30) → z1 + z2 < p) := hid fun z1 z2 e1 e2 => by omega
          have HF2 := hid (And.intro (litF_le hml) (dstF_le hml))
          have hpb : p < 1000000000 := by omega
          clear hC2 hmy2 hmy1 hsz2 hsz1 hmore hfix hp hr hml hti
          go_wp2_with fail
          refine HC2.out.mono ?_
          rintro e w5 ⟨rfl, h5⟩
          have HP1 := hid (HC1.out w5 _ h5)
          clear h5 HC2 HC1
          go_wp2_with fail
          refine HP1.out.mono ?_
          rintro e w6 ⟨rfl, h6⟩
          have H6 := hid h6
          clear h6 HP1 HH
          have hkx : x ≤ 1 ∨ 60 < x ∨ (1 < x ∧ x ≤ 60) := by omega
          have hky : y ≤ 1 ∨ 60 < y ∨ (1 < y ∧ y ≤ 60) := by omega
          rcases hkx with hkx | hkx | ⟨hkx, hkx6⟩
          · rcases hky with hky | hky | ⟨hky, hky6⟩
            · have dx1 : decide ((1 : Int) < (x : Int)) = false := by simp; omega
              have dy1 : decide ((1 : Int) < (y : Int)) = false := by simp; omega
              have hlt := HM.out 0 0 (.inl rfl) (.inl rfl)
              have hltI : decide ((0 : Int) < (p : Int)) = true := by simp; omega
              have hltI2 : (0 : Int) < (p : Int) := by omega
              have HX := hid (fixedL_any H6.out)
              go_wp2_with fail
              refine HX.out.mono ?_
              rintro e wa ⟨a1, a2, a3, a4, rfl, ha⟩
              have HAN := hid (HA.out wa _ ha)
              clear ha HX
              go_wp2_with fail
              refine HAN.out.mono ?_
              rintro e wb ⟨rfl, hb⟩
              have HCH1 := hid (h_rchk hb 15 fixLit hb.own.rd (by decide) (by decide))
              rw [fix_check.1] at HCH1
              clear hb HAN
              go_wp2_with fail
              refine HCH1.out.mono ?_
              rintro e wc ⟨rfl, hc⟩
              have HCH2 := hid (h_rchk hc 15 fixDist hc.swap.own.rd (by decide) (by decide))
              rw [fix_check.2] at HCH2
              clear hc HCH1
              go_wp2_with fail
              refine HCH2.out.mono ?_
              rintro e wd ⟨rfl, hd⟩
              have HB := hid hd.below
              clear hd HCH2
              go_wp2
              go_ret
              exact ⟨rfl, HB.out⟩
            · have dx1 : decide ((1 : Int) < (x : Int)) = false := by simp; omega
              have dy1 : decide ((1 : Int) < (y : Int)) = true := by simp; omega
              have dy2 : decide ((y : Int) ≤ 60) = false := by simp; omega
              have hlt := HM.out 0 0 (.inl rfl) (.inl rfl)
              have hltI : decide ((0 : Int) < (p : Int)) = true := by simp; omega
              have hltI2 : (0 : Int) < (p : Int) := by omega
              have HX := hid (fixedL_any H6.out)
              go_wp2_with fail
              refine HX.out.mono ?_
              rintro e wa ⟨a1, a2, a3, a4, rfl, ha⟩
              have HAN := hid (HA.out wa _ ha)
              clear ha HX
              go_wp2_with fail
              refine HAN.out.mono ?_
              rintro e wb ⟨rfl, hb⟩
              have HCH1 := hid (h_rchk hb 15 fixLit hb.own.rd (by decide) (by decide))
              rw [fix_check.1] at HCH1
              clear hb HAN
              go_wp2_with fail
              refine HCH1.out.mono ?_
              rintro e wc ⟨rfl, hc⟩
              have HCH2 := hid (h_rchk hc 15 fixDist hc.swap.own.rd (by decide) (by decide))
              rw [fix_check.2] at HCH2
              clear hc HCH1
              go_wp2_with fail
              refine HCH2.out.mono ?_
              rintro e wd ⟨rfl, hd⟩
              have HB := hid hd.below
              clear hd HCH2
              go_wp2
              go_ret
              exact ⟨rfl, HB.out⟩
            · have dx1 : decide ((1 : Int) < (x : Int)) = false := by simp; omega
              have dy1 : decide ((1 : Int) < (y : Int)) = true := by simp; omega
              have dy2 : decide ((y : Int) ≤ 60) = true := by simp; omega
              have HO2 := hid (dst_opt l (by have := HXY.out.2; omega))
              have hcl2 : (came (dstF l)).length = y := by rw [came_cod]; exact HXY.out.2.symm
              have HK2 := hid (least_any _ (dstF l) 15 w6 30 H6.out.swap.own.rd (by rw [dstF_length]) (by omega) HF2.out.2 (by omega) (by omega) (by omega) (by omega))
              rw [show ((15 : Nat) : Int) = 15 from rfl] at HK2
              go_wp2_with fail
              refine HK2.out.mono ?_
              rintro e w8 ⟨⟨s2, z2, rfl, q1, q2, q3, q4⟩, hM⟩
              have HZ2 : Hid (z2 = csum (dstL lensF l) (dstN l) 30) := by
                rw [dst_cost l (by have := HXY.out.2; omega)]
                exact hid (least_sameB HO2.out (by omega) HF2.out.2 (by omega) (by omega) q1 q2 q3 q4)
              have H8 := hid (H6.out.same hM)
              clear q1 q2 q3 q4 hM HK2 H6
              have hlt := HM.out 0 z2 (.inl rfl) (.inr HZ2.out)
              have hltI : decide ((z2 : Int) < (p : Int)) = true := by simp; omega
              have hltI2 : (z2 : Int) < (p : Int) := by omega
              have HX := hid (fixedL_any H8.out)
              go_wp2_with fail
              refine HX.out.mono ?_
              rintro e wa ⟨a1, a2, a3, a4, rfl, ha⟩
              have HAN := hid (HA.out wa _ ha)
              clear ha HX
              go_wp2_with fail
              refine HAN.out.mono ?_
              rintro e wb ⟨rfl, hb⟩
              have HCH1 := hid (h_rchk hb 15 fixLit hb.own.rd (by decide) (by decide))
              rw [fix_check.1] at HCH1
              clear hb HAN
              go_wp2_with fail
              refine HCH1.out.mono ?_
              rintro e wc ⟨rfl, hc⟩
              have HCH2 := hid (h_rchk hc 15 fixDist hc.swap.own.rd (by decide) (by decide))
              rw [fix_check.2] at HCH2
              clear hc HCH1
              go_wp2_with fail
              refine HCH2.out.mono ?_
              rintro e wd ⟨rfl, hd⟩
              have HB := hid hd.below
              clear hd HCH2
              go_wp2
              go_ret
              exact ⟨rfl, HB.out⟩
          · rcases hky with hky | hky | ⟨hky, hky6⟩
            · have dx1 : decide ((1 : Int) < (x : Int)) = true := by simp; omega
              have dx2 : decide ((x : Int) ≤ 60) = false := by simp; omega
              have dy1 : decide ((1 : Int) < (y : Int)) = false := by simp; omega
              have hlt := HM.out 0 0 (.inl rfl) (.inl rfl)
              have hltI : decide ((0 : Int) < (p : Int)) = true := by simp; omega
              have hltI2 : (0 : Int) < (p : Int) := by omega
              have HX := hid (fixedL_any H6.out)
              go_wp2_with fail
              refine HX.out.mono ?_
              rintro e wa ⟨a1, a2, a3, a4, rfl, ha⟩
              have HAN := hid (HA.out wa _ ha)
              clear ha HX
              go_wp2_with fail
              refine HAN.out.mono ?_
              rintro e wb ⟨rfl, hb⟩
              have HCH1 := hid (h_rchk hb 15 fixLit hb.own.rd (by decide) (by decide))
              rw [fix_check.1] at HCH1
              clear hb HAN
              go_wp2_with fail
              refine HCH1.out.mono ?_
              rintro e wc ⟨rfl, hc⟩
              have HCH2 := hid (h_rchk hc 15 fixDist hc.swap.own.rd (by decide) (by decide))
              rw [fix_check.2] at HCH2
              clear hc HCH1
              go_wp2_with fail
              refine HCH2.out.mono ?_
              rintro e wd ⟨rfl, hd⟩
              have HB := hid hd.below
              clear hd HCH2
              go_wp2
              go_ret
              exact ⟨rfl, HB.out⟩
            · have dx1 : decide ((1 : Int) < (x : Int)) = true := by simp; omega
              have dx2 : decide ((x : Int) ≤ 60) = false := by simp; omega
              have dy1 : decide ((1 : Int) < (y : Int)) = true := by simp; omega
              have dy2 : decide ((y : Int) ≤ 60) = false := by simp; omega
              have hlt := HM.out 0 0 (.inl rfl) (.inl rfl)
              have hltI : decide ((0 : Int) < (p : Int)) = true := by simp; omega
              have hltI2 : (0 : Int) < (p : Int) := by omega
              have HX := hid (fixedL_any H6.out)
              go_wp2_with fail
              refine HX.out.mono ?_
              rintro e wa ⟨a1, a2, a3, a4, rfl, ha⟩
              have HAN := hid (HA.out wa _ ha)
              clear ha HX
              go_wp2_with fail
              refine HAN.out.mono ?_
              rintro e wb ⟨rfl, hb⟩
              have HCH1 := hid (h_rchk hb 15 fixLit hb.own.rd (by decide) (by decide))
              rw [fix_check.1] at HCH1
              clear hb HAN
              go_wp2_with fail
              refine HCH1.out.mono ?_
              rintro e wc ⟨rfl, hc⟩
              have HCH2 := hid (h_rchk hc 15 fixDist hc.swap.own.rd (by decide) (by decide))
              rw [fix_check.2] at HCH2
              clear hc HCH1
              go_wp2_with fail
              refine HCH2.out.mono ?_
              rintro e wd ⟨rfl, hd⟩
              have HB := hid hd.below
              clear hd HCH2
              go_wp2
              go_ret
              exact ⟨rfl, HB.out⟩
            · have dx1 : decide ((1 : Int) < (x : Int)) = true := by simp; omega
              have dx2 : decide ((x : Int) ≤ 60) = false := by simp; omega
              have dy1 : decide ((1 : Int) < (y : Int)) = true := by simp; omega
              have dy2 : decide ((y : Int) ≤ 60) = true := by simp; omega
              have HO2 := hid (dst_opt l (by have := HXY.out.2; omega))
              have hcl2 : (came (dstF l)).length = y := by rw [came_cod]; exact HXY.out.2.symm
              have HK2 := hid (least_any _ (dstF l) 15 w6 30 H6.out.swap.own.rd (by rw [dstF_length]) (by omega) HF2.out.2 (by omega) (by omega) (by omega) (by omega))
              rw [show ((15 : Nat) : Int) = 15 from rfl] at HK2
              go_wp2_with fail
              refine HK2.out.mono ?_
              rintro e w8 ⟨⟨s2, z2, rfl, q1, q2, q3, q4⟩, hM⟩
              have HZ2 : Hid (z2 = csum (dstL lensF l) (dstN l) 30) := by
                rw [dst_cost l (by have := HXY.out.2; omega)]
                exact hid (least_sameB HO2.out (by omega) HF2.out.2 (by omega) (by omega) q1 q2 q3 q4)
              have H8 := hid (H6.out.same hM)
              clear q1 q2 q3 q4 hM HK2 H6
              have hlt := HM.out 0 z2 (.inl rfl) (.inr HZ2.out)
              have hltI : decide ((z2 : Int) < (p : Int)) = true := by simp; omega
              have hltI2 : (z2 : Int) < (p : Int) := by omega
              have HX := hid (fixedL_any H8.out)
              go_wp2_with fail
              refine HX.out.mono ?_
              rintro e wa ⟨a1, a2, a3, a4, rfl, ha⟩
              have HAN := hid (HA.out wa _ ha)
              clear ha HX
              go_wp2_with fail
              refine HAN.out.mono ?_
              rintro e wb ⟨rfl, hb⟩
              have HCH1 := hid (h_rchk hb 15 fixLit hb.own.rd (by decide) (by decide))
              rw [fix_check.1] at HCH1
              clear hb HAN
              go_wp2_with fail
              refine HCH1.out.mono ?_
              rintro e wc ⟨rfl, hc⟩
              have HCH2 := hid (h_rchk hc 15 fixDist hc.swap.own.rd (by decide) (by decide))
              rw [fix_check.2] at HCH2
              clear hc HCH1
              go_wp2_with fail
              refine HCH2.out.mono ?_
              rintro e wd ⟨rfl, hd⟩
              have HB := hid hd.below
              clear hd HCH2
              go_wp2
              go_ret
              exact ⟨rfl, HB.out⟩
          · rcases hky with hky | hky | ⟨hky, hky6⟩
            · have dx1 : decide ((1 : Int) < (x : Int)) = true := by simp; omega
              have dx2 : decide ((x : Int) ≤ 60) = true := by simp; omega
              have dy1 : decide ((1 : Int) < (y : Int)) = false := by simp; omega
              have HO1 := hid (lit_opt l (by have := HXY.out.1; omega))
              have hcl1 : (came (litF l)).length = x := by rw [came_cod]; exact HXY.out.1.symm
              have HK1 := hid (least_any _ (litF l) 15 w6 286 H6.out.own.rd (by rw [litF_length]) (by omega) HF2.out.1 (by omega) (by omega) (by omega) (by omega))
              rw [show ((15 : Nat) : Int) = 15 from rfl] at HK1
              go_wp2_with fail
              refine HK1.out.mono ?_
              rintro e w7 ⟨⟨s1, z1, rfl, q1, q2, q3, q4⟩, hM⟩
              have HZ1 : Hid (z1 = csum (litC lensF l) (litE l) 286) := by
                rw [lit_cost]
                exact hid (least_sameB HO1.out (by omega) HF2.out.1 (by omega) (by omega) q1 q2 q3 q4)
              have H7 := hid (H6.out.same hM)
              clear q1 q2 q3 q4 hM HK1 H6
              have hlt := HM.out z1 0 (.inr HZ1.out) (.inl rfl)
              have hltI : decide ((z1 : Int) < (p : Int)) = true := by simp; omega
              have hltI2 : (z1 : Int) < (p : Int) := by omega
              have HX := hid (fixedL_any H7.out)
              go_wp2_with fail
              refine HX.out.mono ?_
              rintro e wa ⟨a1, a2, a3, a4, rfl, ha⟩
              have HAN := hid (HA.out wa _ ha)
              clear ha HX
              go_wp2_with fail
              refine HAN.out.mono ?_
              rintro e wb ⟨rfl, hb⟩
              have HCH1 := hid (h_rchk hb 15 fixLit hb.own.rd (by decide) (by decide))
              rw [fix_check.1] at HCH1
              clear hb HAN
              go_wp2_with fail
              refine HCH1.out.mono ?_
              rintro e wc ⟨rfl, hc⟩
              have HCH2 := hid (h_rchk hc 15 fixDist hc.swap.own.rd (by decide) (by decide))
              rw [fix_check.2] at HCH2
              clear hc HCH1
              go_wp2_with fail
              refine HCH2.out.mono ?_
              rintro e wd ⟨rfl, hd⟩
              have HB := hid hd.below
              clear hd HCH2
              go_wp2
              go_ret
              exact ⟨rfl, HB.out⟩
            · have dx1 : decide ((1 : Int) < (x : Int)) = true := by simp; omega
              have dx2 : decide ((x : Int) ≤ 60) = true := by simp; omega
              have dy1 : decide ((1 : Int) < (y : Int)) = true := by simp; omega
              have dy2 : decide ((y : Int) ≤ 60) = false := by simp; omega
              have HO1 := hid (lit_opt l (by have := HXY.out.1; omega))
              have hcl1 : (came (litF l)).length = x := by rw [came_cod]; exact HXY.out.1.symm
              have HK1 := hid (least_any _ (litF l) 15 w6 286 H6.out.own.rd (by rw [litF_length]) (by omega) HF2.out.1 (by omega) (by omega) (by omega) (by omega))
              rw [show ((15 : Nat) : Int) = 15 from rfl] at HK1
              go_wp2_with fail
              refine HK1.out.mono ?_
              rintro e w7 ⟨⟨s1, z1, rfl, q1, q2, q3, q4⟩, hM⟩
              have HZ1 : Hid (z1 = csum (litC lensF l) (litE l) 286) := by
                rw [lit_cost]
                exact hid (least_sameB HO1.out (by omega) HF2.out.1 (by omega) (by omega) q1 q2 q3 q4)
              have H7 := hid (H6.out.same hM)
              clear q1 q2 q3 q4 hM HK1 H6
              have hlt := HM.out z1 0 (.inr HZ1.out) (.inl rfl)
              have hltI : decide ((z1 : Int) < (p : Int)) = true := by simp; omega
              have hltI2 : (z1 : Int) < (p : Int) := by omega
              have HX := hid (fixedL_any H7.out)
              go_wp2_with fail
              refine HX.out.mono ?_
              rintro e wa ⟨a1, a2, a3, a4, rfl, ha⟩
              have HAN := hid (HA.out wa _ ha)
              clear ha HX
              go_wp2_with fail
              refine HAN.out.mono ?_
              rintro e wb ⟨rfl, hb⟩
              have HCH1 := hid (h_rchk hb 15 fixLit hb.own.rd (by decide) (by decide))
              rw [fix_check.1] at HCH1
              clear hb HAN
              go_wp2_with fail
              refine HCH1.out.mono ?_
              rintro e wc ⟨rfl, hc⟩
              have HCH2 := hid (h_rchk hc 15 fixDist hc.swap.own.rd (by decide) (by decide))
              rw [fix_check.2] at HCH2
              clear hc HCH1
              go_wp2_with fail
              refine HCH2.out.mono ?_
              rintro e wd ⟨rfl, hd⟩
              have HB := hid hd.below
              clear hd HCH2
              go_wp2
              go_ret
              exact ⟨rfl, HB.out⟩
            · have dx1 : decide ((1 : Int) < (x : Int)) = true := by simp; omega
              have dx2 : decide ((x : Int) ≤ 60) = true := by simp; omega
              have dy1 : decide ((1 : Int) < (y : Int)) = true := by simp; omega
              have dy2 : decide ((y : Int) ≤ 60) = true := by simp; omega
              have HO1 := hid (lit_opt l (by have := HXY.out.1; omega))
              have hcl1 : (came (litF l)).length = x := by rw [came_cod]; exact HXY.out.1.symm
              have HK1 := hid (least_any _ (litF l) 15 w6 286 H6.out.own.rd (by rw [litF_length]) (by omega) HF2.out.1 (by omega) (by omega) (by omega) (by omega))
              rw [show ((15 : Nat) : Int) = 15 from rfl] at HK1
              go_wp2_with fail
              refine HK1.out.mono ?_
              rintro e w7 ⟨⟨s1, z1, rfl, q1, q2, q3, q4⟩, hM⟩
              have HZ1 : Hid (z1 = csum (litC lensF l) (litE l) 286) := by
                rw [lit_cost]
                exact hid (least_sameB HO1.out (by omega) HF2.out.1 (by omega) (by omega) q1 q2 q3 q4)
              have H7 := hid (H6.out.same hM)
              clear q1 q2 q3 q4 hM HK1 H6
              have HO2 := hid (dst_opt l (by have := HXY.out.2; omega))
              have hcl2 : (came (dstF l)).length = y := by rw [came_cod]; exact HXY.out.2.symm
              have HK2 := hid (least_any _ (dstF l) 15 w7 30 H7.out.swap.own.rd (by rw [dstF_length]) (by omega) HF2.out.2 (by omega) (by omega) (by omega) (by omega))
              rw [show ((15 : Nat) : Int) = 15 from rfl] at HK2
              go_wp2_with fail
              refine HK2.out.mono ?_
              rintro e w8 ⟨⟨s2, z2, rfl, q1, q2, q3, q4⟩, hM⟩
              have HZ2 : Hid (z2 = csum (dstL lensF l) (dstN l) 30) := by
                rw [dst_cost l (by have := HXY.out.2; omega)]
                exact hid (least_sameB HO2.out (by omega) HF2.out.2 (by omega) (by omega) q1 q2 q3 q4)
              have H8 := hid (H7.out.same hM)
              clear q1 q2 q3 q4 hM HK2 H7
              have hlt := HM.out z1 z2 (.inr HZ1.out) (.inr HZ2.out)
              have hltI : decide (((z1 : Int) + (z2 : Int)) < (p : Int)) = true := by simp; omega
              have hltI2 : ((z1 : Int) + (z2 : Int)) < (p : Int) := by omega
              have HX := hid (fixedL_any H8.out)
              go_wp2_with fail
              refine HX.out.mono ?_
              rintro e wa ⟨a1, a2, a3, a4, rfl, ha⟩
              have HAN := hid (HA.out wa _ ha)
              clear ha HX
              go_wp2_with fail
              refine HAN.out.mono ?_
              rintro e wb ⟨rfl, hb⟩
              have HCH1 := hid (h_rchk hb 15 fixLit hb.own.rd (by decide) (by decide))
              rw [fix_check.1] at HCH1
              clear hb HAN
              go_wp2_with fail
              refine HCH1.out.mono ?_
              rintro e wc ⟨rfl, hc⟩
              have HCH2 := hid (h_rchk hc 15 fixDist hc.swap.own.rd (by decide) (by decide))
              rw [fix_check.2] at HCH2
              clear hc HCH1
              go_wp2_with fail
              refine HCH2.out.mono ?_
              rintro e wd ⟨rfl, hd⟩
              have HB := hid hd.below
              clear hd HCH2
              go_wp2
              go_ret
              exact ⟨rfl, HB.out⟩
    · rw [decide_eq_false hs]
      go_wp2_with fail
      refine (HA.out _ _ H1.out).mono ?_
      rintro e w2 ⟨rfl, hh⟩
      have HB := hid hh.mod.toBelow
      clear hh
      go_wp2
      go_ret
      exact ⟨rfl, HB.out⟩
end Go.Proofs.YthibpnkdhbkakaaGreatDoor
