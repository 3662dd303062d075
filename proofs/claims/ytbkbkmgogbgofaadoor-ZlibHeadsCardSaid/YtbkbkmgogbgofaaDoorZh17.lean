/-
  The landed decoder's makeCodes.
-/
import Derived.Test.YtbkbkmgogbgofaaDoorZh16
import Derived.Test.YtbkbkmgogbgofaaDoorZh15
namespace Go.Proofs.YtbkbkmgogbgofaaDoor
set_option maxRecDepth 5000
open Go.RowKit
theorem newCodes_one (x y : Value) (n1 n2 : Nat) (L1 L2 : List Int) (w : World) (hx : Rd w 1 x n1 (ints L1)) (hy : Rd w 1 y n2 (ints L2)) (hn1 : n1 ≤ 288) (hn2 : n2 ≤ 288) (h1 : ∀ a ∈ L1, 0 ≤ a ∧ a ≤ 15) (h2 : ∀ a ∈ L2, 0 ≤ a ∧ a ≤ 15) :
    Calls Tryd.prog 61 #[x, y] w fun e w' => ∃ (a b : Option Addr) (er : Nat) (Tl : List Thing), e = .returned (.tuple #[.agg #[.pointer a, .pointer b], .int .i64 (er : Int)]) ∧ Held w w' Tl ∧
      Hid ((checkOf L1 15 = 0 ∧ checkOf L2 15 = 0 ∧ er = 0 ∧ ∃ B1 B2, a = ptrO B1 ∧ b = ptrO B2 ∧ Tl = [tabT L2 B2, tabT L1 B1]) ∨ ((checkOf L1 15 ≠ 0 ∨ checkOf L2 15 ≠ 0) ∧ er = 3 ∧ Tl = [])) := by
  have l1 : L1.length ≤ 288 := by have := hx.1; rw [ints_length] at this; omega
  have l2 : L2.length ≤ 288 := by have := hy.1; rw [ints_length] at this; omega
  refine (newCodes_any x y n1 n2 L1 L2 w hx hy (by omega) (by omega)).mono ?_
  rintro e w' (⟨hc, he, hh⟩ | ⟨hc, hc2, he, hh⟩ | ⟨hc, hc2, B1, B2, he, hh⟩)
  · rw [check_3 (by decide) (by decide) l1 h1 hc] at he
    exact ⟨none, none, 3, [], he, hh, hid (.inr ⟨.inl hc, rfl, rfl⟩)⟩
  · rw [check_3 (by decide) (by decide) l2 h2 hc2] at he
    exact ⟨none, none, 3, [], he, hh, hid (.inr ⟨.inr hc2, rfl, rfl⟩)⟩
  · exact ⟨_, _, 0, _, he, hh, hid (.inl ⟨hc, hc2, rfl, B1, B2, rfl, rfl, rfl⟩)⟩
section
variable {w0 w : World} {Rs : List Thing} {p : Place} {c : DC} {v : Value} {bs l o got : List Nat} {ls : List Int} {Ts : List (List Int × Nat)} {M : Nat}
set_option maxHeartbeats 6400000 in
theorem make_any (b : Bool) (A B : Nat) (head lx : List Int) (hfull : A + B ≤ ls.length) (h : Held w0 w (decM p c v bs l o got ls Ts Rs)) (hi : DInv M c ls Ts (.len b A B head lx) l o got) :
    Calls Tryd.prog 54 #[.pointer (some ⟨p.b, p.o, none⟩)] w fun e w' => RAns w0 w' p v bs M (.len b A B head lx) c l o got ls Ts Rs e := by
  obtain ⟨i0, hi0, hz0, hz1, hz2⟩ := info_parts infoIntI
  have hcell := hi.cell
  have hfx := hi.fx
  have hph := hi.ok.ph
  have HI := hid hi
  obtain ⟨wv, most, room, lv, st, last, left, dist, hA, hB, hC, ht, hv, cl, cd, fl, fd, en⟩ := c
  obtain ⟨rfl, rfl, rfl, rfl, rfl, t0, rfl, hmem⟩ : st = 5 ∧ last = b ∧ hA = A ∧ hB = B ∧ ls = lx ∧ ∃ t, ht = ptrO t ∧ (head, t) ∈ Ts := hcell
  obtain ⟨hA1, hA2, hB1, hB2, hck, hhl, hlsl, hin⟩ := hph
  unfold decM at h
  have hst : stepM M l o (.len last hA hB head ls) = lenM last hA hB head ls l o := rfl
  unfold lenM at hst
  rw [if_pos hfull] at hst
  have HS := hid hst
  have HFX := hid hfx
  obtain ⟨N, hN⟩ : ∃ N, N = ls.length := ⟨_, rfl⟩
  rw [← hN] at h hfull hlsl
  obtain ⟨ao, cap, rfl, hnc, hcm⟩ := h.fourth.own.form
  obtain ⟨g, off, rfl, hcell⟩ := h.fourth.own.rd.spot (by omega)
  obtain ⟨y, hy⟩ : ∃ y, ls[256]? = some y := ⟨ls[256]'(by omega), List.getElem?_eq_getElem _⟩
  have cy := hcell 256 (.int .i64 y) (by rw [ints_get, hy]; rfl)
  have cyA : ∀ ob, (w.alloc ob).cell? ⟨g, off + 256, none⟩ = some (.int .i64 y) := fun ob => (Mod.cell ((Mod.refl w (fun _ => False)).alloc ob) (World.block_lt_of_cell? w _ cy) (fun h => h)).trans cy
  have hN256 : (256 : Int) < (N : Int) := by omega
  have hA0 : (0 : Int) ≤ (hA : Int) := Int.natCast_nonneg _
  unfold ptrO at h
  have c11 : w.cell? ⟨p.b, p.o + 8 + 3, none⟩ = some (.int .i64 (hA : Int)) := dcell h 11 _ rfl
  have c12 : w.cell? ⟨p.b, p.o + 8 + 3 + 1, none⟩ = some (.int .i64 (hB : Int)) := dcell h 12 _ rfl
  have c13 : w.cell? ⟨p.b, p.o + 8 + 3 + 2, none⟩ = some (.int .i64 (hC : Int)) := dcell h 13 _ rfl
  have c14 : w.cell? ⟨p.b, p.o + 8 + 3 + 3, none⟩ = some (.pointer (some ⟨t0, 0, none⟩)) := dcell h 14 _ rfl
  have c15 : w.cell? ⟨p.b, p.o + 8 + 3 + 4, none⟩ = some (.slice (some ⟨g, off, none⟩) N cap) := dcell h 15 _ rfl
  have H1 := hid (h.newObj [.int .i64 (hA : Int), .int .i64 (hB : Int), .int .i64 (hC : Int), .pointer (some ⟨t0, 0, none⟩), .slice (some ⟨g, off, none⟩) N cap] 48)
  by_cases hy0 : y = 0
  · subst hy0
    have HE : Hid (stepM M l o (.len last hA hB head ls) = .err 3) := by
      rw [HS.out, if_pos (.inr (.inr (by rw [hy]; rfl)))]; exact hid rfl
    clear h hi hst hfx hmem hcell hy hin
    go_enter Tryd.func54, Tryd.ntmps54
    go_wp2
    go_ret
    exact ⟨3, rfl, .bad (by unfold decM; rw [← hN]; exact H1.out.drop) HE.out (fun h => by cases h) ⟨rfl, rfl⟩⟩
  · have hyB : (y == 0) = false := by simp; omega
    have HY : Hid (ls[256]?.getD 0 ≠ 0) := hid (by rw [hy]; exact hy0)
    have HM := hid hmem
    have HN := hid hN
    have hNA : N - hA = hB := by omega
    have hcut1 : ∀ wg, (Instr.sliceAt 46 (.slice (some ⟨g, off, none⟩) N cap) none (some (.int .i64 (hA : Int))) none).run Tryd.prog wg = .ok (.slice (some ⟨g, off, none⟩) hA cap) wg := fun wg => by
      have h := run_cut (P := Tryd.prog) (w := wg) 46 3 i0 1 Tryd.underlying46 hi0 hz1 (some ⟨g, off, none⟩) N cap 0 hA none (some (.int .i64 (hA : Int))) rfl ⟨_, rfl⟩ (by omega) (by omega)
      rw [h, sliced_front _ _ _ _ (fun x hx => by simp at hx; rw [← hx])]
    have hcut2 : ∀ wg, (Instr.sliceAt 46 (.slice (some ⟨g, off, none⟩) N cap) (some (.int .i64 (hA : Int))) none none).run Tryd.prog wg = .ok (sliced (some ⟨g, off, none⟩) hA N cap 1) wg := fun wg =>
      run_cut (P := Tryd.prog) (w := wg) 46 3 i0 1 Tryd.underlying46 hi0 hz1 (some ⟨g, off, none⟩) N cap hA N (some (.int .i64 (hA : Int))) none ⟨_, rfl⟩ rfl (by omega) hnc
    have hr1 := h.fourth.own.rd.front (H := hA) (by omega)
    have hr2 := h.fourth.own.rd.cut (L := hA) (H := N) (by omega) (Nat.le_refl _)
    unfold sliced at hcut2 hr2
    generalize (if cap = hA then (some (⟨g, off, none⟩ : Addr)) else (some (⟨g, off, none⟩ : Addr)).map fun (x : Addr) => x.add (hA * 1)) = a2 at hcut2 hr2
    have e1 : (ints ls).take (hA * 1) = ints (ls.take hA) := by rw [Nat.mul_one]; simp [ints, List.map_take]
    have e2 : ((ints ls).drop (hA * 1)).take ((N - hA) * 1) = ints (ls.drop hA) := by
      rw [Nat.mul_one, Nat.mul_one, List.take_of_length_le (by rw [List.length_drop, ints_length]; omega)]
      simp [ints, List.map_drop]
    rw [e1] at hr1
    rw [e2, hNA] at hr2
    rw [hNA] at hcut2
    have H2 := H1.out.newObj [.pointer none, .pointer none] 50
    rw [show (w.alloc (.cells #[.int .i64 (hA : Int), .int .i64 (hB : Int), .int .i64 (hC : Int), .pointer (some ⟨t0, 0, none⟩), .slice (some ⟨g, off, none⟩) N cap] 48)).heap.size = w.heap.size + 1 by show (w.heap.push _).size = _; simp] at H2
    have H2 := hid H2
    have hall : ∀ wz, Mod w wz (fun _ => False) → Calls Tryd.prog 61 #[.slice (some ⟨g, off, none⟩) hA cap, .slice a2 hB (cap - hA)] wz fun e w' => ∃ (a b : Option Addr) (er : Nat) (Tl : List Thing), e = .returned (.tuple #[.agg #[.pointer a, .pointer b], .int .i64 (er : Int)]) ∧ Held wz w' Tl ∧
      Hid ((checkOf (ls.take hA) 15 = 0 ∧ checkOf (ls.drop hA) 15 = 0 ∧ er = 0 ∧ ∃ B1 B2, a = ptrO B1 ∧ b = ptrO B2 ∧ Tl = [tabT (ls.drop hA) B2, tabT (ls.take hA) B1]) ∨ ((checkOf (ls.take hA) 15 ≠ 0 ∨ checkOf (ls.drop hA) 15 ≠ 0) ∧ er = 3 ∧ Tl = [])) := fun wz hM =>
      newCodes_one _ _ hA hB (ls.take hA) (ls.drop hA) wz (hr1.kept hM (fun _ _ h => h)) (hr2.kept hM (fun _ _ h => h)) (by omega) (by omega) (fun a ha => hin a (List.mem_of_mem_take ha)) (fun a ha => hin a (List.mem_of_mem_drop ha))
    have HNC := hid (hall _ ((Mod.refl w _).alloc (.cells #[.int .i64 (hA : Int), .int .i64 (hB : Int), .int .i64 (hC : Int), .pointer (some ⟨t0, 0, none⟩), .slice (some ⟨g, off, none⟩) N cap] 48)).drew)
    have HNC2 := hid (hall _ (((Mod.refl w _).alloc (.cells #[.int .i64 (hA : Int), .int .i64 (hB : Int), .int .i64 (hC : Int), .pointer (some ⟨t0, 0, none⟩), .slice (some ⟨g, off, none⟩) N cap] 48)).alloc (.cells #[.pointer none, .pointer none] 50)).drew)
    have e0 := H2.out.swap.obj.cell (i := 0) rfl
    have e4 := H2.out.swap.obj.cell (i := 4) rfl
    clear h hi hst hfx hmem hy hin hN e1 e2 hr1 hr2 hall hcell
    go_enter Tryd.func54, Tryd.ntmps54
    go_wp2
    go_region_held3 (fun w' => w'.cell? ⟨w.heap.size, 0, none⟩ = some (.int .i64 (hA : Int)) ∧ w'.cell? ⟨w.heap.size, 4, none⟩ = some (.slice (some ⟨g, off, none⟩) N cap)) (first | exact ⟨d0, d4⟩ | exact ⟨e0, e4⟩ | go_keep)
      ((go_at_call 61; first
        | (refine HNC.out.mono ?_; rintro e' w4 ⟨ca, cb, er, Tl, rfl, hh, HCA⟩; have H5 := hid (Held.frame H1.out.drew hh); have d0 := (H1.out.drew.same hh.mod).obj.cell (i := 0) rfl; have d4 := (H1.out.drew.same hh.mod).obj.cell (i := 4) rfl; clear hh HNC HNC2)
        | (refine HNC2.out.mono ?_; rintro e' w4 ⟨ca, cb, er, Tl, rfl, hh, HCA⟩; have H5 := hid (Held.frame H2.out.drew hh); have d0 := (H2.out.drew.same hh.mod).swap.obj.cell (i := 0) rfl; have d4 := (H2.out.drew.same hh.mod).swap.obj.cell (i := 4) rfl; have k0 := (H2.out.drew.same hh.mod).obj.cell (i := 0) rfl; have k1 := (H2.out.drew.same hh.mod).obj.cell (i := 1) rfl; have j0 := (H2.out.drew.same hh.mod).obj.frozen 0; have j1 := (H2.out.drew.same hh.mod).obj.frozen 1; clear hh HNC HNC2)))
    · have h6 := (H5.out.perm List.perm_middle).drop.newObj [.pointer ca, .pointer cb] 50
      have H6 : Hid (Held w0 _ (objT w4.heap.size [.pointer ca, .pointer cb] 50 :: (Tl ++ _))) := hid h6
      clear h6 H5 d0 d4
      generalize w4.alloc (.cells #[.pointer ca, .pointer cb] 50) = w6 at H6 ⊢
      generalize w4.heap.size = K at H6 ⊢
      rcases HCA.out with ⟨g1, g2, rfl, B1, B2, rfl, rfl, rfl⟩ | ⟨g1, rfl, rfl⟩
      · have HE : Hid (stepM M l o (.len last hA hB head ls) = .go (.tok last (ls.take hA) (ls.drop hA)) l o) := by
          rw [HS.out, if_neg (not_or.2 ⟨not_not_intro g1, not_or.2 ⟨not_not_intro g2, HY.out⟩⟩)]; exact hid rfl
        have k0 := H6.out.obj.cell (i := 0) rfl
        have k1 := H6.out.obj.cell (i := 1) rfl
        have H7 := hid (Held.fourth H6.out)
        clear H6 HCA g1 g2
        unfold ptrO at k0 k1 H7
        go_wp2_with (first
          | ((with_reducible show wpList _ _ _ (⟨none, .store 50 _ _, _, _, _, _⟩ :: _) _ _); go_must (refine wpList_store_dec rfl 50 (.tmp 39) (.tmp 35) rfl H7.out 16 [.pointer (some ⟨B1, 0, none⟩), .pointer (some ⟨B2, 0, none⟩)] rfl rfl (by kernel_rfl) rfl ⟨wv, most, room, lv, 5, last, left, dist, hA, hB, hC, some ⟨t0, 0, none⟩, .slice (some ⟨g, off, none⟩) N cap, some ⟨B1, 0, none⟩, some ⟨B2, 0, none⟩, fl, fd, en⟩ rfl ⟨by decide, Nat.le_of_ble_eq_true rfl⟩ ?_); intro w7 h7; have H8 := hid h7; clear h7)
          | ((with_reducible show wpList _ _ _ (⟨none, .store 48 _ _, _, _, _, _⟩ :: _) _ _); go_must (refine wpList_store_dec rfl 48 (.tmp 42) (.tmp 36) rfl H8.out 11 [.int .i64 0, .int .i64 0, .int .i64 0, .pointer none, .slice none 0 0] rfl rfl (by kernel_rfl) rfl ⟨wv, most, room, lv, 5, last, left, dist, 0, 0, 0, none, .slice none 0 0, some ⟨B1, 0, none⟩, some ⟨B2, 0, none⟩, fl, fd, en⟩ rfl ⟨by decide, Nat.le_of_ble_eq_true rfl⟩ ?_); intro w8 h8; have H9 := hid h8; have c7 : w8.cell? ⟨p.b, p.o + 7, none⟩ = some (.int .i64 5) := dcell h8 7 _ rfl; have f7 : w8.frozen? ⟨p.b, p.o + 7, none⟩ = false := dfroz h8 7; clear h8))
        go_ret
        have h10 := dset H9.out 7 (.int .i64 6) ⟨wv, most, room, lv, 6, last, left, dist, 0, 0, 0, none, .slice none 0 0, some ⟨B1, 0, none⟩, some ⟨B2, 0, none⟩, fl, fd, en⟩ rfl
        have h11 := dec_nils (tab_new2 h10.swap.drop)
        refine ⟨0, rfl, .on HI.out HE.out h11 ⟨rfl, rfl, B1, B2, rfl, rfl, by simp, by simp⟩ ?_ rfl rfl⟩
        rcases HFX.out with hx | ⟨t1, t2, q1, q2, q3, q4⟩
        · exact .inl hx
        · exact .inr ⟨t1, t2, q1, q2, by simp [q3], by simp [q4]⟩
      · have HE : Hid (stepM M l o (.len last hA hB head ls) = .err 3) := by
          rw [HS.out, if_pos (by rcases g1 with g1 | g1; exact .inl g1; exact .inr (.inl g1))]; exact hid rfl
        have H7 := hid (Held.drop H6.out)
        clear H6 HCA g1
        go_wp2
        go_ret
        exact ⟨3, rfl, .bad (by unfold decM; rw [← HN.out]; exact H7.out) HE.out (fun h => by cases h) ⟨rfl, rfl⟩⟩
    · have h6 := ((H5.out.perm List.perm_middle).setObj 0 (.pointer ca)).setObj 1 (.pointer cb)
      have H6 : Hid (Held w0 _ (objT (w.heap.size + 1) [.pointer ca, .pointer cb] 50 :: (Tl ++ _))) := hid ((h6.perm (List.perm_middle (l₁ := objT (w.heap.size + 1) [.pointer ca, .pointer cb] 50 :: Tl))).drop)
      clear h6 H5 d0 d4 k0 k1 j0 j1
      generalize (w4.setCell ⟨w.heap.size + 1, 0, none⟩ (.pointer ca)).setCell ⟨w.heap.size + 1, 1, none⟩ (.pointer cb) = w6 at H6 ⊢
      generalize w.heap.size + 1 = K at H6 ⊢
      rcases HCA.out with ⟨g1, g2, rfl, B1, B2, rfl, rfl, rfl⟩ | ⟨g1, rfl, rfl⟩
      · have HE : Hid (stepM M l o (.len last hA hB head ls) = .go (.tok last (ls.take hA) (ls.drop hA)) l o) := by
          rw [HS.out, if_neg (not_or.2 ⟨not_not_intro g1, not_or.2 ⟨not_not_intro g2, HY.out⟩⟩)]; exact hid rfl
        have k0 := H6.out.obj.cell (i := 0) rfl
        have k1 := H6.out.obj.cell (i := 1) rfl
        have H7 := hid (Held.fourth H6.out)
        clear H6 HCA g1 g2
        unfold ptrO at k0 k1 H7
        go_wp2_with (first
          | ((with_reducible show wpList _ _ _ (⟨none, .store 50 _ _, _, _, _, _⟩ :: _) _ _); go_must (refine wpList_store_dec rfl 50 (.tmp 39) (.tmp 35) rfl H7.out 16 [.pointer (some ⟨B1, 0, none⟩), .pointer (some ⟨B2, 0, none⟩)] rfl rfl (by kernel_rfl) rfl ⟨wv, most, room, lv, 5, last, left, dist, hA, hB, hC, some ⟨t0, 0, none⟩, .slice (some ⟨g, off, none⟩) N cap, some ⟨B1, 0, none⟩, some ⟨B2, 0, none⟩, fl, fd, en⟩ rfl ⟨by decide, Nat.le_of_ble_eq_true rfl⟩ ?_); intro w7 h7; have H8 := hid h7; clear h7)
          | ((with_reducible show wpList _ _ _ (⟨none, .store 48 _ _, _, _, _, _⟩ :: _) _ _); go_must (refine wpList_store_dec rfl 48 (.tmp 42) (.tmp 36) rfl H8.out 11 [.int .i64 0, .int .i64 0, .int .i64 0, .pointer none, .slice none 0 0] rfl rfl (by kernel_rfl) rfl ⟨wv, most, room, lv, 5, last, left, dist, 0, 0, 0, none, .slice none 0 0, some ⟨B1, 0, none⟩, some ⟨B2, 0, none⟩, fl, fd, en⟩ rfl ⟨by decide, Nat.le_of_ble_eq_true rfl⟩ ?_); intro w8 h8; have H9 := hid h8; have c7 : w8.cell? ⟨p.b, p.o + 7, none⟩ = some (.int .i64 5) := dcell h8 7 _ rfl; have f7 : w8.frozen? ⟨p.b, p.o + 7, none⟩ = false := dfroz h8 7; clear h8))
        go_ret
        have h10 := dset H9.out 7 (.int .i64 6) ⟨wv, most, room, lv, 6, last, left, dist, 0, 0, 0, none, .slice none 0 0, some ⟨B1, 0, none⟩, some ⟨B2, 0, none⟩, fl, fd, en⟩ rfl
        have h11 := dec_nils (tab_new2 h10.swap.drop)
        refine ⟨0, rfl, .on HI.out HE.out h11 ⟨rfl, rfl, B1, B2, rfl, rfl, by simp, by simp⟩ ?_ rfl rfl⟩
        rcases HFX.out with hx | ⟨t1, t2, q1, q2, q3, q4⟩
        · exact .inl hx
        · exact .inr ⟨t1, t2, q1, q2, by simp [q3], by simp [q4]⟩
      · have HE : Hid (stepM M l o (.len last hA hB head ls) = .err 3) := by
          rw [HS.out, if_pos (by rcases g1 with g1 | g1; exact .inl g1; exact .inr (.inl g1))]; exact hid rfl
        have H7 := hid (Held.drop H6.out)
        clear H6 HCA g1
        go_wp2
        go_ret
        exact ⟨3, rfl, .bad (by unfold decM; rw [← HN.out]; exact H7.out) HE.out (fun h => by cases h) ⟨rfl, rfl⟩⟩
end
end Go.Proofs.YtbkbkmgogbgofaaDoor
/-
  The landed decoder's readLengths.
-/
namespace Go.Proofs.YtbkbkmgogbgofaaDoor
set_option maxRecDepth 5000
open Go.RowKit
theorem lenStep_of {head : List Int} {l l' : List Nat} {N k q n er : Nat} {ls : List Int} {y : Int} (hs : symF head l = (k, q, 0)) (hr : RunOut k (l.drop q) ls l' y n er) (hN : ls.length < N) :
    (er ≠ 0 → ∃ a, lenStep head l N 0 ls = (true, er, a, ls)) ∧ (er = 0 → N < ls.length + n → ∃ a, lenStep head l N 0 ls = (true, 2, a, ls)) ∧
    (er = 0 → ¬ N < ls.length + n → ∃ a, lenStep head l N 0 ls = (false, 0, a, ls ++ List.replicate n y) ∧ l' = l.drop a) := by
  have hq := (sym_facts hs).2.2
  have hl := len_run (head := head) (bs := l) (N := N) (a := 0) (l := ls) (by rw [List.drop_zero]; exact hs)
  rw [hl, Nat.zero_add]
  cases hr with
  | one h =>
    refine ⟨fun h => absurd rfl h, fun _ h2 => ?_, fun _ _ => ⟨q, ?_, rfl⟩⟩
    · omega
    · rw [run_one h]; rfl
  | none h hl =>
    refine ⟨fun _ => ⟨q, run_none h hl⟩, ?_, ?_⟩
    · intro h; cases h
    · intro h; cases h
  | few h hl ht =>
    refine ⟨fun _ => ⟨q, run_end h hl rfl (by rw [takeM_L hq]; exact ht)⟩, ?_, ?_⟩
    · intro h; cases h
    · intro h; cases h
  | run h hl ht =>
    rename_i more
    have ht2 : takeM l q (wdF k) = some more := by rw [takeM_L hq]; exact ht
    refine ⟨fun h => absurd rfl h, fun _ h2 => ⟨_, run_long h hl rfl rfl ht2 h2⟩, fun _ h2 => ⟨_, run_more h hl rfl rfl ht2 h2, ?_⟩⟩
    rw [List.drop_drop]; rfl
theorem run_small {k n er : Nat} {l l' : List Nat} {ls : List Int} {y : Int} (hb : isBits l) (hr : RunOut k l ls l' y n er) (he : er = 0) : 1 ≤ n ∧ n ≤ 144 := by
  cases hr with
  | one h => exact ⟨by decide, by decide⟩
  | none => cases he
  | few => cases he
  | run h hl ht =>
    rename_i more
    have h1 : more < 2 ^ wdF k := by rw [(takeL_some ht).2]; exact num_lt hb _
    have h2 : wdF k ≤ 7 := by unfold wdF; split; decide; split <;> decide
    have h3 : 2 ^ wdF k ≤ 2 ^ 7 := Nat.pow_le_pow_right (by decide) h2
    have h4 : 3 ≤ baF k ∧ baF k ≤ 11 := by unfold baF; split <;> decide
    have h5 : (2 : Nat) ^ 7 = 128 := rfl
    omega
section
variable {w0 w : World} {Rs : List Thing} {p : Place} {c : DC} {v : Value} {bs l o got : List Nat} {ls : List Int} {Ts : List (List Int × Nat)} {M : Nat}
theorem run_any (k : Nat) (hk : k < 19) (hG : GlobI w0) (hlen : l.length < bigD) (hb : isBits l) (hls : ls.length < 1000) (h : Held w0 w (rdmT (decP p c) v bs l :: ownT 3 1 c.hv ls.length (ints ls) :: Rs)) :
    Calls Tryd.prog 56 #[.pointer (some ⟨p.b, p.o, none⟩), .int .i64 (k : Int)] w fun e w' => ∃ l' y n er, e = .returned (.tuple #[.int .i64 y, .int .i64 ((n : Nat) : Int), .int .i64 ((er : Nat) : Int)]) ∧ RunOut k l ls l' y n er ∧
      Held w0 w' (rdmT (decP p c) v bs l' :: ownT 3 1 c.hv ls.length (ints ls) :: Rs) := by
  by_cases h1 : k < 16
  · exact run_low k h1 h
  · by_cases h2 : k = 16
    · subst h2; exact run_last hG hlen hb hls h
    · exact run_high k (by omega) hG hlen hb h
theorem dec_table {T : List Int} {B : Nat} (hm : (T, B) ∈ Ts) {R1 R2 R3 R4 : Thing} (h : Held w0 w (R1 :: R2 :: R3 :: R4 :: tabsT Ts :: Rs)) : Held w0 w (R1 :: tabT T B :: allT ((Ts.erase (T, B)).map fun t => tabT t.1 t.2) :: R2 :: R3 :: R4 :: Rs) :=
  (tab_out hm (dec_tabs h).swap).third
theorem dec_table' {T : List Int} {B : Nat} (hm : (T, B) ∈ Ts) {R1 R2 R3 R4 : Thing} (h : Held w0 w (R1 :: tabT T B :: allT ((Ts.erase (T, B)).map fun t => tabT t.1 t.2) :: R2 :: R3 :: R4 :: Rs)) : Held w0 w (R1 :: R2 :: R3 :: R4 :: tabsT Ts :: Rs) :=
  dec_tabs' (tab_in hm h.swap.mid).swap
theorem dec_hv {R1 R2 R3 R4 : Thing} (h : Held w0 w (R1 :: R2 :: R3 :: R4 :: Rs)) : Held w0 w (R1 :: R4 :: R2 :: R3 :: Rs) := h.perm (List.Perm.cons _ (List.perm_middle (l₁ := [_, _])))
theorem dec_hv' {R1 R2 R3 R4 : Thing} (h : Held w0 w (R1 :: R4 :: R2 :: R3 :: Rs)) : Held w0 w (R1 :: R2 :: R3 :: R4 :: Rs) := h.perm (List.Perm.cons _ (List.perm_middle (l₁ := [_, _])).symm)
set_option maxHeartbeats 6400000 in
theorem lengths_any (b : Bool) (A B : Nat) (head lx : List Int) (hG : GlobI w0) (h : Held w0 w (decM p c v bs l o got ls Ts Rs)) (hi : DInv M c ls Ts (.len b A B head lx) l o got) :
    Calls Tryd.prog 43 #[.pointer (some ⟨p.b, p.o, none⟩)] w fun e w' => RAns w0 w' p v bs M (.len b A B head lx) c l o got ls Ts Rs e := by
  obtain ⟨i0, hi0, hz0, hz1, hz2⟩ := info_parts infoIntI
  have hcell := hi.cell
  have hfx := hi.fx
  have hph := hi.ok.ph
  have hb := hi.ok.bits
  have hlen := hi.len
  have HI := hid hi
  have HMK := fun (wz : World) (hz : Held w0 wz (decM p c v bs l o got ls Ts Rs)) (hf : A + B ≤ ls.length) => make_any b A B head lx hf hz hi
  obtain ⟨wv, most, room, lv, st, last, left, dist, hA, hB, hC, ht, hv, cl, cd, fl, fd, en⟩ := c
  obtain ⟨rfl, rfl, rfl, rfl, rfl, t0, rfl, hmem⟩ : st = 5 ∧ last = b ∧ hA = A ∧ hB = B ∧ ls = lx ∧ ∃ t, ht = ptrO t ∧ (head, t) ∈ Ts := hcell
  obtain ⟨hA1, hA2, hB1, hB2, hck, hhl, hlsl, hin⟩ := hph
  obtain ⟨N, hN⟩ : ∃ N, N = ls.length := ⟨_, rfl⟩
  have hst : stepM M l o (.len last hA hB head ls) = lenM last hA hB head ls l o := rfl
  unfold lenM at hst
  rw [← hN] at hst
  have h' : Held w0 w (rdmT (decP p ⟨wv, most, room, lv, 5, last, left, dist, hA, hB, hC, some ⟨t0, 0, none⟩, hv, cl, cd, fl, fd, en⟩) v bs l :: ownT 5 1 wv (keep o).length (u8s (keep o)) :: ownT 5 1 lv got.length (u8s got) :: ownT 3 1 hv N (ints ls) :: tabsT Ts :: Rs) := by rw [hN]; exact h
  obtain ⟨ao, cap, rfl, hnc, hcm⟩ := h'.fourth.own.form
  have c11 : w.cell? ⟨p.b, p.o + 8 + 3, none⟩ = some (.int .i64 (hA : Int)) := dcell h' 11 _ rfl
  have c12 : w.cell? ⟨p.b, p.o + 8 + 3 + 1, none⟩ = some (.int .i64 (hB : Int)) := dcell h' 12 _ rfl
  have c15 : w.cell? ⟨p.b, p.o + 8 + 3 + 4, none⟩ = some (.slice ao N cap) := dcell h' 15 _ rfl
  obtain ⟨K, hK⟩ : ∃ K, K = hA + hB - N := ⟨_, rfl⟩
  have hKI : (hA : Int) + (hB : Int) - (N : Int) = (K : Int) := by omega
  by_cases hfull : hA + hB ≤ N
  · have hK0 : K = 0 := by omega
    have HM2 := hid (fun n : Nat => HMK (w.drewN n) (h.drewN n) (by rw [← hN]; exact hfull))
    subst hK0
    clear h h' hi hst hfx hmem hin hN hK HMK hb hlen
    go_enter Tryd.func43, Tryd.ntmps43
    go_wp2
    go_quiet (fail)
    go_wp2_with fail
    with_reducible refine (HM2.out _).mono ?_
    rintro e w2 ⟨er, rfl, hR⟩
    have HR := hid hR
    clear hR HM2
    go_wp2
    go_ret
    exact ⟨er, rfl, HR.out⟩
  · rw [if_neg hfull] at hst
    have hKB : ((K : Int) == 0) = false := by simp; omega
    have hK0 : ¬ (K : Int) = 0 := by omega
    have hK1 : 1 ≤ K ∧ K < 1000 := by omega
    have HST := hid hst
    have HMEM := hid hmem
    have HN := hid (And.intro hN (And.intro hK (And.intro hhl (And.intro hin hlsl))))
    have HB := hid (And.intro hb (And.intro hlen (fine_of hck)))
    have HFX := hid hfx
    have H1 := hid h'
    have hNb : N < 1000 := by omega
    clear h h' hi hst hfx hmem hin hN hK HMK hb hlen hck hhl
    go_enter Tryd.func43, Tryd.ntmps43
    go_wp2
    go_quiet (fail)
    go_wp2
    generalize hw2 : w.drewN _ = w2
    have H2 : Hid (Held w0 w2 _) := hid (by rw [← hw2]; exact H1.out.drewN _)
    have c14 : w2.cell? ⟨p.b, p.o + 8 + 3 + 3, none⟩ = some (.pointer (some ⟨t0, 0, none⟩)) := dcell H2.out 14 _ rfl
    have HNX := hid (dnext head t0 (dec_table HMEM.out H2.out.drew) HB.out.2.2 HB.out.1 HB.out.2.1)
    clear H1 H2 hw2 c11 c12 c15
    go_region_held3 (fun w' => w'.cell? ⟨p.b, p.o + 8 + 3 + 3, none⟩ = some (.pointer (some ⟨t0, 0, none⟩))) (first | exact d14 | exact c14 | go_keep)
      ((go_at_call 55; go_must (refine HNX.out.mono ?_); rintro e' w4 ⟨k, q, er, rfl, hh, HRI⟩; have H4 := hid (dec_table' HMEM.out hh); have d14 : w4.cell? ⟨p.b, p.o + 8 + 3 + 3, none⟩ = some (.pointer (some ⟨t0, 0, none⟩)) := dcell hh 14 _ rfl; clear hh HNX))
    all_goals
      have hsy := symF_of HB.out.1 HB.out.2.2.1 HRI.out
      have hk0 : (0 : Int) ≤ (k : Int) := Int.natCast_nonneg _
      clear d14
      by_cases he : er = 0
      · subst he
        have hk19 := (sym_facts hsy).1
        rw [HN.out.2.2.1] at hk19
        have HSY := hid hsy
        have HRN := run_any k hk19 hG (by rw [List.length_drop]; have := HB.out.2.1; omega) (isBits_drop HB.out.1 q) (by rw [← HN.out.1]; exact hNb) (by rw [← HN.out.1]; exact dec_hv H4.out)
        rw [← HN.out.1] at HRN
        have HRN := hid HRN
        clear hsy HRI H4
        go_wp2_with fail
        with_reducible refine HRN.out.mono ?_
        rintro e w5 ⟨l', y, n, er2, rfl, hro, h5⟩
        have H5 := hid (dec_hv' h5)
        have HL := hid (lenStep_of (N := hA + hB) HSY.out hro (by rw [← HN.out.1]; omega))
        have HSM := hid (run_small (isBits_drop HB.out.1 q) hro)
        have hn0 : (0 : Int) ≤ (n : Int) := Int.natCast_nonneg _
        clear hro h5 HRN
        by_cases he2 : er2 = 0
        · subst he2
          obtain ⟨hn1, hn144⟩ := HSM.out rfl
          by_cases hnK : K < n
          · obtain ⟨a, ha⟩ := HL.out.2.1 rfl (by have := HN.out.1; have := HN.out.2.1; omega)
            have HE : Hid (stepM M l o (.len last hA hB head ls) = .err 2) := by
              rw [HST.out, ha]; exact hid rfl
            have hnKI : (K : Int) < (n : Int) := by omega
            clear ha hnK
            go_wp2
            go_ret
            exact ⟨2, rfl, .bad (by unfold decM; rw [← HN.out.1]; exact H5.out) HE.out (fun h => by cases h) ⟨rfl, rfl⟩⟩
          · obtain ⟨a, ha, hla⟩ := HL.out.2.2 rfl (by have := HN.out.1; have := HN.out.2.1; omega)
            have HE : Hid (stepM M l o (.len last hA hB head ls) = .go (.len last hA hB head (ls ++ List.replicate n y)) l' o) := by
              rw [HST.out, ha, hla]; exact hid rfl
            have hnKI : ¬ (K : Int) < (n : Int) := by omega
            have HRP := hid (rep_at H5.out.drew y n ⟨hn1, hn144⟩)
            have c15 : w5.cell? ⟨p.b, p.o + 8 + 3 + 4, none⟩ = some (.slice ao N cap) := dcell H5.out 15 _ rfl
            have ca15 : ∀ ob, (w5.alloc ob).cell? ⟨p.b, p.o + 8 + 3 + 4, none⟩ = some (.slice ao N cap) := fun ob => dcell (H5.out.alloc ob) 15 _ rfl
            clear ha hnK hla HSM HL
            go_wp2
            go_region_law ((first
              | (refine step_app _ (by rfl) (.tmp 63) (.tmp 67) 46 (by rfl) 3 i0 (.int .i64 0) 1 8 Tryd.underlying46 hi0 hz0 hz1 hz2 (by rfl) (by decide) (.slice ao N cap) N (ints ls) (by rfl) (by exact H7.out.own) (.slice ao2 n cap2) n (ints (List.replicate n y)) (by rfl) (by exact H7.out.swap.own.rd) (ints_one _) (by unfold maxLen; omega) (by omega) ?_; intro ao1 cap1 w8 hown1 hgrow hat; have H8 := hid (H7.out.app hown1 hgrow hat); have d15 : w8.cell? ⟨p.b, p.o + 8 + 3 + 4, none⟩ = some (.slice ao N cap) := dcell H8.out.third 15 _ rfl; have g15 : w8.frozen? ⟨p.b, p.o + 8 + 3 + 4, none⟩ = false := dfroz H8.out.third 15; clear hown1 hgrow hat)
              | (go_simp; go_at_call 57; go_must (refine HRP.out.mono ?_); rintro e' w6 ⟨ao2, cap2, rfl, hh⟩; have H7 := hid (hh.perm (List.perm_middle (l₁ := [_, _, _, _]))); have k15 : w6.cell? ⟨p.b, p.o + 8 + 3 + 4, none⟩ = some (.slice ao N cap) := dcell H7.out.third 15 _ rfl; clear hh)))
            all_goals
              have h9 := dset H8.out.third 15 (.slice ao1 (N + n) cap1) ⟨wv, most, room, lv, 5, last, left, dist, hA, hB, hC, some ⟨t0, 0, none⟩, .slice ao1 (N + n) cap1, cl, cd, fl, fd, en⟩ rfl
              have H10 := hid (dec_hv' h9.third.drop)
              clear h9 H8 d15 g15
              go_wp2
              go_ret
              refine ⟨0, rfl, ROut.on (ls' := ls ++ List.replicate n y) (Ts' := Ts) (c' := ⟨wv, most, room, lv, 5, last, left, dist, hA, hB, hC, some ⟨t0, 0, none⟩, .slice ao1 (N + n) cap1, cl, cd, fl, fd, en⟩) HI.out HE.out ?_ ⟨rfl, rfl, rfl, rfl, rfl, t0, rfl, HMEM.out⟩ HFX.out rfl rfl⟩
              unfold decM
              rw [List.length_append, List.length_replicate, ← HN.out.1, ints_append]
              exact H10.out
        · obtain ⟨a, ha⟩ := HL.out.1 he2
          have HE : Hid (stepM M l o (.len last hA hB head ls) = .err er2) := by
            rw [HST.out, ha]; exact hid rfl
          have heB : ((er2 : Int) == 0) = false := by simp; omega
          have heI : ¬ (er2 : Int) = 0 := by omega
          clear ha he2
          go_wp2
          go_ret
          exact ⟨er2, rfl, .bad (by unfold decM; rw [← HN.out.1]; exact H5.out) HE.out (fun _ => ⟨rfl, rfl, rfl⟩) ⟨rfl, rfl⟩⟩
      · have HE : Hid (stepM M l o (.len last hA hB head ls) = .err er) := by
          rw [HST.out, len_err (by rw [List.drop_zero]; exact hsy) he]; exact hid rfl
        have heB : ((er : Int) == 0) = false := by simp; omega
        have heI : ¬ (er : Int) = 0 := by omega
        clear hsy he HRI
        go_wp2
        go_ret
        exact ⟨er, rfl, .bad (by unfold decM; rw [← HN.out.1]; exact H4.out) HE.out (fun _ => ⟨rfl, rfl, rfl⟩) ⟨rfl, rfl⟩⟩
end
end Go.Proofs.YtbkbkmgogbgofaaDoor
