/-
  slices.Backward over the rows, as the program calls it.
-/
import Derived.Test.YtdmnfjicjjlnnaaGreatDoorDm18
import Derived.Test.YtdmnfjicjjlnnaaGreatDoorDm19
import Derived.Sort.LoopGhostIn
namespace Go.Proofs.YtdmnfjicjjlnnaaGreatDoor
set_option maxRecDepth 5000
open Go.RowKit
attribute [local go_sem] Oper.semAt_some
theorem backward_any (v : Value) (w : World) (hv : ∃ a n c, v = .slice a n c) :
    Calls Tryz.prog 106 #[v] w fun e w' => e = .returned (.func (.func 119) #[] #[.pointer (some ⟨w.heap.size, 0, none⟩)]) ∧ w' = w.alloc (.cells #[v] 149) := by
  obtain ⟨a, n, c, rfl⟩ := hv
  go_enter Tryz.func106, Tryz.ntmps106
  go_wp2
  go_ret
  exact ⟨rfl, rfl⟩
set_option maxRecDepth 100000 in
set_option maxHeartbeats 2000000 in
theorem backward_in (F : Fence) (n : Nat) (hf : F.fn 119) (hro : F.round = none) (hn : 1 ≤ n) (l C B m : Nat) (vals : Nat → Value) (hm : m ≤ 15) (hvals : ∀ t, ∃ a k c, vals t = .slice a k c)
    (J : Nat → World → Prop) (hJ : ∀ k W, J k W → W.cell? ⟨C, 0, none⟩ = some (.slice (some ⟨B, 0, none⟩) m m) ∧ ∀ t, t < m → W.cell? ⟨B, t, none⟩ = some (vals t))
    (hY : ∀ k W, k < m → J k W → YieldAt F (n - 1) Tryz.prog l #[.int .i64 ((m - 1 - k : Nat) : Int), vals (m - 1 - k)] W fun e W' => e = .returned (.bool true) ∧ J (k + 1) W')
    (W : World) (h0 : J 0 W) :
    CallsIn F n Tryz.prog 119 #[.func (.yield l) #[] #[], .pointer (some ⟨C, 0, none⟩)] W fun e W' => (∃ v, e = .returned v) ∧ J m W' := by
  have hC := (hJ 0 W h0).1
  have hm0 : (0 : Int) ≤ (m : Int) := Int.natCast_nonneg _
  refine callsIn_of_wp Tryz.func119 rfl hf ?_ hro
  simp only [Tryz.ntmps119, List.size_toArray, List.length_cons, List.length_nil, Nat.reduceAdd, Nat.reduceSub, Array.replicate_succ, Array.replicate_zero, List.push_toArray, List.append_toArray, List.nil_append, List.cons_append]
  gi_wp2
  gi_loopg [3] (m + 1) (fun g p wr => ∃ (k : Nat), k ≤ m ∧ m - k < g ∧ p = .int .i64 ((m : Int) - 1 - (k : Int)) ∧ Hid (J k wr))
  case atStart => exact ⟨0, by omega, by omega, by simp, h0⟩
  case round =>
    obtain ⟨k, hk, hg, rfl, HJ⟩ := hrel
    by_cases hlt : k < m
    · have c0 := (hJ k wr HJ.out).1
      obtain ⟨q, hq⟩ : ∃ q, q = m - 1 - k := ⟨_, rfl⟩
      have hqm : q < m := by omega
      have hqI : (m : Int) - 1 - (k : Int) = (q : Int) := by omega
      have hq0 : (0 : Int) ≤ (q : Int) := Int.natCast_nonneg _
      have c1 := (hJ k wr HJ.out).2 q hqm
      obtain ⟨va, vk, vc, hv⟩ := hvals q
      rw [hv] at c1
      obtain ⟨fn, tmps, assign, body, hy, hR⟩ := hY k wr hlt HJ.out
      rw [← hq, hv] at hy
      have HQ := hid hq
      clear hq
      gi_wp2
      refine hR.mono ?_
      rintro e W3 ⟨rfl, hJ3⟩
      have HJ3 := hid hJ3
      clear hJ3
      gi_wp2
      gi_roundg (gk - 1)
      case measure => omega
      case rel => exact ⟨k + 1, by omega, by omega, by go_num, HJ3⟩
    · obtain rfl : k = m := by omega
      have hlI : (k : Int) - 1 - (k : Int) = -1 := by omega
      gi_wp2
      go_end0
      exact ⟨⟨_, rfl⟩, HJ⟩
end Go.Proofs.YtdmnfjicjjlnnaaGreatDoor
/-
  Two ranges of items changed for each other.
-/
namespace Go.Proofs.YtdmnfjicjjlnnaaGreatDoor
set_option maxRecDepth 5000
open Go.RowKit
theorem itm_form {w0 w : World} {v : Value} {l : List Itm} {Rs : List Thing} (h : Held w0 w (itmT v l :: Rs)) : ∃ ao cap, v = .slice ao l.length cap ∧ l.length ≤ cap ∧ cap ≤ maxLen := h.own.form
set_option maxHeartbeats 800000 in
theorem swaprange_any (a b n N : Nat) (P U M V S : List Itm) (v c : Value) (w0 w : World) (Rs : List Thing) (h : Held w0 w (itmT v (P ++ (U ++ (M ++ (V ++ S)))) :: Rs)) (hN : (P ++ (U ++ (M ++ (V ++ S)))).length = N) (hN2 : N ≤ 100000)
    (ha : P.length = a) (hb : (P ++ (U ++ M)).length = b) (hU : U.length = n) (hV : V.length = n) :
    Calls Tryz.prog 131 #[v, .int .i64 (a : Int), .int .i64 (b : Int), .int .i64 (n : Int), c] w fun e w' => e = .returned (.tuple #[]) ∧ Held w0 w' (itmT v (P ++ (V ++ (M ++ (U ++ S)))) :: Rs) := by
  have h0 : (0 : Int) ≤ (a : Int) := Int.natCast_nonneg _
  have h1 : (0 : Int) ≤ (b : Int) := Int.natCast_nonneg _
  have h2 : (0 : Int) ≤ (n : Int) := Int.natCast_nonneg _
  have HL : Hid (P.length = a ∧ (P ++ (U ++ M)).length = b ∧ U.length = n ∧ V.length = n ∧ (P ++ (U ++ (M ++ (V ++ S)))).length = N) := hid ⟨ha, hb, hU, hV, hN⟩
  have hbn : b + n ≤ N := by simp at hN hb; omega
  have han : a + n ≤ b := by simp at hb; omega
  obtain ⟨ao, cap, rfl, hc1, hc2⟩ := itm_form h
  rw [hN] at hc1 h ⊢
  have H := hid h
  clear h hN ha hb hU hV
  go_enter Tryz.func131, Tryz.ntmps131
  go_wp2
  go_loopg [10] (n + 1) (fun k t10 wr => ∃ (i : Nat) (U1 U2 V1 V2 : List Itm), i ≤ n ∧ n - i < k ∧ t10 = .int .i64 (i : Int) ∧ Hid (U = U1 ++ U2 ∧ V = V1 ++ V2 ∧ U1.length = i ∧ V1.length = i) ∧
    Hid (Held w0 wr (itmT (.slice ao N cap) (P ++ (V1 ++ (U2 ++ (M ++ (U1 ++ (V2 ++ S)))))) :: Rs)))
  case atStart => exact ⟨0, [], U, [], V, by omega, by omega, rfl, hid ⟨rfl, rfl, rfl, rfl⟩, H⟩
  case round =>
    obtain ⟨i, U1, U2, V1, V2, hi, hk, rfl, HE, HH⟩ := hrel
    have h3 : (0 : Int) ≤ (i : Int) := Int.natCast_nonneg _
    by_cases hin : i < n
    · have hin2 : (i : Int) < (n : Int) := by omega
      obtain ⟨e1, e2, e3, e4⟩ := HE.out
      obtain ⟨l1, l2, l3, l4, l5⟩ := HL.out
      match U2, V2, e1, e2 with
      | [], _, e1, _ => exfalso; rw [e1] at l3; simp at l3; omega
      | _ :: _, [], _, e2 => exfalso; rw [e2] at l4; simp at l4; omega
      | x :: U2, y :: V2, e1, e2 =>
        have HL1 : Hid ((P ++ V1).length = a + i ∧ (P ++ V1).length + 1 + (U2 ++ (M ++ U1)).length = b + i) := by
          refine hid ⟨by simp; omega, ?_⟩
          rw [e1] at l3 l2
          simp at l2 l3 ⊢; omega
        have HL2 : Hid (P ++ (V1 ++ (x :: U2 ++ (M ++ (U1 ++ (y :: V2 ++ S))))) = (P ++ V1) ++ x :: (U2 ++ (M ++ U1)) ++ y :: (V2 ++ S)) := hid (by simp)
        have hh := HH.out
        rw [HL2.out] at hh
        have hj2 : (P ++ V1 ++ x :: (U2 ++ (M ++ U1)) ++ y :: (V2 ++ S))[b + i]? = some y := by
          rw [← HL1.out.2, List.getElem?_append_right (by simp; omega), show (P ++ V1).length + 1 + (U2 ++ (M ++ U1)).length - (P ++ V1 ++ x :: (U2 ++ (M ++ U1))).length = 0 by simp; omega]; rfl
        obtain ⟨g, off, rfl, c1, c2, c3, c4, hf, HS⟩ := hh.swap2 (i := a + i) (j := b + i) (x := x) (y := y) (by rw [← HL1.out.1]; simp) hj2
        have HJ : Hid (swp (P ++ V1 ++ x :: (U2 ++ (M ++ U1)) ++ y :: (V2 ++ S)) (a + i) (b + i) x y = P ++ ((V1 ++ [y]) ++ (U2 ++ (M ++ ((U1 ++ [x]) ++ (V2 ++ S)))))) := by
          have h := swp_is (P ++ V1) (U2 ++ (M ++ U1)) (V2 ++ S) x y
          rw [HL1.out.2, HL1.out.1] at h
          refine hid (h.trans (by simp))
        clear hh e1 e2 e3 e4 l1 l2 l3 l4 l5 hj2
        go_wp2
        go_region
        go_wp2
        go_roundg (gk - 1)
        case measure => omega
        case rel =>
          refine ⟨i + 1, U1 ++ [x], U2, V1 ++ [y], V2, by omega, by omega, by go_num, ?_, ?_⟩
          · obtain ⟨e1, e2, e3, e4⟩ := HE.out
            exact hid ⟨by rw [e1]; simp, by rw [e2]; simp, by simp [e3], by simp [e4]⟩
          · have h := HS.out.drew
            rw [HJ.out] at h
            exact h
    · have hin2 : ¬ (i : Int) < (n : Int) := by omega
      obtain rfl : i = n := by omega
      have HF : Hid (P ++ (V1 ++ (U2 ++ (M ++ (U1 ++ (V2 ++ S))))) = P ++ (V ++ (M ++ (U ++ S)))) := by
        obtain ⟨e1, e2, e3, e4⟩ := HE.out
        obtain ⟨l1, l2, l3, l4, l5⟩ := HL.out
        have h1 : U2 = [] := List.eq_nil_of_length_eq_zero (by rw [e1, List.length_append] at l3; omega)
        have h2 : V2 = [] := List.eq_nil_of_length_eq_zero (by rw [e2, List.length_append] at l4; omega)
        subst h1; subst h2
        rw [e1, e2]; exact hid (by simp)
      go_wp2
      go_end0
      exact ⟨rfl, by have h := HH.out; rw [HF.out] at h; exact h⟩
set_option maxHeartbeats 800000 in
theorem rotate_any (a m b N : Nat) (P X Y S : List Itm) (v c : Value) (w0 w : World) (Rs : List Thing) (h : Held w0 w (itmT v (P ++ (X ++ (Y ++ S))) :: Rs)) (hN : (P ++ (X ++ (Y ++ S))).length = N) (hN2 : N ≤ 100000)
    (ha : P.length = a) (hm : (P ++ X).length = m) (hb : (P ++ (X ++ Y)).length = b) (hX : 0 < X.length) (hY : 0 < Y.length) :
    Calls Tryz.prog 130 #[v, .int .i64 (a : Int), .int .i64 (m : Int), .int .i64 (b : Int), c] w fun e w' => e = .returned (.tuple #[]) ∧ Held w0 w' (itmT v (P ++ (Y ++ (X ++ S))) :: Rs) := by
  have h0 : (0 : Int) ≤ (a : Int) := Int.natCast_nonneg _
  have h1 : (0 : Int) ≤ (b : Int) := Int.natCast_nonneg _
  have h2 : (0 : Int) ≤ (m : Int) := Int.natCast_nonneg _
  obtain ⟨i0, hi0⟩ : ∃ i, i = X.length := ⟨_, rfl⟩
  obtain ⟨j0, hj0⟩ : ∃ j, j = Y.length := ⟨_, rfl⟩
  have e1 : (m : Int) - (a : Int) = (i0 : Int) := by simp at hm; omega
  have e2 : (b : Int) - (m : Int) = (j0 : Int) := by simp at hm hb; omega
  have hmN : m ≤ N := by simp at hm hN; omega
  have hbN : b ≤ N := by simp at hb hN; omega
  have hnn : i0 + j0 ≤ N := by simp at hN; omega
  have HL : Hid ((P ++ X).length = m ∧ (P ++ (X ++ (Y ++ S))).length = N ∧ X.length = i0 ∧ Y.length = j0) := hid ⟨hm, hN, hi0.symm, hj0.symm⟩
  have H := hid h
  have hi1 : 0 < i0 := by omega
  have hj1 : 0 < j0 := by omega
  clear h hN ha hm hb hX hY hi0 hj0
  have e1' := hid e1
  have e2' := hid e2
  go_enter Tryz.func130, Tryz.ntmps130
  go_wp2
  clear e1 e2
  go_loopg [10, 11] (i0 + j0 + 1) (fun k t10 t11 wr => ∃ (i j : Nat) (P1 U V S1 : List Itm), i + j < k ∧ t10 = .int .i64 (i : Int) ∧ t11 = .int .i64 (j : Int) ∧ 0 < i ∧ 0 < j ∧ i ≤ N ∧ j ≤ N ∧ m + j ≤ N ∧ i ≤ m ∧
    Hid (U.length = i ∧ V.length = j ∧ (P1 ++ U).length = m ∧ (P1 ++ (U ++ (V ++ S1))).length = N ∧ P1 ++ (V ++ (U ++ S1)) = P ++ (Y ++ (X ++ S))) ∧
    Hid (Held w0 wr (itmT v (P1 ++ (U ++ (V ++ S1))) :: Rs)))
  case atStart =>
    refine ⟨i0, j0, P, X, Y, S, by omega, by go_num, by go_num, by omega, by omega, by omega, by omega, ?_, ?_, hid ⟨HL.out.2.2.1, HL.out.2.2.2, HL.out.1, HL.out.2.1, rfl⟩, H⟩
    · have := HL.out; simp at this; omega
    · have := HL.out; simp at this; omega
  case round =>
    obtain ⟨i, j, P1, U, V, S1, hk, rfl, rfl, hi, hj, hiN, hjN, hmj, him, HE, HH⟩ := hrel
    have h3 : (0 : Int) ≤ (i : Int) := Int.natCast_nonneg _
    have h4 : (0 : Int) ≤ (j : Int) := Int.natCast_nonneg _
    have em : (m : Int) - (i : Int) = ((m - i : Nat) : Int) := by omega
    rcases Nat.lt_trichotomy i j with hij | hij | hij
    · have d1 : ¬ (i : Int) = (j : Int) := by omega
      have d2 : ¬ (j : Int) < (i : Int) := by omega
      have ej : (m : Int) + (j : Int) - (i : Int) = ((m + j - i : Nat) : Int) := by omega
      obtain ⟨l1, l2, l3, l4, l5⟩ := HE.out
      obtain ⟨V1, V2, rfl, hv1, hv2⟩ : ∃ V1 V2, V = V1 ++ V2 ∧ V1.length = j - i ∧ V2.length = i := ⟨V.take (j - i), V.drop (j - i), (List.take_append_drop _ _).symm, by simp; omega, by simp; omega⟩
      have HR := hid (swaprange_any (m - i) (m + j - i) i N P1 U V1 V2 S1 v c w0 wr Rs (by have h := HH.out; simpa using h) (by rw [← l4]; simp) hN2 (by simp at l3; omega) (by simp at l3 ⊢; omega) l1 hv2)
      have HG : Hid (V2.length = i ∧ V1.length = j - i ∧ (P1 ++ V2).length = m ∧ (P1 ++ (V2 ++ (V1 ++ (U ++ S1)))).length = N ∧ P1 ++ (V1 ++ (V2 ++ (U ++ S1))) = P ++ (Y ++ (X ++ S))) := by
        refine hid ⟨hv2, hv1, by simp at l3 ⊢; omega, ?_, by rw [← l5]; simp⟩
        simp at l4 ⊢; omega
      clear l1 l2 l3 l4 l5 hv1 hv2
      go_wp2_with fail
      refine HR.out.mono ?_
      rintro e w1 ⟨rfl, hh⟩
      have HH1 := hid hh
      clear hh
      have ed : (j : Int) - (i : Int) = ((j - i : Nat) : Int) := by omega
      go_wp2
      go_roundg (gk - 1)
      case measure => omega
      case rel => exact ⟨i, j - i, P1, V2, V1, U ++ S1, by omega, rfl, by go_num, by omega, by omega, by omega, by omega, by omega, by omega, HG, HH1⟩
    · subst hij
      obtain ⟨l1, l2, l3, l4, l5⟩ := HE.out
      have HR := hid (swaprange_any (m - i) m i N P1 U [] V S1 v c w0 wr Rs (by have h := HH.out; simpa using h) (by rw [← l4]; simp) hN2 (by simp at l3; omega) (by simp at l3 ⊢; omega) l1 l2)
      have HG : Hid (P1 ++ (V ++ ([] ++ (U ++ S1))) = P ++ (Y ++ (X ++ S))) := hid (by rw [← l5]; simp)
      clear l1 l2 l3 l4 l5
      go_wp2_with fail
      refine HR.out.mono ?_
      rintro e w1 ⟨rfl, hh⟩
      rw [HG.out] at hh
      have HH1 := hid hh
      clear hh
      go_wp2
      go_end0
      exact ⟨rfl, HH1⟩
    · have d1 : ¬ (i : Int) = (j : Int) := by omega
      have d2 : (j : Int) < (i : Int) := by omega
      obtain ⟨l1, l2, l3, l4, l5⟩ := HE.out
      obtain ⟨U1, U2, rfl, hv1, hv2⟩ : ∃ U1 U2, U = U1 ++ U2 ∧ U1.length = j ∧ U2.length = i - j := ⟨U.take j, U.drop j, (List.take_append_drop _ _).symm, by simp; omega, by simp; omega⟩
      have HR := hid (swaprange_any (m - i) m j N P1 U1 U2 V S1 v c w0 wr Rs (by have h := HH.out; simpa using h) (by rw [← l4]; simp) hN2 (by simp at l3; omega) (by simp at l3 ⊢; omega) hv1 l2)
      have HG : Hid (U2.length = i - j ∧ U1.length = j ∧ ((P1 ++ V) ++ U2).length = m ∧ ((P1 ++ V) ++ (U2 ++ (U1 ++ S1))).length = N ∧ (P1 ++ V) ++ (U1 ++ (U2 ++ S1)) = P ++ (Y ++ (X ++ S))) := by
        refine hid ⟨hv2, hv1, by simp at l3 ⊢; omega, ?_, by rw [← l5]; simp⟩
        simp at l4 ⊢; omega
      have HE2 : Hid (P1 ++ (V ++ (U2 ++ (U1 ++ S1))) = (P1 ++ V) ++ (U2 ++ (U1 ++ S1))) := hid (by simp)
      clear l1 l2 l3 l4 l5 hv1 hv2
      go_wp2_with fail
      refine HR.out.mono ?_
      rintro e w1 ⟨rfl, hh⟩
      rw [HE2.out] at hh
      have HH1 := hid hh
      clear hh
      have ed : (i : Int) - (j : Int) = ((i - j : Nat) : Int) := by omega
      go_wp2
      go_roundg (gk - 1)
      case measure => omega
      case rel => exact ⟨i - j, j, P1 ++ V, U2, U1, S1, by omega, by go_num, rfl, by omega, by omega, by omega, by omega, by omega, by omega, HG, HH1⟩
end Go.Proofs.YtdmnfjicjjlnnaaGreatDoor
/-
  Items sorted by insertion.
-/
namespace Go.Proofs.YtdmnfjicjjlnnaaGreatDoor
set_option maxRecDepth 5000
open Go.RowKit
theorem swp_back (A C : List Itm) (x y : Itm) : swp (A ++ y :: x :: C) (A.length + 1) A.length x y = A ++ x :: y :: C := by
  unfold swp
  rw [List.set_append_right _ _ (by omega), show A.length + 1 - A.length = 1 by omega, List.set_cons_succ, List.set_cons_zero, List.set_append_right _ _ (Nat.le_refl _), Nat.sub_self, List.set_cons_zero]
theorem cmpI_lt (a b : Nat) : decide (cmpI a b < 0) = decide (a < b) := by
  unfold cmpI
  by_cases h1 : a < b
  · simp [h1]
  · by_cases h2 : b < a
    · simp [h1, h2]
    · simp [h1, h2]
theorem ins_done (Z1 s1 s2 : List Itm) (x : Itm) (h : ssort Z1 = s1 ++ s2) (h2 : ∀ y ∈ s2, x.1 < y.1) (h1 : ∀ y ∈ s1, y.1 ≤ x.1) : ssort (Z1 ++ [x]) = s1 ++ x :: s2 := by
  rw [ssort_app, h]
  have ha := ssort_asc Z1
  rw [h] at ha
  exact mrg_one_right x s1 s2 ha h1 h2
theorem asc_last (s3 : List Itm) (y x : Itm) (h : Asc (s3 ++ [y])) (hx : y.1 ≤ x.1) : ∀ z ∈ s3 ++ [y], z.1 ≤ x.1 := by
  intro z hz
  rcases List.mem_append.1 hz with hz | hz
  · have := ((asc_app s3 [y]).1 h).2.2 z hz y (by simp); omega
  · rw [List.mem_singleton.1 hz]; exact hx
def cmpV : Value := .func (.func 122) #[] #[]
set_option maxHeartbeats 800000 in
theorem insertion_any (a b N : Nat) (P Z S : List Itm) (v : Value) (w0 w : World) (Rs : List Thing) (h : Held w0 w (itmT v (P ++ (Z ++ S)) :: Rs)) (hN : (P ++ (Z ++ S)).length = N) (hN2 : N ≤ 100000)
    (ha : P.length = a) (hb : (P ++ Z).length = b) :
    Calls Tryz.prog 128 #[v, .int .i64 (a : Int), .int .i64 (b : Int), cmpV] w fun e w' => e = .returned (.tuple #[]) ∧ Held w0 w' (itmT v (P ++ (ssort Z ++ S)) :: Rs) := by
  unfold cmpV
  have h0 : (0 : Int) ≤ (a : Int) := Int.natCast_nonneg _
  have h1 : (0 : Int) ≤ (b : Int) := Int.natCast_nonneg _
  have hab : a ≤ b := by simp at hb; omega
  have hbN : b ≤ N := by simp at hb hN; omega
  have hZ : Z.length = b - a := by simp at hb; omega
  obtain ⟨ao, cap, rfl, hc1, hc2⟩ := itm_form h
  rw [hN] at hc1 h ⊢
  have HL : Hid (P.length = a ∧ Z.length = b - a ∧ (P ++ (Z ++ S)).length = N) := hid ⟨ha, hZ, hN⟩
  have H := hid h
  clear h hN ha hb hZ
  go_enter Tryz.func128, Tryz.ntmps128
  go_wp2
  go_loopg [8] (N + 3) (fun k t8 wr => ∃ (i : Nat) (Z1 Z2 : List Itm), i ≤ N + 1 ∧ N + 2 - i < k ∧ t8 = .int .i64 (i : Int) ∧ Hid (Z = Z1 ++ Z2 ∧ a + Z1.length = min i b ∧ a < i) ∧
    Hid (Held w0 wr (itmT (.slice ao N cap) (P ++ (ssort Z1 ++ (Z2 ++ S))) :: Rs)))
  case atStart =>
    cases hz : Z with
    | nil =>
      refine ⟨a + 1, [], [], by omega, by omega, by go_num, hid ⟨rfl, ?_, by omega⟩, ?_⟩
      · have := HL.out.2.1; rw [hz] at this; simp at this ⊢; omega
      · have h := H.out; rw [hz] at h; exact h
    | cons z Z' =>
      refine ⟨a + 1, [z], Z', ?_, by omega, by go_num, hid ⟨rfl, ?_, by omega⟩, ?_⟩
      · omega
      · have := HL.out.2.1; rw [hz] at this; simp at this ⊢; omega
      · have h := H.out; rw [hz] at h; exact h
  case round =>
    obtain ⟨i, Z1, Z2, hi, hk, rfl, HE, HH⟩ := hrel
    obtain ⟨gx, rfl⟩ : ∃ g, g = gk := ⟨gk, rfl⟩
    have h3 : (0 : Int) ≤ (i : Int) := Int.natCast_nonneg _
    by_cases hib : i < b
    · have hib2 : (i : Int) < (b : Int) := by omega
      obtain ⟨e1, e2, e3⟩ := HE.out
      have hZ2 : Z2 ≠ [] := by
        intro e
        rw [e, List.append_nil] at e1
        have := HL.out.2.1
        rw [e1] at this; omega
      obtain ⟨x, Z3, rfl⟩ : ∃ x Z3, Z2 = x :: Z3 := by
        cases Z2 with
        | nil => exact absurd rfl hZ2
        | cons x Z3 => exact ⟨x, Z3, rfl⟩
      have HZ : Hid (Z = Z1 ++ (x :: Z3) ∧ a + Z1.length = i ∧ a < i) := hid ⟨e1, by omega, e3⟩
      clear e1 e2 e3 hZ2 HE
      go_wp2
      go_loopg [9] (i + 1) (fun k t9 wq => ∃ (j : Nat) (s1 s2 : List Itm), a ≤ j ∧ j ≤ i ∧ j < k ∧ t9 = .int .i64 (j : Int) ∧ Hid (ssort Z1 = s1 ++ s2 ∧ a + s1.length = j ∧ ∀ y ∈ s2, x.1 < y.1) ∧
        Hid (Held w0 wq (itmT (.slice ao N cap) (P ++ (s1 ++ (x :: s2 ++ (Z3 ++ S)))) :: Rs)))
      case atStart =>
        refine ⟨i, ssort Z1, [], ?_, by omega, by omega, rfl, hid ⟨by simp, ?_, by simp⟩, ?_⟩
        · have := HZ.out.2.2; omega
        · rw [ssort_length]; exact HZ.out.2.1
        · have h := HH.out; exact hid (by simpa using h)
      case round =>
        obtain ⟨j, s1, s2, haj, hji, hk2, rfl, HF, HJ⟩ := hrel
        have h4 : (0 : Int) ≤ (j : Int) := Int.natCast_nonneg _
        by_cases hja : j = a
        · subst hja
          have hb0 : decide ((j : Int) < (j : Int)) = false := by simp
          have HD : Hid (ssort (Z1 ++ [x]) = s1 ++ x :: s2) := by
            obtain ⟨f1, f2, f3⟩ := HF.out
            obtain rfl : s1 = [] := List.eq_nil_of_length_eq_zero (by omega)
            exact hid (ins_done Z1 [] s2 x f1 f3 (by simp))
          go_wp2
          go_quiet (fail)
          have HJ2 := hid (HJ.out.drewN nq)
          generalize wr.drewN nq = w3 at HJ2 ⊢
          go_wp2
          go_roundg (gx - 1)
          case measure => omega
          case rel =>
            refine ⟨i + 1, Z1 ++ [x], Z3, by omega, by omega, by go_num, hid ⟨by rw [HZ.out.1]; simp, ?_, by omega⟩, ?_⟩
            · have := HZ.out.2.1; simp; omega
            · rw [HD.out]; have h := HJ2.out; exact hid (by simpa using h)
        · have hja2 : (a : Int) < (j : Int) := by omega
          have hb0 : decide ((a : Int) < (j : Int)) = true := by simp; omega
          obtain ⟨f1, f2, f3⟩ := HF.out
          obtain ⟨s3, y, rfl⟩ : ∃ s3 y, s1 = s3 ++ [y] := by
            have : s1 ≠ [] := fun e => by rw [e] at f2; simp at f2; omega
            exact ⟨s1.dropLast, s1.getLast this, (List.dropLast_concat_getLast this).symm⟩
          have HC : Hid (P ++ ((s3 ++ [y]) ++ (x :: s2 ++ (Z3 ++ S))) = (P ++ s3) ++ y :: x :: (s2 ++ (Z3 ++ S)) ∧ (P ++ s3).length + 1 = j) := by
            refine hid ⟨by simp, ?_⟩
            have := HL.out.1
            simp at f2 ⊢; omega
          have hh := HJ.out
          rw [HC.out.1] at hh
          obtain ⟨j1, hj1⟩ : ∃ j1, j1 = j - 1 := ⟨_, rfl⟩
          have ej : (j : Int) - 1 = (j1 : Int) := by omega
          have hj10 : (0 : Int) ≤ (j1 : Int) := Int.natCast_nonneg _
          have hjN : j < N := by omega
          have hj1N : j1 < N := by omega
          have hw1 : IntKind.i64.wrap (j1 : Int) = (j1 : Int) := wrap_nat j1 (by omega)
          have hj1' := hid hj1
          clear hj1
          obtain ⟨g, off, rfl, c1, c2, c3, c4, hf, HS⟩ := hh.swap2 (i := j) (j := j1) (x := x) (y := y) (by rw [← HC.out.2, List.getElem?_append_right (by omega), show (P ++ s3).length + 1 - (P ++ s3).length = 1 by omega]; rfl) (by rw [show j1 = (P ++ s3).length by have := HC.out.2; have := hj1'.out; omega, List.getElem?_append_right (by omega), Nat.sub_self]; rfl)
          have HH2 := hid hh
          clear hh f1 f2 f3 HS
          have hxy : decide (cmpI (x.1 : Int) (y.1 : Int) < 0) = decide (x.1 < y.1) := cmpI_lt _ _
          go_wp2
          go_still_tail 14, (by kernel_rfl)
          change wpList _ _ _ _ _ wr.drew
          have HH3 := hid HH2.out.drew
          clear c1 c2 c3 c4 hf HH2 HJ HH
          generalize wr.drew = w2 at HH3 ⊢
          go_wp2_with fail
          refine (cmp_any x y _).mono ?_
          rintro e w3 ⟨rfl, hm⟩
          obtain ⟨g', off', hg', c1, c2, c3, c4, hf, HS⟩ := (HH3.out.same hm).swap2 (i := j) (j := j1) (x := x) (y := y) (by rw [← HC.out.2, List.getElem?_append_right (by omega), show (P ++ s3).length + 1 - (P ++ s3).length = 1 by omega]; rfl) (by rw [show j1 = (P ++ s3).length by have := HC.out.2; have := hj1'.out; omega, List.getElem?_append_right (by omega), Nat.sub_self]; rfl)
          simp only [Option.some.injEq, Addr.mk.injEq, and_true] at hg'
          obtain ⟨rfl, rfl⟩ := hg'
          have HH4 := hid (HH3.out.same hm)
          clear hm HH3
          by_cases hlt : x.1 < y.1
          · have hd : decide (x.1 < y.1) = true := by simp [hlt]
            rw [hd] at hxy
            have HE : Hid (swp (P ++ s3 ++ y :: x :: (s2 ++ (Z3 ++ S))) j j1 x y = P ++ (s3 ++ (x :: (y :: s2) ++ (Z3 ++ S)))) := by
              have h := swp_back (P ++ s3) (s2 ++ (Z3 ++ S)) x y
              rw [HC.out.2, show (P ++ s3).length = j1 by have := HC.out.2; have := hj1'.out; omega] at h
              exact hid (h.trans (by simp))
            go_wp2
            go_region
            go_wp2
            go_roundg (gk - 1)
            case measure => have := hj1'.out; omega
            case rel =>
              refine ⟨j1, s3, y :: s2, by omega, by omega, by have := hj1'.out; omega, rfl, ?_, ?_⟩
              · obtain ⟨f1, f2, f3⟩ := HF.out
                refine hid ⟨by rw [f1]; simp, by have := hj1'.out; simp at f2; omega, fun z hz => ?_⟩
                rcases List.mem_cons.1 hz with hz | hz
                · rw [hz]; exact hlt
                · exact f3 z hz
              · have h := HS.out.drew
                rw [HE.out] at h
                exact hid h
          · have hd : decide (x.1 < y.1) = false := by simp [hlt]
            rw [hd] at hxy
            have HD : Hid (ssort (Z1 ++ [x]) = (s3 ++ [y]) ++ x :: s2) := by
              obtain ⟨f1, f2, f3⟩ := HF.out
              have ha := ssort_asc Z1
              rw [f1] at ha
              exact hid (ins_done Z1 (s3 ++ [y]) s2 x f1 f3 (asc_last s3 y x ((asc_app _ _).1 ha).1 (by omega)))
            go_wp2
            go_roundg (gx - 1)
            case measure => omega
            case rel =>
              refine ⟨i + 1, Z1 ++ [x], Z3, by omega, by omega, by go_num, hid ⟨by rw [HZ.out.1]; simp, ?_, by omega⟩, ?_⟩
              · have := HZ.out.2.1; simp; omega
              · rw [HD.out]; have h := HH4.out; rw [← HC.out.1] at h; exact hid (by simpa using h)
    · have hib2 : ¬ (i : Int) < (b : Int) := by omega
      have HD : Hid (P ++ (ssort Z1 ++ (Z2 ++ S)) = P ++ (ssort Z ++ S)) := by
        obtain ⟨e1, e2, e3⟩ := HE.out
        have h2 : Z2 = [] := List.eq_nil_of_length_eq_zero (by have := HL.out.2.1; rw [e1, List.length_append] at this; omega)
        rw [h2, List.append_nil] at e1
        rw [e1, h2]; exact hid rfl
      go_wp2
      go_end0
      exact ⟨rfl, by have h := HH.out; rw [HD.out] at h; exact h⟩
end Go.Proofs.YtdmnfjicjjlnnaaGreatDoor
/-
  Where two sorted ranges are parted for a merge in turns. No program is named here.
-/
namespace Go.Proofs.YtdmnfjicjjlnnaaGreatDoor
set_option maxRecDepth 5000
theorem asc_get : ∀ (l : List Itm), Asc l → ∀ (k k2 : Nat) (x y : Itm), k ≤ k2 → l[k]? = some x → l[k2]? = some y → x.1 ≤ y.1
  | [], _, k, k2, x, y, _, h, _ => by simp at h
  | z :: l, h, 0, 0, x, y, _, h1, h2 => by
    simp only [List.getElem?_cons_zero, Option.some.injEq] at h1 h2
    rw [← h1, ← h2]; exact Nat.le_refl _
  | z :: l, h, 0, k2 + 1, x, y, _, h1, h2 => by
    simp only [List.getElem?_cons_zero, Option.some.injEq] at h1
    rw [← h1]
    exact h.1 y (List.mem_of_getElem? (by simpa using h2))
  | z :: l, h, k + 1, 0, x, y, hk, _, _ => by omega
  | z :: l, h, k + 1, k2 + 1, x, y, hk, h1, h2 => asc_get l h.2 k k2 x y (by omega) (by simpa using h1) (by simpa using h2)
theorem sym_parts (a m b mid s0 r0 s e : Nat) (X Y : List Itm) (hX : a + X.length = m) (hY : m + Y.length = b) (hmid : mid = (a + b) / 2) (hAX : Asc X) (hAY : Asc Y) (hs : s0 ≤ s) (hs2 : s ≤ r0)
    (hcase : (mid < m ∧ s0 + b = mid + m ∧ r0 = mid) ∨ (m ≤ mid ∧ s0 = a ∧ r0 = m)) (he : e + s = mid + m)
    (I1 : s = s0 ∨ ∃ x y, X[s - 1 - a]? = some x ∧ Y[mid + m - s - m]? = some y ∧ x.1 ≤ y.1 ∧ s0 < s)
    (I2 : s = r0 ∨ ∃ x y, X[s - a]? = some x ∧ Y[mid + m - 1 - s - m]? = some y ∧ y.1 < x.1 ∧ s < r0) :
    ∃ X1 X2 Y1 Y2, X = X1 ++ X2 ∧ Y = Y1 ++ Y2 ∧ a + X1.length = s ∧ m + Y1.length = e ∧ (∀ x ∈ X1, ∀ y ∈ Y2, x.1 ≤ y.1) ∧ (∀ y ∈ Y1, ∀ x ∈ X2, y.1 < x.1) := by
  revert I1 I2
  have h1 : a ≤ s := by omega
  have h2 : s ≤ m := by omega
  have h3 : m ≤ e := by omega
  have h4 : e ≤ b := by omega
  have l1 : (X.take (s - a)).length = s - a := by simp; omega
  have l2 : (Y.take (e - m)).length = e - m := by simp; omega
  have c1 : a + (X.take (s - a)).length = s := by omega
  have c2 : m + (Y.take (e - m)).length = e := by omega
  intro I1 I2
  refine ⟨X.take (s - a), X.drop (s - a), Y.take (e - m), Y.drop (e - m), (List.take_append_drop _ _).symm, (List.take_append_drop _ _).symm, c1, c2, fun x hx y hy => ?_, fun y hy x hx => ?_⟩
  · obtain ⟨k, hk⟩ := List.mem_iff_getElem?.1 hx
    obtain ⟨k2, hk2⟩ := List.mem_iff_getElem?.1 hy
    revert I1 I2
    have hkl := (List.getElem?_eq_some_iff.1 hk).1
    have hk2l := (List.getElem?_eq_some_iff.1 hk2).1
    rw [List.length_drop] at hk2l
    rw [List.getElem?_take_of_lt (by omega)] at hk
    rw [List.getElem?_drop] at hk2
    intro I1 I2
    clear I2
    rcases I1 with I1 | ⟨x2, y2, hx2, hy2, hxy, hs3⟩
    · exfalso; omega
    · have g1 := asc_get X hAX k (s - 1 - a) x x2 (by omega) hk hx2
      have g2 := asc_get Y hAY (mid + m - s - m) (e - m + k2) y2 y (by omega) hy2 hk2
      omega
  · obtain ⟨k, hk⟩ := List.mem_iff_getElem?.1 hx
    obtain ⟨k2, hk2⟩ := List.mem_iff_getElem?.1 hy
    revert I1 I2
    have hkl := (List.getElem?_eq_some_iff.1 hk).1
    have hk2l := (List.getElem?_eq_some_iff.1 hk2).1
    rw [List.length_drop] at hkl
    rw [List.getElem?_take_of_lt (by omega)] at hk2
    rw [List.getElem?_drop] at hk
    intro I1 I2
    clear I1
    rcases I2 with I2 | ⟨x2, y2, hx2, hy2, hxy, hs3⟩
    · exfalso; omega
    · have g1 := asc_get X hAX (s - a) (s - a + k) x2 x (by omega) hx2 hk
      have g2 := asc_get Y hAY k2 (mid + m - 1 - s - m) y y2 (by omega) hk2 hy2
      omega
end Go.Proofs.YtdmnfjicjjlnnaaGreatDoor
/-
  Two ranges of items merged, one of them a single item.
-/
namespace Go.Proofs.YtdmnfjicjjlnnaaGreatDoor
set_option maxRecDepth 5000
open Go.RowKit
theorem get_fst (A B C : List Itm) (x y : Itm) (n : Nat) (h : A.length = n) : (A ++ x :: B ++ y :: C)[n]? = some x := by
  rw [List.append_assoc, List.getElem?_append_right (by omega), ← h, Nat.sub_self]; rfl
theorem get_zero (A C : List Itm) (x : Itm) (n : Nat) (h : A.length = n) : (A ++ x :: C)[n]? = some x := by
  rw [List.getElem?_append_right (by omega), ← h, Nat.sub_self]; rfl
theorem get_one (A C : List Itm) (x y : Itm) (n : Nat) (h : A.length + 1 = n) : (A ++ x :: y :: C)[n]? = some y := by
  rw [List.getElem?_append_right (by omega), ← h, Nat.add_sub_cancel_left]; rfl
theorem get_snd (A B C : List Itm) (x y : Itm) (n : Nat) (h : A.length + 1 + B.length = n) : (A ++ x :: B ++ y :: C)[n]? = some y := by
  rw [List.getElem?_append_right (by simp; omega), show n - (A ++ x :: B).length = 0 by simp; omega]; rfl
set_option maxRecDepth 100000 in
set_option maxHeartbeats 1600000 in
theorem merge_left (a m b N : Nat) (P Y S : List Itm) (x : Itm) (v : Value) (w0 w : World) (Rs : List Thing) (h : Held w0 w (itmT v (P ++ (x :: (Y ++ S))) :: Rs)) (hN : (P ++ (x :: (Y ++ S))).length = N) (hN2 : N ≤ 100000)
    (ha : P.length = a) (hm : a + 1 = m) (hb : m + Y.length = b) (hY : Asc Y) :
    Calls Tryz.prog 129 #[v, .int .i64 (a : Int), .int .i64 (m : Int), .int .i64 (b : Int), cmpV] w fun e w' => e = .returned (.tuple #[]) ∧ Held w0 w' (itmT v (P ++ (mrg [x] Y ++ S)) :: Rs) := by
  unfold cmpV
  have h0 : (0 : Int) ≤ (a : Int) := Int.natCast_nonneg _
  have h1 : (0 : Int) ≤ (b : Int) := Int.natCast_nonneg _
  have h2 : (0 : Int) ≤ (m : Int) := Int.natCast_nonneg _
  have hbN : b ≤ N := by simp at hN; omega
  obtain ⟨ao, cap, rfl, hc1, hc2⟩ := itm_form h
  rw [hN] at hc1 h ⊢
  have HL : Hid (P.length = a ∧ (P ++ (x :: (Y ++ S))).length = N ∧ Asc Y) := hid ⟨ha, hN, hY⟩
  have H := hid h
  have hB := hid hb
  have em : (m : Int) - (a : Int) = 1 := by omega
  have hmm := hid hm
  have hmb : m ≤ b := by omega
  have haN : a < N := by omega
  clear h hN ha hb hY hm
  go_enter Tryz.func129, Tryz.ntmps129
  go_wp2
  go_loopg [10, 11] (b - m + 1) (fun k t10 t11 wr => ∃ (i j : Nat), m ≤ i ∧ i ≤ j ∧ j ≤ b ∧ j - i < k ∧ t10 = .int .i64 (i : Int) ∧ t11 = .int .i64 (j : Int) ∧
    Hid ((∀ k y, Y[k]? = some y → m + k < i → y.1 < x.1) ∧ (∀ k y, Y[k]? = some y → j ≤ m + k → x.1 ≤ y.1)) ∧
    Hid (Held w0 wr (itmT (.slice ao N cap) (P ++ (x :: (Y ++ S))) :: Rs)))
  case atStart =>
    refine ⟨m, b, by omega, by omega, by omega, by omega, rfl, rfl, hid ⟨fun k y _ hk => by omega, fun k y hy hk => ?_⟩, H⟩
    have := (List.getElem?_eq_some_iff.1 hy).1
    have := hB.out
    omega
  case round =>
    obtain ⟨i, j, hmi, hij, hjb, hk, rfl, rfl, HE, HH⟩ := hrel
    have h3 : (0 : Int) ≤ (i : Int) := Int.natCast_nonneg _
    have h4 : (0 : Int) ≤ (j : Int) := Int.natCast_nonneg _
    by_cases hlt : i < j
    · have hltI : (i : Int) < (j : Int) := by omega
      obtain ⟨q, hq⟩ : ∃ q, q = (i + j) / 2 := ⟨_, rfl⟩
      have hqI : ((i : Int) + (j : Int)) / 2 = (q : Int) := by omega
      have hq1 : i ≤ q := by omega
      have hq2 : q < j := by omega
      have hqN : q < N := by omega
      have hq0 : (0 : Int) ≤ (q : Int) := Int.natCast_nonneg _
      clear hq
      obtain ⟨y, hy⟩ : ∃ y, Y[q - m]? = some y := ⟨Y[q - m]'(by have := hB.out; omega), List.getElem?_eq_getElem _⟩
      have HY := hid hy
      have hxg : (P ++ (x :: (Y ++ S)))[a]? = some x := by
        rw [← HL.out.1, List.getElem?_append_right (Nat.le_refl _), Nat.sub_self]; rfl
      have hyg : (P ++ (x :: (Y ++ S)))[q]? = some y := by
        rw [List.getElem?_append_right (by have := HL.out.1; have := hmm.out; omega), HL.out.1, show q - a = (q - m) + 1 by have := hmm.out; omega, List.getElem?_cons_succ, List.getElem?_append_left (by have := hB.out; omega)]; exact hy
      obtain ⟨g, off, rfl, c1, c2, c3, c4, hf, _⟩ := HH.out.swap2 hxg hyg
      have hcmp : decide (cmpI (y.1 : Int) (x.1 : Int) < 0) = decide (y.1 < x.1) := cmpI_lt _ _
      clear hy hxg hyg
      go_wp2
      go_still_tail 9, (by kernel_rfl)
      change wpList _ _ _ _ _ wr.drew
      have HH3 := hid HH.out.drew
      clear c1 c2 c3 c4 hf HH
      generalize wr.drew = w2 at HH3 ⊢
      go_wp2_with fail
      refine (cmp_any y x _).mono ?_
      rintro e w3 ⟨rfl, hm⟩
      have HH4 := hid (HH3.out.same hm)
      clear hm HH3
      by_cases hyx : y.1 < x.1
      · have hd : decide (y.1 < x.1) = true := by simp [hyx]
        rw [hd] at hcmp
        go_wp2
        go_roundg (gk - 1)
        case measure => omega
        case rel =>
          refine ⟨q + 1, j, by omega, by omega, by omega, by omega, by go_num, rfl, hid ⟨fun k z hz hk => ?_, HE.out.2⟩, HH4⟩
          have := asc_get Y HL.out.2.2 k (q - m) z y (by omega) hz HY.out
          omega
      · have hd : decide (y.1 < x.1) = false := by simp [hyx]
        rw [hd] at hcmp
        go_wp2
        go_roundg (gk - 1)
        case measure => omega
        case rel =>
          refine ⟨i, q, by omega, by omega, by omega, by omega, rfl, rfl, hid ⟨HE.out.1, fun k z hz hk => ?_⟩, HH4⟩
          have := asc_get Y HL.out.2.2 (q - m) k y z (by omega) HY.out hz
          omega
    · have hltI : ¬ (i : Int) < (j : Int) := by omega
      obtain rfl : j = i := by omega
      obtain ⟨e, he⟩ : ∃ e, e = j - 1 := ⟨_, rfl⟩
      have eI : (j : Int) - 1 = (e : Int) := by omega
      have HLE : Hid (e = j - 1) := hid he
      have hej : e < j := by omega
      clear he
      go_wp2
      go_loopg [13] (N + 2) (fun k t13 wr => ∃ (p : Nat) (Y1 Y2 : List Itm), p ≤ e ∧ N - p < k ∧ t13 = .int .i64 (p : Int) ∧
        Hid (Y = Y1 ++ Y2 ∧ a + Y1.length = p) ∧ Hid (Held w0 wr (itmT (.slice ao N cap) (P ++ (Y1 ++ (x :: (Y2 ++ S)))) :: Rs)))
      case atStart =>
        refine ⟨a, [], Y, ?_, by omega, rfl, hid ⟨rfl, rfl⟩, HH⟩
        have := HLE.out; have := hmm.out; omega
      case round =>
        obtain ⟨p, Y1, Y2, hpe, hk2, rfl, HF, HJ⟩ := hrel
        have h5 : (0 : Int) ≤ (p : Int) := Int.natCast_nonneg _
        have h6 : (0 : Int) ≤ (e : Int) := Int.natCast_nonneg _
        by_cases hp : p < e
        · have hpI : (p : Int) < (e : Int) := by omega
          have hpI1 : (p : Int) + 1 < (j : Int) := by omega
          have hpN : p < N := by omega
          have hpN1 : p + 1 < N := by omega
          obtain ⟨y, Y3, rfl⟩ : ∃ y Y3, Y2 = y :: Y3 := by
            cases hz : Y2 with
            | nil =>
              exfalso
              have h7 := HF.out.1
              rw [hz, List.append_nil] at h7
              have := HF.out.2; have := hB.out; have := HLE.out; have := hmm.out
              rw [h7] at *; omega
            | cons y Y3 => exact ⟨y, Y3, rfl⟩
          have HC : Hid (P ++ (Y1 ++ (x :: (y :: Y3 ++ S))) = (P ++ Y1) ++ x :: [] ++ y :: (Y3 ++ S) ∧ (P ++ Y1).length = p) := by
            refine hid ⟨by simp, ?_⟩
            have := HF.out.2; have := HL.out.1; simp; omega
          have hh := HJ.out
          rw [HC.out.1] at hh
          obtain ⟨g, off, rfl, c1, c2, c3, c4, hf, HS⟩ := hh.swap2 (i := p) (j := p + 1) (x := x) (y := y) (get_fst _ _ _ _ _ _ HC.out.2) (get_snd _ _ _ _ _ _ (by rw [HC.out.2]; rfl))
          have HD : Hid (swp ((P ++ Y1) ++ x :: [] ++ y :: (Y3 ++ S)) p (p + 1) x y = P ++ ((Y1 ++ [y]) ++ (x :: (Y3 ++ S)))) := by
            have h := swp_is (P ++ Y1) [] (Y3 ++ S) x y
            rw [HC.out.2] at h
            exact hid (h.trans (by simp))
          clear hh
          go_wp2
          go_region
          go_wp2
          go_roundg (gk - 1)
          case measure => omega
          case rel =>
            refine ⟨p + 1, Y1 ++ [y], Y3, by omega, by omega, by go_num, hid ⟨by rw [HF.out.1]; simp, by have := HF.out.2; simp; omega⟩, ?_⟩
            have h := HS.out.drew
            rw [HD.out] at h
            exact hid h
        · have hpI : ¬ (p : Int) < (e : Int) := by omega
          obtain rfl : p = e := by omega
          have HD : Hid (P ++ (Y1 ++ (x :: (Y2 ++ S))) = P ++ (mrg [x] Y ++ S)) := by
            obtain ⟨f1, f2⟩ := HF.out
            rw [f1, mrg_one_left x Y1 Y2]
            · exact hid (by simp)
            · intro y hy
              obtain ⟨k, hk⟩ := List.mem_iff_getElem?.1 hy
              have hkl := (List.getElem?_eq_some_iff.1 hk).1
              have := HLE.out; have := hmm.out
              exact HE.out.1 k y (by rw [f1, List.getElem?_append_left hkl]; exact hk) (by omega)
            · intro y hy
              obtain ⟨k, hk⟩ := List.mem_iff_getElem?.1 hy
              have := HLE.out; have := hmm.out
              exact HE.out.2 (Y1.length + k) y (by rw [f1, List.getElem?_append_right (by omega), Nat.add_sub_cancel_left]; exact hk) (by omega)
          go_wp2
          refine bodyPost_ret (results_none rfl _ _ _) rfl ?_
          exact ⟨rfl, by have h := HJ.out; rw [HD.out] at h; exact h⟩
set_option maxRecDepth 100000 in
set_option maxHeartbeats 1600000 in
theorem merge_right (a m b N : Nat) (P X S : List Itm) (y : Itm) (v : Value) (w0 w : World) (Rs : List Thing) (h : Held w0 w (itmT v (P ++ (X ++ (y :: S))) :: Rs)) (hN : (P ++ (X ++ (y :: S))).length = N) (hN2 : N ≤ 100000)
    (ha : P.length = a) (hm : a + X.length = m) (hb : m + 1 = b) (hX : Asc X) (hX2 : X.length ≠ 1) :
    Calls Tryz.prog 129 #[v, .int .i64 (a : Int), .int .i64 (m : Int), .int .i64 (b : Int), cmpV] w fun e w' => e = .returned (.tuple #[]) ∧ Held w0 w' (itmT v (P ++ (mrg X [y] ++ S)) :: Rs) := by
  unfold cmpV
  have h0 : (0 : Int) ≤ (a : Int) := Int.natCast_nonneg _
  have h1 : (0 : Int) ≤ (b : Int) := Int.natCast_nonneg _
  have h2 : (0 : Int) ≤ (m : Int) := Int.natCast_nonneg _
  have hbN : b ≤ N := by simp at hN; omega
  obtain ⟨ao, cap, rfl, hc1, hc2⟩ := itm_form h
  rw [hN] at hc1 h ⊢
  have HL : Hid (P.length = a ∧ (P ++ (X ++ (y :: S))).length = N ∧ Asc X) := hid ⟨ha, hN, hX⟩
  have H := hid h
  have hM := hid hm
  have e0 : ¬ (m : Int) - (a : Int) = 1 := by omega
  have e0b : ((m : Int) - (a : Int) == 1) = false := by simp; omega
  have em : (b : Int) - (m : Int) = 1 := by omega
  have hbb := hid hb
  have hma : a ≤ m := by omega
  have hmN : m < N := by omega
  clear h hN ha hb hX hm hX2
  go_enter Tryz.func129, Tryz.ntmps129
  go_wp2
  go_loopg [14, 15] (m - a + 1) (fun k t10 t11 wr => ∃ (i j : Nat), a ≤ i ∧ i ≤ j ∧ j ≤ m ∧ j - i < k ∧ t10 = .int .i64 (i : Int) ∧ t11 = .int .i64 (j : Int) ∧
    Hid ((∀ k z, X[k]? = some z → a + k < i → z.1 ≤ y.1) ∧ (∀ k z, X[k]? = some z → j ≤ a + k → y.1 < z.1)) ∧
    Hid (Held w0 wr (itmT (.slice ao N cap) (P ++ (X ++ (y :: S))) :: Rs)))
  case atStart =>
    refine ⟨a, m, by omega, by omega, by omega, by omega, rfl, rfl, hid ⟨fun k z _ hk => by omega, fun k z hz hk => ?_⟩, H⟩
    have := (List.getElem?_eq_some_iff.1 hz).1
    have := hM.out
    omega
  case round =>
    obtain ⟨i, j, hmi, hij, hjb, hk, rfl, rfl, HE, HH⟩ := hrel
    have h3 : (0 : Int) ≤ (i : Int) := Int.natCast_nonneg _
    have h4 : (0 : Int) ≤ (j : Int) := Int.natCast_nonneg _
    by_cases hlt : i < j
    · have hltI : (i : Int) < (j : Int) := by omega
      obtain ⟨q, hq⟩ : ∃ q, q = (i + j) / 2 := ⟨_, rfl⟩
      have hqI : ((i : Int) + (j : Int)) / 2 = (q : Int) := by omega
      have hq1 : i ≤ q := by omega
      have hq2 : q < j := by omega
      have hqN : q < N := by omega
      have hq0 : (0 : Int) ≤ (q : Int) := Int.natCast_nonneg _
      clear hq
      obtain ⟨z, hz⟩ : ∃ z, X[q - a]? = some z := ⟨X[q - a]'(by have := hM.out; omega), List.getElem?_eq_getElem _⟩
      have HZ := hid hz
      have hyg : (P ++ (X ++ (y :: S)))[m]? = some y := by
        rw [← List.append_assoc, List.getElem?_append_right (by have := HL.out.1; have := hM.out; simp; omega), show m - (P ++ X).length = 0 by have := HL.out.1; have := hM.out; simp; omega]; rfl
      have hzg : (P ++ (X ++ (y :: S)))[q]? = some z := by
        rw [List.getElem?_append_right (by have := HL.out.1; omega), HL.out.1, List.getElem?_append_left (by have := hM.out; omega)]; exact hz
      obtain ⟨g, off, rfl, c1, c2, c3, c4, hf, _⟩ := HH.out.swap2 hyg hzg
      have hcmp : decide (cmpI (y.1 : Int) (z.1 : Int) < 0) = decide (y.1 < z.1) := cmpI_lt _ _
      clear hz hyg hzg
      go_wp2
      go_still_tail 9, (by kernel_rfl)
      change wpList _ _ _ _ _ wr.drew
      have HH3 := hid HH.out.drew
      clear c1 c2 c3 c4 hf HH
      generalize wr.drew = w2 at HH3 ⊢
      go_wp2_with fail
      refine (cmp_any y z _).mono ?_
      rintro e w3 ⟨rfl, hm⟩
      have HH4 := hid (HH3.out.same hm)
      clear hm HH3
      by_cases hyz : y.1 < z.1
      · have hd : decide (y.1 < z.1) = true := by simp [hyz]
        rw [hd] at hcmp
        go_wp2
        go_roundg (gk - 1)
        case measure => omega
        case rel =>
          refine ⟨i, q, by omega, by omega, by omega, by omega, rfl, rfl, hid ⟨HE.out.1, fun k x hx hk => ?_⟩, HH4⟩
          have := asc_get X HL.out.2.2 (q - a) k z x (by omega) HZ.out hx
          omega
      · have hd : decide (y.1 < z.1) = false := by simp [hyz]
        rw [hd] at hcmp
        go_wp2
        go_roundg (gk - 1)
        case measure => omega
        case rel =>
          refine ⟨q + 1, j, by omega, by omega, by omega, by omega, by go_num, rfl, hid ⟨fun k x hx hk => ?_, HE.out.2⟩, HH4⟩
          have := asc_get X HL.out.2.2 k (q - a) x z (by omega) hx HZ.out
          omega
    · have hltI : ¬ (i : Int) < (j : Int) := by omega
      obtain rfl : j = i := by omega
      go_wp2
      go_loopg [17] (m + 1) (fun k t13 wr => ∃ (p : Nat) (X1 X2 : List Itm), j ≤ p ∧ p ≤ m ∧ p < k ∧ t13 = .int .i64 (p : Int) ∧
        Hid (X = X1 ++ X2 ∧ a + X1.length = p) ∧ Hid (Held w0 wr (itmT (.slice ao N cap) (P ++ (X1 ++ (y :: (X2 ++ S)))) :: Rs)))
      case atStart => exact ⟨m, X, [], by omega, by omega, by omega, rfl, hid ⟨by simp, hM.out⟩, HH⟩
      case round =>
        obtain ⟨p, X1, X2, hjp, hpm, hk2, rfl, HF, HJ⟩ := hrel
        have h5 : (0 : Int) ≤ (p : Int) := Int.natCast_nonneg _
        by_cases hp : j < p
        · have hpI : (j : Int) < (p : Int) := by omega
          obtain ⟨p1, hp1⟩ : ∃ p1, p = p1 + 1 := ⟨p - 1, by omega⟩
          have epI : (p : Int) - 1 = (p1 : Int) := by omega
          have h6 : (0 : Int) ≤ (p1 : Int) := Int.natCast_nonneg _
          have hpN : p < N := by omega
          have hpN1 : p1 < N := by omega
          have hw1 : IntKind.i64.wrap (p1 : Int) = (p1 : Int) := wrap_nat p1 (by omega)
          have HP := hid hp1
          have hjp1 : j ≤ p1 := by omega
          have hpm1 : p1 < p := by omega
          clear hp1
          obtain ⟨X3, z, rfl⟩ : ∃ X3 z, X1 = X3 ++ [z] := by
            have : X1 ≠ [] := fun e => by have h := HF.out.2; rw [e] at h; simp at h; omega
            exact ⟨X1.dropLast, X1.getLast this, (List.dropLast_concat_getLast this).symm⟩
          have HC : Hid (P ++ ((X3 ++ [z]) ++ (y :: (X2 ++ S))) = (P ++ X3) ++ z :: y :: (X2 ++ S) ∧ (P ++ X3).length = p1) := by
            refine hid ⟨by simp, ?_⟩
            have := HF.out.2; have := HL.out.1; have := HP.out; simp at *; omega
          have hh := HJ.out
          rw [HC.out.1] at hh
          obtain ⟨g, off, rfl, c1, c2, c3, c4, hf, HS⟩ := hh.swap2 (i := p) (j := p1) (x := y) (y := z) (get_one _ _ _ _ _ (by rw [HC.out.2]; exact HP.out.symm)) (get_zero _ _ _ _ HC.out.2)
          have HD : Hid (swp ((P ++ X3) ++ z :: y :: (X2 ++ S)) p p1 y z = P ++ (X3 ++ (y :: ((z :: X2) ++ S)))) := by
            have h := swp_back (P ++ X3) (X2 ++ S) y z
            rw [HC.out.2, ← HP.out] at h
            exact hid (h.trans (by simp))
          clear hh
          go_wp2
          go_region
          go_wp2
          go_roundg (gk - 1)
          case measure => omega
          case rel =>
            refine ⟨p1, X3, z :: X2, by omega, by omega, by omega, rfl, hid ⟨by rw [HF.out.1]; simp, ?_⟩, ?_⟩
            · have := HF.out.2; have := HP.out; simp at *; omega
            · have h := HS.out.drew
              rw [HD.out] at h
              exact hid h
        · have hpI : ¬ (j : Int) < (p : Int) := by omega
          obtain rfl : p = j := by omega
          have HD : Hid (P ++ (X1 ++ (y :: (X2 ++ S))) = P ++ (mrg X [y] ++ S)) := by
            obtain ⟨f1, f2⟩ := HF.out
            have hax := HL.out.2.2
            rw [f1] at hax
            rw [f1, mrg_one_right y X1 X2 hax]
            · exact hid (by simp)
            · intro z hz
              obtain ⟨k, hk⟩ := List.mem_iff_getElem?.1 hz
              have hkl := (List.getElem?_eq_some_iff.1 hk).1
              exact HE.out.1 k z (by rw [f1, List.getElem?_append_left hkl]; exact hk) (by omega)
            · intro z hz
              obtain ⟨k, hk⟩ := List.mem_iff_getElem?.1 hz
              exact HE.out.2 (X1.length + k) z (by rw [f1, List.getElem?_append_right (by omega), Nat.add_sub_cancel_left]; exact hk) (by omega)
          go_wp2
          refine bodyPost_ret (results_none rfl _ _ _) rfl ?_
          exact ⟨rfl, by have h := HJ.out; rw [HD.out] at h; exact h⟩
end Go.Proofs.YtdmnfjicjjlnnaaGreatDoor
