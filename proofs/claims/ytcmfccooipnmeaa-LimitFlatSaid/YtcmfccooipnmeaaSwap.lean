/-
  Two ranges of items changed for each other.
-/
import Derived.Test.YtcmfccooipnmeaaItems
namespace Go.Proofs.Ytcmfccooipnmeaa
open Go.RowKit

theorem itm_form {w0 w : World} {v : Value} {l : List Itm} {Rs : List Thing} (h : Held w0 w (itmT v l :: Rs)) : ∃ ao cap, v = .slice ao l.length cap ∧ l.length ≤ cap ∧ cap ≤ maxLen := h.own.form
set_option maxHeartbeats 800000 in
theorem swaprange_any (a b n N : Nat) (P U M V S : List Itm) (v c : Value) (w0 w : World) (Rs : List Thing) (h : Held w0 w (itmT v (P ++ (U ++ (M ++ (V ++ S)))) :: Rs)) (hN : (P ++ (U ++ (M ++ (V ++ S)))).length = N) (hN2 : N ≤ 100000)
    (ha : P.length = a) (hb : (P ++ (U ++ M)).length = b) (hU : U.length = n) (hV : V.length = n) :
    Calls Try.prog 35 #[v, .int .i64 (a : Int), .int .i64 (b : Int), .int .i64 (n : Int), c] w fun e w' => e = .returned (.tuple #[]) ∧ Held w0 w' (itmT v (P ++ (V ++ (M ++ (U ++ S)))) :: Rs) := by
  have h0 : (0 : Int) ≤ (a : Int) := Int.natCast_nonneg _
  have h1 : (0 : Int) ≤ (b : Int) := Int.natCast_nonneg _
  have h2 : (0 : Int) ≤ (n : Int) := Int.natCast_nonneg _
  have HL : Hid (P.length = a ∧ (P ++ (U ++ M)).length = b ∧ U.length = n ∧ V.length = n ∧ (P ++ (U ++ (M ++ (V ++ S)))).length = N) := hid ⟨ha, hb, hU, hV, hN⟩
  have hbn : b + n ≤ N := by simp at hN hb; omega
  have han : a + n ≤ b := by simp at hb; omega
  obtain ⟨ao, cap, rfl, hc1, hc2⟩ := itm_form h
  rw [hN] at hc1 h ⊢
  have H := hid h
  clear h hN ha hb hU hV
  go_enter Try.func35, Try.ntmps35
  go_wp2
  go_loopg [10] (n + 1) (fun k t10 wr => ∃ (i : Nat) (U1 U2 V1 V2 : List Itm), i ≤ n ∧ n - i < k ∧ t10 = .int .i64 (i : Int) ∧ Hid (U = U1 ++ U2 ∧ V = V1 ++ V2 ∧ U1.length = i ∧ V1.length = i) ∧
    Hid (Held w0 wr (itmT (.slice ao N cap) (P ++ (V1 ++ (U2 ++ (M ++ (U1 ++ (V2 ++ S)))))) :: Rs)))
  case atStart => exact ⟨0, [], U, [], V, by omega, by omega, rfl, hid ⟨rfl, rfl, rfl, rfl⟩, H⟩
  case round =>
    obtain ⟨i, U1, U2, V1, V2, hi, hk, rfl, HE, HH⟩ := hrel
    have h3 : (0 : Int) ≤ (i : Int) := Int.natCast_nonneg _
    by_cases hin : i < n
    · have hin2 : (i : Int) < (n : Int) := by omega
      obtain ⟨e1, e2, e3, e4⟩ := HE.out
      obtain ⟨l1, l2, l3, l4, l5⟩ := HL.out
      match U2, V2, e1, e2 with
      | [], _, e1, _ => exfalso; rw [e1] at l3; simp at l3; omega
      | _ :: _, [], _, e2 => exfalso; rw [e2] at l4; simp at l4; omega
      | x :: U2, y :: V2, e1, e2 =>
        have HL1 : Hid ((P ++ V1).length = a + i ∧ (P ++ V1).length + 1 + (U2 ++ (M ++ U1)).length = b + i) := by
          refine hid ⟨by simp; omega, ?_⟩
          rw [e1] at l3 l2
          simp at l2 l3 ⊢; omega
        have HL2 : Hid (P ++ (V1 ++ (x :: U2 ++ (M ++ (U1 ++ (y :: V2 ++ S))))) = (P ++ V1) ++ x :: (U2 ++ (M ++ U1)) ++ y :: (V2 ++ S)) := hid (by simp)
        have hh := HH.out
        rw [HL2.out] at hh
        have hj2 : (P ++ V1 ++ x :: (U2 ++ (M ++ U1)) ++ y :: (V2 ++ S))[b + i]? = some y := by
          rw [← HL1.out.2, List.getElem?_append_right (by simp; omega), show (P ++ V1).length + 1 + (U2 ++ (M ++ U1)).length - (P ++ V1 ++ x :: (U2 ++ (M ++ U1))).length = 0 by simp; omega]; rfl
        obtain ⟨g, off, rfl, c1, c2, c3, c4, hf, HS⟩ := hh.swap2 (i := a + i) (j := b + i) (x := x) (y := y) (by rw [← HL1.out.1]; simp) hj2
        have HJ : Hid (swp (P ++ V1 ++ x :: (U2 ++ (M ++ U1)) ++ y :: (V2 ++ S)) (a + i) (b + i) x y = P ++ ((V1 ++ [y]) ++ (U2 ++ (M ++ ((U1 ++ [x]) ++ (V2 ++ S)))))) := by
          have h := swp_is (P ++ V1) (U2 ++ (M ++ U1)) (V2 ++ S) x y
          rw [HL1.out.2, HL1.out.1] at h
          refine hid (h.trans (by simp))
        clear hh e1 e2 e3 e4 l1 l2 l3 l4 l5 hj2
        go_wp2
        go_region
        go_wp2
        go_roundg (gk - 1)
        case measure => omega
        case rel =>
          refine ⟨i + 1, U1 ++ [x], U2, V1 ++ [y], V2, by omega, by omega, by go_num, ?_, ?_⟩
          · obtain ⟨e1, e2, e3, e4⟩ := HE.out
            exact hid ⟨by rw [e1]; simp, by rw [e2]; simp, by simp [e3], by simp [e4]⟩
          · have h := HS.out.drew
            rw [HJ.out] at h
            exact h
    · have hin2 : ¬ (i : Int) < (n : Int) := by omega
      obtain rfl : i = n := by omega
      have HF : Hid (P ++ (V1 ++ (U2 ++ (M ++ (U1 ++ (V2 ++ S))))) = P ++ (V ++ (M ++ (U ++ S)))) := by
        obtain ⟨e1, e2, e3, e4⟩ := HE.out
        obtain ⟨l1, l2, l3, l4, l5⟩ := HL.out
        have h1 : U2 = [] := List.eq_nil_of_length_eq_zero (by rw [e1, List.length_append] at l3; omega)
        have h2 : V2 = [] := List.eq_nil_of_length_eq_zero (by rw [e2, List.length_append] at l4; omega)
        subst h1; subst h2
        rw [e1, e2]; exact hid (by simp)
      go_wp2
      go_end0
      exact ⟨rfl, by have h := HH.out; rw [HF.out] at h; exact h⟩

set_option maxHeartbeats 800000 in
theorem rotate_any (a m b N : Nat) (P X Y S : List Itm) (v c : Value) (w0 w : World) (Rs : List Thing) (h : Held w0 w (itmT v (P ++ (X ++ (Y ++ S))) :: Rs)) (hN : (P ++ (X ++ (Y ++ S))).length = N) (hN2 : N ≤ 100000)
    (ha : P.length = a) (hm : (P ++ X).length = m) (hb : (P ++ (X ++ Y)).length = b) (hX : 0 < X.length) (hY : 0 < Y.length) :
    Calls Try.prog 34 #[v, .int .i64 (a : Int), .int .i64 (m : Int), .int .i64 (b : Int), c] w fun e w' => e = .returned (.tuple #[]) ∧ Held w0 w' (itmT v (P ++ (Y ++ (X ++ S))) :: Rs) := by
  have h0 : (0 : Int) ≤ (a : Int) := Int.natCast_nonneg _
  have h1 : (0 : Int) ≤ (b : Int) := Int.natCast_nonneg _
  have h2 : (0 : Int) ≤ (m : Int) := Int.natCast_nonneg _
  obtain ⟨i0, hi0⟩ : ∃ i, i = X.length := ⟨_, rfl⟩
  obtain ⟨j0, hj0⟩ : ∃ j, j = Y.length := ⟨_, rfl⟩
  have e1 : (m : Int) - (a : Int) = (i0 : Int) := by simp at hm; omega
  have e2 : (b : Int) - (m : Int) = (j0 : Int) := by simp at hm hb; omega
  have hmN : m ≤ N := by simp at hm hN; omega
  have hbN : b ≤ N := by simp at hb hN; omega
  have hnn : i0 + j0 ≤ N := by simp at hN; omega
  have HL : Hid ((P ++ X).length = m ∧ (P ++ (X ++ (Y ++ S))).length = N ∧ X.length = i0 ∧ Y.length = j0) := hid ⟨hm, hN, hi0.symm, hj0.symm⟩
  have H := hid h
  have hi1 : 0 < i0 := by omega
  have hj1 : 0 < j0 := by omega
  clear h hN ha hm hb hX hY hi0 hj0
  have e1' := hid e1
  have e2' := hid e2
  go_enter Try.func34, Try.ntmps34
  go_wp2
  clear e1 e2
  go_loopg [10, 11] (i0 + j0 + 1) (fun k t10 t11 wr => ∃ (i j : Nat) (P1 U V S1 : List Itm), i + j < k ∧ t10 = .int .i64 (i : Int) ∧ t11 = .int .i64 (j : Int) ∧ 0 < i ∧ 0 < j ∧ i ≤ N ∧ j ≤ N ∧ m + j ≤ N ∧ i ≤ m ∧
    Hid (U.length = i ∧ V.length = j ∧ (P1 ++ U).length = m ∧ (P1 ++ (U ++ (V ++ S1))).length = N ∧ P1 ++ (V ++ (U ++ S1)) = P ++ (Y ++ (X ++ S))) ∧
    Hid (Held w0 wr (itmT v (P1 ++ (U ++ (V ++ S1))) :: Rs)))
  case atStart =>
    refine ⟨i0, j0, P, X, Y, S, by omega, by go_num, by go_num, by omega, by omega, by omega, by omega, ?_, ?_, hid ⟨HL.out.2.2.1, HL.out.2.2.2, HL.out.1, HL.out.2.1, rfl⟩, H⟩
    · have := HL.out; simp at this; omega
    · have := HL.out; simp at this; omega
  case round =>
    obtain ⟨i, j, P1, U, V, S1, hk, rfl, rfl, hi, hj, hiN, hjN, hmj, him, HE, HH⟩ := hrel
    have h3 : (0 : Int) ≤ (i : Int) := Int.natCast_nonneg _
    have h4 : (0 : Int) ≤ (j : Int) := Int.natCast_nonneg _
    have em : (m : Int) - (i : Int) = ((m - i : Nat) : Int) := by omega
    rcases Nat.lt_trichotomy i j with hij | hij | hij
    · have d1 : ¬ (i : Int) = (j : Int) := by omega
      have d2 : ¬ (j : Int) < (i : Int) := by omega
      have ej : (m : Int) + (j : Int) - (i : Int) = ((m + j - i : Nat) : Int) := by omega
      obtain ⟨l1, l2, l3, l4, l5⟩ := HE.out
      obtain ⟨V1, V2, rfl, hv1, hv2⟩ : ∃ V1 V2, V = V1 ++ V2 ∧ V1.length = j - i ∧ V2.length = i := ⟨V.take (j - i), V.drop (j - i), (List.take_append_drop _ _).symm, by simp; omega, by simp; omega⟩
      have HR := hid (swaprange_any (m - i) (m + j - i) i N P1 U V1 V2 S1 v c w0 wr Rs (by have h := HH.out; simpa using h) (by rw [← l4]; simp) hN2 (by simp at l3; omega) (by simp at l3 ⊢; omega) l1 hv2)
      have HG : Hid (V2.length = i ∧ V1.length = j - i ∧ (P1 ++ V2).length = m ∧ (P1 ++ (V2 ++ (V1 ++ (U ++ S1)))).length = N ∧ P1 ++ (V1 ++ (V2 ++ (U ++ S1))) = P ++ (Y ++ (X ++ S))) := by
        refine hid ⟨hv2, hv1, by simp at l3 ⊢; omega, ?_, by rw [← l5]; simp⟩
        simp at l4 ⊢; omega
      clear l1 l2 l3 l4 l5 hv1 hv2
      go_wp2_with fail
      refine HR.out.mono ?_
      rintro e w1 ⟨rfl, hh⟩
      have HH1 := hid hh
      clear hh
      have ed : (j : Int) - (i : Int) = ((j - i : Nat) : Int) := by omega
      go_wp2
      go_roundg (gk - 1)
      case measure => omega
      case rel => exact ⟨i, j - i, P1, V2, V1, U ++ S1, by omega, rfl, by go_num, by omega, by omega, by omega, by omega, by omega, by omega, HG, HH1⟩
    · subst hij
      obtain ⟨l1, l2, l3, l4, l5⟩ := HE.out
      have HR := hid (swaprange_any (m - i) m i N P1 U [] V S1 v c w0 wr Rs (by have h := HH.out; simpa using h) (by rw [← l4]; simp) hN2 (by simp at l3; omega) (by simp at l3 ⊢; omega) l1 l2)
      have HG : Hid (P1 ++ (V ++ ([] ++ (U ++ S1))) = P ++ (Y ++ (X ++ S))) := hid (by rw [← l5]; simp)
      clear l1 l2 l3 l4 l5
      go_wp2_with fail
      refine HR.out.mono ?_
      rintro e w1 ⟨rfl, hh⟩
      rw [HG.out] at hh
      have HH1 := hid hh
      clear hh
      go_wp2
      go_end0
      exact ⟨rfl, HH1⟩
    · have d1 : ¬ (i : Int) = (j : Int) := by omega
      have d2 : (j : Int) < (i : Int) := by omega
      obtain ⟨l1, l2, l3, l4, l5⟩ := HE.out
      obtain ⟨U1, U2, rfl, hv1, hv2⟩ : ∃ U1 U2, U = U1 ++ U2 ∧ U1.length = j ∧ U2.length = i - j := ⟨U.take j, U.drop j, (List.take_append_drop _ _).symm, by simp; omega, by simp; omega⟩
      have HR := hid (swaprange_any (m - i) m j N P1 U1 U2 V S1 v c w0 wr Rs (by have h := HH.out; simpa using h) (by rw [← l4]; simp) hN2 (by simp at l3; omega) (by simp at l3 ⊢; omega) hv1 l2)
      have HG : Hid (U2.length = i - j ∧ U1.length = j ∧ ((P1 ++ V) ++ U2).length = m ∧ ((P1 ++ V) ++ (U2 ++ (U1 ++ S1))).length = N ∧ (P1 ++ V) ++ (U1 ++ (U2 ++ S1)) = P ++ (Y ++ (X ++ S))) := by
        refine hid ⟨hv2, hv1, by simp at l3 ⊢; omega, ?_, by rw [← l5]; simp⟩
        simp at l4 ⊢; omega
      have HE2 : Hid (P1 ++ (V ++ (U2 ++ (U1 ++ S1))) = (P1 ++ V) ++ (U2 ++ (U1 ++ S1))) := hid (by simp)
      clear l1 l2 l3 l4 l5 hv1 hv2
      go_wp2_with fail
      refine HR.out.mono ?_
      rintro e w1 ⟨rfl, hh⟩
      rw [HE2.out] at hh
      have HH1 := hid hh
      clear hh
      have ed : (i : Int) - (j : Int) = ((i - j : Nat) : Int) := by omega
      go_wp2
      go_roundg (gk - 1)
      case measure => omega
      case rel => exact ⟨i - j, j, P1 ++ V, U2, U1, S1, by omega, by go_num, rfl, by omega, by omega, by omega, by omega, by omega, by omega, HG, HH1⟩
end Go.Proofs.Ytcmfccooipnmeaa
