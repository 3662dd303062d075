/-
  Items sorted by insertion.
-/
import Derived.Test.YtcmfccooipnmeaaSwap
namespace Go.Proofs.Ytcmfccooipnmeaa
open Go.RowKit

theorem swp_back (A C : List Itm) (x y : Itm) : swp (A ++ y :: x :: C) (A.length + 1) A.length x y = A ++ x :: y :: C := by
  unfold swp
  rw [List.set_append_right _ _ (by omega), show A.length + 1 - A.length = 1 by omega, List.set_cons_succ, List.set_cons_zero, List.set_append_right _ _ (Nat.le_refl _), Nat.sub_self, List.set_cons_zero]
theorem cmpI_lt (a b : Nat) : decide (cmpI a b < 0) = decide (a < b) := by
  unfold cmpI
  by_cases h1 : a < b
  · simp [h1]
  · by_cases h2 : b < a
    · simp [h1, h2]
    · simp [h1, h2]
theorem ins_done (Z1 s1 s2 : List Itm) (x : Itm) (h : ssort Z1 = s1 ++ s2) (h2 : ∀ y ∈ s2, x.1 < y.1) (h1 : ∀ y ∈ s1, y.1 ≤ x.1) : ssort (Z1 ++ [x]) = s1 ++ x :: s2 := by
  rw [ssort_app, h]
  have ha := ssort_asc Z1
  rw [h] at ha
  exact mrg_one_right x s1 s2 ha h1 h2
theorem asc_last (s3 : List Itm) (y x : Itm) (h : Asc (s3 ++ [y])) (hx : y.1 ≤ x.1) : ∀ z ∈ s3 ++ [y], z.1 ≤ x.1 := by
  intro z hz
  rcases List.mem_append.1 hz with hz | hz
  · have := ((asc_app s3 [y]).1 h).2.2 z hz y (by simp); omega
  · rw [List.mem_singleton.1 hz]; exact hx
def cmpV : Value := .func (.func 28) #[] #[]
set_option maxHeartbeats 800000 in
theorem insertion_any (a b N : Nat) (P Z S : List Itm) (v : Value) (w0 w : World) (Rs : List Thing) (h : Held w0 w (itmT v (P ++ (Z ++ S)) :: Rs)) (hN : (P ++ (Z ++ S)).length = N) (hN2 : N ≤ 100000)
    (ha : P.length = a) (hb : (P ++ Z).length = b) :
    Calls Try.prog 32 #[v, .int .i64 (a : Int), .int .i64 (b : Int), cmpV] w fun e w' => e = .returned (.tuple #[]) ∧ Held w0 w' (itmT v (P ++ (ssort Z ++ S)) :: Rs) := by
  unfold cmpV
  have h0 : (0 : Int) ≤ (a : Int) := Int.natCast_nonneg _
  have h1 : (0 : Int) ≤ (b : Int) := Int.natCast_nonneg _
  have hab : a ≤ b := by simp at hb; omega
  have hbN : b ≤ N := by simp at hb hN; omega
  have hZ : Z.length = b - a := by simp at hb; omega
  obtain ⟨ao, cap, rfl, hc1, hc2⟩ := itm_form h
  rw [hN] at hc1 h ⊢
  have HL : Hid (P.length = a ∧ Z.length = b - a ∧ (P ++ (Z ++ S)).length = N) := hid ⟨ha, hZ, hN⟩
  have H := hid h
  clear h hN ha hb hZ
  go_enter Try.func32, Try.ntmps32
  go_wp2
  go_loopg [8] (N + 3) (fun k t8 wr => ∃ (i : Nat) (Z1 Z2 : List Itm), i ≤ N + 1 ∧ N + 2 - i < k ∧ t8 = .int .i64 (i : Int) ∧ Hid (Z = Z1 ++ Z2 ∧ a + Z1.length = min i b ∧ a < i) ∧
    Hid (Held w0 wr (itmT (.slice ao N cap) (P ++ (ssort Z1 ++ (Z2 ++ S))) :: Rs)))
  case atStart =>
    cases hz : Z with
    | nil =>
      refine ⟨a + 1, [], [], by omega, by omega, by go_num, hid ⟨rfl, ?_, by omega⟩, ?_⟩
      · have := HL.out.2.1; rw [hz] at this; simp at this ⊢; omega
      · have h := H.out; rw [hz] at h; exact h
    | cons z Z' =>
      refine ⟨a + 1, [z], Z', ?_, by omega, by go_num, hid ⟨rfl, ?_, by omega⟩, ?_⟩
      · omega
      · have := HL.out.2.1; rw [hz] at this; simp at this ⊢; omega
      · have h := H.out; rw [hz] at h; exact h
  case round =>
    obtain ⟨i, Z1, Z2, hi, hk, rfl, HE, HH⟩ := hrel
    obtain ⟨gx, rfl⟩ : ∃ g, g = gk := ⟨gk, rfl⟩
    have h3 : (0 : Int) ≤ (i : Int) := Int.natCast_nonneg _
    by_cases hib : i < b
    · have hib2 : (i : Int) < (b : Int) := by omega
      obtain ⟨e1, e2, e3⟩ := HE.out
      have hZ2 : Z2 ≠ [] := by
        intro e
        rw [e, List.append_nil] at e1
        have := HL.out.2.1
        rw [e1] at this; omega
      obtain ⟨x, Z3, rfl⟩ : ∃ x Z3, Z2 = x :: Z3 := by
        cases Z2 with
        | nil => exact absurd rfl hZ2
        | cons x Z3 => exact ⟨x, Z3, rfl⟩
      have HZ : Hid (Z = Z1 ++ (x :: Z3) ∧ a + Z1.length = i ∧ a < i) := hid ⟨e1, by omega, e3⟩
      clear e1 e2 e3 hZ2 HE
      go_wp2
      go_loopg [9] (i + 1) (fun k t9 wq => ∃ (j : Nat) (s1 s2 : List Itm), a ≤ j ∧ j ≤ i ∧ j < k ∧ t9 = .int .i64 (j : Int) ∧ Hid (ssort Z1 = s1 ++ s2 ∧ a + s1.length = j ∧ ∀ y ∈ s2, x.1 < y.1) ∧
        Hid (Held w0 wq (itmT (.slice ao N cap) (P ++ (s1 ++ (x :: s2 ++ (Z3 ++ S)))) :: Rs)))
      case atStart =>
        refine ⟨i, ssort Z1, [], ?_, by omega, by omega, rfl, hid ⟨by simp, ?_, by simp⟩, ?_⟩
        · have := HZ.out.2.2; omega
        · rw [ssort_length]; exact HZ.out.2.1
        · have h := HH.out; exact hid (by simpa using h)
      case round =>
        obtain ⟨j, s1, s2, haj, hji, hk2, rfl, HF, HJ⟩ := hrel
        have h4 : (0 : Int) ≤ (j : Int) := Int.natCast_nonneg _
        by_cases hja : j = a
        · subst hja
          have hb0 : decide ((j : Int) < (j : Int)) = false := by simp
          have HD : Hid (ssort (Z1 ++ [x]) = s1 ++ x :: s2) := by
            obtain ⟨f1, f2, f3⟩ := HF.out
            obtain rfl : s1 = [] := List.eq_nil_of_length_eq_zero (by omega)
            exact hid (ins_done Z1 [] s2 x f1 f3 (by simp))
          go_wp2
          go_quiet (fail)
          have HJ2 := hid (HJ.out.drewN nq)
          generalize wr.drewN nq = w3 at HJ2 ⊢
          go_wp2
          go_roundg (gx - 1)
          case measure => omega
          case rel =>
            refine ⟨i + 1, Z1 ++ [x], Z3, by omega, by omega, by go_num, hid ⟨by rw [HZ.out.1]; simp, ?_, by omega⟩, ?_⟩
            · have := HZ.out.2.1; simp; omega
            · rw [HD.out]; have h := HJ2.out; exact hid (by simpa using h)
        · have hja2 : (a : Int) < (j : Int) := by omega
          have hb0 : decide ((a : Int) < (j : Int)) = true := by simp; omega
          obtain ⟨f1, f2, f3⟩ := HF.out
          obtain ⟨s3, y, rfl⟩ : ∃ s3 y, s1 = s3 ++ [y] := by
            have : s1 ≠ [] := fun e => by rw [e] at f2; simp at f2; omega
            exact ⟨s1.dropLast, s1.getLast this, (List.dropLast_concat_getLast this).symm⟩
          have HC : Hid (P ++ ((s3 ++ [y]) ++ (x :: s2 ++ (Z3 ++ S))) = (P ++ s3) ++ y :: x :: (s2 ++ (Z3 ++ S)) ∧ (P ++ s3).length + 1 = j) := by
            refine hid ⟨by simp, ?_⟩
            have := HL.out.1
            simp at f2 ⊢; omega
          have hh := HJ.out
          rw [HC.out.1] at hh
          obtain ⟨j1, hj1⟩ : ∃ j1, j1 = j - 1 := ⟨_, rfl⟩
          have ej : (j : Int) - 1 = (j1 : Int) := by omega
          have hj10 : (0 : Int) ≤ (j1 : Int) := Int.natCast_nonneg _
          have hjN : j < N := by omega
          have hj1N : j1 < N := by omega
          have hw1 : IntKind.i64.wrap (j1 : Int) = (j1 : Int) := wrap_nat j1 (by omega)
          have hj1' := hid hj1
          clear hj1
          obtain ⟨g, off, rfl, c1, c2, c3, c4, hf, HS⟩ := hh.swap2 (i := j) (j := j1) (x := x) (y := y) (by rw [← HC.out.2, List.getElem?_append_right (by omega), show (P ++ s3).length + 1 - (P ++ s3).length = 1 by omega]; rfl) (by rw [show j1 = (P ++ s3).length by have := HC.out.2; have := hj1'.out; omega, List.getElem?_append_right (by omega), Nat.sub_self]; rfl)
          have HH2 := hid hh
          clear hh f1 f2 f3 HS
          have hxy : decide (cmpI (x.1 : Int) (y.1 : Int) < 0) = decide (x.1 < y.1) := cmpI_lt _ _
          go_wp2
          go_still_tail 14, (by kernel_rfl)
          change wpList _ _ _ _ _ wr.drew
          have HH3 := hid HH2.out.drew
          clear c1 c2 c3 c4 hf HH2 HJ HH
          generalize wr.drew = w2 at HH3 ⊢
          go_wp2_with fail
          refine (cmp_any x y _).mono ?_
          rintro e w3 ⟨rfl, hm⟩
          obtain ⟨g', off', hg', c1, c2, c3, c4, hf, HS⟩ := (HH3.out.same hm).swap2 (i := j) (j := j1) (x := x) (y := y) (by rw [← HC.out.2, List.getElem?_append_right (by omega), show (P ++ s3).length + 1 - (P ++ s3).length = 1 by omega]; rfl) (by rw [show j1 = (P ++ s3).length by have := HC.out.2; have := hj1'.out; omega, List.getElem?_append_right (by omega), Nat.sub_self]; rfl)
          simp only [Option.some.injEq, Addr.mk.injEq, and_true] at hg'
          obtain ⟨rfl, rfl⟩ := hg'
          have HH4 := hid (HH3.out.same hm)
          clear hm HH3
          by_cases hlt : x.1 < y.1
          · have hd : decide (x.1 < y.1) = true := by simp [hlt]
            rw [hd] at hxy
            have HE : Hid (swp (P ++ s3 ++ y :: x :: (s2 ++ (Z3 ++ S))) j j1 x y = P ++ (s3 ++ (x :: (y :: s2) ++ (Z3 ++ S)))) := by
              have h := swp_back (P ++ s3) (s2 ++ (Z3 ++ S)) x y
              rw [HC.out.2, show (P ++ s3).length = j1 by have := HC.out.2; have := hj1'.out; omega] at h
              exact hid (h.trans (by simp))
            go_wp2
            go_region
            go_wp2
            go_roundg (gk - 1)
            case measure => have := hj1'.out; omega
            case rel =>
              refine ⟨j1, s3, y :: s2, by omega, by omega, by have := hj1'.out; omega, rfl, ?_, ?_⟩
              · obtain ⟨f1, f2, f3⟩ := HF.out
                refine hid ⟨by rw [f1]; simp, by have := hj1'.out; simp at f2; omega, fun z hz => ?_⟩
                rcases List.mem_cons.1 hz with hz | hz
                · rw [hz]; exact hlt
                · exact f3 z hz
              · have h := HS.out.drew
                rw [HE.out] at h
                exact hid h
          · have hd : decide (x.1 < y.1) = false := by simp [hlt]
            rw [hd] at hxy
            have HD : Hid (ssort (Z1 ++ [x]) = (s3 ++ [y]) ++ x :: s2) := by
              obtain ⟨f1, f2, f3⟩ := HF.out
              have ha := ssort_asc Z1
              rw [f1] at ha
              exact hid (ins_done Z1 (s3 ++ [y]) s2 x f1 f3 (asc_last s3 y x ((asc_app _ _).1 ha).1 (by omega)))
            go_wp2
            go_roundg (gx - 1)
            case measure => omega
            case rel =>
              refine ⟨i + 1, Z1 ++ [x], Z3, by omega, by omega, by go_num, hid ⟨by rw [HZ.out.1]; simp, ?_, by omega⟩, ?_⟩
              · have := HZ.out.2.1; simp; omega
              · rw [HD.out]; have h := HH4.out; rw [← HC.out.1] at h; exact hid (by simpa using h)
    · have hib2 : ¬ (i : Int) < (b : Int) := by omega
      have HD : Hid (P ++ (ssort Z1 ++ (Z2 ++ S)) = P ++ (ssort Z ++ S)) := by
        obtain ⟨e1, e2, e3⟩ := HE.out
        have h2 : Z2 = [] := List.eq_nil_of_length_eq_zero (by have := HL.out.2.1; rw [e1, List.length_append] at this; omega)
        rw [h2, List.append_nil] at e1
        rw [e1, h2]; exact hid rfl
      go_wp2
      go_end0
      exact ⟨rfl, by have h := HH.out; rw [HD.out] at h; exact h⟩
end Go.Proofs.Ytcmfccooipnmeaa
