/-
  An own slice of items: where they lie, and two of them changed for each other.
-/
import Derived.Test.YtcmfccooipnmeaaCmp
namespace Go.Proofs.Ytcmfccooipnmeaa
open Go.RowKit

def cellsI (l : List Itm) : List Value := l.flatMap fun x => [.int .i64 (x.1 : Int), .int .i64 x.2]
theorem cellsI_length (l : List Itm) : (cellsI l).length = l.length * 2 := by
  induction l with
  | nil => rfl
  | cons x l ih => simp [cellsI] at ih ⊢; omega
theorem cellsI_cons (x : Itm) (l : List Itm) : cellsI (x :: l) = .int .i64 (x.1 : Int) :: .int .i64 x.2 :: cellsI l := by simp [cellsI]
theorem cellsI_app (l m : List Itm) : cellsI (l ++ m) = cellsI l ++ cellsI m := by simp [cellsI]
theorem cellsI_get : ∀ (l : List Itm) (j : Nat) (x : Itm), l[j]? = some x → (cellsI l)[j * 2]? = some (.int .i64 (x.1 : Int)) ∧ (cellsI l)[j * 2 + 1]? = some (.int .i64 x.2)
  | [], _, _, h => by simp at h
  | y :: l, 0, x, h => by
    obtain rfl : y = x := by simpa using h
    rw [cellsI_cons]; simp
  | y :: l, j + 1, x, h => by
    have := cellsI_get l j x (by simpa using h)
    rw [cellsI_cons, show (j + 1) * 2 = j * 2 + 1 + 1 by omega, show j * 2 + 1 + 1 + 1 = (j * 2 + 1) + 1 + 1 by omega]
    simpa using this
theorem cellsI_set : ∀ (l : List Itm) (j : Nat) (x : Itm), j < l.length → cellsI (l.set j x) = ((cellsI l).set (j * 2) (.int .i64 (x.1 : Int))).set (j * 2 + 1) (.int .i64 x.2)
  | [], _, _, h => by simp at h
  | y :: l, 0, x, _ => by rw [List.set_cons_zero, cellsI_cons, cellsI_cons]; simp
  | y :: l, j + 1, x, h => by
    rw [List.set_cons_succ, cellsI_cons, cellsI_cons, cellsI_set l j x (by simpa using h), show (j + 1) * 2 = j * 2 + 1 + 1 by omega]
    simp
theorem cellsI_one (l : List Itm) : ∀ u ∈ cellsI l, u.oneCell' = true := by
  intro u hu
  obtain ⟨x, _, hx⟩ := List.mem_flatMap.1 hu
  rcases List.mem_cons.1 hx with rfl | hx
  · rfl
  · rw [List.mem_singleton.1 hx]; rfl
/-- a slice of items, the call's own -/
def itmT (v : Value) (l : List Itm) : Thing := ownT 41 2 v l.length (cellsI l)
theorem Own.site2 {w : World} {e : TypeId} {v : Value} {l : List Itm} (h : Own w e 2 v l.length (cellsI l)) (hn : 0 < l.length) :
    ∃ g off cap, v = .slice (some ⟨g, off, none⟩) l.length cap ∧ l.length ≤ cap ∧ cap ≤ maxLen ∧ (∀ j x, l[j]? = some x → w.cell? ⟨g, off + j * 2, none⟩ = some (.int .i64 (x.1 : Int)) ∧ w.cell? ⟨g, off + j * 2 + 1, none⟩ = some (.int .i64 x.2)) ∧
      (∀ j, w.frozen? ⟨g, j, none⟩ = false) ∧
      ∀ j x, j < l.length → Own ((w.setCell ⟨g, off + j * 2, none⟩ (.int .i64 (x.1 : Int))).setCell ⟨g, off + j * 2 + 1, none⟩ (.int .i64 x.2)) e 2 v (l.set j x).length (cellsI (l.set j x)) := by
  rcases h.2 with ⟨hv, h0⟩ | ⟨g, off, cap, cur, rfl, hg, hnc, hc, hsz, hcur⟩
  · omega
  · refine ⟨g, off, cap, rfl, hnc, hc, fun j x hx => ?_, fun j => frozen_of_row w g _ cur e hg, fun j x hj => ?_⟩
    · obtain ⟨h1, h2⟩ := cellsI_get l j x hx
      refine ⟨by rw [cell_of_row w g _ cur e (0, 0) hg]; exact hcur _ _ h1, by rw [cell_of_row w g _ cur e (0, 0) hg]; exact hcur _ _ h2⟩
    · have e1 := heap_setCell_same w g (off + j * 2) cur e (.int .i64 (x.1 : Int)) hg
      have e2 := heap_setCell_same _ g (off + j * 2 + 1) _ e (.int .i64 x.2) e1
      refine ⟨by rw [List.length_set, cellsI_length, List.length_set], .inr ⟨g, off, cap, _, by rw [List.length_set], e2, by rw [List.length_set]; exact hnc, hc, by simpa using hsz, fun i v hv => ?_⟩⟩
      rw [cellsI_set l j x hj] at hv
      have hl := cellsI_length l
      rw [Array.getElem?_setIfInBounds, Array.getElem?_setIfInBounds]
      rw [List.getElem?_set, List.getElem?_set] at hv
      simp only [List.length_set, Array.size_setIfInBounds] at hv ⊢
      by_cases c1 : j * 2 + 1 = i
      · rw [if_pos c1, if_pos (by omega)] at hv
        rw [if_pos (by omega), if_pos (by omega)]; exact hv
      · rw [if_neg c1] at hv
        rw [if_neg (by omega)]
        by_cases c2 : j * 2 = i
        · rw [if_pos c2, if_pos (by omega)] at hv
          rw [if_pos (by omega), if_pos (by omega)]; exact hv
        · rw [if_neg c2] at hv
          rw [if_neg (by omega)]
          exact hcur i v hv
/-- two of them changed for each other -/
def swp (l : List Itm) (i j : Nat) (x y : Itm) : List Itm := (l.set i y).set j x
theorem swp_is (A B C : List Itm) (x y : Itm) : swp (A ++ x :: B ++ y :: C) A.length (A.length + 1 + B.length) x y = A ++ y :: B ++ x :: C := by
  unfold swp
  rw [List.append_assoc, List.set_append_right _ _ (Nat.le_refl _), Nat.sub_self, List.cons_append, List.set_cons_zero, List.set_append_right _ _ (by omega), show A.length + 1 + B.length - A.length = B.length + 1 by omega,
    List.set_cons_succ, List.set_append_right _ _ (Nat.le_refl _), Nat.sub_self, List.set_cons_zero, List.append_assoc, List.cons_append]
theorem Held.site2 {w0 w : World} {v : Value} {l : List Itm} {Rs : List Thing} (h : Held w0 w (itmT v l :: Rs)) (hn : 0 < l.length) :
    ∃ g off cap, v = .slice (some ⟨g, off, none⟩) l.length cap ∧ l.length ≤ cap ∧ cap ≤ maxLen ∧ (∀ j x, l[j]? = some x → w.cell? ⟨g, off + j * 2, none⟩ = some (.int .i64 (x.1 : Int)) ∧ w.cell? ⟨g, off + j * 2 + 1, none⟩ = some (.int .i64 x.2)) ∧
      (∀ j, w.frozen? ⟨g, j, none⟩ = false) ∧
      ∀ j x, j < l.length → Held w0 ((w.setCell ⟨g, off + j * 2, none⟩ (.int .i64 (x.1 : Int))).setCell ⟨g, off + j * 2 + 1, none⟩ (.int .i64 x.2)) (itmT v (l.set j x) :: Rs) := by
  obtain ⟨g, off, cap, rfl, h1, h2, h3, h4, h5⟩ := h.own.site2 hn
  refine ⟨g, off, cap, rfl, h1, h2, h3, h4, fun j x hj => ?_⟩
  have ho := h5 j x hj
  obtain ⟨F, k1, k2, back⟩ := h.take
  exact back _ _ F ⟨ho, k1.2⟩ ((((Mod.refl w _).setCell (p := ⟨g, off + j * 2, none⟩) (.inr ((k1.2 g).2 rfl)) _)).setCell (p := ⟨g, off + j * 2 + 1, none⟩) (.inr ((k1.2 g).2 rfl)) _) (fun k hk => .inl hk) (fun k hk => by
    have := (k2 k hk).2
    simpa [World.setCell] using this)
theorem Held.swap2 {w0 w : World} {ao : Option Addr} {N cap : Nat} {l : List Itm} {Rs : List Thing} (h : Held w0 w (itmT (.slice ao N cap) l :: Rs)) {i j : Nat} {x y : Itm} (hi : l[i]? = some x) (hj : l[j]? = some y) :
    ∃ g off, ao = some ⟨g, off, none⟩ ∧ w.cell? ⟨g, off + i * 2, none⟩ = some (.int .i64 (x.1 : Int)) ∧ w.cell? ⟨g, off + i * 2 + 1, none⟩ = some (.int .i64 x.2) ∧
      w.cell? ⟨g, off + j * 2, none⟩ = some (.int .i64 (y.1 : Int)) ∧ w.cell? ⟨g, off + j * 2 + 1, none⟩ = some (.int .i64 y.2) ∧ (∀ k, w.frozen? ⟨g, k, none⟩ = false) ∧
      Hid (Held w0 ((((w.setCell ⟨g, off + i * 2, none⟩ (.int .i64 (y.1 : Int))).setCell ⟨g, off + i * 2 + 1, none⟩ (.int .i64 y.2)).setCell ⟨g, off + j * 2, none⟩ (.int .i64 (x.1 : Int))).setCell ⟨g, off + j * 2 + 1, none⟩ (.int .i64 x.2)) (itmT (.slice ao N cap) (swp l i j x y) :: Rs)) := by
  have hil : i < l.length := (List.getElem?_eq_some_iff.1 hi).1
  have hjl : j < l.length := (List.getElem?_eq_some_iff.1 hj).1
  obtain ⟨g, off, cap', hv, _, _, h3, h4, h5⟩ := h.site2 (by omega)
  simp only [Value.slice.injEq] at hv
  obtain ⟨rfl, rfl, rfl⟩ := hv
  have k1 := h5 i y hil
  obtain ⟨g', off', cap'', hv, _, _, _, _, k5⟩ := k1.site2 (by simp; omega)
  simp only [Value.slice.injEq, Option.some.injEq, Addr.mk.injEq, and_true] at hv
  obtain ⟨⟨rfl, rfl⟩, _, rfl⟩ := hv
  exact ⟨g, off, rfl, (h3 i x hi).1, (h3 i x hi).2, (h3 j y hj).1, (h3 j y hj).2, h4, hid (k5 j x (by simpa using hjl))⟩
end Go.Proofs.Ytcmfccooipnmeaa
