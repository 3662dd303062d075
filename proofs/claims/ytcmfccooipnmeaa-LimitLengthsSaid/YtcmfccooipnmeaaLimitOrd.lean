/-
  What follows from lengths as the document asks, also of one symbol or none: order, greater limits, turned frequencies.
-/
import Derived.Test.YtcmfccooipnmeaaLimitOK
import Derived.Test.YtcmfccooipnmeaaLimitPack
import Derived.Test.YtcmfccooipnmeaaLimitLaw
namespace Go.Proofs.Ytcmfccooipnmeaa

theorem few_cst : ∀ (l f : List Nat), l.length = f.length → (∀ (i a b : Nat), l[i]? = some a → f[i]? = some b → a = if 0 < b then 1 else 0) → cst l f = total f
  | [], [], _, _ => rfl
  | [], b :: f, h, _ => by simp at h
  | a :: l, [], h, _ => by simp at h
  | a :: l, b :: f, h, hs => by
    have ih := few_cst l f (by simpa using h) fun i x y hx hy => hs (i + 1) x y (by simpa using hx) (by simpa using hy)
    have h0 := hs 0 a b rfl rfl
    rw [cst, total, ih, h0]
    by_cases hb : 0 < b
    · rw [if_pos hb]; omega
    · rw [if_neg hb]; omega
theorem codedN_append (a b : List Nat) : codedN (a ++ b) = codedN a + codedN b := by
  induction a with
  | nil => simp [codedN]
  | cons x a ih => rw [List.cons_append, codedN, codedN, ih]; omega
theorem LenOK.order {f l : List Nat} {m : Nat} (h : LenOK f m l) {i j a b c d : Nat} (hi : l[i]? = some a) (hj : l[j]? = some b) (hfi : f[i]? = some c) (hfj : f[j]? = some d) (hd : 0 < d) (hcd : d < c) : a ≤ b := by
  by_cases hc : codedN f < 2
  · have h1 := h.few hc i a c hi hfi
    have h2 := h.few hc j b d hj hfj
    rw [if_pos (by omega)] at h1 h2
    omega
  · exact (h.best (by omega)).order hi hj hfi hfj hd hcd
theorem LenOK.more {f l k : List Nat} {m : Nat} (h : LenOK f m l) (h2 : LenOK f (m + 1) k) : cst k f ≤ cst l f := by
  by_cases hc : codedN f < 2
  · rw [few_cst k f h2.len (h2.few hc), few_cst l f h.len (h.few hc)]; exact Nat.le_refl _
  · exact (h.best (by omega)).more (h2.best (by omega))
theorem LenOK.turn {f1 f2 l x : List Nat} {m : Nat} (h : LenOK (f1 ++ f2) m l) (h2 : LenOK (f2 ++ f1) m x) : cst x (f2 ++ f1) = cst l (f1 ++ f2) := by
  have hcc : codedN (f2 ++ f1) = codedN (f1 ++ f2) := by rw [codedN_append, codedN_append]; omega
  by_cases hc : codedN (f1 ++ f2) < 2
  · rw [few_cst x _ h2.len (h2.few (by omega)), few_cst l _ h.len (h.few hc), total_append, total_append]; omega
  · exact (h.best (by omega)).turn (h2.best (by omega))
/-- what the law's check asks -/
theorem LenOK.sound {f l : List Nat} {m : Nat} (h : LenOK f m l) (hm : 1 ≤ m) :
    (∀ (i a b : Nat), l[i]? = some a → f[i]? = some b → (0 < a ↔ 0 < b)) ∧ (∀ a ∈ l, a ≤ m) ∧ (if codedN f < 2 then kr l = 16384 * codedN f else kr l = 32768) := by
  by_cases hc : codedN f < 2
  · have hf := h.few hc
    have hs : ∀ (i a b : Nat), l[i]? = some a → f[i]? = some b → (0 < a ↔ 0 < b) := by
      intro i a b ha hb
      have := hf i a b ha hb
      split at this <;> omega
    have h1 : ∀ a ∈ l, a ≤ 1 := by
      intro a ha
      obtain ⟨i, hi⟩ := List.mem_iff_getElem?.1 ha
      have hil := (List.getElem?_eq_some_iff.1 hi).1
      obtain ⟨b, hb⟩ := get_some (l := f) (i := i) (by rw [← h.len]; exact hil)
      have := hf i a b hi hb
      split at this <;> omega
    refine ⟨hs, fun a ha => by have := h1 a ha; omega, ?_⟩
    rw [if_pos hc, kr_ones l h1, codedN_sup l f h.len hs]
  · have ho := h.best (by omega)
    refine ⟨ho.good.sup, ho.good.le, ?_⟩
    rw [if_neg hc]; exact ho.good.whole
end Go.Proofs.Ytcmfccooipnmeaa
