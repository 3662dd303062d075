/-
  Where two sorted ranges are parted for a merge in turns. No program is named here.
-/
import Derived.Test.YtcmfccooipnmeaaStab
namespace Go.Proofs.Ytcmfccooipnmeaa

theorem asc_get : ∀ (l : List Itm), Asc l → ∀ (k k2 : Nat) (x y : Itm), k ≤ k2 → l[k]? = some x → l[k2]? = some y → x.1 ≤ y.1
  | [], _, k, k2, x, y, _, h, _ => by simp at h
  | z :: l, h, 0, 0, x, y, _, h1, h2 => by
    simp only [List.getElem?_cons_zero, Option.some.injEq] at h1 h2
    rw [← h1, ← h2]; exact Nat.le_refl _
  | z :: l, h, 0, k2 + 1, x, y, _, h1, h2 => by
    simp only [List.getElem?_cons_zero, Option.some.injEq] at h1
    rw [← h1]
    exact h.1 y (List.mem_of_getElem? (by simpa using h2))
  | z :: l, h, k + 1, 0, x, y, hk, _, _ => by omega
  | z :: l, h, k + 1, k2 + 1, x, y, hk, h1, h2 => asc_get l h.2 k k2 x y (by omega) (by simpa using h1) (by simpa using h2)
theorem sym_parts (a m b mid s0 r0 s e : Nat) (X Y : List Itm) (hX : a + X.length = m) (hY : m + Y.length = b) (hmid : mid = (a + b) / 2) (hAX : Asc X) (hAY : Asc Y) (hs : s0 ≤ s) (hs2 : s ≤ r0)
    (hcase : (mid < m ∧ s0 + b = mid + m ∧ r0 = mid) ∨ (m ≤ mid ∧ s0 = a ∧ r0 = m)) (he : e + s = mid + m)
    (I1 : s = s0 ∨ ∃ x y, X[s - 1 - a]? = some x ∧ Y[mid + m - s - m]? = some y ∧ x.1 ≤ y.1 ∧ s0 < s)
    (I2 : s = r0 ∨ ∃ x y, X[s - a]? = some x ∧ Y[mid + m - 1 - s - m]? = some y ∧ y.1 < x.1 ∧ s < r0) :
    ∃ X1 X2 Y1 Y2, X = X1 ++ X2 ∧ Y = Y1 ++ Y2 ∧ a + X1.length = s ∧ m + Y1.length = e ∧ (∀ x ∈ X1, ∀ y ∈ Y2, x.1 ≤ y.1) ∧ (∀ y ∈ Y1, ∀ x ∈ X2, y.1 < x.1) := by
  revert I1 I2
  have h1 : a ≤ s := by omega
  have h2 : s ≤ m := by omega
  have h3 : m ≤ e := by omega
  have h4 : e ≤ b := by omega
  have l1 : (X.take (s - a)).length = s - a := by simp; omega
  have l2 : (Y.take (e - m)).length = e - m := by simp; omega
  have c1 : a + (X.take (s - a)).length = s := by omega
  have c2 : m + (Y.take (e - m)).length = e := by omega
  intro I1 I2
  refine ⟨X.take (s - a), X.drop (s - a), Y.take (e - m), Y.drop (e - m), (List.take_append_drop _ _).symm, (List.take_append_drop _ _).symm, c1, c2, fun x hx y hy => ?_, fun y hy x hx => ?_⟩
  · obtain ⟨k, hk⟩ := List.mem_iff_getElem?.1 hx
    obtain ⟨k2, hk2⟩ := List.mem_iff_getElem?.1 hy
    revert I1 I2
    have hkl := (List.getElem?_eq_some_iff.1 hk).1
    have hk2l := (List.getElem?_eq_some_iff.1 hk2).1
    rw [List.length_drop] at hk2l
    rw [List.getElem?_take_of_lt (by omega)] at hk
    rw [List.getElem?_drop] at hk2
    intro I1 I2
    clear I2
    rcases I1 with I1 | ⟨x2, y2, hx2, hy2, hxy, hs3⟩
    · exfalso; omega
    · have g1 := asc_get X hAX k (s - 1 - a) x x2 (by omega) hk hx2
      have g2 := asc_get Y hAY (mid + m - s - m) (e - m + k2) y2 y (by omega) hy2 hk2
      omega
  · obtain ⟨k, hk⟩ := List.mem_iff_getElem?.1 hx
    obtain ⟨k2, hk2⟩ := List.mem_iff_getElem?.1 hy
    revert I1 I2
    have hkl := (List.getElem?_eq_some_iff.1 hk).1
    have hk2l := (List.getElem?_eq_some_iff.1 hk2).1
    rw [List.length_drop] at hkl
    rw [List.getElem?_take_of_lt (by omega)] at hk2
    rw [List.getElem?_drop] at hk
    intro I1 I2
    clear I1
    rcases I2 with I2 | ⟨x2, y2, hx2, hy2, hxy, hs3⟩
    · exfalso; omega
    · have g1 := asc_get X hAX (s - a) (s - a + k) x2 x (by omega) hx2 hk
      have g2 := asc_get Y hAY k2 (mid + m - 1 - s - m) y y2 (by omega) hk2 hy2
      omega
end Go.Proofs.Ytcmfccooipnmeaa
