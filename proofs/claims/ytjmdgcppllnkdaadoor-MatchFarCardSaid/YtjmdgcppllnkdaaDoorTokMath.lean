/-
  The codes of lengths and distances: first values, extra bits, and the code of a value. No program is named here.
-/
import Derived.Test.YtjmdgcppllnkdaaDoorBitsMath
namespace Go.Proofs.YtjmdgcppllnkdaaDoor

/-- the first value and the extra bits of the code c, in groups of g codes -/
def sb (g c : Nat) : Nat := if c < g then c else (g + c % g) * 2 ^ (c / g - 1)
def sx (g c : Nat) : Nat := if c < g then 0 else c / g - 1
/-- of the length code 257 + k, of the distance code k -/
def lB (k : Nat) : Nat := if k = 28 then 258 else 3 + sb 4 k
def lX (k : Nat) : Nat := if k = 28 then 0 else sx 4 k
def dB (k : Nat) : Nat := 1 + sb 2 k
def dX (k : Nat) : Nat := sx 2 k
/-- c is the code of v: the last one, below m, whose first value is not above v -/
def CodeIs (B : Nat → Nat) (m v c : Nat) : Prop := c < m ∧ B c ≤ v ∧ ∀ d, c < d → d < m → v < B d
theorem CodeIs.same {B : Nat → Nat} {m v c d : Nat} (h : CodeIs B m v c) (h' : CodeIs B m v d) : c = d := by
  obtain ⟨h1, h2, h3⟩ := h
  obtain ⟨g1, g2, g3⟩ := h'
  rcases Nat.lt_trichotomy c d with h | h | h
  · have := h3 d h g1; omega
  · exact h
  · have := g3 c h h1; omega
theorem lB_step : ∀ k, k < 27 → lB (k + 1) = lB k + 2 ^ lX k := by decide +kernel
theorem dB_step : ∀ k, k < 29 → dB (k + 1) = dB k + 2 ^ dX k := by decide +kernel
theorem lB_asc : ∀ k, k < 29 → ∀ j, j < k → lB j < lB k := by decide +kernel
theorem dB_asc : ∀ k, k < 30 → ∀ j, j < k → dB j < dB k := by decide +kernel
theorem lX_le : ∀ k, k < 29 → lX k ≤ 5 := by decide +kernel
theorem dX_le : ∀ k, k < 30 → dX k ≤ 13 := by decide +kernel
theorem lB_le : ∀ k, k < 29 → 3 ≤ lB k ∧ lB k ≤ 258 := by decide +kernel
theorem dB_le : ∀ k, k < 30 → 1 ≤ dB k ∧ dB k ≤ 24577 := by decide +kernel
/-- what a code's value is, fits its extra bits -/
theorem lB_fits : ∀ k, k < 28 → lB (k + 1) ≤ lB k + 2 ^ lX k := by decide +kernel
theorem dB_fits : ∀ k, k < 29 → dB (k + 1) ≤ dB k + 2 ^ dX k := by decide +kernel
theorem len_fits {v c : Nat} (h : CodeIs lB 29 v c) (hv : v ≤ 258) : v - lB c < 2 ^ lX c := by
  obtain ⟨h1, h2, h3⟩ := h
  by_cases hc : c = 28
  · subst hc
    have e : lB 28 = 258 := by decide
    have e2 : lX 28 = 0 := by decide
    rw [e] at h2 ⊢
    rw [e2]
    simp; omega
  · have := h3 (c + 1) (by omega) (by omega)
    have := lB_fits c (by omega)
    omega
theorem dist_fits {v c : Nat} (h : CodeIs dB 30 v c) (hv : v ≤ 32768) : v - dB c < 2 ^ dX c := by
  obtain ⟨h1, h2, h3⟩ := h
  by_cases hc : c = 29
  · subst hc
    have e : dB 29 = 24577 := by decide
    have e2 : dX 29 = 13 := by decide
    rw [e] at h2 ⊢
    rw [e2]
    omega
  · have := h3 (c + 1) (by omega) (by omega)
    have := dB_fits c (by omega)
    omega
end Go.Proofs.YtjmdgcppllnkdaaDoor
