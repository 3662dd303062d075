/-
  A code begins with no other one; any 15 bits begin with one. No program is named here.
-/
import Derived.Test.YtpecdappchkdiaaCodeMath
namespace Go.Proofs.Ytpecdappchkdiaa

/-- do the bits begin with the code of symbol i -/
def hit (l : List Int) (b i : Nat) : Bool := match l[i]? with
  | some a => isLen a && decide (b / 2 ^ (15 - a.toNat) = codeAt l i)
  | none => false
def hits (l : List Int) (b i : Nat) : Nat := (List.range i).countP (hit l b)
theorem hits_succ (l : List Int) (b i : Nat) : hits l b (i + 1) = hits l b i + (if hit l b i = true then 1 else 0) := by
  unfold hits
  rw [List.range_succ, List.countP_append, List.countP_singleton]
theorem hits_le (l : List Int) (b i : Nat) : hits l b i ≤ i := by
  have := List.countP_le_length (p := hit l b) (l := List.range i)
  simpa [hits] using this
theorem hit_len (l : List Int) (b i p : Nat) (h : l[i]? = some (p : Int)) (hp : 1 ≤ p) (hp2 : p ≤ 15) : hit l b i = decide (b / 2 ^ (15 - p) = codeAt l i) := by
  have : isLen (p : Int) = true := by simp [isLen]; omega
  simp [hit, h, this]
theorem hit_zero (l : List Int) (b i : Nat) (h : l[i]? = some 0) : hit l b i = false := by simp [hit, h, isLen]
theorem code_fits (l : List Int) (i p : Nat) (h : l[i]? = some (p : Int)) (hp : 1 ≤ p) (hp2 : p ≤ 15) (hs : sumOf l ≤ 32768) : codeAt l i < 2 ^ p := by
  obtain ⟨m, rfl⟩ : ∃ m, p = m + 1 := ⟨p - 1, by omega⟩
  have h1 := place_top l i m h (by omega)
  have hw : 0 < 2 ^ (14 - m) := Nat.two_pow_pos _
  have h2 : 2 ^ (m + 1) * 2 ^ (14 - m) = 32768 := by rw [← Nat.pow_add, show m + 1 + (14 - m) = 15 by omega]
  refine Nat.lt_of_mul_lt_mul_right (a := 2 ^ (14 - m)) ?_
  omega
theorem not_begin (l : List Int) (i k p q : Nat) (h : l[i]? = some (p : Int)) (h2 : l[k]? = some (q : Int)) (hp : 1 ≤ p) (hq : q ≤ 15) (hpq : p ≤ q) (hne : k ≠ i) : codeAt l k / 2 ^ (q - p) ≠ codeAt l i := by
  obtain ⟨m, rfl⟩ : ∃ m, p = m + 1 := ⟨p - 1, by omega⟩
  obtain ⟨r, rfl⟩ : ∃ r, q = r + 1 := ⟨q - 1, by omega⟩
  have hw : 0 < 2 ^ (14 - r) := Nat.two_pow_pos _
  by_cases ho : m < r ∨ m = r ∧ i < k
  · have h3 := place_ord l i k m r h h2 (by omega) (by omega) ho
    rw [show 14 - m = (r + 1 - (m + 1)) + (14 - r) by omega, Nat.pow_add] at h3
    have h4 : codeAt l i * 2 ^ (r + 1 - (m + 1)) + 2 ^ (r + 1 - (m + 1)) ≤ codeAt l k := by
      refine Nat.le_of_mul_le_mul_right ?_ hw
      rw [Nat.add_mul, Nat.mul_assoc]; exact h3
    have h5 : codeAt l i + 1 ≤ codeAt l k / 2 ^ (r + 1 - (m + 1)) := by
      rw [Nat.le_div_iff_mul_le (Nat.two_pow_pos _), Nat.add_mul, Nat.one_mul]; exact h4
    omega
  · obtain ⟨rfl, h5⟩ : r = m ∧ k < i := by omega
    have h3 := place_ord l k i r r h2 h (by omega) (by omega) (.inr ⟨rfl, h5⟩)
    have h4 : codeAt l k < codeAt l i := Nat.lt_of_mul_lt_mul_right (a := 2 ^ (14 - r)) (by omega)
    rw [Nat.sub_self, Nat.pow_zero, Nat.div_one]; omega
theorem count_one {p : Nat → Bool} : ∀ {n i : Nat}, i < n → p i = true → (∀ k, k < n → p k = true → k = i) → (List.range n).countP p = 1
  | 0, i, h, _, _ => by omega
  | n + 1, i, h, hi, hu => by
    rw [List.range_succ, List.countP_append, List.countP_singleton]
    by_cases e : i = n
    · subst e
      rw [hi, if_pos rfl]
      have : (List.range i).countP p = 0 := by
        rw [List.countP_eq_zero]
        intro k hk hp
        have hk' := List.mem_range.1 hk
        have := hu k (by omega) hp
        omega
      omega
    · rw [if_neg, count_one (show i < n by omega) hi fun k hk hp => hu k (by omega) hp]
      intro hp
      exact e (hu n (by omega) hp).symm
theorem one_hit (l : List Int) (b : Nat) (hl : ∀ a ∈ l, 0 ≤ a ∧ a ≤ 15) (hs : sumOf l = 32768) (hb : b < 32768) : hits l b l.length = 1 := by
  obtain ⟨i, m, h1, h2, h3, h4⟩ := place_cover l b 15 (by omega) (by show b < sumOf l; omega)
  have hil := (List.getElem?_eq_some_iff.1 h1).1
  have hw : 0 < 2 ^ (14 - m) := Nat.two_pow_pos _
  refine count_one hil ?_ ?_
  · rw [hit_len l b i (m + 1) h1 (by omega) (by omega), decide_eq_true_eq, show 15 - (m + 1) = 14 - m by omega]
    refine Nat.div_eq_of_lt_le h3 ?_
    rw [Nat.add_mul, Nat.one_mul]; exact h4
  · intro k hk hp
    have hg : l[k]? = some l[k] := List.getElem?_eq_getElem hk
    have hr := hl _ (List.mem_of_getElem? hg)
    obtain ⟨q, hq⟩ := Int.eq_ofNat_of_zero_le hr.1
    rw [hq] at hg
    by_cases hq0 : q = 0
    · subst hq0
      rw [hit_zero l b k hg] at hp
      cases hp
    · obtain ⟨r, rfl⟩ : ∃ r, q = r + 1 := ⟨q - 1, by omega⟩
      have hr14 : r ≤ 14 := by omega
      rw [hit_len l b k (r + 1) hg (by omega) (by omega), decide_eq_true_eq, show 15 - (r + 1) = 14 - r by omega] at hp
      have hwr : 0 < 2 ^ (14 - r) := Nat.two_pow_pos _
      have h5 := Nat.div_add_mod b (2 ^ (14 - r))
      have h6 := Nat.mod_lt b hwr
      rw [hp, Nat.mul_comm] at h5
      by_cases hki : k = i
      · exact hki
      · exfalso
        by_cases ho : r < m ∨ r = m ∧ k < i
        · have := place_ord l k i r m hg h1 hr14 (by omega) ho
          omega
        · have := place_ord l i k m r h1 hg (by omega) hr14 (by omega)
          omega
/-- one code, or each of the bits' texts begins with one -/
theorem end_hits (l : List Int) (b : Nat) (hl : ∀ a ∈ l, 0 ≤ a ∧ a ≤ 15) (hs : sumOf l = 0 ∨ sumOf l = 32768 ∨ sumOf l = 16384 ∧ l.count 1 = 1) (hb : b < 32768) : coded l < 2 ∨ hits l b l.length = 1 := by
  have h1 := sum_bounds l hl
  by_cases h : sumOf l = 32768
  · exact .inr (one_hit l b hl h hb)
  · left; omega
end Go.Proofs.Ytpecdappchkdiaa
