/-
  A code that is split, or taken away. No program is named here.
-/
import Derived.Test.YthjmjaeffdcfcaaCodeMath
namespace Go.Proofs.Ythjmjaeffdcfcaa

theorem sum_set (b : Int) : ∀ (l : List Int) (k : Nat) (a : Int), l[k]? = some a → sumOf (l.set k b) + wtTo 15 a = sumOf l + wtTo 15 b
  | [], k, a, h => by simp at h
  | c :: l, 0, a, h => by
    simp only [List.getElem?_cons_zero, Option.some.injEq] at h
    subst h
    rw [List.set_cons_zero, sum_cons, sum_cons]; omega
  | c :: l, k + 1, a, h => by
    rw [List.set_cons_succ, sum_cons, sum_cons]
    have := sum_set b l k a (by simpa using h)
    omega
theorem coded_set0 : ∀ (l : List Int) (k : Nat) (a : Int), l[k]? = some a → 0 < a → coded (l.set k 0) + 1 = coded l
  | [], k, a, h, _ => by simp at h
  | c :: l, 0, a, h, ha => by
    simp only [List.getElem?_cons_zero, Option.some.injEq] at h
    subst h
    unfold coded
    rw [List.set_cons_zero, List.countP_cons_of_neg (by simp), List.countP_cons_of_pos (by simpa using ha)]
  | c :: l, k + 1, a, h, ha => by
    have ih := coded_set0 l k a (by simpa using h) ha
    unfold coded at *
    rw [List.set_cons_succ, List.countP_cons, List.countP_cons]
    omega
theorem mem_set {l : List Int} {k : Nat} {b x : Int} (h : x ∈ l.set k b) : x ∈ l ∨ x = b := List.mem_or_eq_of_mem_set h
theorem wt_of (p : Nat) (h1 : 1 ≤ p) (h : p ≤ 15) : wtTo 15 (p : Int) = 2 ^ (15 - p) := by
  unfold wtTo; rw [if_pos (by omega)]; simp
theorem wt_half (p : Nat) (h1 : 1 ≤ p) (h : p ≤ 14) : wtTo 15 (p : Int) = 2 * wtTo 15 ((p + 1 : Nat) : Int) := by
  rw [wt_of p h1 (by omega), wt_of (p + 1) (by omega) (by omega), show 15 - p = (15 - (p + 1)) + 1 by omega, Nat.pow_succ, Nat.mul_comm]
theorem check_of {l : List Int} (hl : ∀ a ∈ l, 0 ≤ a ∧ a ≤ 15) (hn : l.length ≤ 288) : checkOf l 15 = if sumOf l = 0 ∨ sumOf l = 32768 ∨ sumOf l = 16384 ∧ l.count 1 = 1 then 0 else 3 := by
  unfold checkOf argBad
  rw [(allIn_iff l 15).2 hl, if_neg (by simp; omega)]
section
variable {l : List Int} {k p : Nat} (hl : ∀ a ∈ l, 0 ≤ a ∧ a ≤ 15) (hn : l.length ≤ 280) (hs : sumOf l = 32768) (hk : l[k]? = some (p : Int)) (h1 : 1 ≤ p) (hp : p ≤ 14)
include hs hk h1 hp
theorem split_sum : sumOf (l.set k ((p + 1 : Nat) : Int) ++ [((p + 1 : Nat) : Int)]) = 32768 := by
  rw [sum_snoc]
  have h2 := sum_set ((p + 1 : Nat) : Int) l k _ hk
  have h3 := wt_half p h1 hp
  omega
include hl hn
theorem split_check : checkOf (l.set k ((p + 1 : Nat) : Int) ++ [((p + 1 : Nat) : Int)]) 15 = 0 := by
  rw [check_of, split_sum hs hk h1 hp, if_pos (by omega)]
  · intro a ha
    rcases List.mem_append.1 ha with h | h
    · rcases mem_set h with h | h
      · exact hl a h
      · subst h; omega
    · obtain rfl := List.mem_singleton.1 h
      omega
  · simp; omega
theorem gone_check (hc : coded l ≠ 2) : checkOf (l.set k 0) 15 = 3 := by
  have hl2 : ∀ a ∈ l.set k 0, 0 ≤ a ∧ a ≤ 15 := by
    intro a ha
    rcases mem_set ha with h | h
    · exact hl a h
    · subst h; omega
  rw [check_of hl2 (by simp; omega), if_neg]
  have h2 := sum_set 0 l k _ hk
  have h3 : wtTo 15 0 = 0 := by decide
  have h4 := wt_le (p : Int)
  have h5 : 0 < wtTo 15 (p : Int) := by rw [wt_of p h1 (by omega)]; exact Nat.two_pow_pos _
  have h6 := sum_bounds _ hl2
  have h7 := coded_set0 l k _ hk (by omega)
  omega
end
theorem more_check {l : List Int} (hl : ∀ a ∈ l, 0 ≤ a ∧ a ≤ 15) (hn : l.length ≤ 280) (hs : sumOf l = 32768) : checkOf (l ++ [15]) 15 = 3 := by
  rw [check_of, if_neg]
  · rw [sum_snoc, hs, show wtTo 15 15 = 1 by decide]; omega
  · intro a ha
    rcases List.mem_append.1 ha with h | h
    · exact hl a h
    · obtain rfl := List.mem_singleton.1 h
      omega
  · simp; omega
end Go.Proofs.Ythjmjaeffdcfcaa
