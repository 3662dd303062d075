/-
  Whole numbers as the elements of a slice, and small laws of lists and sums. No program is named here.
-/
import Derived.Test.YtpecdappchkdiaaCodeMath
import Derived.Test.YtpecdappchkdiaaSlices
import Derived.Test.YtpecdappchkdiaaPut
namespace Go.Proofs.Ytpecdappchkdiaa
open Go.RowKit

theorem ret_int {k : IntKind} {a b : Int} (h : a = b) : Ending.returned (.int k a) = .returned (.int k b) := by rw [h]
/-- whole numbers as the cells of a slice -/
def ints (l : List Int) : List Value := l.map fun n => Value.int .i64 n
theorem ints_length (l : List Int) : (ints l).length = l.length := by simp [ints]
theorem ints_get (l : List Int) (j : Nat) : (ints l)[j]? = (l[j]?).map fun n => Value.int .i64 n := by simp [ints]
theorem ints_one (l : List Int) : ∀ u ∈ ints l, u.oneCell' = true := by
  intro u hu
  obtain ⟨_, _, rfl⟩ := List.mem_map.1 hu
  rfl
theorem ints_append (l m : List Int) : ints (l ++ m) = ints l ++ ints m := by simp [ints]

theorem take_snoc3 (l : List Int) (i : Nat) (a : Int) (h : l[i]? = some a) : l.take (i + 1) = l.take i ++ [a] := by rw [List.take_add_one, h]; rfl
theorem two_pow_int (c : Nat) : ((2 : Int) ^ c) = ((2 ^ c : Nat) : Int) := by simp
theorem allIn_snoc (l : List Int) (a most : Int) : allIn (l ++ [a]) most = (allIn l most && decide (0 ≤ a ∧ a ≤ most)) := by simp [allIn]
theorem allIn_take (l : List Int) (i : Nat) (most : Int) (h : allIn (l.take i) most = false) : allIn l most = false := by
  rw [← List.take_append_drop i l]
  unfold allIn at *
  rw [List.all_append, h]; rfl
theorem take_le (l : List Int) (i : Nat) : (l.take i).length ≤ i := by simp; omega
theorem coded_snoc (l : List Int) (a : Int) : coded (l ++ [a]) = coded l + (if 0 < a then 1 else 0) := by
  unfold coded
  rw [List.countP_append, List.countP_singleton]
  by_cases h : 0 < a
  · rw [if_pos h]; simp [h]
  · rw [if_neg h]; simp [h]
theorem count1_snoc (l : List Int) (a : Int) : (l ++ [a]).count 1 = l.count 1 + (if a = 1 then 1 else 0) := by
  rw [List.count_append, List.count_singleton]
  by_cases h : a = 1
  · subst h; rfl
  · rw [if_neg h]; simp [h]
theorem check_bad {l : List Int} {most : Int} (h : allIn l most = false) : checkOf l most = 1 := by
  unfold checkOf argBad
  rw [h, if_pos (by simp)]
/-- what a length or a frequency counts as -/
def valOf (a : Int) : Nat := if 0 ≤ a ∧ a ≤ 1048576 then a.toNat else 0
def costTo (l f : List Int) : Nat → Nat
  | 0 => 0
  | k + 1 => costTo l f k + valOf (l.getD k 0) * valOf (f.getD k 0)
theorem valOf_le (a : Int) : valOf a ≤ 1048576 := by unfold valOf; split <;> omega
theorem val_mul (a b : Int) : valOf a * valOf b ≤ 1099511627776 := Nat.mul_le_mul (valOf_le a) (valOf_le b)
theorem costTo_le (l f : List Int) (k : Nat) : costTo l f k ≤ 1099511627776 * k := by
  induction k with
  | zero => simp [costTo]
  | succ k ih => rw [costTo]; have := val_mul (l.getD k 0) (f.getD k 0); omega

theorem wrapEq (x : Int) : IntKind.i64.wrap x = wrap64 x := by rw [IntKind.wrap_i64]; unfold wrap64; rfl
theorem wrap_nat (z : Nat) (h : z < 9223372036854775808) : IntKind.i64.wrap (z : Int) = (z : Int) := by rw [wrapEq]; unfold wrap64; omega
theorem getD_of {l : List Int} {i : Nat} {a : Int} (h : l[i]? = some a) : l.getD i 0 = a := by simp [List.getD, h]

/-- an element of a slice, where it lies -/
theorem Rd.at {w : World} {g off n cap j : Nat} {xs : List Value} {u : Value} (h : Rd w 1 (.slice (some ⟨g, off, none⟩) n cap) n xs) (hu : xs[j]? = some u) : w.cell? ⟨g, off + j, none⟩ = some u := by
  have hj := (List.getElem?_eq_some_iff.1 hu).1
  obtain ⟨b, o, hb, hc⟩ := h.spot (by have := h.1; omega)
  simp only [Option.some.injEq, Addr.mk.injEq, and_true] at hb
  obtain ⟨rfl, rfl⟩ := hb
  exact hc j u hu
end Go.Proofs.Ytpecdappchkdiaa
