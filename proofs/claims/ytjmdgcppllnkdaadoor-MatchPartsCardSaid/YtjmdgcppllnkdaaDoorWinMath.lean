/-
  Copies of earlier bytes. No program is named here.
-/
import Derived.Test.YtjmdgcppllnkdaaDoorBitsMath
namespace Go.Proofs.YtjmdgcppllnkdaaDoor

/-- n bytes more, each the one that is d places before it -/
def ext (l : List Nat) (d : Nat) : Nat → List Nat
  | 0 => l
  | n + 1 => ext l d n ++ [(ext l d n)[l.length + n - d]?.getD 0]
theorem ext_length (l : List Nat) (d : Nat) : ∀ n, (ext l d n).length = l.length + n
  | 0 => rfl
  | n + 1 => by rw [ext, List.length_append, ext_length l d n]; rfl
/-- the bytes that are copied -/
def out (l : List Nat) (d n : Nat) : List Nat := (ext l d n).drop l.length
theorem out_length (l : List Nat) (d n : Nat) : (out l d n).length = n := by rw [out, List.length_drop, ext_length]; omega
theorem ext_out (l : List Nat) (d : Nat) : ∀ n, ext l d n = l ++ out l d n
  | 0 => by simp [ext, out]
  | n + 1 => by
    have ih := ext_out l d n
    rw [out, ext, List.drop_append_of_le_length (by rw [ext_length]; omega)]
    show ext l d n ++ _ = l ++ (out l d n ++ _)
    rw [← List.append_assoc, ← ih]
theorem out_succ (l : List Nat) (d n : Nat) : out l d (n + 1) = out l d n ++ [(ext l d n)[l.length + n - d]?.getD 0] := by
  rw [out, ext, List.drop_append_of_le_length (by rw [ext_length]; omega)]; rfl
theorem ext_lt (l : List Nat) (d : Nat) (h : ∀ b ∈ l, b < 256) : ∀ n, ∀ b ∈ ext l d n, b < 256
  | 0 => h
  | n + 1 => fun b hb => by
    have ih := ext_lt l d h n
    rcases List.mem_append.1 hb with hb | hb
    · exact ih b hb
    · rw [List.mem_singleton.1 hb]
      cases e : (ext l d n)[l.length + n - d]? with
      | none => decide
      | some x => exact ih x (List.mem_of_getElem? e)
theorem ext_take (l : List Nat) (d : Nat) (m : Nat) : ∀ k, (ext l d (m + k)).take (l.length + m) = ext l d m
  | 0 => by rw [Nat.add_zero, List.take_of_length_le (by rw [ext_length]; exact Nat.le_refl _)]
  | k + 1 => by
    rw [← Nat.add_assoc, ext, List.take_append_of_le_length (by rw [ext_length]; omega), ext_take l d m k]
/-- A copied byte is the one that is d places before it. -/
theorem ext_get (l : List Nat) (d n i : Nat) (hi : i < n) (h1 : 1 ≤ d) (h2 : d ≤ l.length) : (ext l d n)[l.length + i]? = (ext l d n)[l.length + i - d]? := by
  have ht := ext_take l d (i + 1) (n - (i + 1))
  rw [show i + 1 + (n - (i + 1)) = n by omega] at ht
  have e1 : (ext l d n)[l.length + i]? = (ext l d (i + 1))[l.length + i]? := by rw [← ht, List.getElem?_take_of_lt (by omega)]
  have e2 : (ext l d n)[l.length + i - d]? = (ext l d (i + 1))[l.length + i - d]? := by rw [← ht, List.getElem?_take_of_lt (by omega)]
  have hL := ext_length l d i
  obtain ⟨x, hx⟩ : ∃ x, (ext l d i)[l.length + i - d]? = some x := ⟨(ext l d i)[l.length + i - d]'(by omega), List.getElem?_eq_getElem _⟩
  have hE : ext l d (i + 1) = ext l d i ++ [x] := by rw [ext, hx]; rfl
  have a1 : (ext l d i ++ [x])[l.length + i]? = some x := by rw [List.getElem?_append_right (by omega), hL]; simp
  have a2 : (ext l d i ++ [x])[l.length + i - d]? = some x := by rw [List.getElem?_append_left (by omega)]; exact hx
  rw [e1, e2, hE, a1, a2]
/-- They are the last d bytes, over and over. -/
theorem ext_mod (l : List Nat) (d n : Nat) (h1 : 1 ≤ d) (h2 : d ≤ l.length) (i : Nat) (hi : i < n) : (ext l d n)[l.length + i]? = l[l.length - d + i % d]? := by
  induction i using Nat.strongRecOn with
  | _ i ih =>
    rw [ext_get l d n i hi h1 h2]
    by_cases h : i < d
    · rw [ext_out, List.getElem?_append_left (by omega), Nat.mod_eq_of_lt h]
      congr 1; omega
    · have := ih (i - d) (by omega) (by omega)
      rw [show l.length + i - d = l.length + (i - d) by omega, this]
      congr 2
      exact (Nat.mod_eq_sub_mod (by omega)).symm
theorem out_get (l : List Nat) (d n i : Nat) (hi : i < n) (h1 : 1 ≤ d) (h2 : d ≤ l.length) : (out l d n)[i]? = l[l.length - d + i % d]? := by
  rw [← ext_mod l d n h1 h2 i hi, out, List.getElem?_drop]
theorem out_lt (l : List Nat) (d n : Nat) (h : ∀ b ∈ l, b < 256) : ∀ b ∈ out l d n, b < 256 := fun b hb => ext_lt l d h n b (List.mem_of_mem_drop hb)
end Go.Proofs.YtjmdgcppllnkdaaDoor
