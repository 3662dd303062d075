/-
  The last bytes of a list, as many as a window keeps. No program is named here.
-/
import Derived.Test.YtgngkphdiaefcaaWinMath
namespace Go.Proofs.Ytgngkphdiaefcaa

def keepN (S : Nat) (l : List Nat) : List Nat := l.drop (l.length - S)
theorem keepN_length (S : Nat) (l : List Nat) : (keepN S l).length = min l.length S := by rw [keepN, List.length_drop]; omega
theorem keepN_short (S : Nat) (l : List Nat) (h : l.length ≤ S) : keepN S l = l := by rw [keepN, Nat.sub_eq_zero_of_le h, List.drop_zero]
theorem keepN_behind (S : Nat) (p l : List Nat) (h : S ≤ l.length) : keepN S (p ++ l) = keepN S l := by
  have e : p.length + l.length - S = p.length + (l.length - S) := by omega
  rw [keepN, List.length_append, e, List.drop_append, keepN]
  simp
theorem keepN_split (S : Nat) (l : List Nat) : l.take (l.length - S) ++ keepN S l = l := List.take_append_drop _ _
theorem keepN_app (S : Nat) (l m : List Nat) : keepN S (keepN S l ++ keepN S m) = keepN S (l ++ m) := by
  have hl := keepN_length S l
  have hm := keepN_length S m
  by_cases h : S ≤ m.length
  · rw [keepN_behind S l m h, keepN_behind S _ _ (by omega)]
    exact keepN_short S _ (by omega)
  · rw [keepN_short S m (by omega)]
    by_cases h2 : l.length ≤ S
    · rw [keepN_short S l h2]
    · have e : l ++ m = l.take (l.length - S) ++ (keepN S l ++ m) := by rw [← List.append_assoc, keepN_split]
      rw [e, keepN_behind S _ (keepN S l ++ m) (by rw [List.length_append]; omega)]
theorem ext_app (p l : List Nat) (d : Nat) (h : d ≤ l.length) : ∀ n, ext (p ++ l) d n = p ++ ext l d n
  | 0 => rfl
  | n + 1 => by
    have e : p.length + l.length + n - d = p.length + (l.length + n - d) := by omega
    rw [ext, ext, ext_app p l d h n, List.append_assoc, List.length_append, e, List.getElem?_append_right (by omega), Nat.add_sub_cancel_left]
theorem out_app (p l : List Nat) (d n : Nat) (h : d ≤ l.length) : out (p ++ l) d n = out l d n := by
  rw [out, out, ext_app p l d h n, List.length_append, List.drop_append]
  simp
theorem keepN_ext (S : Nat) (l : List Nat) (d n : Nat) (h : d ≤ (keepN S l).length) : keepN S (ext (keepN S l) d n) = keepN S (ext l d n) := by
  by_cases h2 : l.length ≤ S
  · rw [keepN_short S l h2]
  · have hk := keepN_length S l
    have e : ext l d n = l.take (l.length - S) ++ ext (keepN S l) d n := by rw [← ext_app _ _ _ h, keepN_split]
    rw [e, keepN_behind S _ (ext (keepN S l) d n) (by rw [ext_length]; omega)]
theorem out_keepN (S : Nat) (l : List Nat) (d n : Nat) (h : d ≤ (keepN S l).length) : out (keepN S l) d n = out l d n := by
  have e := out_app (l.take (l.length - S)) (keepN S l) d n h
  rw [keepN_split] at e
  exact e.symm
theorem drop_keepN (S : Nat) (l : List Nat) (n : Nat) (h1 : n ≤ l.length) (h2 : n ≤ S) : (keepN S l).drop ((keepN S l).length - n) = l.drop (l.length - n) := by
  have e : l.length - S + (l.length - (l.length - S) - n) = l.length - n := by omega
  rw [keepN, List.length_drop, List.drop_drop, e]
theorem out_drop (l : List Nat) (d n : Nat) : (ext l d n).drop ((ext l d n).length - n) = out l d n := by
  rw [ext_length, Nat.add_sub_cancel, out]
end Go.Proofs.Ytgngkphdiaefcaa
