/-
  Between whole numbers and natural ones: costs, counts and checks of lengths. No program is named here.
-/
import Derived.Test.YtcmfccooipnmeaaLimitSort
import Derived.Test.YtcmfccooipnmeaaInts
import Derived.Test.YtcmfccooipnmeaaArr
namespace Go.Proofs.Ytcmfccooipnmeaa

def castL (l : List Nat) : List Int := l.map fun (n : Nat) => (n : Int)
theorem castL_length (l : List Nat) : (castL l).length = l.length := by simp [castL]
theorem castL_get (l : List Nat) (i : Nat) : (castL l)[i]? = (l[i]?).map fun (n : Nat) => (n : Int) := by simp [castL]
theorem castL_back (f : List Int) (h : ∀ a ∈ f, 0 ≤ a) : castL (f.map Int.toNat) = f := by
  unfold castL
  rw [List.map_map]
  refine (List.map_congr_left fun x hx => ?_).trans (List.map_id f)
  have := h x hx
  simp; omega
theorem valOf_nat (a : Nat) (h : a ≤ 1048576) : valOf (a : Int) = a := by unfold valOf; rw [if_pos (by omega)]; omega
theorem costTo_take (l f : List Nat) (hl : ∀ a ∈ l, a ≤ 1048576) (hf : ∀ a ∈ f, a ≤ 1048576) : ∀ k, k ≤ l.length → k ≤ f.length → costTo (castL l) (castL f) k = cst (l.take k) (f.take k)
  | 0, _, _ => by simp [costTo, cst]
  | k + 1, h1, h2 => by
    obtain ⟨a, ha⟩ := get_some (l := l) (i := k) (by omega)
    obtain ⟨b, hb⟩ := get_some (l := f) (i := k) (by omega)
    rw [costTo, costTo_take l f hl hf k (by omega) (by omega), List.take_add_one, List.take_add_one, ha, hb, cst_append _ _ _ _ (by simp; omega)]
    rw [getD_of (l := castL l) (a := (a : Int)) (by rw [castL_get, ha]; rfl), getD_of (l := castL f) (a := (b : Int)) (by rw [castL_get, hb]; rfl),
      valOf_nat a (hl a (List.mem_of_getElem? ha)), valOf_nat b (hf b (List.mem_of_getElem? hb))]
    simp [cst]
theorem costTo_cst (l f : List Nat) (hlen : l.length = f.length) (hl : ∀ a ∈ l, a ≤ 1048576) (hf : ∀ a ∈ f, a ≤ 1048576) : costTo (castL l) (castL f) l.length = cst l f := by
  rw [costTo_take l f hl hf l.length (Nat.le_refl _) (by omega), List.take_length, hlen, List.take_length]
theorem coded_cast : ∀ l : List Nat, coded (castL l) = codedN l
  | [] => rfl
  | a :: l => by
    have ih := coded_cast l
    have e : castL (a :: l) = (a : Int) :: castL l := rfl
    unfold coded at ih
    rw [e, coded, List.countP_cons, ih, codedN]
    by_cases h : 0 < a
    · rw [if_pos h, if_pos (by simpa using h)]; omega
    · rw [if_neg h, if_neg (by simpa using h)]; omega
theorem sum_cast (l : List Nat) : sumOf (castL l) = kr l := kr_sum l
/-- what Check's OK says -/
theorem check_is {l : List Int} {m : Int} (h : checkOf l m = 0) : (∀ a ∈ l, 0 ≤ a ∧ a ≤ m) ∧ l.length ≤ 288 ∧ sumOf l ≤ 32768 := by
  unfold checkOf at h
  split at h
  · cases h
  · rename_i hb
    split at h
    · rename_i hs
      simp only [argBad, Bool.or_eq_true, decide_eq_true_eq, Bool.not_eq_true', not_or, Bool.not_eq_false] at hb
      exact ⟨(allIn_iff l m).1 hb.2, by omega, by omega⟩
    · cases h
theorem came_codedN : ∀ f : List Nat, (came f).length = codedN f
  | [] => rfl
  | b :: f => by
    have ih := came_codedN f
    unfold came at *
    rw [List.filter_cons, codedN]
    by_cases h : 0 < b
    · rw [if_pos (by simpa using h), if_pos h, List.length_cons, ih]; omega
    · rw [if_neg (by simpa using h), if_neg h, ih]; omega
theorem codedN_sup : ∀ (l f : List Nat), l.length = f.length → (∀ (i a b : Nat), l[i]? = some a → f[i]? = some b → (0 < a ↔ 0 < b)) → codedN l = codedN f
  | [], [], _, _ => rfl
  | [], b :: f, h, _ => by simp at h
  | a :: l, [], h, _ => by simp at h
  | a :: l, b :: f, h, hs => by
    have ih := codedN_sup l f (by simpa using h) fun i x y hx hy => hs (i + 1) x y (by simpa using hx) (by simpa using hy)
    have h0 := hs 0 a b rfl rfl
    rw [codedN, codedN, ih]
    by_cases hb : 0 < b
    · rw [if_pos hb, if_pos (h0.2 hb)]
    · rw [if_neg hb, if_neg (fun h => hb (h0.1 h))]
end Go.Proofs.Ytcmfccooipnmeaa
