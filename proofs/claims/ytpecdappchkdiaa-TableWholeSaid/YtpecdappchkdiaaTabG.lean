/-
  The symbols of a code, a group for each number of bits. No program is named here.
-/
import Derived.Test.YtpecdappchkdiaaTabSort
namespace Go.Proofs.Ytpecdappchkdiaa
open Go.RowKit

/-- those of the first k symbols that have codes of n bits -/
def grp (l : List Int) (k n : Nat) : List Nat := if n = 0 then [] else (List.range k).filter fun i => l[i]? == some (n : Int)
/-- the first code of a group -/
def grpF (l : List Int) (k n : Nat) : Nat := if grp l k n = [] then 0 else fstC l n
theorem grp_none (l : List Int) (n : Nat) : grp l 0 n = [] := by unfold grp; split <;> rfl
theorem grpF_none (l : List Int) (n : Nat) : grpF l 0 n = 0 := by unfold grpF; rw [if_pos (grp_none l n)]
theorem grp_in (l : List Int) (k z : Nat) (h : l[k]? = some (z : Int)) (hz : 1 ≤ z) : grp l (k + 1) z = grp l k z ++ [k] := by
  unfold grp
  rw [if_neg (by omega), if_neg (by omega), List.range_succ, List.filter_append]
  simp [h]
theorem grp_out (l : List Int) (k z n : Nat) (h : l[k]? = some (z : Int)) (hn : n ≠ z) : grp l (k + 1) n = grp l k n := by
  unfold grp
  by_cases h0 : n = 0
  · rw [if_pos h0, if_pos h0]
  · rw [if_neg h0, if_neg h0, List.range_succ, List.filter_append]
    have : ¬ z = n := fun e => hn e.symm
    simp [h]; omega
theorem grp_skip (l : List Int) (k n : Nat) (h : l[k]? = some 0) : grp l (k + 1) n = grp l k n := by
  by_cases h0 : n = 0
  · subst h0; unfold grp; rfl
  · exact grp_out l k 0 n h h0
theorem grp_spec (l : List Int) (n : Nat) : ∀ k, k ≤ l.length → ∀ r i : Nat, (grp l k n)[r]? = some i → l[i]? = some (n : Int) ∧ (l.take i).count (n : Int) = r ∧ i < k
  | 0, _, r, i, h => by rw [grp_none] at h; simp at h
  | k + 1, hk, r, i, h => by
    have ih := grp_spec l n k (by omega)
    by_cases h0 : n = 0
    · subst h0; simp [grp] at h
    obtain ⟨a, ha⟩ : ∃ a, l[k]? = some a := ⟨l[k]'(by omega), List.getElem?_eq_getElem _⟩
    by_cases e : a = (n : Int)
    · subst e
      rw [grp_in l k n ha (by omega), List.getElem?_append] at h
      split at h
      · obtain ⟨h1, h2, h3⟩ := ih r i h
        exact ⟨h1, h2, by omega⟩
      · rename_i hr
        have hr0 : r - (grp l k n).length = 0 := by
          by_cases hz : r - (grp l k n).length = 0
          · exact hz
          · rw [List.getElem?_eq_none (by simp; omega)] at h; cases h
        rw [hr0] at h
        simp only [List.getElem?_cons_zero, Option.some.injEq] at h
        subst h
        refine ⟨ha, ?_, by omega⟩
        have hlen : (grp l k n).length = (l.take k).count (n : Int) := by
          clear ih ha hr hr0
          have : ∀ m, m ≤ l.length → (grp l m n).length = (l.take m).count (n : Int) := by
            intro m
            induction m with
            | zero => intro _; rw [grp_none]; rfl
            | succ m ihm =>
              intro hm
              have hmm := ihm (by omega)
              obtain ⟨b, hb⟩ : ∃ b, l[m]? = some b := ⟨l[m]'(by omega), List.getElem?_eq_getElem _⟩
              rw [List.take_add_one, hb, List.count_append, ← hmm]
              by_cases eb : b = (n : Int)
              · subst eb
                rw [grp_in l m n hb (by omega)]; simp
              · have : grp l (m + 1) n = grp l m n := by
                  unfold grp
                  rw [if_neg h0, if_neg h0, List.range_succ, List.filter_append]
                  simp [hb, eb]
                rw [this]; simp [eb]
          exact this k (by omega)
        omega
    · have : grp l (k + 1) n = grp l k n := by
        unfold grp
        rw [if_neg h0, if_neg h0, List.range_succ, List.filter_append]
        simp [ha, e]
      rw [this] at h
      obtain ⟨h1, h2, h3⟩ := ih r i h
      exact ⟨h1, h2, by omega⟩
theorem grp_len (l : List Int) (n : Nat) (h0 : 1 ≤ n) : ∀ m, m ≤ l.length → (grp l m n).length = (l.take m).count (n : Int) := by
  intro m
  induction m with
  | zero => intro _; rw [grp_none]; rfl
  | succ m ihm =>
    intro hm
    have hmm := ihm (by omega)
    obtain ⟨b, hb⟩ : ∃ b, l[m]? = some b := ⟨l[m]'(by omega), List.getElem?_eq_getElem _⟩
    rw [List.take_add_one, hb, List.count_append, ← hmm]
    by_cases eb : b = (n : Int)
    · subst eb
      rw [grp_in l m n hb h0]; simp
    · have : grp l (m + 1) n = grp l m n := by
        unfold grp
        rw [if_neg (by omega), if_neg (by omega), List.range_succ, List.filter_append]
        simp [hb, eb]
      rw [this]; simp [eb]
theorem grp_all (l : List Int) (n : Nat) (h0 : 1 ≤ n) : (grp l l.length n).length = l.count (n : Int) := by
  rw [grp_len l n h0 _ (Nat.le_refl _), List.take_of_length_le (Nat.le_refl _)]
theorem grp_lt (l : List Int) (k n i r : Nat) (hk : k ≤ l.length) (h : (grp l k n)[r]? = some i) : i < l.length := by
  have := (grp_spec l n k hk r i h).2.2; omega
theorem grp_le (l : List Int) (k n : Nat) : (grp l k n).length ≤ k := by
  unfold grp
  split
  · exact Nat.zero_le _
  · have := List.length_filter_le (fun i => l[i]? == some (n : Int)) (List.range k)
    simpa using this
/-- a symbol joins its group: what its first code is then -/
theorem grpF_in (l : List Int) (k z : Nat) (h : l[k]? = some (z : Int)) (hz : 1 ≤ z) (hz2 : z ≤ 15) : grpF l (k + 1) z = if (grp l k z).length = 0 then codeAt l k else grpF l k z := by
  have hk := (List.getElem?_eq_some_iff.1 h).1
  unfold grpF
  rw [grp_in l k z h hz, if_neg (by simp)]
  by_cases e : grp l k z = []
  · rw [if_pos (by rw [e]; rfl)]
    have := grp_len l z hz k (by omega)
    rw [e] at this
    rw [codeAt_len l k _ h (by simp [isLen]; omega), Int.toNat_natCast, ← this]; rfl
  · rw [if_neg (fun h => e (List.eq_nil_of_length_eq_zero h)), if_neg e]
theorem grpF_out (l : List Int) (k z n : Nat) (h : l[k]? = some (z : Int)) (hn : n ≠ z) : grpF l (k + 1) n = grpF l k n := by
  unfold grpF; rw [grp_out l k z n h hn]
theorem grpF_skip (l : List Int) (k n : Nat) (h : l[k]? = some 0) : grpF l (k + 1) n = grpF l k n := by
  unfold grpF; rw [grp_skip l k n h]
/-- the member of a group is the symbol whose code that is -/
theorem grp_code (l : List Int) (n r i : Nat) (hn : 1 ≤ n) (hn2 : n ≤ 15) (h : (grp l l.length n)[r]? = some i) : l[i]? = some (n : Int) ∧ codeAt l i = fstC l n + r := by
  obtain ⟨h1, h2, _⟩ := grp_spec l n _ (Nat.le_refl _) r i h
  refine ⟨h1, ?_⟩
  rw [codeAt_len l i _ h1 (by simp [isLen]; omega), Int.toNat_natCast, h2]
/-- a code of less than the whole sum has no length above one -/
theorem lng_small0 (l : List Int) (hl : ∀ a ∈ l, 0 ≤ a ∧ a ≤ 15) (h : sumOf l ≤ 16384 * l.count 1) : lng l ≤ 1 := by
  induction l with
  | nil => exact Nat.zero_le _
  | cons a l ihl =>
    have ha := hl a List.mem_cons_self
    have hl2 : ∀ b ∈ l, 0 ≤ b ∧ b ≤ 15 := fun b hb => hl b (List.mem_cons_of_mem _ hb)
    have hb := (sum_bounds l hl2).1
    have ihl := ihl hl2
    rw [sum_cons, List.count_cons] at h
    show max a.toNat (lng l) ≤ 1
    by_cases h1 : a = 1
    · subst h1
      have hw : wtTo 15 1 = 16384 := by decide
      rw [hw, if_pos (by decide)] at h
      have ih := ihl (by omega)
      have : (1 : Int).toNat = 1 := rfl
      omega
    · rw [if_neg (by simpa using h1)] at h
      by_cases h0 : a = 0
      · subst h0
        have ih := ihl (by omega)
        have : (0 : Int).toNat = 0 := rfl
        omega
      · exfalso
        have hw : 1 ≤ wtTo 15 a := by
          unfold wtTo
          rw [if_pos (by omega)]
          exact Nat.pos_of_ne_zero (by simp)
        omega
theorem lng_small (l : List Int) (hl : ∀ a ∈ l, 0 ≤ a ∧ a ≤ 15) (h : sumOf l = 0 ∨ sumOf l = 16384 ∧ l.count 1 = 1) : lng l ≤ 1 :=
  lng_small0 l hl (by rcases h with h | ⟨h, h2⟩ <;> omega)
end Go.Proofs.Ytpecdappchkdiaa
