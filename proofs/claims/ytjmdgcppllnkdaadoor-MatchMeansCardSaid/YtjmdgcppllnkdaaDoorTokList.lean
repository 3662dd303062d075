/-
  Lists of tokens in memory, and what they expand to.
-/
import Derived.Test.YtjmdgcppllnkdaaDoorTokSound
import Derived.Test.YtjmdgcppllnkdaaDoorWinMath
import Derived.Test.YtjmdgcppllnkdaaDoorOwn2
namespace Go.Proofs.YtjmdgcppllnkdaaDoor
open Go.RowKit

def toksV (l : List Tok) : List Value := l.flatMap fun t => [.int .u8 t.1, .int .i64 t.2.1, .int .i64 t.2.2]
theorem toksV_cons (x : Tok) (l : List Tok) : toksV (x :: l) = .int .u8 x.1 :: .int .i64 x.2.1 :: .int .i64 x.2.2 :: toksV l := by simp [toksV]
theorem toksV_app (l m : List Tok) : toksV (l ++ m) = toksV l ++ toksV m := by simp [toksV]
theorem toksV_length (l : List Tok) : (toksV l).length = l.length * 3 := by
  induction l with
  | nil => rfl
  | cons x l ih => rw [toksV_cons]; simp [ih]; omega
theorem toksV_get : ∀ (l : List Tok) (j : Nat) (x : Tok), l[j]? = some x → (toksV l)[j * 3]? = some (.int .u8 x.1) ∧ (toksV l)[j * 3 + 1]? = some (.int .i64 x.2.1) ∧ (toksV l)[j * 3 + 2]? = some (.int .i64 x.2.2)
  | [], _, _, h => by simp at h
  | y :: l, 0, x, h => by
    obtain rfl : y = x := by simpa using h
    rw [toksV_cons]; simp
  | y :: l, j + 1, x, h => by
    have := toksV_get l j x (by simpa using h)
    rw [toksV_cons, show (j + 1) * 3 = j * 3 + 1 + 1 + 1 by omega, show j * 3 + 1 + 1 + 1 + 1 = (j * 3 + 1) + 1 + 1 + 1 by omega, show j * 3 + 1 + 1 + 1 + 2 = (j * 3 + 2) + 1 + 1 + 1 by omega]
    simpa using this
theorem toksV_one (l : List Tok) : ∀ u ∈ toksV l, u.oneCell' = true := by
  intro u hu
  obtain ⟨x, _, hx⟩ := List.mem_flatMap.1 hu
  simp only [List.mem_cons, List.not_mem_nil, or_false] at hx
  rcases hx with rfl | rfl | rfl <;> rfl
/-- where a token lies -/
theorem Rd.tok {w : World} {ao : Option Addr} {n cap : Nat} {l : List Tok} (h : Rd w 3 (.slice ao n cap) n (toksV l)) {i : Nat} {t : Tok} (hi : l[i]? = some t) :
    ∃ g off, ao = some ⟨g, off, none⟩ ∧ w.cell? ⟨g, off + i * 3, none⟩ = some (.int .u8 t.1) ∧ w.cell? ⟨g, off + i * 3 + 1, none⟩ = some (.int .i64 t.2.1) ∧ w.cell? ⟨g, off + i * 3 + 2, none⟩ = some (.int .i64 t.2.2) := by
  have hl := h.1
  rw [toksV_length] at hl
  have hil := (List.getElem?_eq_some_iff.1 hi).1
  obtain ⟨g, off, rfl, hc⟩ := h.spot (by omega)
  obtain ⟨h1, h2, h3⟩ := toksV_get l i t hi
  exact ⟨g, off, rfl, hc _ _ h1, hc _ _ h2, hc _ _ h3⟩
theorem Rd.toks_len {w : World} {v : Value} {n : Nat} {l : List Tok} (h : Rd w 3 v n (toksV l)) : n = l.length := by
  have := h.1
  rw [toksV_length] at this; omega

/-! ### What they expand to -/
def most : Nat := 16777216
def stepT (acc : List Nat) (t : Tok) : Nat × List Nat :=
  if soundB t = false then (1, [])
  else if t.2.1 = 0 then (if most ≤ acc.length then (6, []) else (0, acc ++ [t.1.toNat]))
  else if most < acc.length + t.2.1.toNat then (6, [])
  else if acc.length < t.2.2.toNat then (3, []) else (0, ext acc t.2.2.toNat t.2.1.toNat)
def expT : List Nat → List Tok → Nat × List Nat
  | acc, [] => (0, acc)
  | acc, t :: r => if (stepT acc t).1 = 0 then expT (stepT acc t).2 r else ((stepT acc t).1, [])
def byteOK (l : List Tok) : Prop := ∀ t ∈ l, 0 ≤ t.1 ∧ t.1 ≤ 255
theorem expT_cons (acc : List Nat) (t : Tok) (r : List Tok) : expT acc (t :: r) = if (stepT acc t).1 = 0 then expT (stepT acc t).2 r else ((stepT acc t).1, []) := rfl
theorem expT_drop (acc : List Nat) (l : List Tok) (i : Nat) (t : Tok) (h : l[i]? = some t) : expT acc (l.drop i) = if (stepT acc t).1 = 0 then expT (stepT acc t).2 (l.drop (i + 1)) else ((stepT acc t).1, []) := by
  have hi := (List.getElem?_eq_some_iff.1 h).1
  have hb := (List.getElem?_eq_some_iff.1 h).2
  rw [List.drop_eq_getElem_cons hi, hb, expT_cons]
theorem sound_lit {t : Tok} (h : soundB t = true) (h0 : t.2.1 = 0) : t.2.2 = 0 := by
  unfold soundB at h
  rw [Bool.or_eq_true, decide_eq_true_eq, decide_eq_true_eq] at h
  omega
theorem sound_match {t : Tok} (h : soundB t = true) (h0 : t.2.1 ≠ 0) : t.1 = 0 ∧ (3 ≤ t.2.1 ∧ t.2.1 ≤ 258) ∧ (1 ≤ t.2.2 ∧ t.2.2 ≤ 32768) := by
  unfold soundB at h
  rw [Bool.or_eq_true, decide_eq_true_eq, decide_eq_true_eq] at h
  omega
theorem stepT_bad {acc : List Nat} {t : Tok} (h : soundB t = false) : stepT acc t = (1, []) := if_pos h
theorem stepT_litCap {acc : List Nat} {t : Tok} (h : soundB t = true) (h0 : t.2.1 = 0) (hc : most ≤ acc.length) : stepT acc t = (6, []) := by
  unfold stepT; rw [if_neg (by rw [h]; simp), if_pos h0, if_pos hc]
theorem stepT_lit {acc : List Nat} {t : Tok} (h : soundB t = true) (h0 : t.2.1 = 0) (hc : ¬ most ≤ acc.length) : stepT acc t = (0, acc ++ [t.1.toNat]) := by
  unfold stepT; rw [if_neg (by rw [h]; simp), if_pos h0, if_neg hc]
theorem stepT_matchCap {acc : List Nat} {t : Tok} (h : soundB t = true) (h0 : t.2.1 ≠ 0) (hc : most < acc.length + t.2.1.toNat) : stepT acc t = (6, []) := by
  unfold stepT; rw [if_neg (by rw [h]; simp), if_neg h0, if_pos hc]
theorem stepT_far {acc : List Nat} {t : Tok} (h : soundB t = true) (h0 : t.2.1 ≠ 0) (hc : ¬ most < acc.length + t.2.1.toNat) (hd : acc.length < t.2.2.toNat) : stepT acc t = (3, []) := by
  unfold stepT; rw [if_neg (by rw [h]; simp), if_neg h0, if_neg hc, if_pos hd]
theorem stepT_match {acc : List Nat} {t : Tok} (h : soundB t = true) (h0 : t.2.1 ≠ 0) (hc : ¬ most < acc.length + t.2.1.toNat) (hd : ¬ acc.length < t.2.2.toNat) : stepT acc t = (0, ext acc t.2.2.toNat t.2.1.toNat) := by
  unfold stepT; rw [if_neg (by rw [h]; simp), if_neg h0, if_neg hc, if_neg hd]
theorem stepT_le (acc : List Nat) (t : Tok) (h : (stepT acc t).1 = 0) : (stepT acc t).2.length ≤ most ∧ acc <+: (stepT acc t).2 := by
  unfold stepT at h ⊢
  split <;> rename_i c1
  · rw [if_pos c1] at h; simp at h
  · rw [if_neg c1] at h
    split <;> rename_i c2
    · rw [if_pos c2] at h
      split <;> rename_i c3
      · rw [if_pos c3] at h; simp at h
      · exact ⟨by simp; omega, ⟨_, rfl⟩⟩
    · rw [if_neg c2] at h
      split <;> rename_i c3
      · rw [if_pos c3] at h; simp at h
      · rw [if_neg c3] at h
        split <;> rename_i c4
        · rw [if_pos c4] at h; simp at h
        · refine ⟨by simp only [ext_length]; omega, ?_⟩
          simp only
          rw [ext_out]; exact ⟨_, rfl⟩
theorem stepT_bytes (acc : List Nat) (t : Tok) (ha : ∀ b ∈ acc, b < 256) (ht : 0 ≤ t.1 ∧ t.1 ≤ 255) : ∀ b ∈ (stepT acc t).2, b < 256 := by
  unfold stepT
  split
  · simp
  · split
    · split
      · simp
      · intro b hb
        rcases List.mem_append.1 hb with hb | hb
        · exact ha b hb
        · rw [List.mem_singleton.1 hb]; omega
    · split
      · simp
      · split
        · simp
        · exact ext_lt _ _ ha _
theorem expT_app : ∀ (l m : List Tok) (acc : List Nat), expT acc (l ++ m) = if (expT acc l).1 = 0 then expT (expT acc l).2 m else expT acc l
  | [], m, acc => by simp [expT]
  | t :: r, m, acc => by
    rw [List.cons_append, expT_cons, expT_cons]
    by_cases h : (stepT acc t).1 = 0
    · rw [if_pos h, if_pos h]; exact expT_app r m _
    · rw [if_neg h, if_neg h, if_neg h]
theorem expT_err : ∀ (l : List Tok) (acc : List Nat), (expT acc l).1 ≠ 0 → (expT acc l).2 = []
  | [], acc, h => by simp [expT] at h
  | t :: r, acc, h => by
    rw [expT_cons] at h ⊢
    by_cases h1 : (stepT acc t).1 = 0
    · rw [if_pos h1] at h ⊢; exact expT_err r _ h
    · rw [if_neg h1]
theorem expT_pre : ∀ (l : List Tok) (acc : List Nat), (expT acc l).1 = 0 → acc <+: (expT acc l).2
  | [], acc, _ => ⟨[], by simp [expT]⟩
  | t :: r, acc, h => by
    rw [expT_cons] at h ⊢
    by_cases h1 : (stepT acc t).1 = 0
    · rw [if_pos h1] at h ⊢
      exact (stepT_le acc t h1).2.trans (expT_pre r _ h)
    · rw [if_neg h1] at h; exact absurd h h1
theorem expT_le : ∀ (l : List Tok) (acc : List Nat), acc.length ≤ most → (expT acc l).2.length ≤ most
  | [], _, h => h
  | t :: r, acc, h => by
    rw [expT_cons]
    by_cases h1 : (stepT acc t).1 = 0
    · rw [if_pos h1]; exact expT_le r _ (stepT_le acc t h1).1
    · rw [if_neg h1]; exact Nat.zero_le _
end Go.Proofs.YtjmdgcppllnkdaaDoor
