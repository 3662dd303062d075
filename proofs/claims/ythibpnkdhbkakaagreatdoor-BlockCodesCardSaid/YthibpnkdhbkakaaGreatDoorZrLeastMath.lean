/-
  The order in which the reference's Least lays its frequencies, and how great its costs may become. No program is named here.
-/
import Derived.Test.YthibpnkdhbkakaaGreatDoorZq23
import Derived.Test.YthibpnkdhbkakaaGreatDoorZq07
namespace Go.Proofs.YthibpnkdhbkakaaGreatDoor
set_option maxRecDepth 5000

def gap (s : List Nat) (k y : Nat) : List Nat := s.take k ++ y :: s.drop k
theorem gapL_length (s : List Nat) (k y : Nat) : (gap s k y).length = s.length + 1 := by
  simp [gap]; omega
theorem gap_end (s : List Nat) (y : Nat) : s ++ [y] = gap s s.length y := by simp [gap]
theorem gap_set (s : List Nat) (k x y : Nat) (h : k ≤ s.length) : (gap s k y).set k x = gap s k x := by
  unfold gap
  rw [List.set_append_right _ _ (by simp; omega)]
  rw [List.length_take, Nat.min_eq_left h, Nat.sub_self, List.set_cons_zero]
theorem gap_get (s : List Nat) (k y a : Nat) (h : s[k]? = some a) : (gap s (k + 1) y)[k]? = some a := by
  have hk := (List.getElem?_eq_some_iff.1 h).1
  unfold gap
  rw [List.getElem?_append_left (by simp; omega), List.getElem?_take_of_lt (by omega), h]
theorem gap_at (s : List Nat) (k y : Nat) (h : k ≤ s.length) : (gap s k y)[k]? = some y := by
  unfold gap
  rw [List.getElem?_append_right (by simp; omega), List.length_take, Nat.min_eq_left h, Nat.sub_self]; rfl
theorem gap_shift (s : List Nat) (k y a : Nat) (h : s[k]? = some a) : (gap s (k + 1) y).set (k + 1) a = gap s k a := by
  have hk := (List.getElem?_eq_some_iff.1 h).1
  rw [gap_set s (k + 1) a y (by omega)]
  unfold gap
  have e1 : s.take (k + 1) = s.take k ++ [a] := by rw [List.take_add_one, h]; rfl
  have e2 : s.drop k = a :: s.drop (k + 1) := by
    have := List.drop_eq_getElem_cons hk
    rw [this]; congr 1
    exact (List.getElem?_eq_some_iff.1 h).2
  rw [e1, e2, List.append_assoc]; rfl
theorem gap_perm (s : List Nat) (k x : Nat) : (gap s k x).Perm (x :: s) := by
  unfold gap
  refine List.perm_middle.trans ?_
  rw [List.take_append_drop]
theorem Down.mem : ∀ {s : List Nat} {i a : Nat}, Down s → s[i]? = some a → ∀ {j b : Nat}, i ≤ j → s[j]? = some b → b ≤ a
  | [], i, a, _, h, _, _, _, _ => by simp at h
  | x :: s, 0, a, hd, h, j, b, _, hb => by
    simp only [List.getElem?_cons_zero, Option.some.injEq] at h
    subst h
    cases j with
    | zero => simp at hb; omega
    | succ j => exact hd.1 b (List.mem_of_getElem? (by simpa using hb))
  | x :: s, i + 1, a, hd, h, j, b, hij, hb => by
    cases j with
    | zero => omega
    | succ j => exact Down.mem hd.2 (by simpa using h) (j := j) (by omega) (by simpa using hb)
theorem gap_down : ∀ (s : List Nat) (k x : Nat), Down s → (∀ b ∈ s.drop k, b ≤ x) → (∀ b ∈ s.take k, x ≤ b) → Down (gap s k x)
  | s, 0, x, hd, h, _ => by
    unfold gap
    simp only [List.take_zero, List.drop_zero, List.nil_append] at h ⊢
    exact ⟨h, hd⟩
  | [], k + 1, x, _, _, _ => by simp [gap, Down]
  | a :: s, k + 1, x, hd, h, h2 => by
    have ih := gap_down s k x hd.2 (by simpa using h) fun b hb => h2 b (by simp [hb])
    have e : gap (a :: s) (k + 1) x = a :: gap s k x := by simp [gap]
    rw [e]
    refine ⟨fun b hb => ?_, ih⟩
    rcases List.mem_cons.1 ((gap_perm s k x).mem_iff.1 hb) with hb | hb
    · subst hb; exact h2 a (by simp)
    · exact hd.1 b hb
theorem take_ge {s : List Nat} (hd : Down s) {k a x : Nat} (h : s[k]? = some a) (hx : x ≤ a) : ∀ b ∈ s.take (k + 1), x ≤ b := by
  intro b hb
  obtain ⟨i, hi⟩ := List.mem_iff_getElem?.1 hb
  rw [List.getElem?_take] at hi
  split at hi
  · have := Down.mem hd hi (j := k) (by omega) h
    omega
  · cases hi
theorem drop_lt {s : List Nat} {k a x : Nat} (h : s[k]? = some a) (hx : a < x) (hd : ∀ b ∈ s.drop (k + 1), b < x) : ∀ b ∈ s.drop k, b < x := by
  have hk := (List.getElem?_eq_some_iff.1 h).1
  rw [List.drop_eq_getElem_cons hk]
  intro b hb
  rcases List.mem_cons.1 hb with hb | hb
  · have := (List.getElem?_eq_some_iff.1 h).2
    omega
  · exact hd b hb
theorem came_snoc (f : List Nat) (i x : Nat) (h : f[i]? = some x) : came (f.take (i + 1)) = came (f.take i) ++ (if 0 < x then [x] else []) := by
  rw [List.take_add_one, h]
  unfold came
  rw [List.filter_append]
  by_cases hx : 0 < x
  · simp [hx]
  · simp [hx]
theorem came_gap {f s : List Nat} {i k x : Nat} (h : f[i]? = some x) (hx : 0 < x) (hp : s.Perm (came (f.take i))) : (gap s k x).Perm (came (f.take (i + 1))) := by
  rw [came_snoc f i x h, if_pos hx]
  refine (gap_perm s k x).trans ((hp.cons x).trans ?_)
  exact (List.perm_append_comm (l₁ := [x]) (l₂ := came (f.take i)))
theorem came_skip {f : List Nat} {i x : Nat} (h : f[i]? = some x) (hx : ¬ 0 < x) : came (f.take (i + 1)) = came (f.take i) := by
  rw [came_snoc f i x h, if_neg hx, List.append_nil]
theorem came_len (f : List Nat) : (came f).length ≤ f.length := List.length_filter_le _ _
/-- how great a cost may be -/
theorem Has.bound {s : List Nat} {d i o c : Nat} (h : Has s d i o c) : c ≤ d * total (s.take i) := by
  induction h with
  | start => simp
  | @step d i o c t h hi ho ho2 ht hn hl ih =>
    have e : s.take (i + t) = s.take i ++ (s.drop i).take t := List.take_add
    have e2 : (d + 1) * total (s.take i) = d * total (s.take i) + total (s.take i) := by rw [Nat.add_mul, Nat.one_mul]
    rw [e, total_append, Nat.mul_add]
    omega
  | @rest d c h ih => rw [Nat.add_mul, Nat.one_mul]; omega
theorem total_le (m : Nat) : ∀ l : List Nat, (∀ a ∈ l, a ≤ m) → total l ≤ l.length * m
  | [], _ => by simp [total]
  | a :: l, h => by
    have h1 := h a List.mem_cons_self
    have h2 := total_le m l fun b hb => h b (List.mem_cons_of_mem _ hb)
    rw [total, List.length_cons, Nat.add_mul, Nat.one_mul]; omega

/-! ### the table -/
def SoundT (s : List Nat) (d : Nat) (V : Nat → Nat → Nat) : Prop := ∀ i o, i ≤ s.length → o ≤ s.length → V i o = 1152921504606846976 ∨ Has s d i o (V i o)
def CompT (s : List Nat) (d : Nat) (V : Nat → Nat → Nat) : Prop := ∀ i o c, Has s d i o c → V i o ≤ c
/-- the ways ahead of (i, o, t) are taken -/
def DoneT (s : List Nat) (d : Nat) (V V2 : Nat → Nat → Nat) (i o t : Nat) : Prop := ∀ i' o' t', (i' < i ∨ i' = i ∧ (o' < o ∨ o' = o ∧ t' < t)) →
  i' < s.length → 1 ≤ o' → o' ≤ s.length → V i' o' ≠ 1152921504606846976 → t' ≤ 2 * o' → i' + t' ≤ s.length → 2 * o' - t' ≤ s.length → V2 (i' + t') (2 * o' - t') ≤ V i' o' + (d + 1) * total ((s.drop i').take t')
theorem start_sound (s : List Nat) (V : Nat → Nat → Nat) (h0 : V 0 1 = 0) (h : ∀ i o, i ≤ s.length → o ≤ s.length → ¬ (i = 0 ∧ o = 1) → V i o = 1152921504606846976) : SoundT s 0 V := by
  intro i o hi ho
  by_cases e : i = 0 ∧ o = 1
  · obtain ⟨rfl, rfl⟩ := e
    rw [h0]; exact .inr Has.start
  · exact .inl (h i o hi ho e)
theorem start_comp (s : List Nat) (V : Nat → Nat → Nat) (h0 : V 0 1 = 0) : CompT s 0 V := by
  intro i o c h
  cases h
  rw [h0]; exact Nat.le_refl _
theorem total_take_le (s : List Nat) (i : Nat) : total (s.take i) ≤ total s := by
  have := total_append (s.take i) (s.drop i)
  rw [List.take_append_drop] at this; omega
theorem Has.small {s : List Nat} {d i o c : Nat} (h : Has s d i o c) (hd : d ≤ 15) (hs : total s ≤ 62914560) : c ≤ 943718400 := by
  have h1 := h.bound
  have h2 := total_take_le s i
  have h3 : d * total (s.take i) ≤ 15 * 62914560 := Nat.mul_le_mul hd (by omega)
  omega
theorem next_comp {s : List Nat} {d : Nat} {V V2 : Nat → Nat → Nat} (hc : CompT s d V) (hd : d ≤ 15) (hs : total s ≤ 62914560) (h : DoneT s d V V2 s.length 0 0) (hr : V2 s.length 0 ≤ V s.length 0) : CompT s (d + 1) V2 := by
  intro i o c hh
  cases hh with
  | @step _ i o c t h1 hi ho ho2 ht hn hl =>
    have h2 := hc i o c h1
    have h3 := h1.small hd hs
    have h4 := h i o t (.inl hi) hi ho ho2 (by omega) ht hn hl
    omega
  | rest h1 =>
    have := hc _ _ _ h1
    omega
theorem DoneT.skip {s : List Nat} {d : Nat} {V V2 : Nat → Nat → Nat} {i o t : Nat} (h : DoneT s d V V2 i o t) (hv : V i o = 1152921504606846976 ∨ s.length < i + t ∨ 2 * o < t) : DoneT s d V V2 i (o + 1) 0 := by
  intro i' o' t' hlt hi ho ho2 hv' ht hn hl
  by_cases e : i' = i ∧ o' = o
  · obtain ⟨rfl, rfl⟩ := e
    by_cases ht' : t' < t
    · exact h i' o' t' (.inr ⟨rfl, .inr ⟨rfl, ht'⟩⟩) hi ho ho2 hv' ht hn hl
    · rcases hv with hv | hv | hv
      · exact absurd hv hv'
      · omega
      · omega
  · exact h i' o' t' (by omega) hi ho ho2 hv' ht hn hl
theorem DoneT.row {s : List Nat} {d : Nat} {V V2 : Nat → Nat → Nat} {i o : Nat} (h : DoneT s d V V2 i o 0) (ho : s.length < o) : DoneT s d V V2 (i + 1) 0 0 := by
  intro i' o' t' hlt hi ho1 ho2 hv' ht hn hl
  exact h i' o' t' (by omega) hi ho1 ho2 hv' ht hn hl
theorem DoneT.first {s : List Nat} {d : Nat} {V V2 : Nat → Nat → Nat} {i : Nat} (h : DoneT s d V V2 i 0 0) : DoneT s d V V2 i 1 0 := by
  intro i' o' t' hlt hi ho1 ho2 hv' ht hn hl
  exact h i' o' t' (by omega) hi ho1 ho2 hv' ht hn hl
theorem DoneT.pass {s : List Nat} {d : Nat} {V V2 : Nat → Nat → Nat} {i o t : Nat} (h : DoneT s d V V2 i o t) (hv : s.length < 2 * o - t ∨ V2 (i + t) (2 * o - t) ≤ V i o + (d + 1) * total ((s.drop i).take t)) : DoneT s d V V2 i o (t + 1) := by
  intro i' o' t' hlt hi ho1 ho2 hv' ht hn hl
  by_cases e : i' = i ∧ o' = o ∧ t' = t
  · obtain ⟨rfl, rfl, rfl⟩ := e
    rcases hv with hv | hv
    · omega
    · exact hv
  · exact h i' o' t' (by omega) hi ho1 ho2 hv' ht hn hl
theorem DoneT.less {s : List Nat} {d : Nat} {V V2 V3 : Nat → Nat → Nat} {i o t : Nat} (h : DoneT s d V V2 i o t) (hl : ∀ a b, V3 a b ≤ V2 a b) : DoneT s d V V3 i o t :=
  fun i' o' t' h1 h2 h3 h4 h5 h6 h7 h8 => Nat.le_trans (hl _ _) (h i' o' t' h1 h2 h3 h4 h5 h6 h7 h8)
theorem total_take_succ (s : List Nat) (i t x : Nat) (h : s[i + t]? = some x) : total ((s.drop i).take (t + 1)) = total ((s.drop i).take t) + x := by
  rw [List.take_add_one, List.getElem?_drop, h, total_append]
  simp [total]
end Go.Proofs.YthibpnkdhbkakaaGreatDoor
