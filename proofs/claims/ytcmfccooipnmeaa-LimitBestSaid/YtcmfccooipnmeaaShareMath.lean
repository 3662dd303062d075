/-
  The lengths shared out are fit, and cost as little as any.
-/
import Derived.Test.YtcmfccooipnmeaaShare
namespace Go.Proofs.Ytcmfccooipnmeaa

def isS (x : Itm) : Bool := decide (x.2 ≠ -1)
def isP (x : Itm) : Bool := decide (x.2 = -1)
/-! ### lists parted in two kinds -/
theorem filter_parts : ∀ l : List Itm, l.Perm (l.filter isS ++ l.filter isP)
  | [] => List.Perm.refl _
  | x :: l => by
    by_cases h : x.2 = -1
    · rw [List.filter_cons_of_neg (by simp [isS, h]), List.filter_cons_of_pos (by simp [isP, h])]
      exact ((filter_parts l).cons x).trans List.perm_middle.symm
    · rw [List.filter_cons_of_pos (by simp [isS, h]), List.filter_cons_of_neg (by simp [isP, h])]
      exact (filter_parts l).cons x
theorem filter_take (p : Itm → Bool) : ∀ (l : List Itm) (k : Nat), (l.take k).filter p = (l.filter p).take ((l.take k).filter p).length
  | [], k => by simp
  | x :: l, 0 => by simp
  | x :: l, k + 1 => by
    rw [List.take_succ_cons]
    by_cases h : p x = true
    · rw [List.filter_cons_of_pos h, List.filter_cons_of_pos h, List.length_cons, List.take_succ_cons, ← filter_take p l k]
    · rw [List.filter_cons_of_neg h, List.filter_cons_of_neg h, ← filter_take p l k]
theorem count_S (l : List Itm) : (l.filter isS).length + packsN l = l.length := by
  have h := (filter_parts l).length_eq
  rw [List.length_append] at h
  have h2 : packsN l = (l.filter isP).length := by rw [packsN, List.countP_eq_length_filter]; rfl
  omega
theorem packsN_filter (l : List Itm) : packsN l = (l.filter isP).length := by rw [packsN, List.countP_eq_length_filter]; rfl
theorem symsN_filter (l : List Itm) (s : Nat) : symsN l s = symsN (l.filter isS) s := by
  rw [symsN, symsN, List.countP_filter]
  congr 1
  funext x
  by_cases h : x.2 = (s : Int)
  · have : x.2 ≠ -1 := by omega
    simp [isS, h]
  · simp [h]
theorem asc_packI : ∀ l : List Itm, Asc l → Asc (packI l)
  | [], _ => trivial
  | [a], _ => trivial
  | a :: b :: l, h => by
    rw [packI]
    refine ⟨fun y hy => ?_, asc_packI l h.2.2⟩
    obtain ⟨c, d, hc, hd, rfl⟩ := packI_mem l y hy
    have h1 := h.1 c (List.mem_cons_of_mem _ hc)
    have h2 := h.2.1 d hd
    show a.1 + b.1 ≤ c.1 + d.1
    omega
theorem asc_up : ∀ l : List Itm, Asc l → Up (l.map (·.1))
  | [], _ => trivial
  | a :: l, h => by
    refine ⟨fun b hb => ?_, asc_up l h.2⟩
    obtain ⟨x, hx, rfl⟩ := List.mem_map.1 hb
    exact h.1 x hx
theorem packI_fst : ∀ l : List Itm, (packI l).map (·.1) = pairs (l.map (·.1))
  | [] => rfl
  | [a] => rfl
  | a :: b :: l => by
    rw [packI, List.map_cons, packI_fst l]; rfl
theorem rowI_asc (S : List Itm) : ∀ t, Asc (rowI S t)
  | 0 => trivial
  | _ + 1 => ssort_asc _
section
variable {S : List Itm} (hS : ∀ x ∈ S, x.2 ≠ -1)
include hS
theorem row_S (t : Nat) : (rowI S (t + 1)).filter isS = ssort S := by
  rw [rowI, filter_ssort, List.filter_append, List.filter_eq_self.2 (fun x hx => by simp [isS, hS x hx]), List.filter_eq_nil_iff.2 (fun x hx => by
    obtain ⟨a, b, _, _, rfl⟩ := packI_mem _ _ hx
    simp [isS]), List.append_nil]
theorem row_P (t : Nat) : (rowI S (t + 1)).filter isP = packI (rowI S t) := by
  rw [rowI, filter_ssort, List.filter_append, List.filter_eq_nil_iff.2 (fun x hx => by simp [isP, hS x hx]), List.filter_eq_self.2 (fun x hx => by
    obtain ⟨a, b, _, _, rfl⟩ := packI_mem _ _ hx
    simp [isP]), List.nil_append, ssort_of_asc _ (asc_packI _ (rowI_asc S t))]
end
theorem row_len (S : List Itm) : ∀ t, (2 * S.length - (rowI S t).length) * 2 ^ t ≤ 2 * S.length + 2 ^ t - 1
  | 0 => by simp [rowI]
  | t + 1 => by
    have h := row_len S t
    have hl := rowI_length S t
    have e : (rowI S (t + 1)).length = S.length + (rowI S t).length / 2 := by rw [rowI, ssort_length, List.length_append, packI_length]
    rw [e]
    have hp : 0 < 2 ^ t := Nat.two_pow_pos t
    rw [Nat.pow_succ]
    obtain ⟨d, hd⟩ : ∃ d, d = 2 * S.length - (rowI S t).length := ⟨_, rfl⟩
    obtain ⟨d2, hd2⟩ : ∃ d2, d2 = 2 * S.length - (S.length + (rowI S t).length / 2) := ⟨_, rfl⟩
    rw [← hd] at h
    rw [← hd2]
    have h2 : d2 * 2 ≤ d + 1 := by omega
    have h3 : d2 * (2 ^ t * 2) = d2 * 2 * 2 ^ t := by rw [Nat.mul_comm (2 ^ t) 2, Nat.mul_assoc]
    have h4 : d2 * 2 * 2 ^ t ≤ (d + 1) * 2 ^ t := Nat.mul_le_mul_right _ h2
    have h5 : (d + 1) * 2 ^ t = d * 2 ^ t + 2 ^ t := by rw [Nat.add_mul, Nat.one_mul]
    rw [h3]
    omega
theorem row_room (S : List Itm) (m : Nat) (h : S.length ≤ 2 ^ m) : 2 * S.length - 2 ≤ (rowI S m).length := by
  have h1 := row_len S m
  have hp : 0 < 2 ^ m := Nat.two_pow_pos m
  by_cases hc : 2 * S.length - 2 ≤ (rowI S m).length
  · exact hc
  · exfalso
    have h2 : 3 ≤ 2 * S.length - (rowI S m).length := by omega
    have h3 : 3 * 2 ^ m ≤ (2 * S.length - (rowI S m).length) * 2 ^ m := Nat.mul_le_mul_right _ h2
    omega
/-! ### what is taken of each row -/
section
variable (S : List Itm) (m : Nat)
/-- the rows, the longest codes' first -/
def rlS (t : Nat) : List Itm := rowI S (t + 1)
def kS (t : Nat) : Nat := (stS (rlS S) m (2 * S.length - 2) (m - t)).1
def tkS (t : Nat) : List Itm := (rowI S (t + 1)).take (kS S m (t + 1))
def cntS : Nat → Nat
  | 0 => 0
  | t + 1 => ((tkS S m t).filter isS).length
theorem kS_step (t : Nat) (ht : t < m) : kS S m t = 2 * packsN (tkS S m t) := by
  unfold kS tkS
  rw [show m - t = (m - (t + 1)) + 1 by omega]
  show 2 * packsN ((rlS S (m - 1 - (m - (t + 1)))).take _) = _
  rw [show m - 1 - (m - (t + 1)) = t by omega]; rfl
theorem kS_top : kS S m m = 2 * S.length - 2 := by unfold kS; rw [Nat.sub_self]; rfl
end
section
variable {S : List Itm} {m : Nat} (hS : ∀ x ∈ S, x.2 ≠ -1) (hn : S.length ≤ 2 ^ m)
include hS hn
theorem kS_room (t : Nat) (ht : t ≤ m) : kS S m t ≤ (rowI S t).length := by
  by_cases e : t = m
  · subst e; rw [kS_top]; exact row_room S t hn
  · rw [kS_step S m t (by omega), packsN_filter]
    unfold tkS
    rw [filter_take, row_P hS]
    have h := packI_length (rowI S t)
    rw [List.length_take]
    omega
theorem taken_S : Taken ((ssort S).map (·.1)) m (fun t => (rowI S t).map (·.1)) (cntS S m) (kS S m) where
  packs := ⟨rfl, fun t _ => asc_up _ (rowI_asc S (t + 1)), fun t _ => by
    have h1 : (rowI S (t + 1)).Perm (ssort S ++ packI (rowI S t)) := (ssort_perm _).trans ((ssort_perm S).symm.append_right _)
    have h2 := h1.map (·.1)
    rw [List.map_append, packI_fst] at h2
    exact h2⟩
  top := by rw [kS_top, List.length_map, ssort_length]
  low := fun t ht => by
    rw [kS_step S m t ht]
    have h1 := count_S (tkS S m t)
    have h2 : (tkS S m t).length = kS S m (t + 1) := by
      unfold tkS; rw [List.length_take]; have := kS_room hS hn (t + 1) (by omega); omega
    show _ = 2 * (kS S m (t + 1) - ((tkS S m t).filter isS).length)
    omega
  few := fun t ht => by
    have h1 := count_S (tkS S m t)
    have h2 : (tkS S m t).length ≤ kS S m (t + 1) := by unfold tkS; rw [List.length_take]; omega
    refine ⟨?_, by show ((tkS S m t).filter isS).length ≤ _; omega⟩
    show ((tkS S m t).filter isS).length ≤ _
    unfold tkS
    rw [filter_take, row_S hS, List.length_take, List.length_map]; omega
  room := fun t ht => by rw [List.length_map]; exact kS_room hS hn t ht
  split := fun t ht => by
    have h1 := count_S (tkS S m t)
    have h2 : (tkS S m t).length = kS S m (t + 1) := by
      unfold tkS; rw [List.length_take]; have := kS_room hS hn (t + 1) (by omega); omega
    have h3 := packsN_filter (tkS S m t)
    have e1 : (tkS S m t).filter isS = (ssort S).take (cntS S m (t + 1)) := by
      show _ = (ssort S).take ((tkS S m t).filter isS).length
      have h := filter_take isS (rowI S (t + 1)) (kS S m (t + 1))
      rw [row_S hS] at h; exact h
    have e2 : (tkS S m t).filter isP = (packI (rowI S t)).take (kS S m (t + 1) - cntS S m (t + 1)) := by
      have h := filter_take isP (rowI S (t + 1)) (kS S m (t + 1))
      rw [row_P hS] at h
      have h4 : ((tkS S m t).filter isP).length = kS S m (t + 1) - cntS S m (t + 1) := by
        show _ = kS S m (t + 1) - ((tkS S m t).filter isS).length
        omega
      rw [← h4]; exact h
    have h5 := (filter_parts (tkS S m t)).map (·.1)
    rw [e1, e2, List.map_append, List.map_take, List.map_take, packI_fst] at h5
    rw [← List.map_take]; exact h5
end
/-! ### the lengths counted -/
def upSum (h : Nat → Nat) : Nat → Nat
  | 0 => 0
  | t + 1 => h t + upSum h t
theorem upSum_congr {h g : Nat → Nat} : ∀ t, (∀ u, u < t → h u = g u) → upSum h t = upSum g t
  | 0, _ => rfl
  | t + 1, e => by rw [upSum, upSum, e t (by omega), upSum_congr t fun u hu => e u (by omega)]
theorem upSum_zero : ∀ t, upSum (fun _ => 0) t = 0
  | 0 => rfl
  | t + 1 => by rw [upSum, upSum_zero t]
theorem addFirst_get : ∀ (l : List Nat) (c q : Nat), (addFirst l c)[q]? = (l[q]?).map fun a => a + if q < c then 1 else 0
  | [], c, q => by simp [addFirst]
  | a :: l, 0, q => by simp [addFirst]
  | a :: l, c + 1, 0 => by simp [addFirst]
  | a :: l, c + 1, q + 1 => by
    rw [addFirst, List.getElem?_cons_succ, List.getElem?_cons_succ, addFirst_get l c q]
    by_cases h : q < c
    · simp [h]
    · simp [h]
theorem lensR_get (n : Nat) (cnt : Nat → Nat) (q : Nat) (hq : q < n) : ∀ t, (lensR n cnt t)[q]? = some (upSum (fun u => if q < cnt (u + 1) then 1 else 0) t)
  | 0 => by rw [lensR, List.getElem?_replicate, if_pos hq]; rfl
  | t + 1 => by
    rw [lensR, addFirst_get, lensR_get n cnt q hq t, Option.map_some, upSum, Nat.add_comm]
theorem stS_sum (S : List Itm) (m i : Nat) : ∀ k, k ≤ m → (stS (rlS S) m (2 * S.length - 2) k).2 i + upSum (fun u => symsN (tkS S m u) i) (m - k) = upSum (fun u => symsN (tkS S m u) i) m
  | 0, _ => by rw [Nat.sub_zero]; show 0 + _ = _; omega
  | k + 1, h => by
    have ih := stS_sum S m i k (by omega)
    obtain ⟨u, hu⟩ : ∃ u, m - k = u + 1 := ⟨m - k - 1, by omega⟩
    rw [hu, upSum] at ih
    have e1 : m - (k + 1) = u := by omega
    have e2 : m - 1 - k = u := by omega
    have e3 : m - (u + 1) = k := by omega
    rw [e1]
    show (stS (rlS S) m (2 * S.length - 2) k).2 i + symsN ((rlS S (m - 1 - k)).take (stS (rlS S) m (2 * S.length - 2) k).1) i + _ = _
    rw [e2]
    have e4 : symsN (tkS S m u) i = symsN ((rlS S u).take (stS (rlS S) m (2 * S.length - 2) k).1) i := by
      unfold tkS kS rlS; rw [e3]
    rw [← e4]; omega
/-- what the program has when all rows are over -/
def gS (S : List Itm) (m i : Nat) : Nat := (stS (rlS S) m (2 * S.length - 2) m).2 i
theorem gS_sum (S : List Itm) (m i : Nat) : gS S m i = upSum (fun u => symsN (tkS S m u) i) m := by
  have h := stS_sum S m i m (Nat.le_refl _)
  rw [Nat.sub_self] at h
  exact h
theorem symsN_take : ∀ (Q : List Itm) (c q a s : Nat), (Q.map (·.2)).Nodup → Q[q]? = some (a, (s : Int)) → symsN (Q.take c) s = if q < c then 1 else 0
  | [], c, q, a, s, _, h => by simp at h
  | x :: Q, 0, q, a, s, _, _ => by simp [symsN]
  | x :: Q, c + 1, 0, a, s, hd, h => by
    obtain rfl : x = (a, (s : Int)) := by simpa using h
    rw [List.map_cons, List.nodup_cons] at hd
    have h0 : symsN (Q.take c) s = 0 := by
      unfold symsN
      rw [List.countP_eq_zero]
      intro y hy e
      exact hd.1 (List.mem_map.2 ⟨y, List.mem_of_mem_take hy, by simpa using e⟩)
    rw [List.take_succ_cons]
    unfold symsN at *
    rw [List.countP_cons, h0]; simp
  | x :: Q, c + 1, q + 1, a, s, hd, h => by
    rw [List.map_cons, List.nodup_cons] at hd
    have hm : (a, (s : Int)) ∈ Q := List.mem_of_getElem? (by simpa using h)
    have hx : ¬ x.2 = (s : Int) := fun e => hd.1 (List.mem_map.2 ⟨_, hm, e.symm⟩)
    have ih := symsN_take Q c q a s hd.2 (by simpa using h)
    rw [List.take_succ_cons]
    unfold symsN at *
    rw [List.countP_cons, ih]
    simp [hx]
theorem symI_mem : ∀ (f : List Nat) (k : Nat) (x : Itm), x ∈ symI k f → ∃ i : Nat, k ≤ i ∧ x.2 = (i : Int) ∧ f[i - k]? = some x.1 ∧ 0 < x.1
  | [], k, x, h => by simp [symI] at h
  | a :: f, k, x, h => by
    rw [symI] at h
    by_cases ha : 0 < a
    · rw [if_pos ha] at h
      rcases List.mem_cons.1 h with h | h
      · subst h
        exact ⟨k, Nat.le_refl _, rfl, by simp, ha⟩
      · obtain ⟨i, h1, h2, h3, h4⟩ := symI_mem f (k + 1) x h
        exact ⟨i, by omega, h2, by rw [show i - k = (i - (k + 1)) + 1 by omega, List.getElem?_cons_succ]; exact h3, h4⟩
    · rw [if_neg ha] at h
      obtain ⟨i, h1, h2, h3, h4⟩ := symI_mem f (k + 1) x h
      exact ⟨i, by omega, h2, by rw [show i - k = (i - (k + 1)) + 1 by omega, List.getElem?_cons_succ]; exact h3, h4⟩
theorem symI_has : ∀ (f : List Nat) (k i b : Nat), f[i]? = some b → 0 < b → (b, ((k + i : Nat) : Int)) ∈ symI k f
  | [], k, i, b, h, _ => by simp at h
  | a :: f, k, 0, b, h, hb => by
    obtain rfl : a = b := by simpa using h
    rw [symI, if_pos hb]; simp
  | a :: f, k, i + 1, b, h, hb => by
    have ih := symI_has f (k + 1) i b (by simpa using h) hb
    rw [show k + 1 + i = k + (i + 1) by omega] at ih
    rw [symI]
    split
    · exact List.mem_cons_of_mem _ ih
    · exact ih
theorem symI_nodup : ∀ (f : List Nat) (k : Nat), ((symI k f).map (·.2)).Nodup
  | [], _ => by simp [symI]
  | a :: f, k => by
    rw [symI]
    split
    · rw [List.map_cons, List.nodup_cons]
      refine ⟨fun h => ?_, symI_nodup f (k + 1)⟩
      obtain ⟨x, hx, e⟩ := List.mem_map.1 h
      obtain ⟨i, h1, h2, _⟩ := symI_mem f (k + 1) x hx
      have e2 : x.2 = (k : Int) := e
      omega
    · exact symI_nodup f (k + 1)
/-! ### sums over items -/
def cI (g : Nat → Nat) : List Itm → Nat
  | [] => 0
  | x :: l => g x.2.toNat * x.1 + cI g l
def kI (g : Nat → Nat) : List Itm → Nat
  | [] => 0
  | x :: l => wtN (g x.2.toNat) + kI g l
theorem cI_perm (g : Nat → Nat) {l l2 : List Itm} (h : l.Perm l2) : cI g l = cI g l2 := by
  induction h with
  | nil => rfl
  | cons x _ ih => rw [cI, cI, ih]
  | swap x y l => simp only [cI]; omega
  | trans _ _ ih1 ih2 => rw [ih1, ih2]
theorem kI_perm (g : Nat → Nat) {l l2 : List Itm} (h : l.Perm l2) : kI g l = kI g l2 := by
  induction h with
  | nil => rfl
  | cons x _ ih => rw [kI, kI, ih]
  | swap x y l => simp only [kI]; omega
  | trans _ _ ih1 ih2 => rw [ih1, ih2]
theorem cI_map (g : Nat → Nat) : ∀ l : List Itm, cst (l.map fun x => g x.2.toNat) (l.map (·.1)) = cI g l
  | [] => rfl
  | x :: l => by rw [List.map_cons, List.map_cons, cst, cI, cI_map g l]
theorem kI_map (g : Nat → Nat) : ∀ l : List Itm, kr (l.map fun x => g x.2.toNat) = kI g l
  | [] => rfl
  | x :: l => by rw [List.map_cons, kr, kI, kI_map g l]
theorem cI_all (g : Nat → Nat) : ∀ (f : List Nat) (k : Nat), cst ((List.range' k f.length).map g) f = cI g (symI k f)
  | [], _ => rfl
  | a :: f, k => by
    rw [List.length_cons, List.range'_succ, List.map_cons, cst, cI_all g f (k + 1), symI]
    by_cases ha : 0 < a
    · rw [if_pos ha, cI]; simp
    · rw [if_neg ha, show a = 0 by omega]; omega
theorem kI_all (g : Nat → Nat) : ∀ (f : List Nat) (k : Nat), (∀ i, f[i]? = some 0 → g (k + i) = 0) → kr ((List.range' k f.length).map g) = kI g (symI k f)
  | [], _, _ => rfl
  | a :: f, k, h => by
    have ih := kI_all g f (k + 1) fun i hi => by
      have := h (i + 1) (by simpa using hi)
      rw [show k + 1 + i = k + (i + 1) by omega]; exact this
    rw [List.length_cons, List.range'_succ, List.map_cons, kr, ih, symI]
    by_cases ha : 0 < a
    · rw [if_pos ha, kI]; simp
    · rw [if_neg ha]
      have := h 0 (by rw [show a = 0 by omega]; rfl)
      rw [Nat.add_zero] at this
      rw [this, wtN_zero]; omega
theorem symI_came : ∀ (f : List Nat) (k : Nat), (symI k f).map (·.1) = came f
  | [], _ => rfl
  | a :: f, k => by
    rw [symI, came, List.filter_cons]
    by_cases ha : 0 < a
    · simp only [ha, if_true, decide_true, List.map_cons, symI_came f (k + 1)]; rfl
    · simp only [ha, if_false, decide_false, symI_came f (k + 1)]; rfl
/-- What the program counts is fit and costs no more than any. -/
theorem share_opt (f : List Nat) (m : Nat) (hm : 1 ≤ m) (hm2 : m ≤ 15) (h2 : 2 ≤ codedN f) (hn : codedN f ≤ 2 ^ m) : OptL f m ((List.range f.length).map (gS (symI 0 f) m)) := by
  obtain ⟨S, hSd⟩ : ∃ S, S = symI 0 f := ⟨_, rfl⟩
  rw [← hSd]
  have hSl : S.length = codedN f := by rw [hSd, symI_length]
  have hS : ∀ x ∈ S, x.2 ≠ -1 := fun x hx => by
    rw [hSd] at hx
    obtain ⟨i, _, h, _⟩ := symI_mem f 0 x hx
    omega
  have hT := taken_S hS (by omega : S.length ≤ 2 ^ m)
  have hAl : ((ssort S).map (·.1)).length = S.length := by rw [List.length_map, ssort_length]
  have hApos : ∀ x ∈ (ssort S).map (·.1), 0 < x := fun a ha => by
    obtain ⟨x, hx, rfl⟩ := List.mem_map.1 ha
    have hx2 := (ssort_perm S).mem_iff.1 hx
    rw [hSd] at hx2
    obtain ⟨i, _, _, _, h⟩ := symI_mem f 0 x hx2
    exact h
  obtain ⟨l1, l2, l3⟩ := hT.fit hApos rfl hm hm2 (by omega)
  have hnd : ((ssort S).map (·.2)).Nodup := by
    have h := ((ssort_perm S).map (·.2)).symm
    refine h.nodup ?_
    rw [hSd]; exact symI_nodup f 0
  -- the lengths, place by place
  have hg : ∀ (q a s : Nat), (ssort S)[q]? = some (a, (s : Int)) → gS S m s = upSum (fun u => if q < cntS S m (u + 1) then 1 else 0) m := fun q a s hq => by
    rw [gS_sum]
    refine upSum_congr m fun u _ => ?_
    have e1 : (tkS S m u).filter isS = (ssort S).take (cntS S m (u + 1)) := by
      show _ = (ssort S).take ((tkS S m u).filter isS).length
      have h := filter_take isS (rowI S (u + 1)) (kS S m (u + 1))
      rw [row_S hS] at h; exact h
    show symsN (tkS S m u) s = _
    rw [symsN_filter, e1, symsN_take _ _ q a s hnd hq]
  have hz : ∀ i : Nat, f[i]? = some 0 → gS S m i = 0 := fun i hi => by
    rw [gS_sum, ← upSum_zero m]
    refine upSum_congr m fun u _ => ?_
    show symsN (tkS S m u) i = 0
    have e1 : (tkS S m u).filter isS = (ssort S).take (cntS S m (u + 1)) := by
      show _ = (ssort S).take ((tkS S m u).filter isS).length
      have h := filter_take isS (rowI S (u + 1)) (kS S m (u + 1))
      rw [row_S hS] at h; exact h
    rw [symsN_filter, e1]
    unfold symsN
    rw [List.countP_eq_zero]
    intro x hx e
    have hx2 := (ssort_perm S).mem_iff.1 (List.mem_of_mem_take hx)
    rw [hSd] at hx2
    obtain ⟨j, _, hj, hj2, hj3⟩ := symI_mem f 0 x hx2
    have e2 : x.2 = (i : Int) := by simpa using e
    have : j = i := by omega
    subst this
    rw [Nat.sub_zero, hi] at hj2
    simp only [Option.some.injEq] at hj2
    omega
  have hlr : lensR ((ssort S).map (·.1)).length (cntS S m) m = (ssort S).map fun x => gS S m x.2.toNat := by
    refine List.ext_getElem? fun q => ?_
    by_cases hq : q < S.length
    · obtain ⟨x, hx⟩ : ∃ x, (ssort S)[q]? = some x := ⟨(ssort S)[q]'(by rw [ssort_length]; exact hq), List.getElem?_eq_getElem _⟩
      have hx2 := (ssort_perm S).mem_iff.1 (List.mem_of_getElem? hx)
      rw [hSd] at hx2
      obtain ⟨s, _, hs, _⟩ := symI_mem f 0 x hx2
      have hx3 : (ssort S)[q]? = some (x.1, (s : Int)) := by rw [hx, ← hs]
      rw [lensR_get _ _ q (by omega), List.getElem?_map, hx, Option.map_some, hs, ← hg q x.1 s hx3]; rfl
    · rw [List.getElem?_eq_none (by rw [lensR_length]; omega), List.getElem?_eq_none (by rw [List.length_map, ssort_length]; omega)]
  rw [hlr] at l1 l2 l3
  rw [kI_map] at l2
  rw [cI_map] at l3
  have hpS := ssort_perm S
  have hrange : List.range f.length = List.range' 0 f.length := List.range_eq_range'
  have hget : ∀ (i a : Nat), ((List.range f.length).map (gS S m))[i]? = some a → a = gS S m i ∧ i < f.length := fun i a h => by
    have hi := (List.getElem?_eq_some_iff.1 h).1
    rw [List.length_map, List.length_range] at hi
    rw [List.getElem?_map, List.getElem?_range hi] at h
    simp only [Option.map_some, Option.some.injEq] at h
    exact ⟨h.symm, hi⟩
  have hin : ∀ (i b : Nat), f[i]? = some b → 0 < b → 1 ≤ gS S m i ∧ gS S m i ≤ m := fun i b hi hb => by
    have h := symI_has f 0 i b hi hb
    rw [← hSd, Nat.zero_add] at h
    have h3 := l1 (gS S m i) (List.mem_map.2 ⟨_, hpS.mem_iff.2 h, by simp⟩)
    exact h3
  have hA : ((ssort S).map (·.1)).Perm (came f) := by
    have h := hpS.map (·.1)
    rw [hSd] at h ⊢
    rw [symI_came] at h
    exact h
  have hgood : FitL f m ((List.range f.length).map (gS S m)) := by
    refine ⟨by simp, fun i a b ha hb => ?_, fun a ha => ?_, ?_⟩
    · obtain ⟨rfl, _⟩ := hget i a ha
      by_cases h0 : 0 < b
      · have := hin i b hb h0
        exact ⟨fun _ => h0, fun _ => by omega⟩
      · have h00 : b = 0 := by omega
        rw [h00] at hb
        have := hz i hb
        exact ⟨fun h => by omega, fun h => by omega⟩
    · obtain ⟨i, hi⟩ := List.mem_iff_getElem?.1 ha
      obtain ⟨rfl, hlt⟩ := hget i a hi
      have hfi : f[i]? = some f[i] := List.getElem?_eq_getElem hlt
      by_cases h0 : 0 < f[i]
      · exact (hin i _ hfi h0).2
      · have h00 : f[i] = 0 := by omega
        rw [h00] at hfi
        rw [hz i hfi]; omega
    · rw [hrange, kI_all (gS S m) f 0 (fun i hi => by rw [Nat.zero_add]; exact hz i hi), ← hSd, ← kI_perm _ hpS]
      exact l2
  refine packs_best hT.packs (asc_up _ (ssort_asc S)) hA hm hm2 hgood ?_
  rw [hrange, cI_all, ← hSd, ← cI_perm _ hpS]
  exact l3
end Go.Proofs.Ytcmfccooipnmeaa
