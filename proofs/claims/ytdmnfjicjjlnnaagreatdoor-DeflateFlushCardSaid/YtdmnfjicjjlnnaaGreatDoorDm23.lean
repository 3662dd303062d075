/-
  The lengths shared out are fit, and cost as little as any.
-/
import Derived.Test.YtdmnfjicjjlnnaaGreatDoorDm22
import Derived.Deep.DeepCutAuto
namespace Go.Proofs.YtdmnfjicjjlnnaaGreatDoor
set_option maxRecDepth 5000
def isS (x : Itm) : Bool := decide (x.2 ≠ -1)
def isP (x : Itm) : Bool := decide (x.2 = -1)
/-! ### lists parted in two kinds -/
theorem filter_parts : ∀ l : List Itm, l.Perm (l.filter isS ++ l.filter isP)
  | [] => List.Perm.refl _
  | x :: l => by
    by_cases h : x.2 = -1
    · rw [List.filter_cons_of_neg (by simp [isS, h]), List.filter_cons_of_pos (by simp [isP, h])]
      exact ((filter_parts l).cons x).trans List.perm_middle.symm
    · rw [List.filter_cons_of_pos (by simp [isS, h]), List.filter_cons_of_neg (by simp [isP, h])]
      exact (filter_parts l).cons x
theorem filter_take (p : Itm → Bool) : ∀ (l : List Itm) (k : Nat), (l.take k).filter p = (l.filter p).take ((l.take k).filter p).length
  | [], k => by simp
  | x :: l, 0 => by simp
  | x :: l, k + 1 => by
    rw [List.take_succ_cons]
    by_cases h : p x = true
    · rw [List.filter_cons_of_pos h, List.filter_cons_of_pos h, List.length_cons, List.take_succ_cons, ← filter_take p l k]
    · rw [List.filter_cons_of_neg h, List.filter_cons_of_neg h, ← filter_take p l k]
theorem count_S (l : List Itm) : (l.filter isS).length + packsN l = l.length := by
  have h := (filter_parts l).length_eq
  rw [List.length_append] at h
  have h2 : packsN l = (l.filter isP).length := by rw [packsN, List.countP_eq_length_filter]; rfl
  omega
theorem packsN_filter (l : List Itm) : packsN l = (l.filter isP).length := by rw [packsN, List.countP_eq_length_filter]; rfl
theorem symsN_filter (l : List Itm) (s : Nat) : symsN l s = symsN (l.filter isS) s := by
  rw [symsN, symsN, List.countP_filter]
  congr 1
  funext x
  by_cases h : x.2 = (s : Int)
  · have : x.2 ≠ -1 := by omega
    simp [isS, h]
  · simp [h]
theorem asc_packI : ∀ l : List Itm, Asc l → Asc (packI l)
  | [], _ => trivial
  | [a], _ => trivial
  | a :: b :: l, h => by
    rw [packI]
    refine ⟨fun y hy => ?_, asc_packI l h.2.2⟩
    obtain ⟨c, d, hc, hd, rfl⟩ := packI_mem l y hy
    have h1 := h.1 c (List.mem_cons_of_mem _ hc)
    have h2 := h.2.1 d hd
    show a.1 + b.1 ≤ c.1 + d.1
    omega
theorem asc_up : ∀ l : List Itm, Asc l → Up (l.map (·.1))
  | [], _ => trivial
  | a :: l, h => by
    refine ⟨fun b hb => ?_, asc_up l h.2⟩
    obtain ⟨x, hx, rfl⟩ := List.mem_map.1 hb
    exact h.1 x hx
theorem packI_fst : ∀ l : List Itm, (packI l).map (·.1) = pairs (l.map (·.1))
  | [] => rfl
  | [a] => rfl
  | a :: b :: l => by
    rw [packI, List.map_cons, packI_fst l]; rfl
theorem rowI_asc (S : List Itm) : ∀ t, Asc (rowI S t)
  | 0 => trivial
  | _ + 1 => ssort_asc _
section
variable {S : List Itm} (hS : ∀ x ∈ S, x.2 ≠ -1)
include hS
theorem row_S (t : Nat) : (rowI S (t + 1)).filter isS = ssort S := by
  rw [rowI, filter_ssort, List.filter_append, List.filter_eq_self.2 (fun x hx => by simp [isS, hS x hx]), List.filter_eq_nil_iff.2 (fun x hx => by
    obtain ⟨a, b, _, _, rfl⟩ := packI_mem _ _ hx
    simp [isS]), List.append_nil]
theorem row_P (t : Nat) : (rowI S (t + 1)).filter isP = packI (rowI S t) := by
  rw [rowI, filter_ssort, List.filter_append, List.filter_eq_nil_iff.2 (fun x hx => by simp [isP, hS x hx]), List.filter_eq_self.2 (fun x hx => by
    obtain ⟨a, b, _, _, rfl⟩ := packI_mem _ _ hx
    simp [isP]), List.nil_append, ssort_of_asc _ (asc_packI _ (rowI_asc S t))]
end
theorem row_len (S : List Itm) : ∀ t, (2 * S.length - (rowI S t).length) * 2 ^ t ≤ 2 * S.length + 2 ^ t - 1
  | 0 => by simp [rowI]
  | t + 1 => by
    have h := row_len S t
    have hl := rowI_length S t
    have e : (rowI S (t + 1)).length = S.length + (rowI S t).length / 2 := by rw [rowI, ssort_length, List.length_append, packI_length]
    rw [e]
    have hp : 0 < 2 ^ t := Nat.two_pow_pos t
    rw [Nat.pow_succ]
    obtain ⟨d, hd⟩ : ∃ d, d = 2 * S.length - (rowI S t).length := ⟨_, rfl⟩
    obtain ⟨d2, hd2⟩ : ∃ d2, d2 = 2 * S.length - (S.length + (rowI S t).length / 2) := ⟨_, rfl⟩
    rw [← hd] at h
    rw [← hd2]
    have h2 : d2 * 2 ≤ d + 1 := by omega
    have h3 : d2 * (2 ^ t * 2) = d2 * 2 * 2 ^ t := by rw [Nat.mul_comm (2 ^ t) 2, Nat.mul_assoc]
    have h4 : d2 * 2 * 2 ^ t ≤ (d + 1) * 2 ^ t := Nat.mul_le_mul_right _ h2
    have h5 : (d + 1) * 2 ^ t = d * 2 ^ t + 2 ^ t := by rw [Nat.add_mul, Nat.one_mul]
    rw [h3]
    omega
theorem row_room (S : List Itm) (m : Nat) (h : S.length ≤ 2 ^ m) : 2 * S.length - 2 ≤ (rowI S m).length := by
  have h1 := row_len S m
  have hp : 0 < 2 ^ m := Nat.two_pow_pos m
  by_cases hc : 2 * S.length - 2 ≤ (rowI S m).length
  · exact hc
  · exfalso
    have h2 : 3 ≤ 2 * S.length - (rowI S m).length := by omega
    have h3 : 3 * 2 ^ m ≤ (2 * S.length - (rowI S m).length) * 2 ^ m := Nat.mul_le_mul_right _ h2
    omega
/-! ### what is taken of each row -/
section
variable (S : List Itm) (m : Nat)
def rlS (t : Nat) : List Itm := rowI S (t + 1)
def kS (t : Nat) : Nat := (stS (rlS S) m (2 * S.length - 2) (m - t)).1
def tkS (t : Nat) : List Itm := (rowI S (t + 1)).take (kS S m (t + 1))
def cntS : Nat → Nat
  | 0 => 0
  | t + 1 => ((tkS S m t).filter isS).length
theorem kS_step (t : Nat) (ht : t < m) : kS S m t = 2 * packsN (tkS S m t) := by
  unfold kS tkS
  rw [show m - t = (m - (t + 1)) + 1 by omega]
  show 2 * packsN ((rlS S (m - 1 - (m - (t + 1)))).take _) = _
  rw [show m - 1 - (m - (t + 1)) = t by omega]; rfl
theorem kS_top : kS S m m = 2 * S.length - 2 := by unfold kS; rw [Nat.sub_self]; rfl
end
section
variable {S : List Itm} {m : Nat} (hS : ∀ x ∈ S, x.2 ≠ -1) (hn : S.length ≤ 2 ^ m)
include hS hn
theorem kS_room (t : Nat) (ht : t ≤ m) : kS S m t ≤ (rowI S t).length := by
  by_cases e : t = m
  · subst e; rw [kS_top]; exact row_room S t hn
  · rw [kS_step S m t (by omega), packsN_filter]
    unfold tkS
    rw [filter_take, row_P hS]
    have h := packI_length (rowI S t)
    rw [List.length_take]
    omega
theorem taken_S : Taken ((ssort S).map (·.1)) m (fun t => (rowI S t).map (·.1)) (cntS S m) (kS S m) where
  packs := ⟨rfl, fun t _ => asc_up _ (rowI_asc S (t + 1)), fun t _ => by
    have h1 : (rowI S (t + 1)).Perm (ssort S ++ packI (rowI S t)) := (ssort_perm _).trans ((ssort_perm S).symm.append_right _)
    have h2 := h1.map (·.1)
    rw [List.map_append, packI_fst] at h2
    exact h2⟩
  top := by rw [kS_top, List.length_map, ssort_length]
  low := fun t ht => by
    rw [kS_step S m t ht]
    have h1 := count_S (tkS S m t)
    have h2 : (tkS S m t).length = kS S m (t + 1) := by
      unfold tkS; rw [List.length_take]; have := kS_room hS hn (t + 1) (by omega); omega
    show _ = 2 * (kS S m (t + 1) - ((tkS S m t).filter isS).length)
    omega
  few := fun t ht => by
    have h1 := count_S (tkS S m t)
    have h2 : (tkS S m t).length ≤ kS S m (t + 1) := by unfold tkS; rw [List.length_take]; omega
    refine ⟨?_, by show ((tkS S m t).filter isS).length ≤ _; omega⟩
    show ((tkS S m t).filter isS).length ≤ _
    unfold tkS
    rw [filter_take, row_S hS, List.length_take, List.length_map]; omega
  room := fun t ht => by rw [List.length_map]; exact kS_room hS hn t ht
  split := fun t ht => by
    have h1 := count_S (tkS S m t)
    have h2 : (tkS S m t).length = kS S m (t + 1) := by
      unfold tkS; rw [List.length_take]; have := kS_room hS hn (t + 1) (by omega); omega
    have h3 := packsN_filter (tkS S m t)
    have e1 : (tkS S m t).filter isS = (ssort S).take (cntS S m (t + 1)) := by
      show _ = (ssort S).take ((tkS S m t).filter isS).length
      have h := filter_take isS (rowI S (t + 1)) (kS S m (t + 1))
      rw [row_S hS] at h; exact h
    have e2 : (tkS S m t).filter isP = (packI (rowI S t)).take (kS S m (t + 1) - cntS S m (t + 1)) := by
      have h := filter_take isP (rowI S (t + 1)) (kS S m (t + 1))
      rw [row_P hS] at h
      have h4 : ((tkS S m t).filter isP).length = kS S m (t + 1) - cntS S m (t + 1) := by
        show _ = kS S m (t + 1) - ((tkS S m t).filter isS).length
        omega
      rw [← h4]; exact h
    have h5 := (filter_parts (tkS S m t)).map (·.1)
    rw [e1, e2, List.map_append, List.map_take, List.map_take, packI_fst] at h5
    rw [← List.map_take]; exact h5
end
/-! ### the lengths counted -/
def upSum (h : Nat → Nat) : Nat → Nat
  | 0 => 0
  | t + 1 => h t + upSum h t
theorem upSum_congr {h g : Nat → Nat} : ∀ t, (∀ u, u < t → h u = g u) → upSum h t = upSum g t
  | 0, _ => rfl
  | t + 1, e => by rw [upSum, upSum, e t (by omega), upSum_congr t fun u hu => e u (by omega)]
theorem upSum_zero : ∀ t, upSum (fun _ => 0) t = 0
  | 0 => rfl
  | t + 1 => by rw [upSum, upSum_zero t]
theorem addFirst_get : ∀ (l : List Nat) (c q : Nat), (addFirst l c)[q]? = (l[q]?).map fun a => a + if q < c then 1 else 0
  | [], c, q => by simp [addFirst]
  | a :: l, 0, q => by simp [addFirst]
  | a :: l, c + 1, 0 => by simp [addFirst]
  | a :: l, c + 1, q + 1 => by
    rw [addFirst, List.getElem?_cons_succ, List.getElem?_cons_succ, addFirst_get l c q]
    by_cases h : q < c
    · simp [h]
    · simp [h]
theorem lensR_get (n : Nat) (cnt : Nat → Nat) (q : Nat) (hq : q < n) : ∀ t, (lensR n cnt t)[q]? = some (upSum (fun u => if q < cnt (u + 1) then 1 else 0) t)
  | 0 => by rw [lensR, List.getElem?_replicate, if_pos hq]; rfl
  | t + 1 => by
    rw [lensR, addFirst_get, lensR_get n cnt q hq t, Option.map_some, upSum, Nat.add_comm]
theorem stS_sum (S : List Itm) (m i : Nat) : ∀ k, k ≤ m → (stS (rlS S) m (2 * S.length - 2) k).2 i + upSum (fun u => symsN (tkS S m u) i) (m - k) = upSum (fun u => symsN (tkS S m u) i) m
  | 0, _ => by rw [Nat.sub_zero]; show 0 + _ = _; omega
  | k + 1, h => by
    have ih := stS_sum S m i k (by omega)
    obtain ⟨u, hu⟩ : ∃ u, m - k = u + 1 := ⟨m - k - 1, by omega⟩
    rw [hu, upSum] at ih
    have e1 : m - (k + 1) = u := by omega
    have e2 : m - 1 - k = u := by omega
    have e3 : m - (u + 1) = k := by omega
    rw [e1]
    show (stS (rlS S) m (2 * S.length - 2) k).2 i + symsN ((rlS S (m - 1 - k)).take (stS (rlS S) m (2 * S.length - 2) k).1) i + _ = _
    rw [e2]
    have e4 : symsN (tkS S m u) i = symsN ((rlS S u).take (stS (rlS S) m (2 * S.length - 2) k).1) i := by
      unfold tkS kS rlS; rw [e3]
    rw [← e4]; omega
def gS (S : List Itm) (m i : Nat) : Nat := (stS (rlS S) m (2 * S.length - 2) m).2 i
theorem gS_sum (S : List Itm) (m i : Nat) : gS S m i = upSum (fun u => symsN (tkS S m u) i) m := by
  have h := stS_sum S m i m (Nat.le_refl _)
  rw [Nat.sub_self] at h
  exact h
theorem symsN_take : ∀ (Q : List Itm) (c q a s : Nat), (Q.map (·.2)).Nodup → Q[q]? = some (a, (s : Int)) → symsN (Q.take c) s = if q < c then 1 else 0
  | [], c, q, a, s, _, h => by simp at h
  | x :: Q, 0, q, a, s, _, _ => by simp [symsN]
  | x :: Q, c + 1, 0, a, s, hd, h => by
    obtain rfl : x = (a, (s : Int)) := by simpa using h
    rw [List.map_cons, List.nodup_cons] at hd
    have h0 : symsN (Q.take c) s = 0 := by
      unfold symsN
      rw [List.countP_eq_zero]
      intro y hy e
      exact hd.1 (List.mem_map.2 ⟨y, List.mem_of_mem_take hy, by simpa using e⟩)
    rw [List.take_succ_cons]
    unfold symsN at *
    rw [List.countP_cons, h0]; simp
  | x :: Q, c + 1, q + 1, a, s, hd, h => by
    rw [List.map_cons, List.nodup_cons] at hd
    have hm : (a, (s : Int)) ∈ Q := List.mem_of_getElem? (by simpa using h)
    have hx : ¬ x.2 = (s : Int) := fun e => hd.1 (List.mem_map.2 ⟨_, hm, e.symm⟩)
    have ih := symsN_take Q c q a s hd.2 (by simpa using h)
    rw [List.take_succ_cons]
    unfold symsN at *
    rw [List.countP_cons, ih]
    simp [hx]
theorem symI_mem : ∀ (f : List Nat) (k : Nat) (x : Itm), x ∈ symI k f → ∃ i : Nat, k ≤ i ∧ x.2 = (i : Int) ∧ f[i - k]? = some x.1 ∧ 0 < x.1
  | [], k, x, h => by simp [symI] at h
  | a :: f, k, x, h => by
    rw [symI] at h
    by_cases ha : 0 < a
    · rw [if_pos ha] at h
      rcases List.mem_cons.1 h with h | h
      · subst h
        exact ⟨k, Nat.le_refl _, rfl, by simp, ha⟩
      · obtain ⟨i, h1, h2, h3, h4⟩ := symI_mem f (k + 1) x h
        exact ⟨i, by omega, h2, by rw [show i - k = (i - (k + 1)) + 1 by omega, List.getElem?_cons_succ]; exact h3, h4⟩
    · rw [if_neg ha] at h
      obtain ⟨i, h1, h2, h3, h4⟩ := symI_mem f (k + 1) x h
      exact ⟨i, by omega, h2, by rw [show i - k = (i - (k + 1)) + 1 by omega, List.getElem?_cons_succ]; exact h3, h4⟩
theorem symI_has : ∀ (f : List Nat) (k i b : Nat), f[i]? = some b → 0 < b → (b, ((k + i : Nat) : Int)) ∈ symI k f
  | [], k, i, b, h, _ => by simp at h
  | a :: f, k, 0, b, h, hb => by
    obtain rfl : a = b := by simpa using h
    rw [symI, if_pos hb]; simp
  | a :: f, k, i + 1, b, h, hb => by
    have ih := symI_has f (k + 1) i b (by simpa using h) hb
    rw [show k + 1 + i = k + (i + 1) by omega] at ih
    rw [symI]
    split
    · exact List.mem_cons_of_mem _ ih
    · exact ih
theorem symI_nodup : ∀ (f : List Nat) (k : Nat), ((symI k f).map (·.2)).Nodup
  | [], _ => by simp [symI]
  | a :: f, k => by
    rw [symI]
    split
    · rw [List.map_cons, List.nodup_cons]
      refine ⟨fun h => ?_, symI_nodup f (k + 1)⟩
      obtain ⟨x, hx, e⟩ := List.mem_map.1 h
      obtain ⟨i, h1, h2, _⟩ := symI_mem f (k + 1) x hx
      have e2 : x.2 = (k : Int) := e
      omega
    · exact symI_nodup f (k + 1)
/-! ### sums over items -/
def cI (g : Nat → Nat) : List Itm → Nat
  | [] => 0
  | x :: l => g x.2.toNat * x.1 + cI g l
def kI (g : Nat → Nat) : List Itm → Nat
  | [] => 0
  | x :: l => wtN (g x.2.toNat) + kI g l
theorem cI_perm (g : Nat → Nat) {l l2 : List Itm} (h : l.Perm l2) : cI g l = cI g l2 := by
  induction h with
  | nil => rfl
  | cons x _ ih => rw [cI, cI, ih]
  | swap x y l => simp only [cI]; omega
  | trans _ _ ih1 ih2 => rw [ih1, ih2]
theorem kI_perm (g : Nat → Nat) {l l2 : List Itm} (h : l.Perm l2) : kI g l = kI g l2 := by
  induction h with
  | nil => rfl
  | cons x _ ih => rw [kI, kI, ih]
  | swap x y l => simp only [kI]; omega
  | trans _ _ ih1 ih2 => rw [ih1, ih2]
theorem cI_map (g : Nat → Nat) : ∀ l : List Itm, cst (l.map fun x => g x.2.toNat) (l.map (·.1)) = cI g l
  | [] => rfl
  | x :: l => by rw [List.map_cons, List.map_cons, cst, cI, cI_map g l]
theorem kI_map (g : Nat → Nat) : ∀ l : List Itm, kr (l.map fun x => g x.2.toNat) = kI g l
  | [] => rfl
  | x :: l => by rw [List.map_cons, kr, kI, kI_map g l]
theorem cI_all (g : Nat → Nat) : ∀ (f : List Nat) (k : Nat), cst ((List.range' k f.length).map g) f = cI g (symI k f)
  | [], _ => rfl
  | a :: f, k => by
    rw [List.length_cons, List.range'_succ, List.map_cons, cst, cI_all g f (k + 1), symI]
    by_cases ha : 0 < a
    · rw [if_pos ha, cI]; simp
    · rw [if_neg ha, show a = 0 by omega]; omega
theorem kI_all (g : Nat → Nat) : ∀ (f : List Nat) (k : Nat), (∀ i, f[i]? = some 0 → g (k + i) = 0) → kr ((List.range' k f.length).map g) = kI g (symI k f)
  | [], _, _ => rfl
  | a :: f, k, h => by
    have ih := kI_all g f (k + 1) fun i hi => by
      have := h (i + 1) (by simpa using hi)
      rw [show k + 1 + i = k + (i + 1) by omega]; exact this
    rw [List.length_cons, List.range'_succ, List.map_cons, kr, ih, symI]
    by_cases ha : 0 < a
    · rw [if_pos ha, kI]; simp
    · rw [if_neg ha]
      have := h 0 (by rw [show a = 0 by omega]; rfl)
      rw [Nat.add_zero] at this
      rw [this, wtN_zero]; omega
theorem symI_came : ∀ (f : List Nat) (k : Nat), (symI k f).map (·.1) = came f
  | [], _ => rfl
  | a :: f, k => by
    rw [symI, came, List.filter_cons]
    by_cases ha : 0 < a
    · simp only [ha, if_true, decide_true, List.map_cons, symI_came f (k + 1)]; rfl
    · simp only [ha, if_false, decide_false, symI_came f (k + 1)]; rfl
theorem share_opt (f : List Nat) (m : Nat) (hm : 1 ≤ m) (hm2 : m ≤ 15) (h2 : 2 ≤ codedN f) (hn : codedN f ≤ 2 ^ m) : OptL f m ((List.range f.length).map (gS (symI 0 f) m)) := by
  obtain ⟨S, hSd⟩ : ∃ S, S = symI 0 f := ⟨_, rfl⟩
  rw [← hSd]
  have hSl : S.length = codedN f := by rw [hSd, symI_length]
  have hS : ∀ x ∈ S, x.2 ≠ -1 := fun x hx => by
    rw [hSd] at hx
    obtain ⟨i, _, h, _⟩ := symI_mem f 0 x hx
    omega
  have hT := taken_S hS (by omega : S.length ≤ 2 ^ m)
  have hAl : ((ssort S).map (·.1)).length = S.length := by rw [List.length_map, ssort_length]
  have hApos : ∀ x ∈ (ssort S).map (·.1), 0 < x := fun a ha => by
    obtain ⟨x, hx, rfl⟩ := List.mem_map.1 ha
    have hx2 := (ssort_perm S).mem_iff.1 hx
    rw [hSd] at hx2
    obtain ⟨i, _, _, _, h⟩ := symI_mem f 0 x hx2
    exact h
  obtain ⟨l1, l2, l3⟩ := hT.fit hApos rfl hm hm2 (by omega)
  have hnd : ((ssort S).map (·.2)).Nodup := by
    have h := ((ssort_perm S).map (·.2)).symm
    refine h.nodup ?_
    rw [hSd]; exact symI_nodup f 0
  -- the lengths, place by place
  have hg : ∀ (q a s : Nat), (ssort S)[q]? = some (a, (s : Int)) → gS S m s = upSum (fun u => if q < cntS S m (u + 1) then 1 else 0) m := fun q a s hq => by
    rw [gS_sum]
    refine upSum_congr m fun u _ => ?_
    have e1 : (tkS S m u).filter isS = (ssort S).take (cntS S m (u + 1)) := by
      show _ = (ssort S).take ((tkS S m u).filter isS).length
      have h := filter_take isS (rowI S (u + 1)) (kS S m (u + 1))
      rw [row_S hS] at h; exact h
    show symsN (tkS S m u) s = _
    rw [symsN_filter, e1, symsN_take _ _ q a s hnd hq]
  have hz : ∀ i : Nat, f[i]? = some 0 → gS S m i = 0 := fun i hi => by
    rw [gS_sum, ← upSum_zero m]
    refine upSum_congr m fun u _ => ?_
    show symsN (tkS S m u) i = 0
    have e1 : (tkS S m u).filter isS = (ssort S).take (cntS S m (u + 1)) := by
      show _ = (ssort S).take ((tkS S m u).filter isS).length
      have h := filter_take isS (rowI S (u + 1)) (kS S m (u + 1))
      rw [row_S hS] at h; exact h
    rw [symsN_filter, e1]
    unfold symsN
    rw [List.countP_eq_zero]
    intro x hx e
    have hx2 := (ssort_perm S).mem_iff.1 (List.mem_of_mem_take hx)
    rw [hSd] at hx2
    obtain ⟨j, _, hj, hj2, hj3⟩ := symI_mem f 0 x hx2
    have e2 : x.2 = (i : Int) := by simpa using e
    have : j = i := by omega
    subst this
    rw [Nat.sub_zero, hi] at hj2
    simp only [Option.some.injEq] at hj2
    omega
  have hlr : lensR ((ssort S).map (·.1)).length (cntS S m) m = (ssort S).map fun x => gS S m x.2.toNat := by
    refine List.ext_getElem? fun q => ?_
    by_cases hq : q < S.length
    · obtain ⟨x, hx⟩ : ∃ x, (ssort S)[q]? = some x := ⟨(ssort S)[q]'(by rw [ssort_length]; exact hq), List.getElem?_eq_getElem _⟩
      have hx2 := (ssort_perm S).mem_iff.1 (List.mem_of_getElem? hx)
      rw [hSd] at hx2
      obtain ⟨s, _, hs, _⟩ := symI_mem f 0 x hx2
      have hx3 : (ssort S)[q]? = some (x.1, (s : Int)) := by rw [hx, ← hs]
      rw [lensR_get _ _ q (by omega), List.getElem?_map, hx, Option.map_some, hs, ← hg q x.1 s hx3]; rfl
    · rw [List.getElem?_eq_none (by rw [lensR_length]; omega), List.getElem?_eq_none (by rw [List.length_map, ssort_length]; omega)]
  rw [hlr] at l1 l2 l3
  rw [kI_map] at l2
  rw [cI_map] at l3
  have hpS := ssort_perm S
  have hrange : List.range f.length = List.range' 0 f.length := List.range_eq_range'
  have hget : ∀ (i a : Nat), ((List.range f.length).map (gS S m))[i]? = some a → a = gS S m i ∧ i < f.length := fun i a h => by
    have hi := (List.getElem?_eq_some_iff.1 h).1
    rw [List.length_map, List.length_range] at hi
    rw [List.getElem?_map, List.getElem?_range hi] at h
    simp only [Option.map_some, Option.some.injEq] at h
    exact ⟨h.symm, hi⟩
  have hin : ∀ (i b : Nat), f[i]? = some b → 0 < b → 1 ≤ gS S m i ∧ gS S m i ≤ m := fun i b hi hb => by
    have h := symI_has f 0 i b hi hb
    rw [← hSd, Nat.zero_add] at h
    have h3 := l1 (gS S m i) (List.mem_map.2 ⟨_, hpS.mem_iff.2 h, by simp⟩)
    exact h3
  have hA : ((ssort S).map (·.1)).Perm (came f) := by
    have h := hpS.map (·.1)
    rw [hSd] at h ⊢
    rw [symI_came] at h
    exact h
  have hgood : FitL f m ((List.range f.length).map (gS S m)) := by
    refine ⟨by simp, fun i a b ha hb => ?_, fun a ha => ?_, ?_⟩
    · obtain ⟨rfl, _⟩ := hget i a ha
      by_cases h0 : 0 < b
      · have := hin i b hb h0
        exact ⟨fun _ => h0, fun _ => by omega⟩
      · have h00 : b = 0 := by omega
        rw [h00] at hb
        have := hz i hb
        exact ⟨fun h => by omega, fun h => by omega⟩
    · obtain ⟨i, hi⟩ := List.mem_iff_getElem?.1 ha
      obtain ⟨rfl, hlt⟩ := hget i a hi
      have hfi : f[i]? = some f[i] := List.getElem?_eq_getElem hlt
      by_cases h0 : 0 < f[i]
      · exact (hin i _ hfi h0).2
      · have h00 : f[i] = 0 := by omega
        rw [h00] at hfi
        rw [hz i hfi]; omega
    · rw [hrange, kI_all (gS S m) f 0 (fun i hi => by rw [Nat.zero_add]; exact hz i hi), ← hSd, ← kI_perm _ hpS]
      exact l2
  refine packs_best hT.packs (asc_up _ (ssort_asc S)) hA hm hm2 hgood ?_
  rw [hrange, cI_all, ← hSd, ← cI_perm _ hpS]
  exact l3
end Go.Proofs.YtdmnfjicjjlnnaaGreatDoor
/-
  The program's Lengths keeps what it is to return.
-/
namespace Go.Proofs.YtdmnfjicjjlnnaaGreatDoor
set_option maxRecDepth 5000
open Go.RowKit
theorem Held.pick {w0 w : World} {A R : Thing} {Rs : List Thing} (h : Held w0 w (A :: Rs)) (hR : R ∈ Rs) : ∃ Rs', Held w0 w (A :: R :: Rs') := by
  obtain ⟨s, t, rfl⟩ := List.append_of_mem hR
  exact ⟨s ++ t, h.perm (List.perm_middle.cons _)⟩
theorem coded_nat : ∀ f : List Int, (∀ a ∈ f, 0 ≤ a) → codedN (f.map Int.toNat) = coded f
  | [], _ => rfl
  | a :: f, h => by
    have ih := coded_nat f fun b hb => h b (List.mem_cons_of_mem _ hb)
    have ha := h a List.mem_cons_self
    rw [List.map_cons, codedN, ih, coded, coded, List.countP_cons]
    by_cases h0 : 0 < a
    · rw [if_pos (by omega)]; simp [h0]; omega
    · rw [if_neg (by omega)]; simp [h0]
set_option maxHeartbeats 1600000 in
theorem shareH (n m N B : Nat) (S : List Itm) (ms : List (Value × List Itm)) (gl cap : Nat) (sv : Value) (w0 w : World) (Rs : List Thing)
    (h : Held w0 w (ownT 144 1 (.slice (some ⟨B, 0, none⟩) m m) m (ms.map (·.1)) :: itmT sv S :: (mT ms ++ (ownT 3 1 (.slice (some ⟨gl, 0, none⟩) N cap) N (gNums N fun _ => 0) :: Rs))))
    (hms : ms.length = m) (hms2 : ms.map (·.2) = (List.range m).map (fun t => rowI S (t + 1))) (hn : S.length = n) (hn0 : 0 < n) (hn2 : n ≤ 300) (hm : m ≤ 15) (hm1 : 1 ≤ m) (hnm : n ≤ 2 ^ m) (hN : N ≤ 1000) (hsy : ∀ x ∈ S, ∃ s : Nat, s < N ∧ x.2 = (s : Int)) :
    Calls Tryz.prog 81 #[.slice (some ⟨gl, 0, none⟩) N cap, .slice (some ⟨B, 0, none⟩) m m, .int .i64 ((2 * n - 2 : Nat) : Int)] w fun e w' => e = .returned (.tuple #[]) ∧
      ∃ Rs', Held w0 w' (ownT 3 1 (.slice (some ⟨gl, 0, none⟩) N cap) N (gNums N (gS S m)) :: Rs') := by
  have hS : ∀ x ∈ S, x.2 ≠ -1 := fun x hx => by
    obtain ⟨s, _, e⟩ := hsy x hx
    omega
  have h' : Held w0 w ((ownT 144 1 (.slice (some ⟨B, 0, none⟩) m m) m (ms.map (·.1)) :: itmT sv S :: mT ms) ++ (ownT 3 1 (.slice (some ⟨gl, 0, none⟩) N cap) N (gNums N fun _ => 0) :: Rs)) := h
  have hL := h'.perm List.perm_append_comm
  rw [List.cons_append] at hL
  have hrow : ∀ t, t < m → ∃ r : Value × List Itm, ms[t]? = some r ∧ r.2 = rowI S (t + 1) := fun t ht => by
    refine ⟨ms[t]'(by omega), List.getElem?_eq_getElem _, ?_⟩
    have e := congrArg (fun l : List (List Itm) => l[t]?) hms2
    simp only [List.getElem?_map, List.getElem?_range ht, Option.map_some, List.getElem?_eq_getElem (show t < ms.length by omega), Option.some.injEq] at e
    exact e
  have hpick : ∀ t, t < m → ∃ Rs', Held w0 w (ownT 3 1 (.slice (some ⟨gl, 0, none⟩) N cap) N (gNums N fun _ => 0) :: itmT ((ms[t]?).getD (.slice none 0 0, [])).1 (rowI S (t + 1)) :: Rs') := fun t ht => by
    obtain ⟨r, hr, hr2⟩ := hrow t ht
    rw [hr]
    refine hL.pick ?_
    refine List.mem_append_right _ (List.mem_cons_of_mem _ (List.mem_cons_of_mem _ (List.mem_map.2 ⟨r, List.mem_of_getElem? hr, ?_⟩)))
    rw [hr2]; rfl
  obtain ⟨Rs1, hB⟩ := hL.pick (R := ownT 144 1 (.slice (some ⟨B, 0, none⟩) m m) m (ms.map (·.1))) (List.mem_append_right _ List.mem_cons_self)
  have hlenr : ∀ t, (rowI S t).length ≤ 600 := fun t => by have := rowI_length S t; omega
  refine (share_any N m (2 * n - 2) gl 0 cap B (fun t => ((ms[t]?).getD (.slice none 0 0, [])).1) (fun t => rowI S (t + 1)) w hN hm hL.own (fun t ht => ?_) (hB.swap.own.lt B rfl) (fun e => ?_) (fun t => ?_) (fun t ht => ?_) (fun t ht e => ?_) (fun k hk => ?_) (fun t => ?_) (fun t ht => ?_) (fun t ht x hx => ?_)).mono ?_
  · obtain ⟨r, hr, _⟩ := hrow t ht
    refine h.rowAt ?_ (by omega)
    rw [List.getElem?_map, hr]; rfl
  · exact hB.apart2 gl rfl (by rw [e]; rfl)
  · by_cases ht : t < m
    · obtain ⟨Rs', hp⟩ := hpick t ht
      obtain ⟨a, c, e, _, _⟩ := itm_form hp.swap
      exact ⟨a, _, c, e⟩
    · rw [List.getElem?_eq_none (by omega)]; exact ⟨none, 0, 0, rfl⟩
  · obtain ⟨Rs', hp⟩ := hpick t ht
    exact hp.swap.own
  · obtain ⟨Rs', hp⟩ := hpick t ht
    exact hp.apart2 gl rfl e
  · have := kS_room hS (by omega : S.length ≤ 2 ^ m) (m - k) (by omega)
    unfold kS at this
    rw [show m - (m - k) = k by omega, hn] at this
    rw [show m - 1 - k + 1 = m - k by omega]
    exact this
  · have := hlenr (t + 1); omega
  · show 0 < (rowI S (t + 1)).length
    rw [rowI, ssort_length, List.length_append]; omega
  · rw [rowI] at hx
    rcases List.mem_append.1 ((ssort_perm _).mem_iff.1 hx) with h1 | h1
    · exact .inr (hsy x h1)
    · obtain ⟨a, b, _, _, rfl⟩ := packI_mem _ _ h1
      exact .inl rfl
  · rintro e w' ⟨rfl, ho, hm2⟩
    refine ⟨rfl, _, hL.turnOwn (v' := .slice (some ⟨gl, 0, none⟩) N cap) ?_ rfl (hm2.mono fun k _ hk => by rw [hk]; rfl)⟩
    have hG : gS S m = (stS (fun t => rowI S (t + 1)) m (2 * n - 2) m).2 := by
      funext i
      unfold gS
      rw [hn]; rfl
    rw [hG]; exact ho
theorem infoInt5 : (Tryz.prog.info? 3).map (fun i => (i.zero, i.size, i.bytes)) = some (some (.int .i64 0), 1, 8) := by kernel_rfl
theorem zero_nums (n : Nat) : List.replicate n (Value.int .i64 0) = gNums n (fun _ => 0) := by
  refine List.ext_getElem? fun j => ?_
  by_cases h : j < n
  · rw [gNums_get _ _ _ h, List.getElem?_replicate, if_pos h]; rfl
  · rw [List.getElem?_eq_none (by simp; omega), List.getElem?_eq_none (by simp [gNums, nums]; omega)]
theorem Held.itemAt {w0 w : World} {g off n cap : Nat} {l : List Itm} {Rs : List Thing} (h : Held w0 w (itmT (.slice (some ⟨g, off, none⟩) n cap) l :: Rs)) {j : Nat} {x : Itm} (hx : l[j]? = some x) :
    w.cell? ⟨g, off + j * 2, none⟩ = some (.int .i64 (x.1 : Int)) ∧ w.cell? ⟨g, off + j * 2 + 1, none⟩ = some (.int .i64 x.2) := by
  have hl := (List.getElem?_eq_some_iff.1 hx).1
  obtain ⟨g', off', cap', hv, _, _, hcell, _, _⟩ := h.site2 (by omega)
  simp only [Value.slice.injEq, Option.some.injEq, Addr.mk.injEq, and_true] at hv
  obtain ⟨⟨rfl, rfl⟩, _, rfl⟩ := hv
  exact hcell j x hx
theorem itm_addr {w0 w : World} {v : Value} {l : List Itm} {Rs : List Thing} (h : Held w0 w (itmT v l :: Rs)) (hl : 0 < l.length) : ∃ g off cap, v = .slice (some ⟨g, off, none⟩) l.length cap := by
  obtain ⟨g, off, cap, hv, _⟩ := h.site2 hl
  exact ⟨g, off, cap, hv⟩
theorem Held.numAt {w0 w : World} {B n c : Nat} {G : Nat → Nat} {Rs : List Thing} (h : Held w0 w (ownT 3 1 (.slice (some ⟨B, 0, none⟩) n c) n (gNums n G) :: Rs)) {s : Nat} (hs : s < n) (u : Nat) :
    w.cell? ⟨B, s, none⟩ = some (.int .i64 (G s : Int)) ∧ w.frozen? ⟨B, s, none⟩ = false ∧ Held w0 (w.setCell ⟨B, s, none⟩ (.int .i64 (u : Int))) (ownT 3 1 (.slice (some ⟨B, 0, none⟩) n c) n (gNums n (fun j => if j = s then u else G j)) :: Rs) := by
  obtain ⟨g, off, hg, hcell, hfr, hput⟩ := h.own.site (by omega)
  simp only [Option.some.injEq, Addr.mk.injEq, and_true] at hg
  obtain ⟨rfl, rfl⟩ := hg
  have h1 := hcell s _ (gNums_get n G s hs)
  have h2 := hfr s
  have h3 := h.putOwn (hput s (.int .i64 (u : Int)) hs) (Mod.set w B (0 + s) _)
  rw [gNums_set] at h3
  rw [Nat.zero_add] at h1 h2 h3
  exact ⟨h1, h2, h3⟩
def lensF (f : List Nat) (m : Nat) : List Nat :=
  match symI 0 f with
  | [] => (List.range f.length).map fun _ => 0
  | [x] => (List.range f.length).map fun (j : Nat) => if (j : Int) = x.2 then 1 else 0
  | x :: y :: r => (List.range f.length).map (gS (x :: y :: r) m)
theorem lensF_zero {f : List Nat} {m n : Nat} {S : List Itm} (hS : S = symI 0 f) (h : S.length = 0) (hn : f.length = n) : ((List.range n).map fun _ => 0) = lensF f m := by
  have e : symI 0 f = [] := by rw [← hS]; exact List.eq_nil_of_length_eq_zero h
  unfold lensF
  rw [e, hn]
theorem lensF_one {f : List Nat} {m n a s : Nat} {S : List Itm} (hS : S = symI 0 f) (h : S = [(a, (s : Int))]) (hn : f.length = n) : ((List.range n).map fun j => if j = s then 1 else 0) = lensF f m := by
  have e : symI 0 f = [(a, (s : Int))] := by rw [← hS]; exact h
  unfold lensF
  rw [e, hn]
  simp only [Int.natCast_inj]
theorem lensF_many {f : List Nat} {m n : Nat} {S : List Itm} (hS : S = symI 0 f) (h : 2 ≤ S.length) (hn : f.length = n) : (List.range n).map (gS S m) = lensF f m := by
  unfold lensF
  rw [← hS, hn]
  match S, h with
  | _ :: _ :: _, _ => rfl
set_option maxHeartbeats 3200000 in
theorem lengths_good (v : Value) (n m : Nat) (f : List Int) (w : World) (hv : Rd w 1 v n (ints f)) (hn : n = f.length) (hl : n ≤ 288) (hm1 : 1 ≤ m) (hm2 : m ≤ 15) (hf : frqIn f = true) :
    Calls Tryz.prog 63 #[v, .int .i64 (m : Int)] w fun e w' => (2 ^ m < coded f ∧ e = .returned (.tuple #[.slice none 0 0, .int .i64 3]) ∧ Mod w w' (fun _ => False)) ∨
      (coded f ≤ 2 ^ m ∧ ∃ (v' : Value) (l : List Nat) (Rs : List Thing), e = .returned (.tuple #[v', .int .i64 0]) ∧ Held w w' (ownT 3 1 v' n (nums .i64 l) :: Rs) ∧ LenOK (f.map Int.toNat) m l ∧ l = lensF (f.map Int.toNat) m) := by
  have HW := hid (withinL_any v f w n hn hv (by omega))
  rw [hf] at HW
  have hfi := (frqIn_iff f).1 hf
  have hcn : codedN (f.map Int.toNat) = coded f := coded_nat f fun a ha => (hfi a ha).1
  obtain ⟨S, hS⟩ : ∃ S, S = symI 0 (f.map Int.toNat) := ⟨_, rfl⟩
  have HY := hid (symbols_any v f w w [] (Held.start w) n hn hv (by omega) hfi)
  rw [← hS] at HY
  obtain ⟨c, hc⟩ : ∃ c, c = S.length := ⟨_, rfl⟩
  have hcc : c = coded f := by rw [hc, hS, symI_length, hcn]
  have hcn2 : c ≤ n := by
    have := symI_le (f.map Int.toNat) 0
    rw [← hS, ← hc, List.length_map, ← hn] at this; exact this
  have hsy : ∀ x ∈ S, ∃ s : Nat, s < n ∧ x.2 = (s : Int) ∧ x.1 ≤ 1048576 := fun x hx => by
    rw [hS] at hx
    obtain ⟨i, _, e, hi, _⟩ := symI_mem _ 0 x hx
    have hil := (List.getElem?_eq_some_iff.1 hi).1
    rw [List.length_map, Nat.sub_zero, ← hn] at hil
    refine ⟨i, hil, e, ?_⟩
    rw [Nat.sub_zero, List.getElem?_map] at hi
    obtain ⟨a, ha, hxa⟩ := Option.map_eq_some_iff.1 hi
    have := hfi a (List.mem_of_getElem? ha)
    omega
  rw [← hcc]
  obtain ⟨ao, cap, rfl, _, _⟩ := hv.form
  have hn0 : (0 : Int) ≤ (n : Int) := Int.natCast_nonneg _
  have hc0 : (0 : Int) ≤ (c : Int) := Int.natCast_nonneg _
  have hm0 : (0 : Int) ≤ (m : Int) := Int.natCast_nonneg _
  have HL := hid (And.intro hc.symm (And.intro hS (And.intro hn hsy)))
  have HCC := hid hcn
  have hb1 : decide ((m : Int) < 1) = false := by simp; omega
  have hb2 : decide ((15 : Int) < (m : Int)) = false := by simp; omega
  have hb3 : decide ((288 : Int) < (n : Int)) = false := by simp; omega
  obtain ⟨z, hz⟩ : ∃ z, z = 2 ^ m := ⟨_, rfl⟩
  have hz0 : z ≤ 32768 := by rw [hz]; exact Nat.pow_le_pow_right (by decide) hm2
  have HZ := hid hz
  have hwz : wrap64 ((2 : Int) ^ m) = (z : Int) := by
    rw [two_pow_int, ← hz]
    unfold wrap64; omega
  rw [← hz]
  clear hc hS hn hsy hfi hf hv hcn hz
  have HCF := hid hcc
  clear hcc
  go_enter Tryz.func63, Tryz.ntmps63
  go_wp2_with fail
  refine HW.out.mono ?_
  rintro e w' ⟨rfl, rfl⟩
  go_wp2_with fail
  refine HY.out.mono ?_
  rintro e w1 ⟨sv, rfl, hh⟩
  obtain ⟨so, sc, rfl, hs1, hs2⟩ := itm_form hh
  rw [HL.out.1] at hs1 hh ⊢
  have HH := hid hh
  clear hh HW HY
  by_cases hcz : z < c
  · have hczI : (z : Int) < (c : Int) := by omega
    go_wp2
    go_ret2
    exact .inl ⟨hcz, rfl, HH.out.mod⟩
  · have hczI : ¬ (z : Int) < (c : Int) := by omega
    have hcz2 : c ≤ z := by omega
    obtain ⟨i0, hi, hz0, hz1, hz2⟩ := info_parts infoInt5
    have hfl : (f.map Int.toNat).length = n := by rw [List.length_map]; exact HL.out.2.2.1.symm
    have HFL := hid hfl
    clear hfl
    have h3 : c = 0 ∨ c = 1 ∨ 2 ≤ c := by omega
    rcases h3 with h3 | h3 | h3
    · have HOK : Hid (LenOK (f.map Int.toNat) m ((List.range n).map fun _ => 0)) := by
        have hcf := HCF.out
        have hcn := HCC.out
        refine hid ⟨by rw [HFL.out]; simp, fun _ i a b ha hb => ?_, fun h => by omega⟩
        have hil := (List.getElem?_eq_some_iff.1 ha).1
        rw [List.length_map, List.length_range] at hil
        rw [List.getElem?_map, List.getElem?_range hil] at ha
        simp only [Option.map_some, Option.some.injEq] at ha
        by_cases h0 : 0 < b
        · have h := symI_has _ 0 i b hb h0
          have hSl := HL.out.1
          rw [h3] at hSl
          rw [← HL.out.2.1, List.eq_nil_of_length_eq_zero hSl] at h
          simp at h
        · rw [if_neg h0]; exact ha.symm
      subst h3
      go_wp2_with ((with_reducible show wpList _ _ _ (⟨some 33, _, _, _, _, _⟩ :: _) _ _); refine wpList_make_own rfl 32 (.tmp 32) (.tmp 32) rfl 3 i0 (.int .i64 0) 1 Tryz.underlying32 hi hz0 hz1 .i64 n rfl rfl (by rw [hz2]; omega) (by unfold maxLen; omega) ?_; intro v1 w2 zs ho1 hm1 hf1 hv1 hzs; rw [made_cells _ _ rfl, zero_nums] at hzs; subst hzs; subst hv1; have HH2 := hid (HH.out.pushOwn ho1 hm1 hf1); clear hm1 hf1 ho1)
      go_ret2
      exact .inr ⟨hcz2, _, (List.range n).map fun _ => 0, _, rfl, HH2.out, HOK.out, lensF_zero HL.out.2.1 HL.out.1 HFL.out⟩
    · subst h3
      obtain ⟨⟨a0, s0⟩, hSx⟩ : ∃ x, S = [x] := List.length_eq_one_iff.1 HL.out.1
      obtain ⟨s, hsn, hs, ha0⟩ := HL.out.2.2.2 (a0, s0) (by rw [hSx]; simp)
      have hs : s0 = (s : Int) := hs
      subst hs
      have HOK : Hid (LenOK (f.map Int.toNat) m ((List.range n).map fun j => if j = s then 1 else 0)) := by
        have hcf := HCF.out
        have hcn := HCC.out
        refine hid ⟨by rw [HFL.out]; simp, fun _ i a b ha hb => ?_, fun h => by omega⟩
        have hil := (List.getElem?_eq_some_iff.1 ha).1
        rw [List.length_map, List.length_range] at hil
        rw [List.getElem?_map, List.getElem?_range hil] at ha
        simp only [Option.map_some, Option.some.injEq] at ha
        rw [← ha]
        by_cases h0 : 0 < b
        · have h := symI_has _ 0 i b hb h0
          rw [← HL.out.2.1, hSx, List.mem_singleton, Nat.zero_add] at h
          have h2 : (i : Int) = (s : Int) := congrArg Prod.snd h
          rw [if_pos h0, if_pos (by omega)]
        · have h1 : (a0, (s : Int)) ∈ symI 0 (f.map Int.toNat) := by rw [← HL.out.2.1, hSx]; simp
          obtain ⟨j, _, e, hj, hp⟩ := symI_mem _ 0 _ h1
          have e2 : (s : Int) = (j : Int) := e
          have hne : ¬ i = s := by
            intro e3
            have : j = i := by omega
            subst this
            rw [Nat.sub_zero, hb] at hj
            simp only [Option.some.injEq] at hj
            omega
          rw [if_neg h0, if_neg hne]
      have hs0 : (0 : Int) ≤ (s : Int) := Int.natCast_nonneg _
      have HSX := hid hSx
      obtain ⟨g, off, cp, hv⟩ := itm_addr HH.out (by rw [hSx]; exact Nat.zero_lt_one)
      simp only [Value.slice.injEq] at hv
      obtain ⟨rfl, hx9, rfl⟩ := hv
      clear hSx hx9
      go_wp2_with ((with_reducible show wpList _ _ _ (⟨some 33, _, _, _, _, _⟩ :: _) _ _); refine wpList_make_own rfl 32 (.tmp 32) (.tmp 32) rfl 3 i0 (.int .i64 0) 1 Tryz.underlying32 hi hz0 hz1 .i64 n rfl rfl (by rw [hz2]; omega) (by unfold maxLen; omega) ?_; intro v1 w2 zs ho1 hm1 hf1 hv1 hzs; rw [made_cells _ _ rfl, zero_nums] at hzs; subst hzs; subst hv1; have HH2 := hid (HH.out.pushOwn ho1 hm1 hf1); clear hm1 hf1 ho1; have c2 := (HH2.out.swap.itemAt (j := 0) (x := (a0, (s : Int))) (by rw [HSX.out]; rfl)).2; obtain ⟨c3, f3, h3⟩ := HH2.out.numAt hsn 1; have HP := hid h3; simp only [Nat.zero_mul, Nat.add_zero] at c2; clear h3)
      go_ret2
      exact .inr ⟨hcz2, _, _, _, rfl, HP.out, HOK.out, lensF_one HL.out.2.1 HSX.out HFL.out⟩
    · have HOK : Hid (LenOK (f.map Int.toNat) m ((List.range n).map (gS S m))) := by
        have hcf := HCF.out
        have hcn := HCC.out
        have hz9 := HZ.out
        refine hid ⟨by rw [HFL.out]; simp, fun h => by omega, fun _ => ?_⟩
        rw [HL.out.2.1, ← HFL.out]
        exact share_opt _ m hm1 hm2 (by omega) (by omega)
      have hc1I : ¬ (c : Int) = 1 := by omega
      have hc1b : ((c : Int) == 1) = false := by simp; omega
      have hc2I : (1 : Int) < (c : Int) := by omega
      obtain ⟨k, hk⟩ : ∃ k, k = 2 * c - 2 := ⟨_, rfl⟩
      have hkI : 2 * (c : Int) - 2 = (k : Int) := by omega
      have HK := hid hk
      clear hk
      go_wp2_with first
        | ((with_reducible show wpList _ _ _ (⟨some 33, _, _, _, _, _⟩ :: _) _ _); refine wpList_make_own rfl 32 (.tmp 32) (.tmp 32) rfl 3 i0 (.int .i64 0) 1 Tryz.underlying32 hi hz0 hz1 .i64 n rfl rfl (by rw [hz2]; omega) (by unfold maxLen; omega) ?_; intro v1 w2 zs ho1 hm1 hf1 hv1 hzs; rw [made_cells _ _ rfl, zero_nums] at hzs; subst hzs; subst hv1; have HH2 := hid (HH.out.pushOwn ho1 hm1 hf1); clear hm1 hf1 ho1)
        | fail
      have hsy2 : ∀ x ∈ S, x.1 ≤ 1048576 := fun x hx => by
        obtain ⟨_, _, _, h⟩ := HL.out.2.2.2 x hx
        exact h
      refine (rows_any c m S _ w _ _ HH2.out.swap HL.out.1 (by omega) (by omega) hm2 hsy2).mono ?_
      rintro e w3 ⟨B, ms, rfl, hms, hms2, hh⟩
      have HR := shareH c m n B S ms w1.heap.size n (.slice so c sc) w w3 [] hh hms hms2 HL.out.1 (by omega) (by omega) hm2 hm1 (by have := HZ.out; omega) (by omega) (fun x hx => by
        obtain ⟨s, h1, h2, _⟩ := HL.out.2.2.2 x hx
        exact ⟨s, h1, h2⟩)
      rw [← HK.out] at HR
      have HR2 := hid HR
      clear HR hh hms hms2 hsy2
      go_wp2_with fail
      refine HR2.out.mono ?_
      rintro e w4 ⟨rfl, Rs4, hh⟩
      have HF := hid hh
      clear hh HR2
      go_wp2
      go_ret2
      exact .inr ⟨hcz2, _, _, _, rfl, HF.out, HOK.out, lensF_many HL.out.2.1 (by rw [HL.out.1]; exact h3) HFL.out⟩
theorem lengths_det {w0 w : World} {Rs : List Thing} (h : Held w0 w Rs) (v : Value) (n m : Nat) (f : List Int) (hv : Rd w 1 v n (ints f)) (hn : n = f.length) (hl : n ≤ 288) (hm1 : 1 ≤ m) (hm2 : m ≤ 15) (hf : frqIn f = true) (hc : coded f ≤ 2 ^ m) :
    Calls Tryz.prog 63 #[v, .int .i64 (m : Int)] w fun e w' => ∃ v', e = .returned (.tuple #[v', .int .i64 0]) ∧ Held w0 w' (ownT 3 1 v' n (nums .i64 (lensF (f.map Int.toNat) m)) :: Rs) :=
  (lengths_good v n m f w hv hn hl hm1 hm2 hf).mono fun e w' h2 => by
    rcases h2 with ⟨h3, _⟩ | ⟨_, v', l, _, he, hh, _, rfl⟩
    · omega
    · exact ⟨v', he, h.pushOwn hh.own hh.mod hh.fresh⟩
theorem lensF_ok (f : List Nat) (m : Nat) (_ : f.length ≤ 288) (hm1 : 1 ≤ m) (hm2 : m ≤ 15) (hc : codedN f ≤ 2 ^ m) : LenOK f m (lensF f m) := by
  obtain ⟨S, hS⟩ : ∃ S, S = symI 0 f := ⟨_, rfl⟩
  have hl : S.length = codedN f := by rw [hS, symI_length]
  have h3 : S.length = 0 ∨ S.length = 1 ∨ 2 ≤ S.length := by omega
  rcases h3 with h3 | h3 | h3
  · rw [← lensF_zero hS h3 rfl]
    refine ⟨by simp, fun _ i a b ha hb => ?_, fun h => by omega⟩
    have hil := (List.getElem?_eq_some_iff.1 ha).1
    rw [List.length_map, List.length_range] at hil
    rw [List.getElem?_map, List.getElem?_range hil] at ha
    simp only [Option.map_some, Option.some.injEq] at ha
    by_cases h0 : 0 < b
    · have h := symI_has _ 0 i b hb h0
      rw [← hS, List.eq_nil_of_length_eq_zero h3] at h
      simp at h
    · rw [if_neg h0]; exact ha.symm
  · obtain ⟨⟨a0, s0⟩, hSx⟩ : ∃ x, S = [x] := List.length_eq_one_iff.1 h3
    obtain ⟨s, _, hs, hfs, _⟩ := symI_mem f 0 (a0, s0) (by rw [← hS, hSx]; simp)
    have hs : s0 = (s : Int) := hs
    subst hs
    rw [← lensF_one hS hSx rfl]
    refine ⟨by simp, fun _ i a b ha hb => ?_, fun h => by omega⟩
    have hil := (List.getElem?_eq_some_iff.1 ha).1
    rw [List.length_map, List.length_range] at hil
    rw [List.getElem?_map, List.getElem?_range hil] at ha
    simp only [Option.map_some, Option.some.injEq] at ha
    rw [← ha]
    by_cases h0 : 0 < b
    · have h := symI_has _ 0 i b hb h0
      rw [← hS, hSx] at h
      simp only [List.mem_singleton] at h
      have h2 : ((0 + i : Nat) : Int) = (s : Int) := congrArg Prod.snd h
      rw [if_pos h0, if_pos (by omega)]
    · have h1 : (a0, (s : Int)) ∈ symI 0 f := by rw [← hS, hSx]; simp
      obtain ⟨j, _, e, hj, hp⟩ := symI_mem _ 0 _ h1
      have e2 : (s : Int) = (j : Int) := e
      have hne : ¬ i = s := by
        intro e3
        have : j = i := by omega
        subst this
        rw [Nat.sub_zero, hb] at hj
        simp only [Option.some.injEq] at hj
        omega
      rw [if_neg h0, if_neg hne]
  · rw [← lensF_many hS h3 rfl]
    refine ⟨by simp, fun h => by omega, fun _ => ?_⟩
    rw [hS]
    exact share_opt _ m hm1 hm2 (by omega) (by omega)
end Go.Proofs.YtdmnfjicjjlnnaaGreatDoor
