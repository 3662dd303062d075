/-
  What Lengths is to return, as a statement that the program's own text must show ('LengthsOK'); the laws' own example.
-/
import Derived.Test.YthibpnkdhbkakaaDoorMd11
import Derived.Test.YthibpnkdhbkakaaDoorMd02
import Derived.Test.YthibpnkdhbkakaaDoorMd07
import Derived.Test.YthibpnkdhbkakaaDoorMd10
namespace Go.Proofs.YthibpnkdhbkakaaDoor
set_option maxRecDepth 5000
open Go.RowKit

/-- lengths as the document asks -/
structure LenOK (f : List Nat) (m : Nat) (l : List Nat) : Prop where
  len : l.length = f.length
  few : codedN f < 2 → ∀ (i a b : Nat), l[i]? = some a → f[i]? = some b → a = if 0 < b then 1 else 0
  best : 2 ≤ codedN f → OptL f m l
def LengthsOK : Prop := ∀ (v : Value) (n : Nat) (f : List Int) (most : Int) (w : World), Rd w 1 v n (ints f) → n < 1000 →
  Calls Tryd.prog 25 #[v, .int .i64 most] w fun e w' => ∃ (v' : Value) (l : List Nat), e = .returned (.tuple #[v', .int .i64 ((mayOf f most : Nat) : Int)]) ∧
    Own w' 3 1 v' l.length (nums .i64 l) ∧ (∀ k, v'.ownBlock = some k → w.heap.size ≤ k) ∧ Mod w w' (fun _ => False) ∧ (mayOf f most ≠ 0 → l = []) ∧ (mayOf f most = 0 → LenOK (f.map Int.toNat) most.toNat l)
theorem OptL.three {m : Nat} {l : List Nat} (hm : 2 ≤ m) (hm2 : m ≤ 15) (h : OptL [1, 1, 2] m l) : l = [2, 2, 1] := by
  have hlen := h.good.len
  match l, hlen with
  | [x0, x1, x2], _ =>
    have p0 := (h.good.sup 0 x0 1 rfl rfl).2 (by omega)
    have p1 := (h.good.sup 1 x1 1 rfl rfl).2 (by omega)
    have p2 := (h.good.sup 2 x2 2 rfl rfl).2 (by omega)
    have hg : FitL [1, 1, 2] m [2, 2, 1] := by
      refine ⟨rfl, fun i a b ha hb => ?_, fun a ha => ?_, by decide⟩
      · match i, ha, hb with
        | 0, ha, hb => simp at ha hb; omega
        | 1, ha, hb => simp at ha hb; omega
        | 2, ha, hb => simp at ha hb; omega
        | i + 3, ha, hb => simp at ha
      · simp at ha; omega
    have h1 := h.least _ hg
    have hw := h.good.whole
    simp only [cst, kr] at h1 hw
    have w1 : wtN 1 = 16384 := by decide
    have w2 : wtN 2 = 8192 := by decide
    have w3 : wtN 3 = 4096 := by decide
    have hcase : (x2 = 1 ∧ ((x0 = 1 ∧ x1 = 1) ∨ (x0 = 1 ∧ x1 = 2) ∨ (x0 = 1 ∧ x1 = 3) ∨ (x0 = 2 ∧ x1 = 1) ∨ (x0 = 2 ∧ x1 = 2) ∨ (x0 = 3 ∧ x1 = 1))) ∨ (x2 = 2 ∧ x0 = 1 ∧ x1 = 1) := by omega
    rcases hcase with ⟨rfl, ⟨rfl, rfl⟩ | ⟨rfl, rfl⟩ | ⟨rfl, rfl⟩ | ⟨rfl, rfl⟩ | ⟨rfl, rfl⟩ | ⟨rfl, rfl⟩⟩ | ⟨rfl, rfl, rfl⟩
    · omega
    · omega
    · omega
    · omega
    · rfl
    · omega
    · omega
theorem may_three : mayOf [1, 1, 2] 15 = 0 := by decide
section
variable {w0 w : World} {Rs : List Thing}
/-- beside what a call holds -/
theorem h_lengths (H : LengthsOK) (h : Held w0 w Rs) {v : Value} {n : Nat} {f : List Int} (most : Int) (hv : Rd w 1 v n (ints f)) (hn : n < 1000) :
    Calls Tryd.prog 25 #[v, .int .i64 most] w fun e w' => ∃ (ao : Option Addr) (cap N : Nat) (l : List Nat), e = .returned (.tuple #[.slice ao N cap, .int .i64 ((mayOf f most : Nat) : Int)]) ∧ Hid (N = l.length) ∧
      Held w0 w' (ownT 3 1 (.slice ao N cap) N (nums .i64 l) :: Rs) ∧ Hid ((mayOf f most ≠ 0 → l = []) ∧ (mayOf f most = 0 → LenOK (f.map Int.toNat) most.toNat l)) := by
  refine (H v n f most w hv hn).mono fun e w' ⟨v', l, he, ho, hf, hm, h1, h2⟩ => ?_
  obtain ⟨ao, cap, rfl, _, _⟩ := ho.form
  exact ⟨ao, cap, l.length, l, he, rfl, h.pushOwn ho hm hf, h1, h2⟩
end
end Go.Proofs.YthibpnkdhbkakaaDoor
/-
  What the program writes as a dynamic block, told as a function: the codes without their last zeros, the items that stand for their lengths, the third code; each block is one that is read as what it means. No program is named here.
-/
namespace Go.Proofs.YthibpnkdhbkakaaDoor
set_option maxRecDepth 5000

/-! ### Lengths as a code that Check takes -/
def natI (l : List Nat) : List Int := l.map fun (n : Nat) => (n : Int)
theorem natI_length (l : List Nat) : (natI l).length = l.length := by simp [natI]
theorem natI_get (l : List Nat) (k : Nat) : (natI l)[k]? = (l[k]?).map fun (n : Nat) => (n : Int) := by simp [natI]
theorem check_of {l : List Int} {m : Nat} (hm : 1 ≤ m) (hm2 : m ≤ 15) (hl : l.length ≤ 288) (ha : ∀ a ∈ l, 0 ≤ a ∧ a ≤ (m : Int)) (hs : sumOf l = 0 ∨ sumOf l = 32768 ∨ sumOf l = 16384 ∧ l.count 1 = 1) : checkOf l (m : Int) = 0 := by
  unfold checkOf argBad
  rw [if_neg, if_pos hs]
  have h1 : decide ((m : Int) < 1 ∨ 15 < (m : Int) ∨ 288 < l.length) = false := by rw [decide_eq_false_iff_not]; omega
  have h2 : allIn l (m : Int) = true := (allIn_iff l m).2 ha
  rw [h1, h2]; decide
theorem check_is {l : List Int} {m : Nat} (h : checkOf l (m : Int) = 0) : l.length ≤ 288 ∧ (∀ a ∈ l, 0 ≤ a ∧ a ≤ (m : Int)) ∧ (sumOf l = 0 ∨ sumOf l = 32768 ∨ sumOf l = 16384 ∧ l.count 1 = 1) := by
  unfold checkOf at h
  split at h
  · cases h
  · rename_i hb
    split at h
    · rename_i hs
      simp only [argBad, Bool.or_eq_true, decide_eq_true_eq, Bool.not_eq_true', not_or, Bool.not_eq_false] at hb
      exact ⟨by omega, (allIn_iff l m).1 hb.2, hs⟩
    · cases h
/-- what the lengths of a best code are for some frequencies -/
structure LenFor (f : List Nat) (m : Nat) (l : List Nat) : Prop where
  len : l.length = f.length
  le : ∀ a ∈ l, a ≤ m
  sup : ∀ (i a b : Nat), l[i]? = some a → f[i]? = some b → (0 < a ↔ 0 < b)
  sum : kr l = 0 ∧ codedN f = 0 ∨ kr l = 32768 ∨ kr l = 16384 ∧ (natI l).count 1 = 1
theorem few_kr : ∀ (l f : List Nat), l.length = f.length → (∀ (i a b : Nat), l[i]? = some a → f[i]? = some b → a = if 0 < b then 1 else 0) → kr l = 16384 * codedN f ∧ (natI l).count 1 = codedN f ∧ ∀ a ∈ l, a ≤ 1
  | [], [], _, _ => ⟨rfl, rfl, fun _ h => by cases h⟩
  | [], _ :: _, h, _ => by simp at h
  | _ :: _, [], h, _ => by simp at h
  | a :: l, b :: f, h, hh => by
    obtain ⟨h1, h2, h3⟩ := few_kr l f (by simpa using h) fun i x y hx hy => hh (i + 1) x y hx hy
    have h0 := hh 0 a b rfl rfl
    have e : (natI (a :: l)).count 1 = (natI l).count 1 + (if a = 1 then 1 else 0) := by
      simp only [natI, List.map_cons, List.count_cons, beq_iff_eq]
      congr 1
      by_cases c : a = 1
      · subst c; rfl
      · rw [if_neg (by omega), if_neg c]
    rw [kr, codedN, h1, e, h2]
    by_cases c : 0 < b
    · rw [if_pos c] at h0 ⊢
      subst h0
      rw [show wtN 1 = 16384 by decide, if_pos rfl]
      exact ⟨by omega, by omega, fun x hx => by rcases List.mem_cons.1 hx with rfl | hx; exact Nat.le_refl _; exact h3 x hx⟩
    · rw [if_neg c] at h0 ⊢
      subst h0
      rw [wtN_zero, if_neg (by decide)]
      exact ⟨by omega, by omega, fun x hx => by rcases List.mem_cons.1 hx with rfl | hx; exact Nat.zero_le _; exact h3 x hx⟩
theorem LenOK.for {f l : List Nat} {m : Nat} (h : LenOK f m l) (hm : 1 ≤ m) : LenFor f m l := by
  by_cases hc : codedN f < 2
  · obtain ⟨h1, h2, h3⟩ := few_kr l f h.len (h.few hc)
    refine ⟨h.len, fun a ha => Nat.le_trans (h3 a ha) hm, fun i a b ha hb => ?_, ?_⟩
    · have := h.few hc i a b ha hb
      rw [this]
      split <;> omega
    · have h4 : codedN f = 0 ∨ codedN f = 1 := by omega
      rcases h4 with h4 | h4
      · exact .inl ⟨by rw [h1, h4], h4⟩
      · exact .inr (.inr ⟨by rw [h1, h4], by rw [h2, h4]⟩)
  · have hg := (h.best (by omega)).good
    exact ⟨hg.len, hg.le, hg.sup, .inr (.inl hg.whole)⟩
section
variable {f l : List Nat} {m : Nat}
theorem LenFor.all (h : LenFor f m l) : ∀ a ∈ natI l, 0 ≤ a ∧ a ≤ (m : Int) := fun a ha => by
  obtain ⟨n, hn, rfl⟩ := List.mem_map.1 ha
  have := h.le n hn
  exact ⟨Int.natCast_nonneg _, by omega⟩
theorem LenFor.check (h : LenFor f m l) (hm : 1 ≤ m) (hm2 : m ≤ 15) (hf : f.length ≤ 288) : checkOf (natI l) (m : Int) = 0 := by
  refine check_of hm hm2 (by rw [natI_length, h.len]; exact hf) h.all ?_
  have e : sumOf (natI l) = kr l := kr_sum l
  rw [e]
  rcases h.sum with h1 | h1 | h1
  · exact .inl h1.1
  · exact .inr (.inl h1)
  · exact .inr (.inr h1)
theorem LenFor.has (h : LenFor f m l) {k b : Nat} (hb : f[k]? = some b) (h0 : 0 < b) : HasSym (natI l) k := by
  have hk : k < l.length := by rw [h.len]; exact (List.getElem?_eq_some_iff.1 hb).1
  refine ⟨((l[k] : Nat) : Int), by rw [natI_get, List.getElem?_eq_getElem hk]; rfl, ?_⟩
  have := (h.sup k l[k] b (List.getElem?_eq_getElem hk) hb).2 h0
  omega
end

/-! ### The last zeros -/
def cutN (l : List Int) (least : Nat) : Nat → Nat
  | 0 => 0
  | n + 1 => if least < n + 1 ∧ l[n]?.getD 0 = 0 then cutN l least n else n + 1
def cutL (l : List Int) (least : Nat) : List Int := l.take (cutN l least l.length)
section
variable {l : List Int} {least : Nat}
theorem cutN_le : ∀ n, cutN l least n ≤ n
  | 0 => Nat.le_refl _
  | n + 1 => by unfold cutN; have := cutN_le n; split <;> omega
theorem cutN_ge : ∀ n, least ≤ n → least ≤ cutN l least n
  | 0, h => h
  | n + 1, h => by
    unfold cutN
    split
    · exact cutN_ge n (by omega)
    · exact h
theorem cutN_zero : ∀ n k, cutN l least n ≤ k → k < n → l[k]?.getD 0 = 0
  | 0, k, _, h => by omega
  | n + 1, k, h, h2 => by
    unfold cutN at h
    split at h
    · rename_i hc
      by_cases e : k = n
      · subst e; exact hc.2
      · exact cutN_zero n k h (by omega)
    · omega
theorem cutL_length : (cutL l least).length = cutN l least l.length := by
  have := cutN_le (l := l) (least := least) l.length
  simp [cutL]; omega
theorem cutL_get (k : Nat) : (cutL l least)[k]?.getD 0 = l[k]?.getD 0 := by
  unfold cutL
  rw [List.getElem?_take]
  split
  · rfl
  · rename_i h
    by_cases hk : k < l.length
    · exact (cutN_zero (least := least) l.length k (by omega) hk).symm
    · rw [List.getElem?_eq_none (by omega)]
theorem cutL_at (k : Nat) : lenAt (cutL l least) k = lenAt l k := by unfold lenAt; rw [cutL_get]
theorem cutL_has {k : Nat} (h : HasSym l k) : HasSym (cutL l least) k := by
  obtain ⟨a, h1, h2⟩ := h
  have h3 := cutL_get (l := l) (least := least) k
  rw [h1] at h3
  cases e : (cutL l least)[k]? with
  | none => rw [e] at h3; simp at h3; omega
  | some b => rw [e] at h3; simp at h3; exact ⟨b, e, by omega⟩
theorem cutL_split (l : List Int) (least : Nat) : ∃ z, l = cutL l least ++ List.replicate z 0 := by
  refine ⟨l.length - cutN l least l.length, ?_⟩
  have hd : l.drop (cutN l least l.length) = List.replicate (l.length - cutN l least l.length) 0 := by
    refine List.ext_getElem? fun j => ?_
    rw [List.getElem?_drop, List.getElem?_replicate]
    by_cases hj : j < l.length - cutN l least l.length
    · rw [if_pos hj]
      have h1 := cutN_zero (l := l) (least := least) l.length (cutN l least l.length + j) (by omega) (by omega)
      rw [List.getElem?_eq_getElem (by omega)] at h1 ⊢
      simp at h1
      rw [h1]
    · rw [if_neg hj, List.getElem?_eq_none (by omega)]
  conv => lhs; rw [← List.take_append_drop (cutN l least l.length) l, hd]
  rfl
theorem sum_zeros : ∀ z : Nat, sumOf (List.replicate z 0) = 0
  | 0 => rfl
  | z + 1 => by
    rw [List.replicate_succ, sum_cons, sum_zeros z]
    decide
theorem cutL_check {m : Nat} (h : checkOf l (m : Int) = 0) (hm : 1 ≤ m) (hm2 : m ≤ 15) : checkOf (cutL l least) (m : Int) = 0 := by
  obtain ⟨h1, h2, h3⟩ := check_is h
  obtain ⟨z, hz⟩ := cutL_split l least
  have hle : (cutL l least).length ≤ l.length := by rw [cutL_length]; exact cutN_le _
  have hmem : ∀ a ∈ cutL l least, a ∈ l := fun a ha => List.mem_of_mem_take ha
  have hs : sumOf l = sumOf (cutL l least) := by
    have e : sumOf l = sumOf (cutL l least ++ List.replicate z 0) := congrArg sumOf hz
    rw [e]
    show tot _ 15 = tot _ 15
    rw [tot_append]
    have := sum_zeros z
    unfold sumOf at this
    rw [this, Nat.add_zero]
  have hc : l.count 1 = (cutL l least).count 1 := by
    have e : l.count 1 = (cutL l least ++ List.replicate z 0).count 1 := congrArg (List.count 1) hz
    rw [e, List.count_append, List.count_replicate]
    simp
  rw [hs, hc] at h3
  exact check_of hm hm2 (by omega) (fun a ha => h2 a (hmem a ha)) h3
theorem cutL_all {P : Int → Prop} (h : ∀ a ∈ l, P a) : ∀ a ∈ cutL l least, P a := fun a ha => h a (List.mem_of_mem_take ha)
end

/-! ### What stands for the lengths -/
def eqRun (v : Int) : List Int → Nat
  | [] => 0
  | a :: r => if a = v then eqRun v r + 1 else 0
theorem eqRun_le (v : Int) : ∀ l : List Int, eqRun v l ≤ l.length
  | [] => Nat.le_refl _
  | a :: r => by unfold eqRun; have := eqRun_le v r; split <;> simp <;> omega
theorem eqRun_get (v : Int) : ∀ (l : List Int) (k : Nat), k < eqRun v l → l[k]? = some v
  | [], k, h => by simp [eqRun] at h
  | a :: r, k, h => by
    unfold eqRun at h
    split at h
    · rename_i e
      cases k with
      | zero => rw [List.getElem?_cons_zero, e]
      | succ k => exact eqRun_get v r k (by omega)
    · omega
theorem eqRun_stop (v : Int) : ∀ (l : List Int) (a : Int), l[eqRun v l]? = some a → a ≠ v
  | [], _, h => by simp at h
  | b :: r, a, h => by
    unfold eqRun at h
    split at h
    · rw [List.getElem?_cons_succ] at h; exact eqRun_stop v r a h
    · rename_i e
      rw [List.getElem?_cons_zero, Option.some.injEq] at h
      rw [← h]; exact e
theorem eqRun_pos {v : Int} {l : List Int} (h : l[0]? = some v) : 1 ≤ eqRun v l := by
  cases l with
  | nil => cases h
  | cons a r =>
    simp at h
    unfold eqRun
    rw [if_pos h]; omega
abbrev Item := Nat × Nat × Nat
/-- what stands for the lengths from a place on, and for how many of them -/
def nextI (all : List Int) (a : Nat) : Item × Nat :=
  if all[a]?.getD 0 = 0 ∧ 11 ≤ eqRun (all[a]?.getD 0) (all.drop a) then ((18, 7, min (eqRun (all[a]?.getD 0) (all.drop a)) 138 - 11), min (eqRun (all[a]?.getD 0) (all.drop a)) 138)
  else if all[a]?.getD 0 = 0 ∧ 3 ≤ eqRun (all[a]?.getD 0) (all.drop a) then ((17, 3, min (eqRun (all[a]?.getD 0) (all.drop a)) 10 - 3), min (eqRun (all[a]?.getD 0) (all.drop a)) 10)
  else if 0 < a ∧ all[a - 1]?.getD 0 = all[a]?.getD 0 ∧ 3 ≤ eqRun (all[a]?.getD 0) (all.drop a) then ((16, 2, min (eqRun (all[a]?.getD 0) (all.drop a)) 6 - 3), min (eqRun (all[a]?.getD 0) (all.drop a)) 6)
  else (((all[a]?.getD 0).toNat, 0, 0), 1)
def itemsF (all : List Int) : Nat → Nat → List Item
  | 0, _ => []
  | f + 1, a => if a < all.length then (nextI all a).1 :: itemsF all f (a + (nextI all a).2) else []
def itemB (hd : List Int) (x : Item) : List Nat := symBits hd x.1 ++ bitsOf x.2.1 x.2.2
section
variable {all : List Int}
theorem nextI_fits {a : Nat} (h : a < all.length) : 1 ≤ (nextI all a).2 ∧ a + (nextI all a).2 ≤ all.length := by
  have h1 := eqRun_le (all[a]?.getD 0) (all.drop a)
  rw [List.length_drop] at h1
  unfold nextI
  split
  · simp only; omega
  · split
    · simp only; omega
    · split
      · simp only; omega
      · simp only; omega
theorem nextI_sym (hA : ∀ x ∈ all, 0 ≤ x ∧ x ≤ 15) (a : Nat) : (nextI all a).1.1 < 19 ∧ (nextI all a).1.2.1 ≤ 7 ∧ (nextI all a).1.2.2 < 2 ^ (nextI all a).1.2.1 := by
  unfold nextI
  split
  · simp only; omega
  · split
    · simp only; omega
    · split
      · simp only; omega
      · refine ⟨?_, Nat.zero_le _, Nat.lt_succ_self 0⟩
        show (all[a]?.getD 0).toNat < 19
        cases e : all[a]? with
        | none => decide
        | some v => have := hA v (List.mem_of_getElem? e); show v.toNat < 19; omega
theorem itemsF_sym (hA : ∀ x ∈ all, 0 ≤ x ∧ x ≤ 15) : ∀ f a, ∀ x ∈ itemsF all f a, x.1 < 19 ∧ x.2.1 ≤ 7 ∧ x.2.2 < 2 ^ x.2.1
  | 0, _, x, h => by cases h
  | f + 1, a, x, h => by
    unfold itemsF at h
    split at h
    · rcases List.mem_cons.1 h with rfl | h
      · exact nextI_sym hA a
      · exact itemsF_sym hA f _ x h
    · cases h
theorem itemsF_length : ∀ f a, (itemsF all f a).length ≤ f
  | 0, _ => Nat.le_refl _
  | f + 1, a => by
    unfold itemsF
    split
    · rw [List.length_cons]; have := itemsF_length f (a + (nextI all a).2); omega
    · exact Nat.zero_le _
theorem take_run {a n : Nat} {v : Int} (h : n ≤ eqRun v (all.drop a)) : all.take a ++ List.replicate n v = all.take (a + n) := by
  rw [List.take_add]
  congr 1
  refine List.ext_getElem? fun j => ?_
  rw [List.getElem?_replicate, List.getElem?_take]
  by_cases hj : j < n
  · rw [if_pos hj, if_pos hj, eqRun_get v _ j (by omega)]
  · rw [if_neg hj, if_neg hj]
theorem items_lens {hd : List Int} (hA : ∀ x ∈ all, 0 ≤ x ∧ x ≤ 15) : ∀ f a, a ≤ all.length → all.length - a ≤ f → (∀ x ∈ itemsF all f a, HasSym hd x.1) → LenBits hd (all.take a) ((itemsF all f a).flatMap (itemB hd)) all
  | 0, a, h1, h2, _ => by
    have e : all.take a = all := List.take_of_length_le (by omega)
    rw [e]
    exact .done all
  | f + 1, a, h1, h2, hs => by
    unfold itemsF at hs ⊢
    by_cases h : a < all.length
    · rw [if_pos h] at hs ⊢
      obtain ⟨g1, g2⟩ := nextI_fits h
      have ih := items_lens hA f (a + (nextI all a).2) g2 (by omega) fun x hx => hs x (List.mem_cons_of_mem _ hx)
      have hs1 := hs _ (List.mem_cons_self ..)
      rw [List.flatMap_cons]
      generalize hR : (itemsF all f (a + (nextI all a).2)).flatMap (itemB hd) = R at ih ⊢
      have hv : all[a]? = some (all[a]?.getD 0) := by rw [List.getElem?_eq_getElem h]; rfl
      have hvm := hA _ (List.mem_of_getElem? hv)
      generalize hvv : all[a]?.getD 0 = v at hv hvm
      have hrun : (all.drop a)[0]? = some v := by rw [List.getElem?_drop]; exact hv
      have hpos := eqRun_pos hrun
      unfold nextI at ih hs1 ⊢
      rw [hvv] at ih hs1 ⊢
      unfold itemB
      split
      · rename_i c
        rw [if_pos c] at ih hs1
        obtain ⟨rfl, c2⟩ := c
        have e := take_run (all := all) (a := a) (n := min (eqRun 0 (all.drop a)) 138) (v := 0) (by omega)
        rw [← e] at ih
        have hm : 11 + (min (eqRun 0 (all.drop a)) 138 - 11) = min (eqRun 0 (all.drop a)) 138 := by omega
        simp only [List.append_assoc]
        refine .many _ _ _ _ (by omega) hs1 ?_
        rw [hm]; exact ih
      · rename_i c
        rw [if_neg c] at ih hs1
        split
        · rename_i c1
          rw [if_pos c1] at ih hs1
          obtain ⟨rfl, c2⟩ := c1
          have e := take_run (all := all) (a := a) (n := min (eqRun 0 (all.drop a)) 10) (v := 0) (by omega)
          rw [← e] at ih
          have hm : 3 + (min (eqRun 0 (all.drop a)) 10 - 3) = min (eqRun 0 (all.drop a)) 10 := by omega
          simp only [List.append_assoc]
          refine .zeros _ _ _ _ (by omega) hs1 ?_
          rw [hm]; exact ih
        · rename_i c1
          rw [if_neg c1] at ih hs1
          split
          · rename_i c2
            rw [if_pos c2] at ih hs1
            obtain ⟨c3, c4, c5⟩ := c2
            have e := take_run (all := all) (a := a) (n := min (eqRun v (all.drop a)) 6) (v := v) (by omega)
            rw [← e] at ih
            have hm : 3 + (min (eqRun v (all.drop a)) 6 - 3) = min (eqRun v (all.drop a)) 6 := by omega
            simp only [List.append_assoc]
            refine .same _ v _ _ _ ?_ (by omega) hs1 ?_
            · rw [List.getLast?_eq_getElem?, List.getElem?_take, List.length_take, if_pos (by omega), show min a all.length - 1 = a - 1 by omega]
              rw [List.getElem?_eq_getElem (by omega)] at c4 ⊢
              simp at c4
              rw [c4]
            · rw [hm]; exact ih
          · rename_i c2
            rw [if_neg c2] at ih hs1
            have e := take_run (all := all) (a := a) (n := 1) (v := v) (by omega)
            rw [← e] at ih
            have hz : bitsOf 0 0 = [] := rfl
            simp only [hz, List.append_nil]
            refine .one _ _ _ _ (by omega) hs1 ?_
            have e2 : ((v.toNat : Nat) : Int) = v := by omega
            rw [e2]
            exact ih
    · rw [if_neg h]
      have e : all.take a = all := List.take_of_length_le (by omega)
      rw [e]
      exact .done all
end
end Go.Proofs.YthibpnkdhbkakaaDoor
/-
  A stream of blocks that were written, block by block, as the model of reading has it; what a program that writes blocks is to do ('BlockOK'). The mathematics names no program.
-/
namespace Go.Proofs.YthibpnkdhbkakaaDoor
set_option maxRecDepth 5000

/-- what has come out behind a block, and its tokens -/
def outOf (kind : Nat) (raw out o : List Nat) : List Nat := if kind = 0 then out ++ raw else o
def tksOf (kind : Nat) (tk l : List Tok) : List Tok := if kind = 0 then tk else tk ++ l
section
variable {l : List Tok} {raw bs out o pre post : List Nat} {tk : List Tok} {kind M f : Nat} {ks ss : List Nat}
theorem blk_at (h : BlockBits l raw (pre.length + 3) kind bs) (hp : isBits post) (he : expT out l = (0, o)) (ho : o.length ≤ M) (hr : out.length + raw.length ≤ M) (v : Nat) (hv : v < 8) (hvk : v / 2 = kind) :
    takeM (pre ++ (bitsOf 3 v ++ (bs ++ post))) pre.length 3 = some v ∧ blockF (pre ++ (bitsOf 3 v ++ (bs ++ post))) M (v / 2) (pre.length + 3) out tk = (0, pre.length + 3 + bs.length, outOf kind raw out o, tksOf kind tk l) := by
  refine ⟨take_read pre (bs ++ post) 3 v hv, ?_⟩
  have e : pre ++ (bitsOf 3 v ++ (bs ++ post)) = (pre ++ bitsOf 3 v) ++ (bs ++ post) := by simp
  have hl : (pre ++ bitsOf 3 v).length = pre.length + 3 := by rw [List.length_append, bitsOf_length]
  have h2 := block_read (pre ++ bitsOf 3 v) (by rw [hl]; exact h) hp M out o tk he ho hr
  rw [hl, ← e] at h2
  rw [hvk]
  exact h2
theorem infl_more (h : BlockBits l raw (pre.length + 3) kind bs) (hk : kind < 3) (hp : isBits post) (he : expT out l = (0, o)) (ho : o.length ≤ M) (hr : out.length + raw.length ≤ M) :
    inflF (pre ++ (bitsOf 3 (2 * kind) ++ (bs ++ post))) M (f + 1) pre.length out tk ks ss = inflF (pre ++ (bitsOf 3 (2 * kind) ++ (bs ++ post))) M f (pre.length + 3 + bs.length) (outOf kind raw out o) (tksOf kind tk l) (ks ++ [kind]) (ss ++ [(outOf kind raw out o).length]) := by
  obtain ⟨h1, h2⟩ := blk_at (tk := tk) h hp he ho hr (2 * kind) (by omega) (by omega)
  have h3 := inflF_on (f := f) (round_more (ks := ks) (ss := ss) h1 h2 (by omega))
  rw [show 2 * kind / 2 = kind by omega] at h3
  exact h3
theorem infl_last (h : BlockBits l raw (pre.length + 3) kind bs) (hk : kind < 3) (hp : isBits post) (he : expT out l = (0, o)) (ho : o.length ≤ M) (hr : out.length + raw.length ≤ M) :
    inflF (pre ++ (bitsOf 3 (1 + 2 * kind) ++ (bs ++ post))) M (f + 1) pre.length out tk ks ss = ⟨0, pre.length + 3 + bs.length, outOf kind raw out o, tksOf kind tk l, ks ++ [kind], ss ++ [(outOf kind raw out o).length], (pre.length + 3 + bs.length + 7) / 8⟩ := by
  obtain ⟨h1, h2⟩ := blk_at (tk := tk) h hp he ho hr (1 + 2 * kind) (by omega) (by omega)
  have h3 := inflF_over (f := f) (round_last (ks := ks) (ss := ss) h1 h2 (by omega))
  rw [show (1 + 2 * kind) / 2 = kind by omega] at h3
  exact h3
end
/-- an empty stored block that is not the last, at a byte's beginning -/
def gapBits : List Nat := bitsOf 3 0 ++ storedBits 3 []
theorem gap_length : gapBits.length = 40 := by decide
theorem gap_isBits : isBits gapBits := by unfold isBits; decide
theorem storedBits_mod {a b : Nat} (h : a % 8 = b % 8) (raw : List Nat) : storedBits a raw = storedBits b raw := by
  unfold storedBits
  rw [show evenF a - a = evenF b - b by unfold evenF; omega]
theorem stored_nil (a : Nat) : BlockBits [] [] a 0 (storedBits a []) := .stored (fun b h => by cases h) (by decide)
/-- so many of them -/
def gaps : Nat → List Nat
  | 0 => []
  | n + 1 => gaps n ++ gapBits
theorem gaps_length : ∀ n, (gaps n).length = 40 * n
  | 0 => rfl
  | n + 1 => by rw [gaps, List.length_append, gaps_length n, gap_length]; omega
theorem gaps_isBits : ∀ n, isBits (gaps n)
  | 0 => by intro b hb; cases hb
  | n + 1 => isBits_append (gaps_isBits n) gap_isBits
theorem gaps_split (i : Nat) : ∀ d, ∃ r, isBits r ∧ gaps (i + 1 + d) = gaps i ++ (gapBits ++ r)
  | 0 => ⟨[], (fun b h => by cases h), by simp [gaps]⟩
  | d + 1 => by
    obtain ⟨r, hr, e⟩ := gaps_split i d
    exact ⟨r ++ gapBits, isBits_append hr gap_isBits, by rw [show i + 1 + (d + 1) = i + 1 + d + 1 by omega, gaps, e]; simp⟩
/-- past them -/
theorem infl_gaps (n M : Nat) {post : List Nat} (hp : isBits post) (f : Nat) : ∀ d i, i + d = n → inflF (gaps n ++ post) M (d + f) (gaps i).length [] [] (List.replicate i 0) (List.replicate i 0) = inflF (gaps n ++ post) M f (gaps n).length [] [] (List.replicate n 0) (List.replicate n 0)
  | 0, i, h => by simp at h; subst h; rw [Nat.zero_add]
  | d + 1, i, h => by
    obtain ⟨r, hr, e⟩ := gaps_split i d
    have en : gaps n = gaps i ++ (gapBits ++ r) := by rw [← e]; congr 1; omega
    have hb : BlockBits [] [] ((gaps i).length + 3) 0 (storedBits 3 []) := by
      have := stored_nil ((gaps i).length + 3)
      rw [storedBits_mod (b := 3) (by rw [gaps_length]; omega)] at this
      exact this
    have e2 : gaps n ++ post = gaps i ++ (bitsOf 3 (2 * 0) ++ (storedBits 3 [] ++ (r ++ post))) := by rw [en, gapBits]; simp
    have h1 := infl_more (f := d + f) (tk := []) (out := []) (o := []) (M := M) (ks := List.replicate i 0) (ss := List.replicate i 0) hb (by decide) (isBits_append hr hp) rfl (by simp) (by simp)
    rw [← e2] at h1
    rw [show d + 1 + f = d + f + 1 by omega, h1]
    have h2 := infl_gaps n M hp f d (i + 1) (by omega)
    rw [← h2]
    have e3 : (gaps i).length + 3 + (storedBits 3 []).length = (gaps (i + 1)).length := by
      rw [gaps_length, gaps_length]
      have : (storedBits 3 []).length = 37 := by decide
      omega
    rw [e3]
    have e4 : List.replicate i 0 ++ [0] = List.replicate (i + 1) (0 : Nat) := by rw [List.replicate_succ']
    show inflF _ M (d + f) _ [] [] (List.replicate i 0 ++ [0]) (List.replicate i 0 ++ [0]) = _
    rw [e4]
end Go.Proofs.YthibpnkdhbkakaaDoor
