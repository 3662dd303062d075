/-
  The reference's MayLimit.
-/
import Derived.Test.YthibpnkdhbkakaaGreatDoorProg
import Derived.Test.YthibpnkdhbkakaaGreatDoorZq04
import Derived.StillTailTactics
import Derived.Test.YthibpnkdhbkakaaGreatDoorZq03
import Derived.Test.YthibpnkdhbkakaaGreatDoorZq02
import Derived.Test.YthibpnkdhbkakaaGreatDoorZq07
namespace Go.Proofs.YthibpnkdhbkakaaGreatDoor
set_option maxRecDepth 5000
open Go.RowKit

def frqIn (f : List Int) : Bool := f.all fun a => decide (0 ≤ a ∧ a ≤ 1048576)
theorem frqIn_iff (f : List Int) : frqIn f = true ↔ ∀ a ∈ f, 0 ≤ a ∧ a ≤ 1048576 := by simp [frqIn]
theorem frqIn_snoc (l : List Int) (a : Int) : frqIn (l ++ [a]) = (frqIn l && decide (0 ≤ a ∧ a ≤ 1048576)) := by simp [frqIn]
theorem frqIn_take (l : List Int) (i : Nat) (h : frqIn (l.take i) = false) : frqIn l = false := by
  rw [← List.take_append_drop i l]
  unfold frqIn at *
  rw [List.all_append, h]; rfl
/-- what MayLimit returns -/
def mayOf (f : List Int) (most : Int) : Nat :=
  if 288 < f.length ∨ most < 1 ∨ 15 < most ∨ frqIn f = false then 1 else if 2 ^ most.toNat < coded f then 3 else 0
theorem mayOf_ok {f : List Int} {most : Int} (h : mayOf f most = 0) : f.length ≤ 288 ∧ 1 ≤ most ∧ most ≤ 15 ∧ (∀ a ∈ f, 0 ≤ a ∧ a ≤ 1048576) ∧ coded f ≤ 2 ^ most.toNat := by
  unfold mayOf at h
  split at h
  · cases h
  · rename_i h1
    split at h
    · cases h
    · rename_i h2
      have h3 : frqIn f = true := by
        cases hf : frqIn f with
        | true => rfl
        | false => exact absurd (.inr (.inr (.inr hf))) h1
      exact ⟨by omega, by omega, by omega, (frqIn_iff f).1 h3, by omega⟩
end Go.Proofs.YthibpnkdhbkakaaGreatDoor
/-
  Lengths of least cost within a limit: what follows from being the least, whatever way they were found. No program is named here.
-/
namespace Go.Proofs.YthibpnkdhbkakaaGreatDoor
set_option maxRecDepth 5000

/-- how many of the longest codes begin with a code of n bits -/
def wtN (n : Nat) : Nat := if 1 ≤ n ∧ n ≤ 15 then 2 ^ (15 - n) else 0
def kr : List Nat → Nat
  | [] => 0
  | n :: l => wtN n + kr l
def cst : List Nat → List Nat → Nat
  | a :: l, b :: f => a * b + cst l f
  | _, _ => 0
theorem wtN_int (n : Nat) : wtTo 15 (n : Int) = wtN n := by
  unfold wtTo wtN
  by_cases h : 1 ≤ n ∧ n ≤ 15
  · rw [if_pos (by omega), if_pos h]; simp
  · rw [if_neg (by omega), if_neg h]
theorem kr_sum (l : List Nat) : sumOf (l.map fun (n : Nat) => (n : Int)) = kr l := by
  induction l with
  | nil => simp [sumOf, tot_nil, kr]
  | cons a l ih => rw [List.map_cons, sum_cons, wtN_int, ih, kr]
theorem wtN_zero : wtN 0 = 0 := by decide
theorem kr_append (l m : List Nat) : kr (l ++ m) = kr l + kr m := by
  induction l with
  | nil => simp [kr]
  | cons a l ih => rw [List.cons_append, kr, kr, ih]; omega
theorem kr_set (b : Nat) : ∀ (l : List Nat) (k a : Nat), l[k]? = some a → kr (l.set k b) + wtN a = kr l + wtN b
  | [], k, a, h => by simp at h
  | c :: l, 0, a, h => by
    simp only [List.getElem?_cons_zero, Option.some.injEq] at h
    subst h
    rw [List.set_cons_zero, kr, kr]; omega
  | c :: l, k + 1, a, h => by
    rw [List.set_cons_succ, kr, kr]
    have := kr_set b l k a (by simpa using h)
    omega
theorem cst_set (b : Nat) : ∀ (l f : List Nat) (k a c : Nat), l[k]? = some a → f[k]? = some c → cst (l.set k b) f + a * c = cst l f + b * c
  | [], f, k, a, c, h, _ => by simp at h
  | x :: l, [], k, a, c, _, h => by simp at h
  | x :: l, y :: f, 0, a, c, h, h2 => by
    simp only [List.getElem?_cons_zero, Option.some.injEq] at h h2
    subst h; subst h2
    rw [List.set_cons_zero, cst, cst]; omega
  | x :: l, y :: f, k + 1, a, c, h, h2 => by
    rw [List.set_cons_succ, cst, cst]
    have := cst_set b l f k a c (by simpa using h) (by simpa using h2)
    omega
theorem cst_append : ∀ (l f l2 f2 : List Nat), l.length = f.length → cst (l ++ l2) (f ++ f2) = cst l f + cst l2 f2
  | [], [], l2, f2, _ => by simp [cst]
  | [], y :: f, _, _, h => by simp at h
  | x :: l, [], _, _, h => by simp at h
  | x :: l, y :: f, l2, f2, h => by
    rw [List.cons_append, List.cons_append, cst, cst, cst_append l f l2 f2 (by simpa using h)]; omega
theorem cst_mono : ∀ (l l2 f : List Nat), l.length = f.length → l2.length = f.length → (∀ (i a b c : Nat), l[i]? = some a → l2[i]? = some b → f[i]? = some c → 0 < c → a ≤ b) → cst l f ≤ cst l2 f
  | [], [], [], _, _, _ => Nat.le_refl _
  | [], y :: l2, [], _, h, _ => by simp at h
  | [], _, z :: f, h, _, _ => by simp at h
  | x :: l, _, [], h, _, _ => by simp at h
  | x :: l, [], z :: f, _, h, _ => by simp at h
  | x :: l, y :: l2, z :: f, h1, h2, h => by
    have h3 := cst_mono l l2 f (by simpa using h1) (by simpa using h2) fun i a b c ha hb hc => h (i + 1) a b c (by simpa using ha) (by simpa using hb) (by simpa using hc)
    have h4 : x * z ≤ y * z := by
      by_cases hz : 0 < z
      · exact Nat.mul_le_mul_right _ (h 0 x y z rfl rfl rfl hz)
      · obtain rfl : z = 0 := by omega
        simp
    rw [cst, cst]; omega

/-- lengths that frequencies may have -/
structure FitL (f : List Nat) (m : Nat) (l : List Nat) : Prop where
  len : l.length = f.length
  sup : ∀ (i a b : Nat), l[i]? = some a → f[i]? = some b → (0 < a ↔ 0 < b)
  le : ∀ a ∈ l, a ≤ m
  whole : kr l = 32768
/-- .. of least cost -/
structure OptL (f : List Nat) (m : Nat) (l : List Nat) : Prop where
  good : FitL f m l
  least : ∀ l2, FitL f m l2 → cst l f ≤ cst l2 f

theorem get_some {l : List Nat} {i : Nat} (h : i < l.length) : ∃ a, l[i]? = some a := ⟨_, List.getElem?_eq_getElem h⟩
/-- What comes more often has no longer code. -/
theorem OptL.order {f l : List Nat} {m : Nat} (h : OptL f m l) {i j a b c d : Nat} (hi : l[i]? = some a) (hj : l[j]? = some b) (hfi : f[i]? = some c) (hfj : f[j]? = some d) (hd : 0 < d) (hcd : d < c) : a ≤ b := by
  by_cases hab : a ≤ b
  · exact hab
  exfalso
  have hne : i ≠ j := by
    intro e; subst e
    rw [hfi] at hfj; injection hfj with e; omega
  have hb0 := (h.good.sup j b d hj hfj).2 hd
  have h1 := cst_set b l f i a c hi hfi
  have hj2 : (l.set i b)[j]? = some b := by rw [List.getElem?_set_ne hne]; exact hj
  have h2 := cst_set a (l.set i b) f j b d hj2 hfj
  have k1 := kr_set b l i a hi
  have k2 := kr_set a (l.set i b) j b hj2
  have hil := (List.getElem?_eq_some_iff.1 hi).1
  have hjl := (List.getElem?_eq_some_iff.1 hj).1
  have hg : FitL f m ((l.set i b).set j a) := by
    refine ⟨by simp [h.good.len], fun k x y hx hy => ?_, fun x hx => ?_, by have := h.good.whole; omega⟩
    · by_cases e1 : k = j
      · subst e1
        rw [List.getElem?_set_self (by simpa using hjl)] at hx
        injection hx with hx; subst hx
        rw [hfj] at hy; injection hy with hy; subst hy
        omega
      · rw [List.getElem?_set_ne (fun e => e1 e.symm)] at hx
        by_cases e2 : k = i
        · subst e2
          rw [List.getElem?_set_self hil] at hx
          injection hx with hx; subst hx
          rw [hfi] at hy; injection hy with hy; subst hy
          omega
        · rw [List.getElem?_set_ne (fun e => e2 e.symm)] at hx
          exact h.good.sup k x y hx hy
    · rcases List.mem_or_eq_of_mem_set hx with hx | hx
      · rcases List.mem_or_eq_of_mem_set hx with hx | hx
        · exact h.good.le x hx
        · subst hx; exact h.good.le x (List.mem_of_getElem? hj)
      · subst hx; exact h.good.le x (List.mem_of_getElem? hi)
  have h3 := h.least _ hg
  obtain ⟨e, rfl⟩ : ∃ e, a = b + (e + 1) := ⟨a - b - 1, by omega⟩
  obtain ⟨g, rfl⟩ : ∃ g, c = d + (g + 1) := ⟨c - d - 1, by omega⟩
  have e1 : (b + (e + 1)) * (d + (g + 1)) = b * d + b * (g + 1) + (e + 1) * d + (e + 1) * (g + 1) := by
    rw [Nat.add_mul, Nat.mul_add b d (g + 1), Nat.mul_add (e + 1) d (g + 1)]; omega
  have e2 : b * (d + (g + 1)) = b * d + b * (g + 1) := Nat.mul_add _ _ _
  have e3 : (b + (e + 1)) * d = b * d + (e + 1) * d := Nat.add_mul _ _ _
  have e4 : 0 < (e + 1) * (g + 1) := Nat.mul_pos (by omega) (by omega)
  omega
theorem FitL.more {f l : List Nat} {m : Nat} (h : FitL f m l) : FitL f (m + 1) l := ⟨h.len, h.sup, fun a ha => Nat.le_succ_of_le (h.le a ha), h.whole⟩
/-- To allow longer codes never costs more. -/
theorem OptL.more {f l k : List Nat} {m : Nat} (h : OptL f m l) (h2 : OptL f (m + 1) k) : cst k f ≤ cst l f := h2.least _ h.good.more
/-- the turned frequencies -/
theorem FitL.turn {f1 f2 l : List Nat} {m : Nat} (h : FitL (f1 ++ f2) m l) : FitL (f2 ++ f1) m (l.drop f1.length ++ l.take f1.length) ∧ cst (l.drop f1.length ++ l.take f1.length) (f2 ++ f1) = cst l (f1 ++ f2) := by
  have hl : l.length = f1.length + f2.length := by rw [h.len, List.length_append]
  obtain ⟨l1, l2, rfl, h1⟩ : ∃ l1 l2, l = l1 ++ l2 ∧ l1.length = f1.length := ⟨l.take f1.length, l.drop f1.length, (List.take_append_drop _ _).symm, by simp; omega⟩
  rw [← h1, List.drop_left, List.take_left]
  have h2 : l2.length = f2.length := by rw [List.length_append] at hl; omega
  refine ⟨⟨by simp [h1, h2], fun i a b ha hb => ?_, fun a ha => h.le a ?_, ?_⟩, ?_⟩
  · by_cases hi : i < l2.length
    · rw [List.getElem?_append_left hi] at ha
      rw [List.getElem?_append_left (by omega)] at hb
      refine h.sup (l1.length + i) a b ?_ ?_
      · rw [List.getElem?_append_right (by omega), show l1.length + i - l1.length = i by omega]; exact ha
      · rw [List.getElem?_append_right (by omega), show l1.length + i - f1.length = i by omega]; exact hb
    · rw [List.getElem?_append_right (by omega)] at ha
      rw [List.getElem?_append_right (by omega)] at hb
      have hil := (List.getElem?_eq_some_iff.1 ha).1
      refine h.sup (i - l2.length) a b ?_ ?_
      · rw [List.getElem?_append_left (by omega)]; exact ha
      · rw [List.getElem?_append_left (by omega), h2]; exact hb
  · rw [List.mem_append] at ha ⊢
    exact ha.symm
  · have := h.whole
    rw [kr_append] at this ⊢; omega
  · rw [cst_append _ _ _ _ h2, cst_append _ _ _ _ h1]; omega
theorem OptL.turn {f1 f2 l x : List Nat} {m : Nat} (h : OptL (f1 ++ f2) m l) (h2 : OptL (f2 ++ f1) m x) : cst x (f2 ++ f1) = cst l (f1 ++ f2) := by
  have h3 := h2.least _ h.good.turn.1
  rw [h.good.turn.2] at h3
  have h4 := h.least _ h2.good.turn.1
  rw [h2.good.turn.2] at h4
  omega

/-! ### lengths that leave room, made whole -/
def total : List Nat → Nat
  | [] => 0
  | a :: l => a + total l
theorem total_set (b : Nat) : ∀ (l : List Nat) (k a : Nat), l[k]? = some a → total (l.set k b) + a = total l + b
  | [], k, a, h => by simp at h
  | c :: l, 0, a, h => by
    simp only [List.getElem?_cons_zero, Option.some.injEq] at h
    subst h
    rw [List.set_cons_zero, total, total]; omega
  | c :: l, k + 1, a, h => by
    rw [List.set_cons_succ, total, total]
    have := total_set b l k a (by simpa using h)
    omega
/-- how many symbols have a code -/
def codedN : List Nat → Nat
  | [] => 0
  | a :: l => (if 0 < a then 1 else 0) + codedN l
theorem kr_ones : ∀ l : List Nat, (∀ a ∈ l, a ≤ 1) → kr l = 16384 * codedN l
  | [], _ => rfl
  | a :: l, h => by
    have h1 := h a List.mem_cons_self
    have h2 := kr_ones l fun b hb => h b (List.mem_cons_of_mem _ hb)
    rw [kr, codedN, h2]
    by_cases h0 : a = 0
    · subst h0; rw [wtN_zero, if_neg (by omega)]; omega
    · obtain rfl : a = 1 := by omega
      rw [show wtN 1 = 16384 by decide, if_pos (by omega)]; omega
/-- what lengths of at most n bits take is a multiple of what one of n bits takes -/
theorem kr_dvd (n : Nat) (hn : n ≤ 15) : ∀ l : List Nat, (∀ a ∈ l, a ≤ n) → 2 ^ (15 - n) ∣ kr l
  | [], _ => ⟨0, rfl⟩
  | a :: l, h => by
    have h1 := h a List.mem_cons_self
    have h2 := kr_dvd n hn l fun b hb => h b (List.mem_cons_of_mem _ hb)
    rw [kr]
    refine Nat.dvd_add ?_ h2
    unfold wtN
    split
    · exact Nat.pow_dvd_pow 2 (by omega)
    · exact ⟨0, rfl⟩
theorem longest : ∀ l : List Nat, l ≠ [] → ∃ (k n : Nat), l[k]? = some n ∧ ∀ a ∈ l, a ≤ n
  | [], h => absurd rfl h
  | [a], _ => ⟨0, a, rfl, fun b hb => by simp at hb; omega⟩
  | a :: b :: l, _ => by
    obtain ⟨k, n, h1, h2⟩ := longest (b :: l) (by simp)
    by_cases h : a ≤ n
    · exact ⟨k + 1, n, by simpa using h1, fun c hc => by
        rcases List.mem_cons.1 hc with hc | hc
        · omega
        · exact h2 c hc⟩
    · exact ⟨0, a, rfl, fun c hc => by
        rcases List.mem_cons.1 hc with hc | hc
        · omega
        · have := h2 c hc; omega⟩
theorem wtN_half (n : Nat) (h1 : 1 ≤ n) (h : n ≤ 14) : wtN n = 2 * wtN (n + 1) := by
  unfold wtN
  rw [if_pos (by omega), if_pos (by omega), show 15 - n = (15 - (n + 1)) + 1 by omega, Nat.pow_succ, Nat.mul_comm]
theorem wtN_pos (n : Nat) (h1 : 1 ≤ n) (h : n ≤ 15) : wtN n = 2 ^ (15 - n) := by unfold wtN; rw [if_pos ⟨h1, h⟩]
theorem codedN_set (b : Nat) : ∀ (l : List Nat) (k a : Nat), l[k]? = some a → 0 < a → 0 < b → codedN (l.set k b) = codedN l
  | [], k, a, h, _, _ => by simp at h
  | c :: l, 0, a, h, h1, h2 => by
    simp only [List.getElem?_cons_zero, Option.some.injEq] at h
    subst h
    rw [List.set_cons_zero, codedN, codedN, if_pos h1, if_pos h2]
  | c :: l, k + 1, a, h, h1, h2 => by
    rw [List.set_cons_succ, codedN, codedN, codedN_set b l k a (by simpa using h) h1 h2]
/-- Two codes or more that leave room can be shortened until they leave none. -/
theorem tighten : ∀ (t : Nat) (l : List Nat), total l ≤ t → (∀ a ∈ l, a ≤ 15) → kr l ≤ 32768 → 2 ≤ codedN l →
    ∃ l2 : List Nat, l2.length = l.length ∧ (∀ (i a b : Nat), l2[i]? = some a → l[i]? = some b → (0 < a ↔ 0 < b) ∧ a ≤ b) ∧ kr l2 = 32768 := by
  intro t
  induction t with
  | zero =>
    intro l ht _ _ hc
    exfalso
    have : ∀ l : List Nat, total l ≤ 0 → codedN l = 0 := by
      intro l
      induction l with
      | nil => intro _; rfl
      | cons a l ih =>
        intro h
        rw [total] at h
        rw [codedN, ih (by omega), if_neg (by omega)]
    rw [this l ht] at hc; omega
  | succ t ih =>
    intro l ht hl hk hc
    by_cases hw : kr l = 32768
    · exact ⟨l, rfl, fun i a b ha hb => by rw [ha] at hb; injection hb with hb; subst hb; exact ⟨Iff.rfl, Nat.le_refl _⟩, hw⟩
    · have hne : l ≠ [] := by rintro rfl; simp [codedN] at hc
      obtain ⟨k, n, h1, h2⟩ := longest l hne
      have hn15 := hl n (List.mem_of_getElem? h1)
      have hn2 : 2 ≤ n := by
        by_cases h : n ≤ 1
        · have := kr_ones l fun a ha => by have := h2 a ha; omega
          omega
        · omega
      obtain ⟨m, rfl⟩ : ∃ m, n = m + 1 := ⟨n - 1, by omega⟩
      obtain ⟨q, hq⟩ := kr_dvd (m + 1) hn15 l h2
      have hp : 2 ^ (15 - (m + 1)) * 2 ^ (m + 1) = 32768 := by rw [← Nat.pow_add, show 15 - (m + 1) + (m + 1) = 15 by omega]
      have hroom : kr l + 2 ^ (15 - (m + 1)) ≤ 32768 := by
        rw [hq] at hk hw ⊢
        rw [← hp] at hk hw ⊢
        have hpp : 0 < 2 ^ (15 - (m + 1)) := Nat.two_pow_pos _
        have h5 : q ≤ 2 ^ (m + 1) := Nat.le_of_mul_le_mul_left hk hpp
        have h6 : q ≠ 2 ^ (m + 1) := fun e => hw (by rw [e])
        have h7 : q + 1 ≤ 2 ^ (m + 1) := by omega
        have h8 := Nat.mul_le_mul_left (2 ^ (15 - (m + 1))) h7
        rw [Nat.mul_add, Nat.mul_one] at h8
        exact h8
      have k1 := kr_set m l k (m + 1) h1
      have k2 := wtN_half m (by omega) (by omega)
      have k3 := wtN_pos (m + 1) (by omega) hn15
      have k4 := total_set m l k (m + 1) h1
      have k5 := codedN_set m l k (m + 1) h1 (by omega) (by omega)
      obtain ⟨l2, g1, g2, g3⟩ := ih (l.set k m) (by omega) (fun a ha => by
        rcases List.mem_or_eq_of_mem_set ha with h | h
        · exact hl a h
        · omega) (by omega) (by omega)
      have hkl := (List.getElem?_eq_some_iff.1 h1).1
      refine ⟨l2, by simpa using g1, fun i a b ha hb => ?_, g3⟩
      by_cases e : k = i
      · subst e
        have := g2 k a m ha (List.getElem?_set_self hkl)
        rw [h1] at hb; injection hb with hb
        omega
      · exact g2 i a b ha (by rw [List.getElem?_set_ne e]; exact hb)
/-- the lengths of the symbols that come -/
def onlyOf : List Nat → List Nat → List Nat
  | b :: f, a :: o => (if 0 < b then a else 0) :: onlyOf f o
  | _, _ => []
theorem onlyOf_length : ∀ (f o : List Nat), o.length = f.length → (onlyOf f o).length = f.length
  | [], [], _ => rfl
  | [], a :: o, h => by simp at h
  | b :: f, [], h => by simp at h
  | b :: f, a :: o, h => by simp only [onlyOf, List.length_cons]; rw [onlyOf_length f o (by simpa using h)]
theorem onlyOf_get : ∀ (f o : List Nat) (i a b : Nat), o[i]? = some a → f[i]? = some b → (onlyOf f o)[i]? = some (if 0 < b then a else 0)
  | [], _, i, a, b, _, h => by simp at h
  | b :: f, [], i, a, c, h, _ => by simp at h
  | b :: f, a :: o, 0, x, y, h, h2 => by
    simp only [List.getElem?_cons_zero, Option.some.injEq] at h h2
    subst h; subst h2; rfl
  | b :: f, a :: o, i + 1, x, y, h, h2 => by
    simp only [onlyOf, List.getElem?_cons_succ]
    exact onlyOf_get f o i x y (by simpa using h) (by simpa using h2)
theorem onlyOf_kr : ∀ (f o : List Nat), kr (onlyOf f o) ≤ kr o
  | [], o => by simp [onlyOf, kr]
  | b :: f, [] => by simp [onlyOf, kr]
  | b :: f, a :: o => by
    have := onlyOf_kr f o
    rw [onlyOf, kr, kr]
    split
    · omega
    · rw [wtN_zero]; omega
theorem onlyOf_cst : ∀ (f o : List Nat), cst (onlyOf f o) f = cst o f
  | [], o => by cases o <;> simp [onlyOf, cst]
  | b :: f, [] => by simp [onlyOf, cst]
  | b :: f, a :: o => by
    rw [onlyOf, cst, cst, onlyOf_cst f o]
    split
    · rfl
    · obtain rfl : b = 0 := by omega
      simp
theorem onlyOf_le (m : Nat) : ∀ (f o : List Nat), (∀ a ∈ o, a ≤ m) → ∀ a ∈ onlyOf f o, a ≤ m
  | [], o, _ => by simp [onlyOf]
  | b :: f, [], _ => by simp [onlyOf]
  | b :: f, a :: o, h => by
    intro x hx
    rw [onlyOf] at hx
    rcases List.mem_cons.1 hx with hx | hx
    · have := h a List.mem_cons_self
      rw [hx]; split <;> omega
    · exact onlyOf_le m f o (fun y hy => h y (List.mem_cons_of_mem _ hy)) x hx
theorem onlyOf_coded : ∀ (f o : List Nat), o.length = f.length → (∀ (i a b : Nat), o[i]? = some a → f[i]? = some b → 0 < b → 0 < a) → codedN (onlyOf f o) = codedN f
  | [], [], _, _ => rfl
  | [], a :: o, h, _ => by simp at h
  | b :: f, [], h, _ => by simp at h
  | b :: f, a :: o, h, h2 => by
    rw [onlyOf, codedN, codedN, onlyOf_coded f o (by simpa using h) fun i x y hx hy => h2 (i + 1) x y (by simpa using hx) (by simpa using hy)]
    have := h2 0 a b rfl rfl
    by_cases hb : 0 < b
    · rw [if_pos hb, if_pos hb, if_pos (this hb)]
    · rw [if_neg hb, if_neg hb, if_neg (by omega)]
/-- No other code for these symbols, and maybe for more, costs less. -/
theorem OptL.best {f l o : List Nat} {m : Nat} (h : OptL f m l) (hm : m ≤ 15) (ho : o.length = f.length) (hle : ∀ a ∈ o, a ≤ m) (hk : kr o ≤ 32768) (hs : ∀ (i a b : Nat), o[i]? = some a → f[i]? = some b → 0 < b → 0 < a) (hc : 2 ≤ codedN f) : cst l f ≤ cst o f := by
  obtain ⟨l2, g1, g2, g3⟩ := tighten (total (onlyOf f o)) (onlyOf f o) (Nat.le_refl _) (fun a ha => Nat.le_trans (onlyOf_le m f o hle a ha) hm) (Nat.le_trans (onlyOf_kr f o) hk) (by rw [onlyOf_coded f o ho hs]; exact hc)
  have hlen : l2.length = f.length := by rw [g1, onlyOf_length f o ho]
  have hat : ∀ (i a b : Nat), l2[i]? = some a → f[i]? = some b → (0 < a ↔ 0 < b) ∧ ∃ c, o[i]? = some c ∧ (0 < b → a ≤ c) := by
    intro i a b ha hb
    have hi := (List.getElem?_eq_some_iff.1 hb).1
    obtain ⟨c, hc⟩ := get_some (l := o) (i := i) (by omega)
    have h1 := g2 i a _ ha (onlyOf_get f o i c b hc hb)
    have h2 := hs i c b hc hb
    by_cases h0 : 0 < b
    · rw [if_pos h0] at h1
      exact ⟨⟨fun _ => h0, fun _ => h1.1.2 (h2 h0)⟩, c, hc, fun _ => h1.2⟩
    · rw [if_neg h0] at h1
      exact ⟨⟨fun hh => absurd (h1.1.1 hh) (by omega), fun hh => absurd hh h0⟩, c, hc, fun hh => absurd hh h0⟩
  have hfit : FitL f m l2 := ⟨hlen, fun i a b ha hb => (hat i a b ha hb).1, fun a ha => by
    obtain ⟨i, hi⟩ := List.mem_iff_getElem?.1 ha
    have hil := (List.getElem?_eq_some_iff.1 hi).1
    obtain ⟨b, hb⟩ := get_some (l := f) (i := i) (by omega)
    obtain ⟨h1, c, hc, h2⟩ := hat i a b hi hb
    by_cases h0 : 0 < b
    · exact Nat.le_trans (h2 h0) (hle c (List.mem_of_getElem? hc))
    · have : ¬ 0 < a := fun hh => h0 (h1.1 hh)
      omega, g3⟩
  have h1 := h.least l2 hfit
  have h2 := cst_mono l2 o f hlen ho fun i a b c ha hb hc h0 => by
    obtain ⟨_, d, hd, h3⟩ := hat i a c ha hc
    rw [hb] at hd; injection hd with hd; subst hd
    exact h3 h0
  omega

/-! ### equal frequencies -/
theorem tangent_all : ∀ k ∈ List.range 9, ∀ n ∈ List.range 16, 1 ≤ k → 1 ≤ n → 2 ^ (15 - k) * (k + 1) ≤ wtN n + 2 ^ (15 - k) * n ∧ (wtN n + 2 ^ (15 - k) * n = 2 ^ (15 - k) * (k + 1) → n = k ∨ n + 1 = k) := by decide
theorem tangent (k : Nat) (hk : k < 9) (n : Nat) (hn : n < 16) (h1 : 1 ≤ k) (h2 : 1 ≤ n) : 2 ^ (15 - k) * (k + 1) ≤ wtN n + 2 ^ (15 - k) * n ∧ (wtN n + 2 ^ (15 - k) * n = 2 ^ (15 - k) * (k + 1) → n = k ∨ n + 1 = k) :=
  tangent_all k (List.mem_range.2 hk) n (List.mem_range.2 hn) h1 h2
theorem flat_sum (k : Nat) (hk : 1 ≤ k) (hk8 : k ≤ 8) : ∀ l : List Nat, (∀ a ∈ l, 1 ≤ a ∧ a ≤ 15) → l.length * (2 ^ (15 - k) * (k + 1)) ≤ kr l + 2 ^ (15 - k) * total l ∧
    (kr l + 2 ^ (15 - k) * total l ≤ l.length * (2 ^ (15 - k) * (k + 1)) → ∀ a ∈ l, a ≤ k)
  | [], _ => by simp [kr, total]
  | a :: l, h => by
    have ha := h a List.mem_cons_self
    obtain ⟨h1, h2⟩ := flat_sum k hk hk8 l fun b hb => h b (List.mem_cons_of_mem _ hb)
    obtain ⟨t1, t2⟩ := tangent k (by omega) a (by omega) hk ha.1
    rw [kr, total, List.length_cons, Nat.add_mul, Nat.one_mul, Nat.mul_add (2 ^ (15 - k)) a (total l)]
    generalize 2 ^ (15 - k) * (k + 1) = P at *
    generalize 2 ^ (15 - k) * a = A at *
    generalize 2 ^ (15 - k) * total l = T at *
    generalize l.length * P = L at *
    refine ⟨by omega, fun hle b hb => ?_⟩
    rcases List.mem_cons.1 hb with hb | hb
    · have := t2 (by omega)
      omega
    · exact h2 (by omega) b hb
theorem total_top (k : Nat) : ∀ l : List Nat, (∀ a ∈ l, a ≤ k) → total l ≤ l.length * k ∧ (l.length * k ≤ total l → ∀ a ∈ l, a = k)
  | [], _ => by simp [total]
  | a :: l, h => by
    have ha := h a List.mem_cons_self
    obtain ⟨h1, h2⟩ := total_top k l fun b hb => h b (List.mem_cons_of_mem _ hb)
    rw [total, List.length_cons, Nat.add_mul, Nat.one_mul]
    refine ⟨by omega, fun hle b hb => ?_⟩
    rcases List.mem_cons.1 hb with hb | hb
    · omega
    · exact h2 (by omega) b hb
theorem cst_flat (c : Nat) : ∀ (l : List Nat) (n : Nat), l.length = n → cst l (List.replicate n c) = total l * c
  | [], n, h => by obtain rfl : n = 0 := h.symm
                   simp [cst, total]
  | a :: l, 0, h => by simp at h
  | a :: l, n + 1, h => by rw [List.replicate_succ, cst, total, cst_flat c l n (by simpa using h), Nat.add_mul]
theorem kr_flat (k : Nat) (hk : 1 ≤ k) (hk8 : k ≤ 15) : ∀ n : Nat, kr (List.replicate n k) = n * 2 ^ (15 - k)
  | 0 => by simp [kr]
  | n + 1 => by rw [List.replicate_succ, kr, kr_flat k hk hk8 n, wtN_pos k hk hk8, Nat.add_mul]; omega
theorem total_flat (k : Nat) : ∀ n : Nat, total (List.replicate n k) = n * k
  | 0 => by simp [total]
  | n + 1 => by rw [List.replicate_succ, total, total_flat k n, Nat.add_mul]; omega
theorem OptL.flat {k m c : Nat} {l : List Nat} (hk : 1 ≤ k) (hk8 : k ≤ 8) (hkm : k ≤ m) (hm : m ≤ 15) (hc : 0 < c) (h : OptL (List.replicate (2 ^ k) c) m l) : ∀ a ∈ l, a = k := by
  have hlen : l.length = 2 ^ k := by rw [h.good.len, List.length_replicate]
  have hp : 2 ^ k * 2 ^ (15 - k) = 32768 := by rw [← Nat.pow_add, show k + (15 - k) = 15 by omega]
  have hg : FitL (List.replicate (2 ^ k) c) m (List.replicate (2 ^ k) k) := by
    refine ⟨by simp, fun i a b ha hb => ?_, fun a ha => ?_, by rw [kr_flat k hk (by omega)]; exact hp⟩
    · have ha' := List.eq_of_mem_replicate (List.mem_of_getElem? ha)
      have hb' := List.eq_of_mem_replicate (List.mem_of_getElem? hb)
      omega
    · have := List.eq_of_mem_replicate ha
      omega
  have h1 := h.least _ hg
  rw [cst_flat c _ _ hlen, cst_flat c _ _ (by simp), total_flat] at h1
  have h2 := Nat.le_of_mul_le_mul_right h1 hc
  have hr : ∀ a ∈ l, 1 ≤ a ∧ a ≤ 15 := by
    intro a ha
    obtain ⟨i, hi⟩ := List.mem_iff_getElem?.1 ha
    have hil := (List.getElem?_eq_some_iff.1 hi).1
    have := (h.good.sup i a c hi (by rw [List.getElem?_replicate, if_pos (by omega)])).2 hc
    have := h.good.le a ha
    omega
  have hle : ∀ a ∈ l, a ≤ k := by
    refine (flat_sum k hk hk8 l hr).2 ?_
    rw [h.good.whole, hlen, ← hp]
    have e1 : 2 ^ k * (2 ^ (15 - k) * (k + 1)) = 2 ^ (15 - k) * (2 ^ k * k) + 2 ^ k * 2 ^ (15 - k) := by
      rw [Nat.mul_add, Nat.mul_one, Nat.mul_add]
      congr 1
      rw [← Nat.mul_assoc, ← Nat.mul_assoc, Nat.mul_comm (2 ^ k)]
    have e2 := Nat.mul_le_mul_left (2 ^ (15 - k)) h2
    omega
  have hlow := (flat_sum k hk hk8 l hr).1
  rw [h.good.whole, hlen, ← hp] at hlow
  have e1 : 2 ^ k * (2 ^ (15 - k) * (k + 1)) = 2 ^ (15 - k) * (2 ^ k * k) + 2 ^ k * 2 ^ (15 - k) := by
    rw [Nat.mul_add, Nat.mul_one, Nat.mul_add]
    congr 1
    rw [← Nat.mul_assoc, ← Nat.mul_assoc, Nat.mul_comm (2 ^ k)]
  have hge : 2 ^ k * k ≤ total l := Nat.le_of_mul_le_mul_left (by omega) (Nat.two_pow_pos (15 - k))
  exact (total_top k l hle).2 (by rw [hlen]; exact hge)
/-- What comes more often than all others together has one bit. -/
theorem OptL.four {o m : Nat} {l : List Nat} (hm : 3 ≤ m) (hm2 : m ≤ 15) (h : OptL [1, 2, o + 4, 1] m l) : l[2]? = some 1 := by
  have hlen := h.good.len
  match l, hlen with
  | [x0, x1, x2, x3], _ =>
    have p0 := (h.good.sup 0 x0 1 rfl rfl).2 (by omega)
    have p1 := (h.good.sup 1 x1 2 rfl rfl).2 (by omega)
    have p2 := (h.good.sup 2 x2 (o + 4) rfl rfl).2 (by omega)
    have p3 := (h.good.sup 3 x3 1 rfl rfl).2 (by omega)
    have hg : FitL [1, 2, o + 4, 1] m [3, 2, 1, 3] := by
      refine ⟨rfl, fun i a b ha hb => ?_, fun a ha => ?_, by decide⟩
      · match i, ha, hb with
        | 0, ha, hb => simp at ha hb; omega
        | 1, ha, hb => simp at ha hb; omega
        | 2, ha, hb => simp at ha hb; omega
        | 3, ha, hb => simp at ha hb; omega
        | i + 4, ha, hb => simp at ha
      · simp at ha; omega
    have h1 := h.least _ hg
    have hw := h.good.whole
    simp only [cst, kr] at h1 hw
    by_cases hx : x2 = 1
    · rw [hx]; rfl
    · exfalso
      obtain ⟨z, rfl⟩ : ∃ z, x2 = z + 2 := ⟨x2 - 2, by omega⟩
      have e1 : (z + 2) * (o + 4) = z * (o + 4) + 2 * (o + 4) := Nat.add_mul _ _ _
      have e2 : z * 4 ≤ z * (o + 4) := Nat.mul_le_mul_left _ (by omega)
      have hz : z = 0 := by omega
      subst hz
      have w2 : wtN (0 + 2) = 8192 := by decide
      have w1 : wtN 1 = 16384 := by decide
      have w3 : wtN 3 = 4096 := by decide
      have w2' : wtN 2 = 8192 := by decide
      have hcase : x1 = 1 ∨ x1 = 2 := by omega
      rcases hcase with rfl | rfl
      · have hc2 : (x0 = 1 ∧ x3 = 1) ∨ (x0 = 1 ∧ x3 = 2) ∨ (x0 = 1 ∧ x3 = 3) ∨ (x0 = 2 ∧ x3 = 1) ∨ (x0 = 2 ∧ x3 = 2) ∨ (x0 = 3 ∧ x3 = 1) := by omega
        rcases hc2 with ⟨rfl, rfl⟩ | ⟨rfl, rfl⟩ | ⟨rfl, rfl⟩ | ⟨rfl, rfl⟩ | ⟨rfl, rfl⟩ | ⟨rfl, rfl⟩ <;> omega
      · obtain ⟨rfl, rfl⟩ : x0 = 1 ∧ x3 = 1 := by omega
        omega
end Go.Proofs.YthibpnkdhbkakaaGreatDoor
/-
  What Lengths is to return, as a statement that the program's own text must show ('LengthsOK'); the laws' own example.
-/
namespace Go.Proofs.YthibpnkdhbkakaaGreatDoor
set_option maxRecDepth 5000
open Go.RowKit

/-- lengths as the document asks -/
structure LenOK (f : List Nat) (m : Nat) (l : List Nat) : Prop where
  len : l.length = f.length
  few : codedN f < 2 → ∀ (i a b : Nat), l[i]? = some a → f[i]? = some b → a = if 0 < b then 1 else 0
  best : 2 ≤ codedN f → OptL f m l
def LengthsOK : Prop := ∀ (v : Value) (n : Nat) (f : List Int) (most : Int) (w : World), Rd w 1 v n (ints f) → n < 1000 →
  Calls Tryz.prog 52 #[v, .int .i64 most] w fun e w' => ∃ (v' : Value) (l : List Nat), e = .returned (.tuple #[v', .int .i64 ((mayOf f most : Nat) : Int)]) ∧
    Own w' 3 1 v' l.length (nums .i64 l) ∧ (∀ k, v'.ownBlock = some k → w.heap.size ≤ k) ∧ Mod w w' (fun _ => False) ∧ (mayOf f most ≠ 0 → l = []) ∧ (mayOf f most = 0 → LenOK (f.map Int.toNat) most.toNat l)
theorem OptL.three {m : Nat} {l : List Nat} (hm : 2 ≤ m) (hm2 : m ≤ 15) (h : OptL [1, 1, 2] m l) : l = [2, 2, 1] := by
  have hlen := h.good.len
  match l, hlen with
  | [x0, x1, x2], _ =>
    have p0 := (h.good.sup 0 x0 1 rfl rfl).2 (by omega)
    have p1 := (h.good.sup 1 x1 1 rfl rfl).2 (by omega)
    have p2 := (h.good.sup 2 x2 2 rfl rfl).2 (by omega)
    have hg : FitL [1, 1, 2] m [2, 2, 1] := by
      refine ⟨rfl, fun i a b ha hb => ?_, fun a ha => ?_, by decide⟩
      · match i, ha, hb with
        | 0, ha, hb => simp at ha hb; omega
        | 1, ha, hb => simp at ha hb; omega
        | 2, ha, hb => simp at ha hb; omega
        | i + 3, ha, hb => simp at ha
      · simp at ha; omega
    have h1 := h.least _ hg
    have hw := h.good.whole
    simp only [cst, kr] at h1 hw
    have w1 : wtN 1 = 16384 := by decide
    have w2 : wtN 2 = 8192 := by decide
    have w3 : wtN 3 = 4096 := by decide
    have hcase : (x2 = 1 ∧ ((x0 = 1 ∧ x1 = 1) ∨ (x0 = 1 ∧ x1 = 2) ∨ (x0 = 1 ∧ x1 = 3) ∨ (x0 = 2 ∧ x1 = 1) ∨ (x0 = 2 ∧ x1 = 2) ∨ (x0 = 3 ∧ x1 = 1))) ∨ (x2 = 2 ∧ x0 = 1 ∧ x1 = 1) := by omega
    rcases hcase with ⟨rfl, ⟨rfl, rfl⟩ | ⟨rfl, rfl⟩ | ⟨rfl, rfl⟩ | ⟨rfl, rfl⟩ | ⟨rfl, rfl⟩ | ⟨rfl, rfl⟩⟩ | ⟨rfl, rfl, rfl⟩
    · omega
    · omega
    · omega
    · omega
    · rfl
    · omega
    · omega
theorem may_three : mayOf [1, 1, 2] 15 = 0 := by decide
section
variable {w0 w : World} {Rs : List Thing}
/-- beside what a call holds -/
theorem h_lengths (H : LengthsOK) (h : Held w0 w Rs) {v : Value} {n : Nat} {f : List Int} (most : Int) (hv : Rd w 1 v n (ints f)) (hn : n < 1000) :
    Calls Tryz.prog 52 #[v, .int .i64 most] w fun e w' => ∃ (ao : Option Addr) (cap N : Nat) (l : List Nat), e = .returned (.tuple #[.slice ao N cap, .int .i64 ((mayOf f most : Nat) : Int)]) ∧ Hid (N = l.length) ∧
      Held w0 w' (ownT 3 1 (.slice ao N cap) N (nums .i64 l) :: Rs) ∧ Hid ((mayOf f most ≠ 0 → l = []) ∧ (mayOf f most = 0 → LenOK (f.map Int.toNat) most.toNat l)) := by
  refine (H v n f most w hv hn).mono fun e w' ⟨v', l, he, ho, hf, hm, h1, h2⟩ => ?_
  obtain ⟨ao, cap, rfl, _, _⟩ := ho.form
  exact ⟨ao, cap, l.length, l, he, rfl, h.pushOwn ho hm hf, h1, h2⟩
end
end Go.Proofs.YthibpnkdhbkakaaGreatDoor
