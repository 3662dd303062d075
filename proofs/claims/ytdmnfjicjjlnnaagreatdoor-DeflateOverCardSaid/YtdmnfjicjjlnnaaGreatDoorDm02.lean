/-
  Slices of numbers that came in as arguments, as slices that are read.
-/
import Derived.Test.YtdmnfjicjjlnnaaGreatDoorDm01
import Derived.OpenShut
import Derived.Test.YtdmnfjicjjlnnaaGreatDoorProg
import Derived.StillTailTactics
namespace Go.Proofs.YtdmnfjicjjlnnaaGreatDoor
set_option maxRecDepth 5000
open Go.RowKit
def nums (k : IntKind) (l : List Nat) : List Value := l.map fun (b : Nat) => Value.int k (b : Int)
theorem nums_length (k : IntKind) (l : List Nat) : (nums k l).length = l.length := by simp [nums]
theorem nums_get (k : IntKind) (l : List Nat) (j : Nat) : (nums k l)[j]? = (l[j]?).map fun (b : Nat) => Value.int k (b : Int) := by simp [nums]
end Go.Proofs.YtdmnfjicjjlnnaaGreatDoor
/-
  Canonical codes from their lengths: the sum of their places, the first code of each length, where each code lies among the 2^15 longest ones. No program is named here.
-/
namespace Go.Proofs.YtdmnfjicjjlnnaaGreatDoor
set_option maxRecDepth 5000
def wtTo (n : Nat) (a : Int) : Nat := if 1 ≤ a ∧ a ≤ (n : Int) then 2 ^ (15 - a.toNat) else 0
def tot (l : List Int) : Nat → Nat
  | 0 => 0
  | n + 1 => tot l n + l.count ((n + 1 : Nat) : Int) * 2 ^ (14 - n)
def sumOf (l : List Int) : Nat := tot l 15
theorem wtTo_succ (n : Nat) (a : Int) : wtTo (n + 1) a = wtTo n a + (if a = ((n + 1 : Nat) : Int) then 2 ^ (14 - n) else 0) := by
  unfold wtTo
  by_cases h : a = ((n + 1 : Nat) : Int)
  · subst h
    rw [if_pos (by omega), if_neg (by omega), if_pos rfl]
    have : (((n + 1 : Nat) : Int)).toNat = n + 1 := by omega
    rw [this, Nat.zero_add]; congr 1; omega
  · rw [if_neg h]
    by_cases h1 : 1 ≤ a ∧ a ≤ (n : Int)
    · rw [if_pos h1, if_pos (by omega)]; rfl
    · rw [if_neg h1, if_neg (by omega)]
theorem tot_cons (a : Int) (l : List Int) : ∀ n : Nat, tot (a :: l) n = wtTo n a + tot l n
  | 0 => by simp [tot, wtTo]; omega
  | n + 1 => by
    rw [tot, tot_cons a l n, tot, wtTo_succ, List.count_cons]
    by_cases h : a = ((n + 1 : Nat) : Int)
    · subst h
      simp only [beq_self_eq_true, if_true, Nat.add_mul, Nat.one_mul]; omega
    · rw [if_neg h, if_neg (by simpa using h)]; simp only [Nat.add_zero]; omega
theorem tot_nil : ∀ n : Nat, tot [] n = 0
  | 0 => rfl
  | n + 1 => by rw [tot, tot_nil n]; simp
theorem tot_append (l m : List Int) (n : Nat) : tot (l ++ m) n = tot l n + tot m n := by
  induction l with
  | nil => simp [tot_nil]
  | cons a l ih => rw [List.cons_append, tot_cons, tot_cons, ih]; omega
theorem tot_mono (l : List Int) (n : Nat) : ∀ m : Nat, n ≤ m → tot l n ≤ tot l m
  | 0, h => by obtain rfl : n = 0 := by omega
               exact Nat.le_refl _
  | m + 1, h => by
    by_cases e : n = m + 1
    · subst e; exact Nat.le_refl _
    · exact Nat.le_trans (tot_mono l n m (by omega)) (Nat.le_add_right _ _)
theorem sum_cons (a : Int) (l : List Int) : sumOf (a :: l) = wtTo 15 a + sumOf l := tot_cons a l 15
theorem sum_snoc (l : List Int) (a : Int) : sumOf (l ++ [a]) = sumOf l + wtTo 15 a := by
  unfold sumOf; rw [tot_append, tot_cons, tot_nil, Nat.add_zero]
theorem sum_take_snoc (l : List Int) (i : Nat) (a : Int) (h : l[i]? = some a) : sumOf (l.take (i + 1)) = sumOf (l.take i) + wtTo 15 a := by
  rw [List.take_add_one, h]; exact sum_snoc _ _
theorem wt_le (a : Int) : wtTo 15 a ≤ 16384 := by
  unfold wtTo
  split
  · have h : 15 - a.toNat ≤ 14 := by omega
    exact Nat.pow_le_pow_right (n := 2) (by decide) h
  · omega
theorem sum_le (l : List Int) : sumOf l ≤ 16384 * l.length := by
  induction l with
  | nil => simp [sumOf, tot_nil]
  | cons a l ih => rw [sum_cons, List.length_cons]; have := wt_le a; omega
theorem tot_le (l : List Int) (n : Nat) (h : n ≤ 15) : tot l n ≤ 16384 * l.length := Nat.le_trans (tot_mono l n 15 h) (sum_le l)
/-! ### the first code of each length -/
def fstC (l : List Int) : Nat → Nat
  | 0 => 0
  | 1 => 0
  | n + 2 => 2 * (fstC l (n + 1) + l.count ((n + 1 : Nat) : Int))
theorem fst_tot (l : List Int) : ∀ n : Nat, n ≤ 14 → fstC l (n + 1) * 2 ^ (14 - n) = tot l n
  | 0, _ => by simp [fstC, tot]
  | n + 1, h => by
    have ih := fst_tot l n (by omega)
    rw [fstC, tot, ← ih]
    have e : 14 - n = (14 - (n + 1)) + 1 := by omega
    rw [e, Nat.pow_succ]
    generalize 2 ^ (14 - (n + 1)) = p
    generalize fstC l (n + 1) = x
    generalize List.count ((n + 1 : Nat) : Int) l = c
    rw [← Nat.add_mul, Nat.mul_comm p 2, ← Nat.mul_assoc, Nat.mul_comm 2]
theorem fst_le (l : List Int) (n : Nat) (h : n ≤ 15) : fstC l n ≤ 16384 * l.length := by
  match n with
  | 0 => simp [fstC]
  | n + 1 =>
    have h1 := fst_tot l n (by omega)
    have h2 := tot_le l n (by omega)
    have h3 : 1 ≤ 2 ^ (14 - n) := Nat.one_le_two_pow
    have h4 := Nat.le_mul_of_pos_right (fstC l (n + 1)) h3
    omega
/-! ### the code of each symbol -/
def isLen (a : Int) : Bool := decide (1 ≤ a ∧ a ≤ 15)
def codeAt (l : List Int) (i : Nat) : Nat := match l[i]? with
  | some a => if isLen a then fstC l a.toNat + (l.take i).count a else 0
  | none => 0
def codesOf (l : List Int) : List Nat := (List.range l.length).map (codeAt l)
theorem codesOf_get (l : List Int) (i : Nat) (h : i < l.length) : (codesOf l)[i]? = some (codeAt l i) := by simp [codesOf, h]
theorem codeAt_len (l : List Int) (i : Nat) (a : Int) (h : l[i]? = some a) (ha : isLen a = true) : codeAt l i = fstC l a.toNat + (l.take i).count a := by simp [codeAt, h, ha]
theorem codeAt_not (l : List Int) (i : Nat) (a : Int) (h : l[i]? = some a) (ha : isLen a = false) : codeAt l i = 0 := by simp [codeAt, h, ha]
theorem count_take_succ (l : List Int) (i : Nat) (a b : Int) (h : l[i]? = some a) : (l.take (i + 1)).count b = (l.take i).count b + (if a = b then 1 else 0) := by
  rw [List.take_add_one, h, List.count_append]
  simp [List.count_cons]
theorem count_take_mono (l : List Int) (i k : Nat) (h : i ≤ k) (b : Int) : (l.take i).count b ≤ (l.take k).count b :=
  (List.take_prefix_take_left h).sublist.count_le b
theorem count_take_le (l : List Int) (i : Nat) (b : Int) : (l.take i).count b ≤ l.count b := (List.take_prefix i l).sublist.count_le b
theorem codeAt_le (l : List Int) (i : Nat) : codeAt l i ≤ 16385 * l.length := by
  cases h : l[i]? with
  | none => simp [codeAt, h]
  | some a =>
    cases ha : isLen a with
    | false => rw [codeAt_not l i a h ha]; exact Nat.zero_le _
    | true =>
      rw [codeAt_len l i a h ha]
      have h1 : 1 ≤ a ∧ a ≤ 15 := by simpa [isLen] using ha
      have h2 := fst_le l a.toNat (by omega)
      have h3 := count_take_le l i a
      have h4 := List.count_le_length (a := a) (l := l)
      omega
/-! ### where a code lies -/
theorem place_eq (l : List Int) (i n : Nat) (h : l[i]? = some ((n + 1 : Nat) : Int)) (hn : n ≤ 14) : codeAt l i * 2 ^ (14 - n) = tot l n + (l.take i).count ((n + 1 : Nat) : Int) * 2 ^ (14 - n) := by
  rw [codeAt_len l i _ h (by simp [isLen]; omega), Int.toNat_natCast, Nat.add_mul, fst_tot l n hn]
theorem place_end (l : List Int) (i n : Nat) (h : l[i]? = some ((n + 1 : Nat) : Int)) (hn : n ≤ 14) : codeAt l i * 2 ^ (14 - n) + 2 ^ (14 - n) ≤ tot l (n + 1) := by
  rw [place_eq l i n h hn, tot]
  have h1 := count_take_succ l i _ ((n + 1 : Nat) : Int) h
  rw [if_pos rfl] at h1
  have h2 := count_take_le l (i + 1) ((n + 1 : Nat) : Int)
  rw [h1] at h2
  have h3 := Nat.mul_le_mul_right (2 ^ (14 - n)) h2
  rw [Nat.add_mul, Nat.one_mul] at h3
  omega
theorem place_ord (l : List Int) (i k n m : Nat) (h : l[i]? = some ((n + 1 : Nat) : Int)) (h2 : l[k]? = some ((m + 1 : Nat) : Int)) (hn : n ≤ 14) (hm : m ≤ 14) (ho : n < m ∨ n = m ∧ i < k) :
    codeAt l i * 2 ^ (14 - n) + 2 ^ (14 - n) ≤ codeAt l k * 2 ^ (14 - m) := by
  rcases ho with ho | ⟨rfl, ho⟩
  · have h3 := place_end l i n h hn
    have h4 := tot_mono l (n + 1) m ho
    have h5 := place_eq l k m h2 hm
    omega
  · rw [place_eq l i n h hn, place_eq l k n h2 hn]
    have h1 := count_take_succ l i _ ((n + 1 : Nat) : Int) h
    rw [if_pos rfl] at h1
    have h2 := count_take_mono l (i + 1) k (by omega) ((n + 1 : Nat) : Int)
    rw [h1] at h2
    have h3 := Nat.mul_le_mul_right (2 ^ (14 - n)) h2
    rw [Nat.add_mul, Nat.one_mul] at h3
    omega
theorem place_top (l : List Int) (i n : Nat) (h : l[i]? = some ((n + 1 : Nat) : Int)) (hn : n ≤ 14) : codeAt l i * 2 ^ (14 - n) + 2 ^ (14 - n) ≤ sumOf l :=
  Nat.le_trans (place_end l i n h hn) (tot_mono l (n + 1) 15 (by omega))
/-! ### Check -/
def allIn (l : List Int) (most : Int) : Bool := l.all fun a => decide (0 ≤ a ∧ a ≤ most)
def argBad (l : List Int) (most : Int) : Bool := decide (most < 1 ∨ 15 < most ∨ 288 < l.length) || !allIn l most
def checkOf (l : List Int) (most : Int) : Nat :=
  if argBad l most then 1 else if sumOf l = 0 ∨ sumOf l = 32768 ∨ sumOf l = 16384 ∧ l.count 1 = 1 then 0 else 3
def coded (l : List Int) : Nat := l.countP fun a => decide (0 < a)
theorem sum_bounds (l : List Int) (h : ∀ a ∈ l, 0 ≤ a ∧ a ≤ 15) : 16384 * l.count 1 + (coded l - l.count 1) ≤ sumOf l ∧ sumOf l ≤ 16384 * coded l ∧ l.count 1 ≤ coded l := by
  induction l with
  | nil => simp [coded, sumOf, tot_nil]
  | cons a l ih =>
    obtain ⟨h1, h2, h3⟩ := ih fun b hb => h b (List.mem_cons_of_mem _ hb)
    have ha := h a List.mem_cons_self
    have hw := wt_le a
    rw [sum_cons, coded, List.countP_cons, List.count_cons, ← coded]
    by_cases e : a = 1
    · subst e
      have : wtTo 15 1 = 16384 := by decide
      simp only [this, beq_self_eq_true, if_true, show decide ((0 : Int) < 1) = true from rfl]
      omega
    · by_cases e0 : a = 0
      · subst e0
        have : wtTo 15 0 = 0 := by decide
        simp [this]; omega
      · have hd : decide (0 < a) = true := by simp; omega
        have hw1 : 1 ≤ wtTo 15 a := by
          unfold wtTo
          rw [if_pos (by omega)]; exact Nat.one_le_two_pow
        rw [if_neg (by simpa using e), hd]
        simp only [if_true]
        omega
theorem allIn_iff (l : List Int) (most : Int) : allIn l most = true ↔ ∀ a ∈ l, 0 ≤ a ∧ a ≤ most := by simp [allIn]
theorem check_ref (l : List Int) (most : Int) (h : argBad l most = false) :
    (32768 < sumOf l ∨ sumOf l < 32768 ∧ ¬ (coded l = 0 ∨ coded l = 1 ∧ l.count 1 = 1)) ↔ ¬ (sumOf l = 0 ∨ sumOf l = 32768 ∨ sumOf l = 16384 ∧ l.count 1 = 1) := by
  have h' : most ≤ 15 ∧ allIn l most = true := by
    simp only [argBad, Bool.or_eq_false_iff, decide_eq_false_iff_not, Bool.not_eq_false'] at h
    exact ⟨by omega, h.2⟩
  have hb := sum_bounds l fun a ha => by
    have := (allIn_iff l most).1 h'.2 a ha
    omega
  omega
theorem check_ok {l : List Int} (h : checkOf l 15 = 0) : (∀ a ∈ l, 0 ≤ a ∧ a ≤ 15) ∧ l.length ≤ 288 ∧ (sumOf l = 0 ∨ sumOf l = 32768 ∨ sumOf l = 16384 ∧ l.count 1 = 1) := by
  unfold checkOf at h
  split at h
  · cases h
  · rename_i hb
    split at h
    · rename_i hs
      simp only [argBad, Bool.or_eq_true, decide_eq_true_eq, Bool.not_eq_true', not_or, Bool.not_eq_false] at hb
      exact ⟨(allIn_iff l 15).1 hb.2, by omega, hs⟩
    · cases h
end Go.Proofs.YtdmnfjicjjlnnaaGreatDoor
/-
  A code begins with no other one; any 15 bits begin with one. No program is named here.
-/
namespace Go.Proofs.YtdmnfjicjjlnnaaGreatDoor
set_option maxRecDepth 5000
def hit (l : List Int) (b i : Nat) : Bool := match l[i]? with
  | some a => isLen a && decide (b / 2 ^ (15 - a.toNat) = codeAt l i)
  | none => false
theorem code_fits (l : List Int) (i p : Nat) (h : l[i]? = some (p : Int)) (hp : 1 ≤ p) (hp2 : p ≤ 15) (hs : sumOf l ≤ 32768) : codeAt l i < 2 ^ p := by
  obtain ⟨m, rfl⟩ : ∃ m, p = m + 1 := ⟨p - 1, by omega⟩
  have h1 := place_top l i m h (by omega)
  have hw : 0 < 2 ^ (14 - m) := Nat.two_pow_pos _
  have h2 : 2 ^ (m + 1) * 2 ^ (14 - m) = 32768 := by rw [← Nat.pow_add, show m + 1 + (14 - m) = 15 by omega]
  refine Nat.lt_of_mul_lt_mul_right (a := 2 ^ (14 - m)) ?_
  omega
theorem not_begin (l : List Int) (i k p q : Nat) (h : l[i]? = some (p : Int)) (h2 : l[k]? = some (q : Int)) (hp : 1 ≤ p) (hq : q ≤ 15) (hpq : p ≤ q) (hne : k ≠ i) : codeAt l k / 2 ^ (q - p) ≠ codeAt l i := by
  obtain ⟨m, rfl⟩ : ∃ m, p = m + 1 := ⟨p - 1, by omega⟩
  obtain ⟨r, rfl⟩ : ∃ r, q = r + 1 := ⟨q - 1, by omega⟩
  have hw : 0 < 2 ^ (14 - r) := Nat.two_pow_pos _
  by_cases ho : m < r ∨ m = r ∧ i < k
  · have h3 := place_ord l i k m r h h2 (by omega) (by omega) ho
    rw [show 14 - m = (r + 1 - (m + 1)) + (14 - r) by omega, Nat.pow_add] at h3
    have h4 : codeAt l i * 2 ^ (r + 1 - (m + 1)) + 2 ^ (r + 1 - (m + 1)) ≤ codeAt l k := by
      refine Nat.le_of_mul_le_mul_right ?_ hw
      rw [Nat.add_mul, Nat.mul_assoc]; exact h3
    have h5 : codeAt l i + 1 ≤ codeAt l k / 2 ^ (r + 1 - (m + 1)) := by
      rw [Nat.le_div_iff_mul_le (Nat.two_pow_pos _), Nat.add_mul, Nat.one_mul]; exact h4
    omega
  · obtain ⟨rfl, h5⟩ : r = m ∧ k < i := by omega
    have h3 := place_ord l k i r r h2 h (by omega) (by omega) (.inr ⟨rfl, h5⟩)
    have h4 : codeAt l k < codeAt l i := Nat.lt_of_mul_lt_mul_right (a := 2 ^ (14 - r)) (by omega)
    rw [Nat.sub_self, Nat.pow_zero, Nat.div_one]; omega
end Go.Proofs.YtdmnfjicjjlnnaaGreatDoor
/-
  What symbol bits begin with, by a code with the highest bit first. No program is named here.
-/
namespace Go.Proofs.YtdmnfjicjjlnnaaGreatDoor
set_option maxRecDepth 5000
def hiN (l : List Nat) : Nat := l.foldl (fun v b => 2 * v + b) 0
def hiBits (n c : Nat) : List Nat := (List.range n).map fun k => c / 2 ^ (n - 1 - k) % 2
theorem hiN_snoc (l : List Nat) (b : Nat) : hiN (l ++ [b]) = 2 * hiN l + b := by simp [hiN]
theorem hiN_take (l : List Nat) (n b : Nat) (h : l[n]? = some b) : hiN (l.take (n + 1)) = 2 * hiN (l.take n) + b := by
  rw [List.take_add_one, h]; exact hiN_snoc _ _
theorem hiN_lt (l : List Nat) (hb : isBits l) : ∀ n, hiN (l.take n) < 2 ^ n
  | 0 => by simp [hiN]
  | n + 1 => by
    have ih := hiN_lt l hb n
    rw [Nat.pow_succ]
    cases h : l[n]? with
    | none =>
      have hl := List.getElem?_eq_none_iff.1 h
      rw [List.take_of_length_le (by omega)]
      rw [List.take_of_length_le hl] at ih
      omega
    | some b =>
      rw [hiN_take l n b h]
      have := hb b (List.mem_of_getElem? h)
      omega
theorem hiN_div (l : List Nat) (hb : isBits l) (n : Nat) : ∀ d, n + d ≤ l.length → hiN (l.take (n + d)) / 2 ^ d = hiN (l.take n)
  | 0, _ => by simp
  | d + 1, h => by
    have ih := hiN_div l hb n d (by omega)
    have hg : l[n + d]? = some l[n + d] := List.getElem?_eq_getElem _
    have hbb := hb _ (List.mem_of_getElem? hg)
    rw [← Nat.add_assoc, hiN_take l (n + d) _ hg, Nat.pow_succ, Nat.mul_comm (2 ^ d) 2, ← Nat.div_div_eq_div_mul, show (2 * hiN (l.take (n + d)) + l[n + d]) / 2 = hiN (l.take (n + d)) by omega]
    exact ih
theorem hiBits_length (n c : Nat) : (hiBits n c).length = n := by simp [hiBits]
theorem hiBits_isBits (n c : Nat) : isBits (hiBits n c) := by
  intro b hb
  obtain ⟨k, _, rfl⟩ := List.mem_map.1 hb
  have := Nat.mod_lt (c / 2 ^ (n - 1 - k)) (show 0 < 2 by decide)
  omega
theorem hiN_hiBits (n c : Nat) : ∀ k, k ≤ n → hiN ((hiBits n c).take k) = c / 2 ^ (n - k) % 2 ^ k
  | 0, _ => by simp [hiN, Nat.mod_one]
  | k + 1, h => by
    have hg : (hiBits n c)[k]? = some (c / 2 ^ (n - 1 - k) % 2) := by simp [hiBits, show k < n by omega]
    rw [hiN_take _ _ _ hg, hiN_hiBits n c k (by omega), show n - 1 - k = n - (k + 1) by omega, show n - k = (n - (k + 1)) + 1 by omega, Nat.pow_succ 2 (n - (k + 1)), ← Nat.div_div_eq_div_mul]
    generalize c / 2 ^ (n - (k + 1)) = x
    have h1 := Nat.mod_mul_right_div_self x 2 (2 ^ k)
    have h2 := Nat.mod_mul_right_mod x 2 (2 ^ k)
    have h3 := Nat.div_add_mod (x % (2 * 2 ^ k)) 2
    rw [Nat.pow_succ, Nat.mul_comm (2 ^ k) 2]
    omega
theorem hiN_code (n c : Nat) (hc : c < 2 ^ n) (rest : List Nat) : hiN ((hiBits n c ++ rest).take n) = c := by
  rw [List.take_append_of_le_length (by rw [hiBits_length]; omega), hiN_hiBits n c n (Nat.le_refl _), Nat.sub_self, Nat.pow_zero, Nat.div_one, Nat.mod_eq_of_lt hc]
def lng (l : List Int) : Nat := l.foldr (fun a m => max a.toNat m) 0
theorem lng_le (l : List Int) : ∀ a ∈ l, a.toNat ≤ lng l := by
  induction l with
  | nil => simp
  | cons b l ih =>
    intro a ha
    show a.toNat ≤ max b.toNat (lng l)
    rcases List.mem_cons.1 ha with rfl | ha
    · omega
    · have := ih a ha; omega
def Hit (l : List Int) (bs : List Nat) (i n : Nat) : Prop := l[i]? = some (n : Int) ∧ 1 ≤ n ∧ n ≤ bs.length ∧ hiN (bs.take n) = codeAt l i
theorem Hit.long {l : List Int} {bs : List Nat} {i n : Nat} (h : Hit l bs i n) : n ≤ lng l := by
  have := lng_le l _ (List.mem_of_getElem? h.1)
  simpa using this
theorem Hit.one {l : List Int} {bs : List Nat} (hb : isBits bs) (hl : ∀ a ∈ l, 0 ≤ a ∧ a ≤ 15) {i n j m : Nat} (h : Hit l bs i n) (h2 : Hit l bs j m) : i = j ∧ n = m := by
  have key : ∀ {i n j m : Nat}, Hit l bs i n → Hit l bs j m → n ≤ m → i = j := fun {i n j m} h h2 hnm => by
    by_cases e : j = i
    · exact e.symm
    · exfalso
      have hm := hl _ (List.mem_of_getElem? h2.1)
      have h3 := not_begin l i j n m h.1 h2.1 h.2.1 (by omega) hnm e
      apply h3
      rw [← h2.2.2.2, ← h.2.2.2]
      have := hiN_div bs hb n (m - n) (by have := h2.2.2.1; omega)
      rw [show n + (m - n) = m by omega] at this
      exact this
  have e : i = j := by
    rcases Nat.le_total n m with h3 | h3
    · exact key h h2 h3
    · exact (key h2 h h3).symm
  subst e
  have := h.1.symm.trans h2.1
  simp only [Option.some.injEq] at this
  exact ⟨rfl, by omega⟩
theorem Hit.written {l : List Int} (hs : sumOf l ≤ 32768) {i n : Nat} (h : l[i]? = some (n : Int)) (hn : 1 ≤ n) (hn2 : n ≤ 15) (rest : List Nat) : Hit l (hiBits n (codeAt l i) ++ rest) i n :=
  ⟨h, hn, by rw [List.length_append, hiBits_length]; omega, hiN_code n _ (code_fits l i n h hn hn2 hs) rest⟩
def ReadIs (l : List Int) (bs : List Nat) (k n e : Nat) : Prop :=
  (e = 0 ∧ Hit l bs k n) ∨ (k = 0 ∧ n = 0 ∧ (∀ i m, ¬ Hit l bs i m) ∧ e = if bs.length < lng l ∨ bs = [] then 5 else 3)
theorem ReadIs.one {l : List Int} {bs : List Nat} (hb : isBits bs) (hl : ∀ a ∈ l, 0 ≤ a ∧ a ≤ 15) {k n e k2 n2 e2 : Nat} (h : ReadIs l bs k n e) (h2 : ReadIs l bs k2 n2 e2) : k = k2 ∧ n = n2 ∧ e = e2 := by
  rcases h with ⟨rfl, h⟩ | ⟨rfl, rfl, h, rfl⟩ <;> rcases h2 with ⟨rfl, h2⟩ | ⟨rfl, rfl, h2, rfl⟩
  · obtain ⟨a, b⟩ := h.one hb hl h2
    exact ⟨a, b, rfl⟩
  · exact absurd h (h2 _ _)
  · exact absurd h2 (h _ _)
  · exact ⟨rfl, rfl, rfl⟩
end Go.Proofs.YtdmnfjicjjlnnaaGreatDoor
/-
  The codes of lengths and distances: first values, extra bits, and the code of a value. No program is named here.
-/
namespace Go.Proofs.YtdmnfjicjjlnnaaGreatDoor
set_option maxRecDepth 5000
def sb (g c : Nat) : Nat := if c < g then c else (g + c % g) * 2 ^ (c / g - 1)
def sx (g c : Nat) : Nat := if c < g then 0 else c / g - 1
def lB (k : Nat) : Nat := if k = 28 then 258 else 3 + sb 4 k
def lX (k : Nat) : Nat := if k = 28 then 0 else sx 4 k
def dB (k : Nat) : Nat := 1 + sb 2 k
def dX (k : Nat) : Nat := sx 2 k
def CodeIs (B : Nat → Nat) (m v c : Nat) : Prop := c < m ∧ B c ≤ v ∧ ∀ d, c < d → d < m → v < B d
theorem CodeIs.same {B : Nat → Nat} {m v c d : Nat} (h : CodeIs B m v c) (h' : CodeIs B m v d) : c = d := by
  obtain ⟨h1, h2, h3⟩ := h
  obtain ⟨g1, g2, g3⟩ := h'
  rcases Nat.lt_trichotomy c d with h | h | h
  · have := h3 d h g1; omega
  · exact h
  · have := g3 c h h1; omega
theorem lB_step : ∀ k, k < 27 → lB (k + 1) = lB k + 2 ^ lX k := by decide +kernel
theorem dB_step : ∀ k, k < 29 → dB (k + 1) = dB k + 2 ^ dX k := by decide +kernel
theorem lB_asc : ∀ k, k < 29 → ∀ j, j < k → lB j < lB k := by decide +kernel
theorem dB_asc : ∀ k, k < 30 → ∀ j, j < k → dB j < dB k := by decide +kernel
theorem lX_le : ∀ k, k < 29 → lX k ≤ 5 := by decide +kernel
theorem dX_le : ∀ k, k < 30 → dX k ≤ 13 := by decide +kernel
theorem lB_le : ∀ k, k < 29 → 3 ≤ lB k ∧ lB k ≤ 258 := by decide +kernel
theorem dB_le : ∀ k, k < 30 → 1 ≤ dB k ∧ dB k ≤ 24577 := by decide +kernel
theorem lB_fits : ∀ k, k < 28 → lB (k + 1) ≤ lB k + 2 ^ lX k := by decide +kernel
theorem dB_fits : ∀ k, k < 29 → dB (k + 1) ≤ dB k + 2 ^ dX k := by decide +kernel
theorem len_fits {v c : Nat} (h : CodeIs lB 29 v c) (hv : v ≤ 258) : v - lB c < 2 ^ lX c := by
  obtain ⟨h1, h2, h3⟩ := h
  by_cases hc : c = 28
  · subst hc
    have e : lB 28 = 258 := by decide
    have e2 : lX 28 = 0 := by decide
    rw [e] at h2 ⊢
    rw [e2]
    simp; omega
  · have := h3 (c + 1) (by omega) (by omega)
    have := lB_fits c (by omega)
    omega
theorem dist_fits {v c : Nat} (h : CodeIs dB 30 v c) (hv : v ≤ 32768) : v - dB c < 2 ^ dX c := by
  obtain ⟨h1, h2, h3⟩ := h
  by_cases hc : c = 29
  · subst hc
    have e : dB 29 = 24577 := by decide
    have e2 : dX 29 = 13 := by decide
    rw [e] at h2 ⊢
    rw [e2]
    omega
  · have := h3 (c + 1) (by omega) (by omega)
    have := dB_fits c (by omega)
    omega
end Go.Proofs.YtdmnfjicjjlnnaaGreatDoor
/-
  The program's codes of lengths and distances.
-/
namespace Go.Proofs.YtdmnfjicjjlnnaaGreatDoor
set_option maxRecDepth 5000
open Go.RowKit
theorem start_any (c g : Nat) (hc : c < 1000) (hg : 1 ≤ g) (hg2 : g ≤ 4) (he : c / g ≤ 15) (w : World) :
    Calls Tryz.prog 118 #[.int .i64 (c : Int), .int .i64 (g : Int)] w fun e w' => e = .returned (.tuple #[.int .i64 ((sb g c : Nat) : Int), .int .i64 ((sx g c : Nat) : Int)]) ∧ w = w' := by
  have hc0 : (0 : Int) ≤ (c : Int) := Int.natCast_nonneg _
  have hg0 : (0 : Int) ≤ (g : Int) := Int.natCast_nonneg _
  rcases Nat.lt_or_ge c g with h | h
  · have e1 : sb g c = c := if_pos h
    have e2 : sx g c = 0 := if_pos h
    rw [e1, e2]
    have hI : (c : Int) < (g : Int) := by omega
    go_enter Tryz.func118, Tryz.ntmps118
    go_wp2
    go_ret2
    exact ⟨rfl, rfl⟩
  · have hI : ¬ (c : Int) < (g : Int) := by omega
    obtain ⟨x, hx⟩ : ∃ x, x = c / g - 1 := ⟨_, rfl⟩
    obtain ⟨r, hr⟩ : ∃ r, r = c % g := ⟨_, rfl⟩
    have e1 : sb g c = (g + r) * 2 ^ x := by rw [hr, hx]; exact if_neg (by omega)
    have e2 : sx g c = x := by rw [hx]; exact if_neg (by omega)
    rw [e1, e2]
    have hrg : r < g := by rw [hr]; exact Nat.mod_lt _ (by omega)
    have hx14 : x ≤ 14 := by omega
    have h1 : 1 ≤ c / g := (Nat.le_div_iff_mul_le (by omega)).2 (by omega)
    have hq : (c : Int) / (g : Int) - 1 = (x : Int) := by rw [hx]; omega
    have hm : (c : Int) % (g : Int) = (r : Int) := by rw [hr]; rfl
    have hgz : ¬ (g : Int) = 0 := by omega
    have hx0 : (0 : Int) ≤ (x : Int) := Int.natCast_nonneg _
    have hr0 : (0 : Int) ≤ (r : Int) := Int.natCast_nonneg _
    obtain ⟨y, hy⟩ : ∃ y, y = (g + r) * 2 ^ x := ⟨_, rfl⟩
    rw [← hy]
    have hyI : ((g : Int) + (r : Int)) * 2 ^ x = (y : Int) := by rw [hy]; push_cast; rfl
    have hyb : y ≤ 8 * 2 ^ 14 := by rw [hy]; exact Nat.mul_le_mul (by omega) (Nat.pow_le_pow_right (by decide) hx14)
    have hw : wrap64 (((g : Int) + (r : Int)) * 2 ^ x) = (y : Int) := by rw [hyI]; unfold wrap64; omega
    clear hx hr e1 e2 hyI hy hyb
    go_enter Tryz.func118, Tryz.ntmps118
    go_wp2
    go_ret2
    exact ⟨rfl, rfl⟩
def lensOf (code : Int) : Value := if code < 257 ∨ 285 < code then .tuple #[.int .i64 0, .int .i64 0, .bool false] else .tuple #[.int .i64 ((lB (code - 257).toNat : Nat) : Int), .int .i64 ((lX (code - 257).toNat : Nat) : Int), .bool true]
def distsOf (code : Int) : Value := if code < 0 ∨ 30 ≤ code then .tuple #[.int .i64 0, .int .i64 0, .bool false] else .tuple #[.int .i64 ((dB code.toNat : Nat) : Int), .int .i64 ((dX code.toNat : Nat) : Int), .bool true]
theorem lens_at (k : Nat) (hk : k < 29) : lensOf ((257 + k : Nat) : Int) = .tuple #[.int .i64 ((lB k : Nat) : Int), .int .i64 ((lX k : Nat) : Int), .bool true] := by
  unfold lensOf
  rw [if_neg (by omega), show (((257 + k : Nat) : Int) - 257).toNat = k by omega]
theorem dists_at (k : Nat) (hk : k < 30) : distsOf (k : Int) = .tuple #[.int .i64 ((dB k : Nat) : Int), .int .i64 ((dX k : Nat) : Int), .bool true] := by
  unfold distsOf
  rw [if_neg (by omega), Int.toNat_natCast]
theorem lenBase_any (code : Int) (w : World) :
    Calls Tryz.prog 104 #[.int .i64 code] w fun e w' => e = .returned (lensOf code) ∧ w = w' := by
  rcases (by omega : code < 257 ∨ 285 < code ∨ code = 285 ∨ (257 ≤ code ∧ code < 285)) with h | h | rfl | ⟨h1, h2⟩
  · have e : lensOf code = .tuple #[.int .i64 0, .int .i64 0, .bool false] := if_pos (.inl h)
    rw [e]
    clear e
    go_enter Tryz.func104, Tryz.ntmps104
    go_wp2
    go_ret3
    exact ⟨rfl, rfl⟩
  · have e : lensOf code = .tuple #[.int .i64 0, .int .i64 0, .bool false] := if_pos (.inr h)
    rw [e]
    have h0 : ¬ code < 257 := by omega
    clear e
    go_enter Tryz.func104, Tryz.ntmps104
    go_wp2
    go_ret3
    exact ⟨rfl, rfl⟩
  · have e : lensOf 285 = .tuple #[.int .i64 258, .int .i64 0, .bool true] := by
      have := lens_at 28 (by decide)
      rw [show lB 28 = 258 by decide, show lX 28 = 0 by decide] at this
      exact this
    rw [e]
    clear e
    go_enter Tryz.func104, Tryz.ntmps104
    go_wp2
    go_ret3
    exact ⟨rfl, rfl⟩
  · obtain ⟨k, rfl⟩ : ∃ k : Nat, code = ((257 + k : Nat) : Int) := ⟨(code - 257).toNat, by omega⟩
    have hk : k < 28 := by omega
    rw [lens_at k (by omega)]
    have e1 : lB k = 3 + sb 4 k := if_neg (by omega)
    have e2 : lX k = sx 4 k := if_neg (by omega)
    rw [e1, e2]
    have hb : sb 4 k ≤ 1000 := by have := (lB_le k (by omega)).2; omega
    have hkI : ((257 + k : Nat) : Int) - 257 = (k : Int) := by omega
    have hc1 : ((257 + k : Nat) : Int) ≠ 285 := by omega
    have HS := hid (start_any k 4 (by omega) (by decide) (by decide) (by omega) w)
    generalize sb 4 k = y at *
    generalize sx 4 k = x at *
    generalize ((257 + k : Nat) : Int) = code at *
    have hc3 : (code == 285) = false := by simp; omega
    have hc4 : ¬ code < 257 := by omega
    have hc5 : ¬ 285 < code := by omega
    have hy0 : (0 : Int) ≤ (y : Int) := Int.natCast_nonneg _
    clear e1 e2 h1 h2
    go_enter Tryz.func104, Tryz.ntmps104
    go_wp2_with fail
    refine HS.out.mono ?_
    rintro e w1 ⟨rfl, rfl⟩
    go_wp2
    go_ret3
    exact ⟨by push_cast; rfl, rfl⟩
theorem distBase_any (code : Int) (w : World) :
    Calls Tryz.prog 105 #[.int .i64 code] w fun e w' => e = .returned (distsOf code) ∧ w = w' := by
  rcases (by omega : code < 0 ∨ 30 ≤ code ∨ (0 ≤ code ∧ code < 30)) with h | h | ⟨h1, h2⟩
  · have e : distsOf code = .tuple #[.int .i64 0, .int .i64 0, .bool false] := if_pos (.inl h)
    rw [e]
    clear e
    go_enter Tryz.func105, Tryz.ntmps105
    go_wp2
    go_ret3
    exact ⟨rfl, rfl⟩
  · have e : distsOf code = .tuple #[.int .i64 0, .int .i64 0, .bool false] := if_pos (.inr h)
    rw [e]
    have h0 : ¬ code < 0 := by omega
    clear e
    go_enter Tryz.func105, Tryz.ntmps105
    go_wp2
    go_ret3
    exact ⟨rfl, rfl⟩
  · obtain ⟨k, rfl⟩ := Int.eq_ofNat_of_zero_le h1
    have hk : k < 30 := by omega
    rw [dists_at k hk]
    have e1 : dB k = 1 + sb 2 k := rfl
    have e2 : dX k = sx 2 k := rfl
    rw [e1, e2]
    have hb : sb 2 k ≤ 30000 := by have := (dB_le k hk).2; omega
    have HS := hid (start_any k 2 (by omega) (by decide) (by decide) (by omega) w)
    generalize sb 2 k = y at *
    generalize sx 2 k = x at *
    have hc4 : ¬ (k : Int) < 0 := by omega
    have hc5 : ¬ 30 ≤ (k : Int) := by omega
    have hy0 : (0 : Int) ≤ (y : Int) := Int.natCast_nonneg _
    clear e1 e2 h1 h2
    go_enter Tryz.func105, Tryz.ntmps105
    go_wp2_with fail
    refine HS.out.mono ?_
    rintro e w1 ⟨rfl, rfl⟩
    go_wp2
    go_ret3
    exact ⟨by push_cast; rfl, rfl⟩
theorem isLength_any (n : Int) (w : World) :
    Calls Tryz.prog 94 #[.int .i64 n] w fun e w' => e = .returned (.bool (decide (3 ≤ n ∧ n ≤ 258))) ∧ w = w' := by
  rcases (by omega : n < 3 ∨ (3 ≤ n ∧ 258 < n) ∨ (3 ≤ n ∧ n ≤ 258)) with h | ⟨h, h2⟩ | ⟨h, h2⟩
  · have e : decide (3 ≤ n ∧ n ≤ 258) = false := decide_eq_false (by omega)
    rw [e]
    have h0 : ¬ 3 ≤ n := by omega
    clear e
    go_enter Tryz.func94, Tryz.ntmps94
    go_wp2
    go_ret
    exact ⟨rfl, rfl⟩
  · have e : decide (3 ≤ n ∧ n ≤ 258) = false := decide_eq_false (by omega)
    rw [e]
    have h0 : decide (n ≤ 258) = false := decide_eq_false (by omega)
    clear e
    go_enter Tryz.func94, Tryz.ntmps94
    go_wp2
    go_ret
    exact ⟨rfl, rfl⟩
  · have e : decide (3 ≤ n ∧ n ≤ 258) = true := decide_eq_true (by omega)
    rw [e]
    have h0 : decide (n ≤ 258) = true := decide_eq_true (by omega)
    clear e
    go_enter Tryz.func94, Tryz.ntmps94
    go_wp2
    go_ret
    exact ⟨rfl, rfl⟩
theorem isDistance_any (n : Int) (w : World) :
    Calls Tryz.prog 95 #[.int .i64 n] w fun e w' => e = .returned (.bool (decide (1 ≤ n ∧ n ≤ 32768))) ∧ w = w' := by
  rcases (by omega : n < 1 ∨ (1 ≤ n ∧ 32768 < n) ∨ (1 ≤ n ∧ n ≤ 32768)) with h | ⟨h, h2⟩ | ⟨h, h2⟩
  · have e : decide (1 ≤ n ∧ n ≤ 32768) = false := decide_eq_false (by omega)
    rw [e]
    have h0 : ¬ 1 ≤ n := by omega
    clear e
    go_enter Tryz.func95, Tryz.ntmps95
    go_wp2
    go_ret
    exact ⟨rfl, rfl⟩
  · have e : decide (1 ≤ n ∧ n ≤ 32768) = false := decide_eq_false (by omega)
    rw [e]
    have h0 : decide (n ≤ 32768) = false := decide_eq_false (by omega)
    clear e
    go_enter Tryz.func95, Tryz.ntmps95
    go_wp2
    go_ret
    exact ⟨rfl, rfl⟩
  · have e : decide (1 ≤ n ∧ n ≤ 32768) = true := decide_eq_true (by omega)
    rw [e]
    have h0 : decide (n ≤ 32768) = true := decide_eq_true (by omega)
    clear e
    go_enter Tryz.func95, Tryz.ntmps95
    go_wp2
    go_ret
    exact ⟨rfl, rfl⟩
theorem find_any (F : FuncId) (B X : Nat → Nat) (lo m v : Nat) (hm1 : 1 ≤ m) (hm : m ≤ 1000) (hlo : lo ≤ 1000) (hv : v ≤ 100000) (hB0 : B 0 ≤ v) (hasc : ∀ k, k < m → ∀ j, j < k → B j < B k) (hBb : ∀ k, k < m → B k ≤ 100000)
    (hcf : ∀ args w, (callFunc F args).run Tryz.prog w = .ok (.enter F args) w) (hF : ∀ k, k < m → ∀ w, Calls Tryz.prog F #[.int .i64 ((lo + k : Nat) : Int)] w fun e w' => e = .returned (.tuple #[.int .i64 ((B k : Nat) : Int), .int .i64 ((X k : Nat) : Int), .bool true]) ∧ w = w') (w : World) :
    Calls Tryz.prog 103 #[.int .i64 (v : Int), .int .i64 (lo : Int), .int .i64 ((lo + m : Nat) : Int), .func (.func F) #[] #[]] w fun e w' => ∃ c q x z : Nat, CodeIs B m v c ∧ q = lo + c ∧ x = X c ∧ z = v - B c ∧ e = .returned (.tuple #[.int .i64 (q : Int), .int .i64 (x : Int), .int .i64 (z : Int)]) ∧ w = w' := by
  have HF := hid hF
  have HA := hid (And.intro hasc hBb)
  clear hF hasc hBb
  go_enter Tryz.func103, Tryz.ntmps103
  go_wp2
  go_loopg [1, 2] (m + 2) (fun k t1 t2 wr => ∃ a b : Nat, a < b ∧ b ≤ m ∧ b - a < k ∧ t1 = .int .i64 ((lo + a : Nat) : Int) ∧ t2 = .int .i64 ((lo + b : Nat) : Int) ∧ Hid (B a ≤ v ∧ ∀ d, b ≤ d → d < m → v < B d) ∧ wr = w)
  case atStart => exact ⟨0, m, by omega, by omega, by omega, rfl, rfl, hid ⟨hB0, fun d h1 h2 => by omega⟩, rfl⟩
  case round =>
    obtain ⟨a, b, hab, hbm, hk, rfl, rfl, HI, rfl⟩ := hrel
    have hla : (0 : Int) ≤ ((lo + a : Nat) : Int) := Int.natCast_nonneg _
    have hlb : (0 : Int) ≤ ((lo + b : Nat) : Int) := Int.natCast_nonneg _
    by_cases hd : b - a = 1
    · have hI : ¬ (1 : Int) < ((lo + b : Nat) : Int) - ((lo + a : Nat) : Int) := by omega
      have HC := hid (HF.out a (by omega) wr)
      have hba := HA.out.2 a (by omega)
      have HS : Hid (CodeIs B m v a) := hid ⟨by omega, HI.out.1, fun d h1 h2 => HI.out.2 d (by omega) h2⟩
      have hle := HI.out.1
      obtain ⟨y, hy⟩ : ∃ y, y = B a := ⟨_, rfl⟩
      have HY := hid hy
      rw [← hy] at hle hba HC
      have hyI : (v : Int) - (y : Int) = ((v - y : Nat) : Int) := by omega
      have hv0 : (0 : Int) ≤ (v : Int) := Int.natCast_nonneg _
      have hy0 : (0 : Int) ≤ (y : Int) := Int.natCast_nonneg _
      have hAL : ((lo + a : Nat) : Int) ≤ 3000 := by omega
      have hBL : ((lo + b : Nat) : Int) ≤ 3000 := by omega
      obtain ⟨la, hA2⟩ : ∃ z : Int, z = ((lo + a : Nat) : Int) := ⟨_, rfl⟩
      have HLA := hid hA2
      rw [← hA2] at hI HC hla hAL ⊢
      generalize ((lo + b : Nat) : Int) = lb at *
      clear hy hA2
      go_wp2_with fail
      refine HC.out.mono ?_
      rintro e w1 ⟨rfl, rfl⟩
      go_wp2
      go_ret3
      exact ⟨a, lo + a, X a, v - B a, HS.out, rfl, rfl, rfl, by rw [← HY.out, ← HLA.out]; rfl, rfl⟩
    · obtain ⟨c, hc⟩ : ∃ c, c = (a + b) / 2 := ⟨_, rfl⟩
      have hc1 : a < c := by omega
      have hc2 : c < b := by omega
      have hI : (1 : Int) < ((lo + b : Nat) : Int) - ((lo + a : Nat) : Int) := by omega
      have hmid : (((lo + a : Nat) : Int) + ((lo + b : Nat) : Int)) / 2 = ((lo + c : Nat) : Int) := by omega
      have HC := hid (HF.out c (by omega) wr)
      have hbc := HA.out.2 c (by omega)
      have HASC := hid (HA.out.1)
      obtain ⟨y, hy⟩ : ∃ y, y = B c := ⟨_, rfl⟩
      have HY := hid hy
      rw [← hy] at hbc HC
      have hAL : ((lo + a : Nat) : Int) ≤ 3000 := by omega
      have hBL : ((lo + b : Nat) : Int) ≤ 3000 := by omega
      have hCL : ((lo + c : Nat) : Int) ≤ 3000 := by omega
      have hlc : (0 : Int) ≤ ((lo + c : Nat) : Int) := Int.natCast_nonneg _
      obtain ⟨la, hA2⟩ : ∃ z : Int, z = ((lo + a : Nat) : Int) := ⟨_, rfl⟩
      obtain ⟨lb, hB2⟩ : ∃ z : Int, z = ((lo + b : Nat) : Int) := ⟨_, rfl⟩
      obtain ⟨lc, hC2⟩ : ∃ z : Int, z = ((lo + c : Nat) : Int) := ⟨_, rfl⟩
      have HLA := hid hA2
      have HLB := hid hB2
      have HLC := hid hC2
      rw [← hA2] at hI hmid hla hAL ⊢
      rw [← hB2] at hI hmid hlb hBL ⊢
      rw [← hC2] at hmid hlc hCL HC
      clear hy hc hA2 hB2 hC2
      by_cases hyv : y ≤ v
      · have hyI : (y : Int) ≤ (v : Int) := by omega
        go_wp2_with fail
        refine HC.out.mono ?_
        rintro e w1 ⟨rfl, rfl⟩
        go_wp2
        go_roundg (gk - 1)
        case measure => omega
        case rel => exact ⟨c, b, hc2, hbm, by omega, by rw [← HLC.out], by rw [← HLB.out], hid ⟨by rw [← HY.out]; exact hyv, HI.out.2⟩, rfl⟩
      · have hyI : ¬ (y : Int) ≤ (v : Int) := by omega
        go_wp2_with fail
        refine HC.out.mono ?_
        rintro e w1 ⟨rfl, rfl⟩
        go_wp2
        go_roundg (gk - 1)
        case measure => omega
        case rel =>
          refine ⟨a, c, hc1, by omega, by omega, by rw [← HLA.out], by rw [← HLC.out], hid ⟨HI.out.1, fun d h1 h2 => ?_⟩, rfl⟩
          rcases Nat.eq_or_lt_of_le h1 with rfl | h3
          · rw [← HY.out]; omega
          · have := HASC.out d h2 c h3
            rw [← HY.out] at this; omega
def IsLenCode (n : Int) (v : Value) : Prop := ((n < 3 ∨ 258 < n) ∧ v = .tuple #[.int .i64 0, .int .i64 0, .int .i64 0]) ∨ ∃ k c q x z : Nat, n = (k : Int) ∧ 3 ≤ k ∧ k ≤ 258 ∧ CodeIs lB 29 k c ∧ q = 257 + c ∧ x = lX c ∧ z = k - lB c ∧ v = .tuple #[.int .i64 (q : Int), .int .i64 (x : Int), .int .i64 (z : Int)]
def IsDistCode (n : Int) (v : Value) : Prop := ((n < 1 ∨ 32768 < n) ∧ v = .tuple #[.int .i64 0, .int .i64 0, .int .i64 0]) ∨ ∃ k c q x z : Nat, n = (k : Int) ∧ 1 ≤ k ∧ k ≤ 32768 ∧ CodeIs dB 30 k c ∧ q = 0 + c ∧ x = dX c ∧ z = k - dB c ∧ v = .tuple #[.int .i64 (q : Int), .int .i64 (x : Int), .int .i64 (z : Int)]
theorem lenCode_any (n : Int) (w : World) :
    Calls Tryz.prog 77 #[.int .i64 n] w fun e w' => (∃ v, e = .returned v ∧ IsLenCode n v) ∧ w = w' := by
  have HL := hid (isLength_any n w)
  rcases (by omega : (n < 3 ∨ 258 < n) ∨ (3 ≤ n ∧ n ≤ 258)) with h | ⟨h, h2⟩
  · have e : decide (3 ≤ n ∧ n ≤ 258) = false := decide_eq_false (by omega)
    rw [e] at HL
    have HS : Hid (IsLenCode n (.tuple #[.int .i64 0, .int .i64 0, .int .i64 0])) := hid (.inl ⟨h, rfl⟩)
    clear e h
    go_enter Tryz.func77, Tryz.ntmps77
    go_wp2_with fail
    refine HL.out.mono ?_
    rintro e w1 ⟨rfl, rfl⟩
    go_wp2
    go_ret3
    exact ⟨⟨_, rfl, HS.out⟩, rfl⟩
  · have e : decide (3 ≤ n ∧ n ≤ 258) = true := decide_eq_true (by omega)
    rw [e] at HL
    obtain ⟨k, rfl⟩ := Int.eq_ofNat_of_zero_le (show 0 ≤ n by omega)
    have HF := hid (find_any 104 lB lX 257 29 k (by decide) (by decide) (by decide) (by omega) (by have : lB 0 = 3 := (by decide); omega) lB_asc (fun j hj => by have := lB_le j hj; omega) (fun _ _ => rfl)
      (fun j hj w => by
        have h1 := lenBase_any ((257 + j : Nat) : Int) w
        rw [lens_at j hj] at h1
        exact h1) w)
    have HK := hid (And.intro (show 3 ≤ k by omega) (show k ≤ 258 by omega))
    clear e h h2
    go_enter Tryz.func77, Tryz.ntmps77
    go_wp2_with fail
    refine HL.out.mono ?_
    rintro e w1 ⟨rfl, rfl⟩
    go_wp2_with fail
    refine HF.out.mono ?_
    rintro e w1 ⟨c, q, x, z, hc, hq, hx, hz, rfl, rfl⟩
    have HC := hid hc
    have HQ := hid hq
    have HX := hid hx
    have HZ := hid hz
    clear hc hq hx hz
    go_wp2
    go_ret3
    exact ⟨⟨_, rfl, .inr ⟨k, c, q, x, z, rfl, HK.out.1, HK.out.2, HC.out, HQ.out, HX.out, HZ.out, rfl⟩⟩, rfl⟩
theorem distCode_any (n : Int) (w : World) :
    Calls Tryz.prog 78 #[.int .i64 n] w fun e w' => (∃ v, e = .returned v ∧ IsDistCode n v) ∧ w = w' := by
  have HL := hid (isDistance_any n w)
  rcases (by omega : (n < 1 ∨ 32768 < n) ∨ (1 ≤ n ∧ n ≤ 32768)) with h | ⟨h, h2⟩
  · have e : decide (1 ≤ n ∧ n ≤ 32768) = false := decide_eq_false (by omega)
    rw [e] at HL
    have HS : Hid (IsDistCode n (.tuple #[.int .i64 0, .int .i64 0, .int .i64 0])) := hid (.inl ⟨h, rfl⟩)
    clear e h
    go_enter Tryz.func78, Tryz.ntmps78
    go_wp2_with fail
    refine HL.out.mono ?_
    rintro e w1 ⟨rfl, rfl⟩
    go_wp2
    go_ret3
    exact ⟨⟨_, rfl, HS.out⟩, rfl⟩
  · have e : decide (1 ≤ n ∧ n ≤ 32768) = true := decide_eq_true (by omega)
    rw [e] at HL
    obtain ⟨k, rfl⟩ := Int.eq_ofNat_of_zero_le (show 0 ≤ n by omega)
    have HF := hid (find_any 105 dB dX 0 30 k (by decide) (by decide) (by decide) (by omega) (by have : dB 0 = 1 := (by decide); omega) dB_asc (fun j hj => by have := dB_le j hj; omega) (fun _ _ => rfl)
      (fun j hj w => by
        have h1 := distBase_any (j : Int) w
        rw [dists_at j hj] at h1
        rw [Nat.zero_add]
        exact h1) w)
    have HK := hid (And.intro (show 1 ≤ k by omega) (show k ≤ 32768 by omega))
    clear e h h2
    go_enter Tryz.func78, Tryz.ntmps78
    go_wp2_with fail
    refine HL.out.mono ?_
    rintro e w1 ⟨rfl, rfl⟩
    go_wp2_with fail
    refine HF.out.mono ?_
    rintro e w1 ⟨c, q, x, z, hc, hq, hx, hz, rfl, rfl⟩
    have HC := hid hc
    have HQ := hid hq
    have HX := hid hx
    have HZ := hid hz
    clear hc hq hx hz
    go_wp2
    go_ret3
    exact ⟨⟨_, rfl, .inr ⟨k, c, q, x, z, rfl, HK.out.1, HK.out.2, HC.out, HQ.out, HX.out, HZ.out, rfl⟩⟩, rfl⟩
end Go.Proofs.YtdmnfjicjjlnnaaGreatDoor
/-
  Several things that a call has made, held side by side: each lies in blocks of its own, all of them newer than the call's beginning. A step turns one of them and leaves the others as they are. No program is named here.
-/
namespace Go.Proofs.YtdmnfjicjjlnnaaGreatDoor
set_option maxRecDepth 5000
open Go.RowKit
def Res := World → (Nat → Prop) → Prop
def Res.Local (R : Res) : Prop := ∀ w w' F S, R w F → Mod w w' S → (∀ k, F k → ¬ S k) → R w' F
structure Thing where
  res : Res
  loc : res.Local
def HeldU (w0 w : World) : (Nat → Prop) → List Thing → Prop
  | _, [] => Mod w0 w (fun _ => False)
  | U, R :: Rs => ∃ F : Nat → Prop, R.res w F ∧ (∀ k, F k → w0.heap.size ≤ k ∧ k < w.heap.size ∧ ¬ U k) ∧ HeldU w0 w (fun k => U k ∨ F k) Rs
def Held (w0 w : World) (Rs : List Thing) : Prop := HeldU w0 w (fun _ => False) Rs
theorem HeldU.mod {w0 w : World} : ∀ {Rs : List Thing} {U : Nat → Prop}, HeldU w0 w U Rs → Mod w0 w (fun _ => False)
  | [], _, h => h
  | _ :: _, _, ⟨_, _, _, h⟩ => HeldU.mod h
theorem HeldU.less {w0 w : World} : ∀ {Rs : List Thing} {U V : Nat → Prop}, HeldU w0 w U Rs → (∀ k, V k → U k) → HeldU w0 w V Rs
  | [], _, _, h, _ => h
  | _ :: _, _, _, ⟨F, h1, h2, h3⟩, hv => ⟨F, h1, fun k hk => ⟨(h2 k hk).1, (h2 k hk).2.1, fun hV => (h2 k hk).2.2 (hv k hV)⟩, h3.less fun k hk => hk.imp (hv k) id⟩
theorem HeldU.more {w0 w : World} : ∀ {Rs : List Thing} {U V : Nat → Prop}, HeldU w0 w U Rs → (∀ k, V k → U k ∨ w.heap.size ≤ k) → HeldU w0 w V Rs
  | [], _, _, h, _ => h
  | _ :: _, U, V, ⟨F, h1, h2, h3⟩, hv => ⟨F, h1, fun k hk => ⟨(h2 k hk).1, (h2 k hk).2.1, fun hV => (hv k hV).elim (h2 k hk).2.2 (fun h => by have := (h2 k hk).2.1; omega)⟩,
      h3.more fun k hk => hk.elim (fun h => (hv k h).imp .inl id) (fun h => .inl (.inr h))⟩
theorem HeldU.step {w0 w w' : World} {S : Nat → Prop} (hm : Mod w w' S) : ∀ {Rs : List Thing} {U : Nat → Prop}, HeldU w0 w U Rs → (∀ k, S k → k < w.heap.size → w0.heap.size ≤ k) → (∀ k, S k → k < w.heap.size → U k) → HeldU w0 w' U Rs
  | [], _, h, h0, _ => by
    have hM : Mod w0 w (fun _ => False) := h
    exact hM.trans hm (fun k hk hs => absurd (h0 k hs (Nat.lt_of_lt_of_le hk hM.size)) (by omega))
  | R :: _, _, ⟨F, h1, h2, h3⟩, h0, hu =>
    ⟨F, R.loc w w' F S h1 hm (fun k hk hs => (h2 k hk).2.2 (hu k hs (h2 k hk).2.1)), fun k hk => ⟨(h2 k hk).1, Nat.lt_of_lt_of_le (h2 k hk).2.1 hm.size, (h2 k hk).2.2⟩,
      h3.step hm h0 fun k hs hk => .inl (hu k hs hk)⟩
theorem Held.mod {w0 w : World} {Rs : List Thing} (h : Held w0 w Rs) : Mod w0 w (fun _ => False) := HeldU.mod h
theorem Held.below {w0 w : World} {Rs : List Thing} (h : Held w0 w Rs) : Below w0.heap.size w0 w := h.mod.toBelow
theorem Held.start (w : World) : Held w w [] := Mod.refl w _
theorem Held.take {w0 w : World} {R : Thing} {Rs : List Thing} (h : Held w0 w (R :: Rs)) :
    ∃ F : Nat → Prop, R.res w F ∧ (∀ k, F k → w0.heap.size ≤ k ∧ k < w.heap.size) ∧
      ∀ (w' : World) (R' : Thing) (F' : Nat → Prop), R'.res w' F' → Mod w w' F → (∀ k, F' k → F k ∨ w.heap.size ≤ k) → (∀ k, F' k → k < w'.heap.size) → Held w0 w' (R' :: Rs) := by
  obtain ⟨F, h1, h2, h3⟩ := h
  refine ⟨F, h1, fun k hk => ⟨(h2 k hk).1, (h2 k hk).2.1⟩, fun w' R' F' hR hm hF hlt => ⟨F', hR, fun k hk => ⟨?_, hlt k hk, fun h => h⟩, ?_⟩⟩
  · rcases hF k hk with hf | hf
    · exact (h2 k hf).1
    · exact Nat.le_trans (HeldU.mod h3).size hf
  · have h4 := (h3.more (V := fun k => (False ∨ F k) ∨ F' k) fun k hk => by
      rcases hk with hk | hk
      · exact .inl hk
      · rcases hF k hk with hf | hf
        · exact .inl (.inr hf)
        · exact .inr hf).step hm (fun k hk _ => (h2 k hk).1) (fun k hk _ => .inl (.inr hk))
    exact h4.less fun k hk => by
      rcases hk with hk | hk
      · exact hk.elim
      · exact .inr hk
theorem Held.push {w0 w w' : World} {Rs : List Thing} (h : Held w0 w Rs) (R : Thing) (F : Nat → Prop) (hR : R.res w' F) (hm : Mod w w' (fun _ => False)) (hF : ∀ k, F k → w.heap.size ≤ k ∧ k < w'.heap.size) : Held w0 w' (R :: Rs) := by
  refine ⟨F, hR, fun k hk => ⟨Nat.le_trans (HeldU.mod h).size (hF k hk).1, (hF k hk).2, fun h => h⟩, ?_⟩
  exact ((HeldU.more h (V := fun k => False ∨ F k) fun k hk => by
    rcases hk with hk | hk
    · exact hk.elim
    · exact .inr (hF k hk).1)).step hm (fun _ h => h.elim) (fun _ h => h.elim)
theorem Held.same {w0 w w' : World} {Rs : List Thing} (h : Held w0 w Rs) (hm : Mod w w' (fun _ => False)) : Held w0 w' Rs := HeldU.step hm h (fun _ h => h.elim) (fun _ h => h.elim)
theorem Held.alloc {w0 w : World} {Rs : List Thing} (h : Held w0 w Rs) (o : Obj) : Held w0 (w.alloc o) Rs := h.same ((Mod.refl w _).alloc o)
theorem Held.drew {w0 w : World} {Rs : List Thing} (h : Held w0 w Rs) : Held w0 w.drew Rs := h.same (Mod.refl w _).drew
theorem Held.drewN {w0 w : World} {Rs : List Thing} (h : Held w0 w Rs) (n : Nat) : Held w0 (w.drewN n) Rs := h.same ((Mod.refl w _).drewN n)
theorem Held.drop {w0 w : World} {R : Thing} {Rs : List Thing} (h : Held w0 w (R :: Rs)) : Held w0 w Rs := by
  obtain ⟨F, h1, h2, h3⟩ := h
  exact h3.less fun _ h => h.elim
theorem HeldU.swap {w0 w : World} {R1 R2 : Thing} {Rs : List Thing} {U : Nat → Prop} (h : HeldU w0 w U (R1 :: R2 :: Rs)) : HeldU w0 w U (R2 :: R1 :: Rs) := by
  obtain ⟨F1, h1, h2, F2, h3, h4, h5⟩ := h
  refine ⟨F2, h3, fun k hk => ⟨(h4 k hk).1, (h4 k hk).2.1, fun hu => (h4 k hk).2.2 (.inl hu)⟩, F1, h1, fun k hk => ⟨(h2 k hk).1, (h2 k hk).2.1, fun hu => ?_⟩, h5.less fun k hk => ?_⟩
  · rcases hu with hu | hu
    · exact (h2 k hk).2.2 hu
    · exact (h4 k hu).2.2 (.inr hk)
  · rcases hk with (hk | hk) | hk
    · exact .inl (.inl hk)
    · exact .inr hk
    · exact .inl (.inr hk)
theorem HeldU.perm {w0 w : World} {Rs Rs' : List Thing} (hp : Rs.Perm Rs') : ∀ {U : Nat → Prop}, HeldU w0 w U Rs → HeldU w0 w U Rs' := by
  induction hp with
  | nil => exact fun h => h
  | cons x _ ih => exact fun ⟨F, h1, h2, h3⟩ => ⟨F, h1, h2, ih h3⟩
  | swap x y l => exact fun h => HeldU.swap h
  | trans _ _ ih1 ih2 => exact fun h => ih2 (ih1 h)
theorem Held.perm {w0 w : World} {Rs Rs' : List Thing} (h : Held w0 w Rs) (hp : Rs.Perm Rs') : Held w0 w Rs' := HeldU.perm hp h
theorem Held.swap {w0 w : World} {R1 R2 : Thing} {Rs : List Thing} (h : Held w0 w (R1 :: R2 :: Rs)) : Held w0 w (R2 :: R1 :: Rs) := HeldU.swap h
theorem Held.third {w0 w : World} {R1 R2 R3 : Thing} {Rs : List Thing} (h : Held w0 w (R1 :: R2 :: R3 :: Rs)) : Held w0 w (R3 :: R1 :: R2 :: Rs) :=
  h.perm ((List.Perm.cons R1 (List.Perm.swap R3 R2 Rs)).trans (List.Perm.swap R3 R1 (R2 :: Rs)))
theorem Held.fourth {w0 w : World} {R1 R2 R3 R4 : Thing} {Rs : List Thing} (h : Held w0 w (R1 :: R2 :: R3 :: R4 :: Rs)) : Held w0 w (R4 :: R1 :: R2 :: R3 :: Rs) :=
  h.perm (((List.Perm.cons R1 ((List.Perm.cons R2 (List.Perm.swap R4 R3 Rs)).trans (List.Perm.swap R4 R2 (R3 :: Rs))))).trans (List.Perm.swap R4 R1 (R2 :: R3 :: Rs)))
theorem Held.split {w0 w w' : World} {R1 R2 : Thing} {Rs : List Thing} {F F1 F2 : Nat → Prop} (h : HeldU w0 w (fun k => False ∨ F k) Rs) (hF : ∀ k, F k → w0.heap.size ≤ k ∧ k < w.heap.size) (h1 : R1.res w' F1) (h2 : R2.res w' F2) (hm : Mod w w' F)
    (s1 : ∀ k, F1 k → F k) (s2 : ∀ k, F2 k → F k) (dis : ∀ k, F1 k → ¬ F2 k) : Held w0 w' (R1 :: R2 :: Rs) := by
  have h3 := HeldU.step hm h (fun k hk _ => (hF k hk).1) (fun k hk _ => .inr hk)
  refine ⟨F1, h1, fun k hk => ⟨(hF k (s1 k hk)).1, Nat.lt_of_lt_of_le (hF k (s1 k hk)).2 hm.size, fun h => h⟩, F2, h2, fun k hk => ⟨(hF k (s2 k hk)).1, Nat.lt_of_lt_of_le (hF k (s2 k hk)).2 hm.size, fun hu => ?_⟩, h3.less fun k hk => ?_⟩
  · rcases hu with hu | hu
    · exact hu
    · exact dis k hu hk
  · rcases hk with (hk | hk) | hk
    · exact .inl hk
    · exact .inr (s1 k hk)
    · exact .inr (s2 k hk)
theorem Held.one {w0 w : World} {R1 : Thing} {Rs : List Thing} (h : Held w0 w (R1 :: Rs)) : Held w0 w [R1] := by
  obtain ⟨F, h1, h2, h3⟩ := h
  exact ⟨F, h1, h2, HeldU.mod h3⟩
theorem Held.two {w0 w : World} {R1 R2 : Thing} {Rs : List Thing} (h : Held w0 w (R1 :: R2 :: Rs)) : Held w0 w [R1, R2] := by
  obtain ⟨F, h1, h2, F2, h3, h4, h5⟩ := h
  exact ⟨F, h1, h2, F2, h3, h4, HeldU.mod h5⟩
theorem Held.old {w0 w : World} {Rs : List Thing} (h : Held w0 w Rs) {size : Nat} {v : Value} {n : Nat} {xs : List Value} (hv : Rd w0 size v n xs) : Rd w size v n xs := hv.kept h.mod (fun _ _ h => h)
/-! ### A slice of the call's own -/
def ownT (e : TypeId) (size : Nat) (v : Value) (n : Nat) (xs : List Value) : Thing where
  res := fun w F => Own w e size v n xs ∧ ∀ k, F k ↔ v.ownBlock = some k
  loc := fun _ _ _ _ h hm hS => ⟨h.1.kept hm (fun k hk => hS k ((h.2 k).2 hk)), h.2⟩
theorem Held.own {w0 w : World} {e : TypeId} {size : Nat} {v : Value} {n : Nat} {xs : List Value} {Rs : List Thing} (h : Held w0 w (ownT e size v n xs :: Rs)) : Own w e size v n xs := by
  obtain ⟨F, h1, _⟩ := h
  exact h1.1
theorem Held.fresh {w0 w : World} {e : TypeId} {size : Nat} {v : Value} {n : Nat} {xs : List Value} {Rs : List Thing} (h : Held w0 w (ownT e size v n xs :: Rs)) : ∀ k, v.ownBlock = some k → w0.heap.size ≤ k := by
  obtain ⟨F, h1, h2, _⟩ := h
  exact fun k hk => (h2 k ((h1.2 k).2 hk)).1
theorem Held.nil {w0 w : World} {Rs : List Thing} (h : Held w0 w Rs) (e : TypeId) (size : Nat) : Held w0 w (ownT e size (.slice none 0 0) 0 [] :: Rs) :=
  h.push _ (fun _ => False) ⟨Own.nil w e size, fun k => by simp [Value.ownBlock]⟩ (Mod.refl w _) (fun _ h => h.elim)
theorem Held.lit {w0 w : World} {Rs : List Thing} (h : Held w0 w Rs) (e : TypeId) (size : Nat) (cs : List Value) (n : Nat) (hm : n ≤ maxLen) (hs : cs.length = n * size) :
    Held w0 (w.alloc (.cells cs.toArray e)) (ownT e size (.slice (some ⟨w.heap.size, 0, none⟩) n n) n cs :: Rs) :=
  h.push _ (fun k => k = w.heap.size) ⟨Own.lit w cs n hm hs, fun k => by simp [Value.ownBlock, eq_comm]⟩ ((Mod.refl w _).alloc _) (fun k hk => by subst hk; exact ⟨Nat.le_refl _, by simp⟩)
theorem Held.app {w0 w w' : World} {e : TypeId} {size : Nat} {v v' : Value} {n n' : Nat} {xs xs' : List Value} {Rs : List Thing} (h : Held w0 w (ownT e size v n xs :: Rs)) (hown : Own w' e size v' n' xs') (hgrow : w.grownBy w' v.ownBlock)
    (hat : v'.ownBlock = v.ownBlock ∨ v'.ownBlock = some w.heap.size) : Held w0 w' (ownT e size v' n' xs' :: Rs) := by
  obtain ⟨F, h1, h2, back⟩ := h.take
  refine back w' _ (fun k => v'.ownBlock = some k) ⟨hown, fun k => Iff.rfl⟩ ((Mod.refl w F).grown hgrow fun k hk => .inr ((h1.2 k).2 hk)) (fun k hk => ?_) hown.lt
  rcases hat with ha | ha
  · exact .inl ((h1.2 k).2 (ha ▸ hk))
  · rw [ha] at hk; injection hk with hk; exact .inr (by omega)
theorem Held.pushOwn {w0 w w' : World} {Rs : List Thing} {e : TypeId} {size : Nat} {v : Value} {n : Nat} {xs : List Value} (h : Held w0 w Rs) (hown : Own w' e size v n xs) (hm : Mod w w' (fun _ => False)) (hfr : ∀ k, v.ownBlock = some k → w.heap.size ≤ k) :
    Held w0 w' (ownT e size v n xs :: Rs) :=
  h.push _ (fun k => v.ownBlock = some k) ⟨hown, fun _ => Iff.rfl⟩ hm (fun k hk => ⟨hfr k hk, hown.lt k hk⟩)
theorem Held.recut {w0 w : World} {e : TypeId} {size : Nat} {v v' : Value} {n n' : Nat} {xs xs' : List Value} {Rs : List Thing} (h : Held w0 w (ownT e size v n xs :: Rs)) (hown : Own w e size v' n' xs') (hb : v'.ownBlock = v.ownBlock) : Held w0 w (ownT e size v' n' xs' :: Rs) := by
  obtain ⟨F, h1, h2, back⟩ := h.take
  exact back w _ F ⟨hown, fun k => by rw [hb]; exact h1.2 k⟩ (Mod.refl w F) (fun k hk => .inl hk) (fun k hk => (h2 k hk).2)
/-! ### A whole object -/
def objT (B : Nat) (cs : List Value) (T : TypeId) : Thing where
  res := fun w F => Blk w B cs T ∧ ∀ k, F k ↔ k = B
  loc := fun _ _ _ _ h hm hS => ⟨h.1.kept hm (hS B ((h.2 B).2 rfl)), h.2⟩
theorem Held.obj {w0 w : World} {B : Nat} {cs : List Value} {T : TypeId} {Rs : List Thing} (h : Held w0 w (objT B cs T :: Rs)) : Blk w B cs T := by
  obtain ⟨F, h1, _⟩ := h
  exact h1.1
theorem Held.newObj {w0 w : World} {Rs : List Thing} (h : Held w0 w Rs) (cs : List Value) (T : TypeId) : Held w0 (w.alloc (.cells cs.toArray T)) (objT w.heap.size cs T :: Rs) :=
  h.push _ (fun k => k = w.heap.size) ⟨Blk.new w cs T, fun _ => Iff.rfl⟩ ((Mod.refl w _).alloc _) (fun k hk => by subst hk; exact ⟨Nat.le_refl _, by simp⟩)
theorem Held.setObj {w0 w : World} {B : Nat} {cs : List Value} {T : TypeId} {Rs : List Thing} (h : Held w0 w (objT B cs T :: Rs)) (i : Nat) (u : Value) : Held w0 (w.setCell ⟨B, i, none⟩ u) (objT B (cs.set i u) T :: Rs) := by
  obtain ⟨F, h1, h2, back⟩ := h.take
  exact back _ _ F ⟨h1.1.set i u, h1.2⟩ ((Mod.refl w F).setCell (p := ⟨B, i, none⟩) (.inr ((h1.2 B).2 rfl)) u) (fun k hk => .inl hk) (fun k hk => by simpa [World.setCell] using (h2 k hk).2)
end Go.Proofs.YtdmnfjicjjlnnaaGreatDoor
