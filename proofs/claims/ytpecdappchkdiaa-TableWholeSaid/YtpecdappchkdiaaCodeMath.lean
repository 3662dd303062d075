/-
  Canonical codes from their lengths: the sum of their places, the first code of each length, where each code lies among the 2^15 longest ones. No program is named here.
-/
import Derived.Test.YtpecdappchkdiaaArgs
namespace Go.Proofs.Ytpecdappchkdiaa

/-- how many of the longest codes begin with a code of that length, if it is of at most n bits -/
def wtTo (n : Nat) (a : Int) : Nat := if 1 ≤ a ∧ a ≤ (n : Int) then 2 ^ (15 - a.toNat) else 0
def tot (l : List Int) : Nat → Nat
  | 0 => 0
  | n + 1 => tot l n + l.count ((n + 1 : Nat) : Int) * 2 ^ (14 - n)
def sumOf (l : List Int) : Nat := tot l 15
theorem wtTo_succ (n : Nat) (a : Int) : wtTo (n + 1) a = wtTo n a + (if a = ((n + 1 : Nat) : Int) then 2 ^ (14 - n) else 0) := by
  unfold wtTo
  by_cases h : a = ((n + 1 : Nat) : Int)
  · subst h
    rw [if_pos (by omega), if_neg (by omega), if_pos rfl]
    have : (((n + 1 : Nat) : Int)).toNat = n + 1 := by omega
    rw [this, Nat.zero_add]; congr 1; omega
  · rw [if_neg h]
    by_cases h1 : 1 ≤ a ∧ a ≤ (n : Int)
    · rw [if_pos h1, if_pos (by omega)]; rfl
    · rw [if_neg h1, if_neg (by omega)]
theorem tot_cons (a : Int) (l : List Int) : ∀ n : Nat, tot (a :: l) n = wtTo n a + tot l n
  | 0 => by simp [tot, wtTo]; omega
  | n + 1 => by
    rw [tot, tot_cons a l n, tot, wtTo_succ, List.count_cons]
    by_cases h : a = ((n + 1 : Nat) : Int)
    · subst h
      simp only [beq_self_eq_true, if_true, Nat.add_mul, Nat.one_mul]; omega
    · rw [if_neg h, if_neg (by simpa using h)]; simp only [Nat.add_zero]; omega
theorem tot_nil : ∀ n : Nat, tot [] n = 0
  | 0 => rfl
  | n + 1 => by rw [tot, tot_nil n]; simp
theorem tot_append (l m : List Int) (n : Nat) : tot (l ++ m) n = tot l n + tot m n := by
  induction l with
  | nil => simp [tot_nil]
  | cons a l ih => rw [List.cons_append, tot_cons, tot_cons, ih]; omega
theorem tot_mono (l : List Int) (n : Nat) : ∀ m : Nat, n ≤ m → tot l n ≤ tot l m
  | 0, h => by obtain rfl : n = 0 := by omega
               exact Nat.le_refl _
  | m + 1, h => by
    by_cases e : n = m + 1
    · subst e; exact Nat.le_refl _
    · exact Nat.le_trans (tot_mono l n m (by omega)) (Nat.le_add_right _ _)
theorem sum_cons (a : Int) (l : List Int) : sumOf (a :: l) = wtTo 15 a + sumOf l := tot_cons a l 15
theorem sum_snoc (l : List Int) (a : Int) : sumOf (l ++ [a]) = sumOf l + wtTo 15 a := by
  unfold sumOf; rw [tot_append, tot_cons, tot_nil, Nat.add_zero]
theorem sum_take_snoc (l : List Int) (i : Nat) (a : Int) (h : l[i]? = some a) : sumOf (l.take (i + 1)) = sumOf (l.take i) + wtTo 15 a := by
  rw [List.take_add_one, h]; exact sum_snoc _ _
theorem wt_le (a : Int) : wtTo 15 a ≤ 16384 := by
  unfold wtTo
  split
  · have h : 15 - a.toNat ≤ 14 := by omega
    exact Nat.pow_le_pow_right (n := 2) (by decide) h
  · omega
theorem sum_le (l : List Int) : sumOf l ≤ 16384 * l.length := by
  induction l with
  | nil => simp [sumOf, tot_nil]
  | cons a l ih => rw [sum_cons, List.length_cons]; have := wt_le a; omega
theorem tot_le (l : List Int) (n : Nat) (h : n ≤ 15) : tot l n ≤ 16384 * l.length := Nat.le_trans (tot_mono l n 15 h) (sum_le l)

/-! ### the first code of each length -/
def fstC (l : List Int) : Nat → Nat
  | 0 => 0
  | 1 => 0
  | n + 2 => 2 * (fstC l (n + 1) + l.count ((n + 1 : Nat) : Int))
theorem fst_tot (l : List Int) : ∀ n : Nat, n ≤ 14 → fstC l (n + 1) * 2 ^ (14 - n) = tot l n
  | 0, _ => by simp [fstC, tot]
  | n + 1, h => by
    have ih := fst_tot l n (by omega)
    rw [fstC, tot, ← ih]
    have e : 14 - n = (14 - (n + 1)) + 1 := by omega
    rw [e, Nat.pow_succ]
    generalize 2 ^ (14 - (n + 1)) = p
    generalize fstC l (n + 1) = x
    generalize List.count ((n + 1 : Nat) : Int) l = c
    rw [← Nat.add_mul, Nat.mul_comm p 2, ← Nat.mul_assoc, Nat.mul_comm 2]
theorem fst_le (l : List Int) (n : Nat) (h : n ≤ 15) : fstC l n ≤ 16384 * l.length := by
  match n with
  | 0 => simp [fstC]
  | n + 1 =>
    have h1 := fst_tot l n (by omega)
    have h2 := tot_le l n (by omega)
    have h3 : 1 ≤ 2 ^ (14 - n) := Nat.one_le_two_pow
    have h4 := Nat.le_mul_of_pos_right (fstC l (n + 1)) h3
    omega

/-! ### the code of each symbol -/
def isLen (a : Int) : Bool := decide (1 ≤ a ∧ a ≤ 15)
def codeAt (l : List Int) (i : Nat) : Nat := match l[i]? with
  | some a => if isLen a then fstC l a.toNat + (l.take i).count a else 0
  | none => 0
def codesOf (l : List Int) : List Nat := (List.range l.length).map (codeAt l)
theorem codesOf_length (l : List Int) : (codesOf l).length = l.length := by simp [codesOf]
theorem codesOf_get (l : List Int) (i : Nat) (h : i < l.length) : (codesOf l)[i]? = some (codeAt l i) := by simp [codesOf, h]
theorem codeAt_len (l : List Int) (i : Nat) (a : Int) (h : l[i]? = some a) (ha : isLen a = true) : codeAt l i = fstC l a.toNat + (l.take i).count a := by simp [codeAt, h, ha]
theorem codeAt_not (l : List Int) (i : Nat) (a : Int) (h : l[i]? = some a) (ha : isLen a = false) : codeAt l i = 0 := by simp [codeAt, h, ha]
theorem count_take_succ (l : List Int) (i : Nat) (a b : Int) (h : l[i]? = some a) : (l.take (i + 1)).count b = (l.take i).count b + (if a = b then 1 else 0) := by
  rw [List.take_add_one, h, List.count_append]
  simp [List.count_cons]
theorem count_take_mono (l : List Int) (i k : Nat) (h : i ≤ k) (b : Int) : (l.take i).count b ≤ (l.take k).count b :=
  (List.take_prefix_take_left h).sublist.count_le b
theorem count_take_le (l : List Int) (i : Nat) (b : Int) : (l.take i).count b ≤ l.count b := (List.take_prefix i l).sublist.count_le b
theorem codeAt_le (l : List Int) (i : Nat) : codeAt l i ≤ 16385 * l.length := by
  cases h : l[i]? with
  | none => simp [codeAt, h]
  | some a =>
    cases ha : isLen a with
    | false => rw [codeAt_not l i a h ha]; exact Nat.zero_le _
    | true =>
      rw [codeAt_len l i a h ha]
      have h1 : 1 ≤ a ∧ a ≤ 15 := by simpa [isLen] using ha
      have h2 := fst_le l a.toNat (by omega)
      have h3 := count_take_le l i a
      have h4 := List.count_le_length (a := a) (l := l)
      omega

/-! ### where a code lies -/
/-- the first of the longest codes that begin with it -/
theorem place_eq (l : List Int) (i n : Nat) (h : l[i]? = some ((n + 1 : Nat) : Int)) (hn : n ≤ 14) : codeAt l i * 2 ^ (14 - n) = tot l n + (l.take i).count ((n + 1 : Nat) : Int) * 2 ^ (14 - n) := by
  rw [codeAt_len l i _ h (by simp [isLen]; omega), Int.toNat_natCast, Nat.add_mul, fst_tot l n hn]
theorem place_end (l : List Int) (i n : Nat) (h : l[i]? = some ((n + 1 : Nat) : Int)) (hn : n ≤ 14) : codeAt l i * 2 ^ (14 - n) + 2 ^ (14 - n) ≤ tot l (n + 1) := by
  rw [place_eq l i n h hn, tot]
  have h1 := count_take_succ l i _ ((n + 1 : Nat) : Int) h
  rw [if_pos rfl] at h1
  have h2 := count_take_le l (i + 1) ((n + 1 : Nat) : Int)
  rw [h1] at h2
  have h3 := Nat.mul_le_mul_right (2 ^ (14 - n)) h2
  rw [Nat.add_mul, Nat.one_mul] at h3
  omega
theorem place_ord (l : List Int) (i k n m : Nat) (h : l[i]? = some ((n + 1 : Nat) : Int)) (h2 : l[k]? = some ((m + 1 : Nat) : Int)) (hn : n ≤ 14) (hm : m ≤ 14) (ho : n < m ∨ n = m ∧ i < k) :
    codeAt l i * 2 ^ (14 - n) + 2 ^ (14 - n) ≤ codeAt l k * 2 ^ (14 - m) := by
  rcases ho with ho | ⟨rfl, ho⟩
  · have h3 := place_end l i n h hn
    have h4 := tot_mono l (n + 1) m ho
    have h5 := place_eq l k m h2 hm
    omega
  · rw [place_eq l i n h hn, place_eq l k n h2 hn]
    have h1 := count_take_succ l i _ ((n + 1 : Nat) : Int) h
    rw [if_pos rfl] at h1
    have h2 := count_take_mono l (i + 1) k (by omega) ((n + 1 : Nat) : Int)
    rw [h1] at h2
    have h3 := Nat.mul_le_mul_right (2 ^ (14 - n)) h2
    rw [Nat.add_mul, Nat.one_mul] at h3
    omega
theorem place_top (l : List Int) (i n : Nat) (h : l[i]? = some ((n + 1 : Nat) : Int)) (hn : n ≤ 14) : codeAt l i * 2 ^ (14 - n) + 2 ^ (14 - n) ≤ sumOf l :=
  Nat.le_trans (place_end l i n h hn) (tot_mono l (n + 1) 15 (by omega))
theorem nth_of_count (l : List Int) (a : Int) : ∀ q : Nat, q < l.count a → ∃ i : Nat, l[i]? = some a ∧ (l.take i).count a = q := by
  induction l with
  | nil => intro q h; simp at h
  | cons b l ih =>
    intro q h
    by_cases e : b = a
    · subst e
      cases q with
      | zero => exact ⟨0, rfl, by simp⟩
      | succ q =>
        obtain ⟨i, h1, h2⟩ := ih q (by rw [List.count_cons_self] at h; omega)
        exact ⟨i + 1, by simpa using h1, by rw [List.take_succ_cons, List.count_cons_self, h2]⟩
    · obtain ⟨i, h1, h2⟩ := ih q (by rw [List.count_cons_of_ne e] at h; exact h)
      exact ⟨i + 1, by simpa using h1, by rw [List.take_succ_cons, List.count_cons_of_ne e, h2]⟩
theorem place_cover (l : List Int) (b : Nat) : ∀ n : Nat, n ≤ 15 → b < tot l n → ∃ i m : Nat, l[i]? = some ((m + 1 : Nat) : Int) ∧ m < n ∧ codeAt l i * 2 ^ (14 - m) ≤ b ∧ b < codeAt l i * 2 ^ (14 - m) + 2 ^ (14 - m)
  | 0, _, h => by simp [tot] at h
  | n + 1, hn, h => by
    by_cases hb : b < tot l n
    · obtain ⟨i, m, h1, h2, h3⟩ := place_cover l b n (by omega) hb
      exact ⟨i, m, h1, by omega, h3⟩
    · rw [tot] at h
      have hp : 0 < 2 ^ (14 - n) := Nat.two_pow_pos _
      have hq : (b - tot l n) / 2 ^ (14 - n) < l.count ((n + 1 : Nat) : Int) := by
        rw [Nat.div_lt_iff_lt_mul hp]; omega
      obtain ⟨i, h1, h2⟩ := nth_of_count l _ _ hq
      have h3 := place_eq l i n h1 (by omega)
      rw [h2] at h3
      have h4 := Nat.div_add_mod (b - tot l n) (2 ^ (14 - n))
      have h5 := Nat.mod_lt (b - tot l n) hp
      rw [Nat.mul_comm] at h4
      exact ⟨i, n, h1, by omega, by rw [h3]; omega, by rw [h3]; omega⟩

/-! ### Check -/
def allIn (l : List Int) (most : Int) : Bool := l.all fun a => decide (0 ≤ a ∧ a ≤ most)
def argBad (l : List Int) (most : Int) : Bool := decide (most < 1 ∨ 15 < most ∨ 288 < l.length) || !allIn l most
def checkOf (l : List Int) (most : Int) : Nat :=
  if argBad l most then 1 else if sumOf l = 0 ∨ sumOf l = 32768 ∨ sumOf l = 16384 ∧ l.count 1 = 1 then 0 else 3
/-- how many symbols have a code -/
def coded (l : List Int) : Nat := l.countP fun a => decide (0 < a)
theorem sum_bounds (l : List Int) (h : ∀ a ∈ l, 0 ≤ a ∧ a ≤ 15) : 16384 * l.count 1 + (coded l - l.count 1) ≤ sumOf l ∧ sumOf l ≤ 16384 * coded l ∧ l.count 1 ≤ coded l := by
  induction l with
  | nil => simp [coded, sumOf, tot_nil]
  | cons a l ih =>
    obtain ⟨h1, h2, h3⟩ := ih fun b hb => h b (List.mem_cons_of_mem _ hb)
    have ha := h a List.mem_cons_self
    have hw := wt_le a
    rw [sum_cons, coded, List.countP_cons, List.count_cons, ← coded]
    by_cases e : a = 1
    · subst e
      have : wtTo 15 1 = 16384 := by decide
      simp only [this, beq_self_eq_true, if_true, show decide ((0 : Int) < 1) = true from rfl]
      omega
    · by_cases e0 : a = 0
      · subst e0
        have : wtTo 15 0 = 0 := by decide
        simp [this]; omega
      · have hd : decide (0 < a) = true := by simp; omega
        have hw1 : 1 ≤ wtTo 15 a := by
          unfold wtTo
          rw [if_pos (by omega)]; exact Nat.one_le_two_pow
        rw [if_neg (by simpa using e), hd]
        simp only [if_true]
        omega
theorem allIn_iff (l : List Int) (most : Int) : allIn l most = true ↔ ∀ a ∈ l, 0 ≤ a ∧ a ≤ most := by simp [allIn]
/-- what the reference asks -/
theorem check_ref (l : List Int) (most : Int) (h : argBad l most = false) :
    (32768 < sumOf l ∨ sumOf l < 32768 ∧ ¬ (coded l = 0 ∨ coded l = 1 ∧ l.count 1 = 1)) ↔ ¬ (sumOf l = 0 ∨ sumOf l = 32768 ∨ sumOf l = 16384 ∧ l.count 1 = 1) := by
  have h' : most ≤ 15 ∧ allIn l most = true := by
    simp only [argBad, Bool.or_eq_false_iff, decide_eq_false_iff_not, Bool.not_eq_false'] at h
    exact ⟨by omega, h.2⟩
  have hb := sum_bounds l fun a ha => by
    have := (allIn_iff l most).1 h'.2 a ha
    omega
  omega
theorem check_ok {l : List Int} (h : checkOf l 15 = 0) : (∀ a ∈ l, 0 ≤ a ∧ a ≤ 15) ∧ l.length ≤ 288 ∧ (sumOf l = 0 ∨ sumOf l = 32768 ∨ sumOf l = 16384 ∧ l.count 1 = 1) := by
  unfold checkOf at h
  split at h
  · cases h
  · rename_i hb
    split at h
    · rename_i hs
      simp only [argBad, Bool.or_eq_true, decide_eq_true_eq, Bool.not_eq_true', not_or, Bool.not_eq_false] at hb
      exact ⟨(allIn_iff l 15).1 hb.2, by omega, hs⟩
    · cases h
theorem check_le (l : List Int) (most : Int) : checkOf l most = 0 ∨ checkOf l most = 1 ∨ checkOf l most = 3 := by
  unfold checkOf
  split
  · exact .inr (.inl rfl)
  · split
    · exact .inl rfl
    · exact .inr (.inr rfl)
end Go.Proofs.Ytpecdappchkdiaa
