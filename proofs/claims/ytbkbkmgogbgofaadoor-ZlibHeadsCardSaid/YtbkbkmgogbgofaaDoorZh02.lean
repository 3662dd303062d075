/-
  Lists of bits (numbers 0 and 1), the lowest first: of numbers, of bytes, and back. No program is named here.
-/
import Derived.WalkKit
import Derived.Test.YtbkbkmgogbgofaaDoorZh01
import Derived.OpenShut
namespace Go.Proofs.YtbkbkmgogbgofaaDoor
set_option maxRecDepth 5000
def bitsOf : Nat → Nat → List Nat
  | 0, _ => []
  | n + 1, v => v % 2 :: bitsOf n (v / 2)
def numOf : List Nat → Nat
  | [] => 0
  | b :: l => b + 2 * numOf l
def bits8 (bs : List Nat) : List Nat := bs.flatMap (bitsOf 8)
def isBits (l : List Nat) : Prop := ∀ b ∈ l, b ≤ 1
theorem bitsOf_length (n v : Nat) : (bitsOf n v).length = n := by
  induction n generalizing v with
  | zero => rfl
  | succ n ih => simp [bitsOf, ih]
theorem bitsOf_get (n v i : Nat) (h : i < n) : (bitsOf n v)[i]? = some (v / 2 ^ i % 2) := by
  induction n generalizing v i with
  | zero => omega
  | succ n ih =>
    cases i with
    | zero => simp [bitsOf]
    | succ i =>
      simp only [bitsOf, List.getElem?_cons_succ]
      rw [ih (v / 2) i (by omega), Nat.div_div_eq_div_mul, Nat.pow_succ, Nat.mul_comm 2]
theorem bitsOf_isBits (n v : Nat) : isBits (bitsOf n v) := by
  induction n generalizing v with
  | zero => intro b hb; cases hb
  | succ n ih =>
    intro b hb
    simp only [bitsOf, List.mem_cons] at hb
    rcases hb with rfl | hb
    · omega
    · exact ih _ b hb
theorem bitsOf_add (a b v : Nat) : bitsOf (a + b) v = bitsOf a v ++ bitsOf b (v / 2 ^ a) := by
  induction a generalizing v with
  | zero => simp [bitsOf]
  | succ a ih =>
    rw [show a + 1 + b = a + b + 1 by omega]
    simp only [bitsOf, List.cons_append]
    rw [ih, Nat.div_div_eq_div_mul, Nat.pow_succ, Nat.mul_comm 2]
theorem bitsOf_mod (n v : Nat) : bitsOf n (v % 2 ^ n) = bitsOf n v := by
  induction n generalizing v with
  | zero => rfl
  | succ n ih =>
    simp only [bitsOf]
    have h1 : v % 2 ^ (n + 1) % 2 = v % 2 := by
      rw [Nat.pow_succ, Nat.mul_comm, Nat.mod_mul_right_mod]
    have h2 : v % 2 ^ (n + 1) / 2 = v / 2 % 2 ^ n := by
      rw [Nat.pow_succ, Nat.mul_comm, Nat.mod_mul_right_div_self]
    rw [h1, h2, ih]
theorem bitsOf_join (c n s v : Nat) (hs : s < 2 ^ c) : bitsOf (c + n) (s + 2 ^ c * v) = bitsOf c s ++ bitsOf n v := by
  rw [bitsOf_add]
  have h1 : (s + 2 ^ c * v) / 2 ^ c = v := by
    rw [Nat.add_mul_div_left _ _ (Nat.two_pow_pos c), Nat.div_eq_of_lt hs, Nat.zero_add]
  have h2 : bitsOf c (s + 2 ^ c * v) = bitsOf c s := by
    rw [← bitsOf_mod c (s + 2 ^ c * v), Nat.add_mul_mod_self_left, Nat.mod_eq_of_lt hs]
  rw [h1, h2]
theorem numOf_lt (l : List Nat) (h : isBits l) : numOf l < 2 ^ l.length := by
  induction l with
  | nil => simp [numOf]
  | cons b l ih =>
    have hb := h b (by simp)
    have := ih fun x hx => h x (by simp [hx])
    simp only [numOf, List.length_cons, Nat.pow_succ]
    omega
theorem numOf_append (l m : List Nat) : numOf (l ++ m) = numOf l + 2 ^ l.length * numOf m := by
  induction l with
  | nil => simp [numOf]
  | cons b l ih =>
    simp only [List.cons_append, numOf, List.length_cons, Nat.pow_succ, ih]
    rw [Nat.mul_add, ← Nat.mul_assoc, Nat.mul_comm 2 (2 ^ l.length)]
    omega
theorem numOf_bitsOf (n v : Nat) : numOf (bitsOf n v) = v % 2 ^ n := by
  induction n generalizing v with
  | zero => simp [bitsOf, numOf, Nat.mod_one]
  | succ n ih =>
    simp only [bitsOf, numOf, ih]
    rw [Nat.pow_succ, Nat.mul_comm (2 ^ n) 2, Nat.mod_mul]
theorem bitsOf_numOf (l : List Nat) (h : isBits l) : bitsOf l.length (numOf l) = l := by
  induction l with
  | nil => rfl
  | cons b l ih =>
    have hb := h b (by simp)
    have := ih fun x hx => h x (by simp [hx])
    simp only [List.length_cons, bitsOf, numOf]
    rw [show (b + 2 * numOf l) % 2 = b by omega, show (b + 2 * numOf l) / 2 = numOf l by omega, this]
theorem isBits_append {l m : List Nat} (h : isBits l) (k : isBits m) : isBits (l ++ m) := by
  intro b hb
  rcases List.mem_append.1 hb with hb | hb
  · exact h b hb
  · exact k b hb
theorem isBits_drop {l : List Nat} (h : isBits l) (n : Nat) : isBits (l.drop n) := fun b hb => h b (List.mem_of_mem_drop hb)
theorem isBits_take {l : List Nat} (h : isBits l) (n : Nat) : isBits (l.take n) := fun b hb => h b (List.mem_of_mem_take hb)
theorem bits8_isBits (bs : List Nat) : isBits (bits8 bs) := by
  intro b hb
  obtain ⟨x, _, hx⟩ := List.mem_flatMap.1 hb
  exact bitsOf_isBits 8 x b hx
theorem bits8_nil : bits8 [] = [] := rfl
theorem bits8_cons (b : Nat) (l : List Nat) : bits8 (b :: l) = bitsOf 8 b ++ bits8 l := by simp [bits8]
theorem bits8_append (l m : List Nat) : bits8 (l ++ m) = bits8 l ++ bits8 m := by simp [bits8]
theorem bits8_length (l : List Nat) : (bits8 l).length = 8 * l.length := by
  induction l with
  | nil => rfl
  | cons b l ih => rw [bits8_cons, List.length_append, bitsOf_length, ih, List.length_cons]; omega
theorem bits8_drop (l : List Nat) (k : Nat) : (bits8 l).drop (8 * k) = bits8 (l.drop k) := by
  induction k generalizing l with
  | zero => simp
  | succ k ih =>
    cases l with
    | nil => simp [bits8]
    | cons b l =>
      rw [bits8_cons, List.drop_append, bitsOf_length, show 8 * (k + 1) - 8 = 8 * k by omega, ih, List.drop_eq_nil_of_le (by rw [bitsOf_length]; omega)]
      rfl
theorem bits8_take (l : List Nat) (k : Nat) : (bits8 l).take (8 * k) = bits8 (l.take k) := by
  induction k generalizing l with
  | zero => simp [bits8]
  | succ k ih =>
    cases l with
    | nil => simp [bits8]
    | cons b l =>
      rw [bits8_cons, List.take_append, bitsOf_length, show 8 * (k + 1) - 8 = 8 * k by omega, ih, List.take_of_length_le (by rw [bitsOf_length]; omega), List.take_succ_cons, bits8_cons]
def bytesOf (l : List Nat) : List Nat := (List.range (l.length / 8)).map fun i => numOf ((l.drop (8 * i)).take 8)
theorem bytesOf_length (l : List Nat) : (bytesOf l).length = l.length / 8 := by simp [bytesOf]
theorem bytesOf_get (l : List Nat) (i : Nat) (h : i < l.length / 8) : (bytesOf l)[i]? = some (numOf ((l.drop (8 * i)).take 8)) := by
  simp [bytesOf, List.getElem?_map, List.getElem?_range h]
theorem bytesOf_bits8 (bs t : List Nat) (hb : ∀ b ∈ bs, b < 256) (ht : t.length < 8) : bytesOf (bits8 bs ++ t) = bs := by
  apply List.ext_getElem?
  intro i
  have hlen : (bits8 bs ++ t).length / 8 = bs.length := by rw [List.length_append, bits8_length]; omega
  by_cases hi : i < bs.length
  · rw [bytesOf_get _ _ (by omega), List.drop_append_of_le_length (by rw [bits8_length]; omega), bits8_drop,
      List.take_append_of_le_length (by rw [bits8_length, List.length_drop]; omega)]
    have h1 := bits8_take (bs.drop i) 1
    rw [Nat.mul_one] at h1
    rw [h1, List.getElem?_eq_getElem hi]
    have h2 : (bs.drop i).take 1 = [bs[i]] := by rw [List.drop_eq_getElem_cons hi, List.take_succ_cons, List.take_zero]
    rw [h2, bits8_cons, bits8_nil, List.append_nil, numOf_bitsOf, Nat.mod_eq_of_lt (hb _ (List.getElem_mem hi))]
  · rw [List.getElem?_eq_none (by rw [bytesOf_length]; omega), List.getElem?_eq_none (by omega)]
theorem bytesOf_lt (l : List Nat) (h : isBits l) : ∀ b ∈ bytesOf l, b < 256 := by
  intro b hb
  obtain ⟨i, hi, rfl⟩ := List.mem_map.1 hb
  have h1 := numOf_lt ((l.drop (8 * i)).take 8) (isBits_take (isBits_drop h _) _)
  have h2 : ((l.drop (8 * i)).take 8).length ≤ 8 := List.length_take_le _ _
  have h3 : 2 ^ ((l.drop (8 * i)).take 8).length ≤ 2 ^ 8 := Nat.pow_le_pow_right (by decide) h2
  omega
def u8s (l : List Nat) : List Value := l.map fun (b : Nat) => Value.int .u8 (b : Int)
theorem u8s_length (l : List Nat) : (u8s l).length = l.length := by simp [u8s]
theorem u8s_append (l m : List Nat) : u8s (l ++ m) = u8s l ++ u8s m := by simp [u8s]
theorem u8s_get (l : List Nat) (j : Nat) : (u8s l)[j]? = (l[j]?).map fun (b : Nat) => Value.int .u8 (b : Int) := by simp [u8s]
theorem u8s_one (l : List Nat) : ∀ u ∈ u8s l, u.oneCell' = true := by
  intro u hu
  obtain ⟨_, _, rfl⟩ := List.mem_map.1 hu
  rfl
end Go.Proofs.YtbkbkmgogbgofaaDoor
/-
  Slices of numbers that came in as arguments, as slices that are read.
-/
namespace Go.Proofs.YtbkbkmgogbgofaaDoor
set_option maxRecDepth 5000
open Go.RowKit
def nums (k : IntKind) (l : List Nat) : List Value := l.map fun (b : Nat) => Value.int k (b : Int)
theorem nums_get (k : IntKind) (l : List Nat) (j : Nat) : (nums k l)[j]? = (l[j]?).map fun (b : Nat) => Value.int k (b : Int) := by simp [nums]
end Go.Proofs.YtbkbkmgogbgofaaDoor
/-
  Canonical codes from their lengths: the sum of their places, the first code of each length, where each code lies among the 2^15 longest ones. No program is named here.
-/
namespace Go.Proofs.YtbkbkmgogbgofaaDoor
set_option maxRecDepth 5000
def wtTo (n : Nat) (a : Int) : Nat := if 1 ≤ a ∧ a ≤ (n : Int) then 2 ^ (15 - a.toNat) else 0
def tot (l : List Int) : Nat → Nat
  | 0 => 0
  | n + 1 => tot l n + l.count ((n + 1 : Nat) : Int) * 2 ^ (14 - n)
def sumOf (l : List Int) : Nat := tot l 15
theorem wtTo_succ (n : Nat) (a : Int) : wtTo (n + 1) a = wtTo n a + (if a = ((n + 1 : Nat) : Int) then 2 ^ (14 - n) else 0) := by
  unfold wtTo
  by_cases h : a = ((n + 1 : Nat) : Int)
  · subst h
    rw [if_pos (by omega), if_neg (by omega), if_pos rfl]
    have : (((n + 1 : Nat) : Int)).toNat = n + 1 := by omega
    rw [this, Nat.zero_add]; congr 1; omega
  · rw [if_neg h]
    by_cases h1 : 1 ≤ a ∧ a ≤ (n : Int)
    · rw [if_pos h1, if_pos (by omega)]; rfl
    · rw [if_neg h1, if_neg (by omega)]
theorem tot_cons (a : Int) (l : List Int) : ∀ n : Nat, tot (a :: l) n = wtTo n a + tot l n
  | 0 => by simp [tot, wtTo]; omega
  | n + 1 => by
    rw [tot, tot_cons a l n, tot, wtTo_succ, List.count_cons]
    by_cases h : a = ((n + 1 : Nat) : Int)
    · subst h
      simp only [beq_self_eq_true, if_true, Nat.add_mul, Nat.one_mul]; omega
    · rw [if_neg h, if_neg (by simpa using h)]; simp only [Nat.add_zero]; omega
theorem tot_nil : ∀ n : Nat, tot [] n = 0
  | 0 => rfl
  | n + 1 => by rw [tot, tot_nil n]; simp
theorem tot_mono (l : List Int) (n : Nat) : ∀ m : Nat, n ≤ m → tot l n ≤ tot l m
  | 0, h => by obtain rfl : n = 0 := by omega
               exact Nat.le_refl _
  | m + 1, h => by
    by_cases e : n = m + 1
    · subst e; exact Nat.le_refl _
    · exact Nat.le_trans (tot_mono l n m (by omega)) (Nat.le_add_right _ _)
theorem sum_cons (a : Int) (l : List Int) : sumOf (a :: l) = wtTo 15 a + sumOf l := tot_cons a l 15
theorem wt_le (a : Int) : wtTo 15 a ≤ 16384 := by
  unfold wtTo
  split
  · have h : 15 - a.toNat ≤ 14 := by omega
    exact Nat.pow_le_pow_right (n := 2) (by decide) h
  · omega
theorem sum_le (l : List Int) : sumOf l ≤ 16384 * l.length := by
  induction l with
  | nil => simp [sumOf, tot_nil]
  | cons a l ih => rw [sum_cons, List.length_cons]; have := wt_le a; omega
theorem tot_le (l : List Int) (n : Nat) (h : n ≤ 15) : tot l n ≤ 16384 * l.length := Nat.le_trans (tot_mono l n 15 h) (sum_le l)
/-! ### the first code of each length -/
def fstC (l : List Int) : Nat → Nat
  | 0 => 0
  | 1 => 0
  | n + 2 => 2 * (fstC l (n + 1) + l.count ((n + 1 : Nat) : Int))
theorem fst_tot (l : List Int) : ∀ n : Nat, n ≤ 14 → fstC l (n + 1) * 2 ^ (14 - n) = tot l n
  | 0, _ => by simp [fstC, tot]
  | n + 1, h => by
    have ih := fst_tot l n (by omega)
    rw [fstC, tot, ← ih]
    have e : 14 - n = (14 - (n + 1)) + 1 := by omega
    rw [e, Nat.pow_succ]
    generalize 2 ^ (14 - (n + 1)) = p
    generalize fstC l (n + 1) = x
    generalize List.count ((n + 1 : Nat) : Int) l = c
    rw [← Nat.add_mul, Nat.mul_comm p 2, ← Nat.mul_assoc, Nat.mul_comm 2]
theorem fst_le (l : List Int) (n : Nat) (h : n ≤ 15) : fstC l n ≤ 16384 * l.length := by
  match n with
  | 0 => simp [fstC]
  | n + 1 =>
    have h1 := fst_tot l n (by omega)
    have h2 := tot_le l n (by omega)
    have h3 : 1 ≤ 2 ^ (14 - n) := Nat.one_le_two_pow
    have h4 := Nat.le_mul_of_pos_right (fstC l (n + 1)) h3
    omega
/-! ### the code of each symbol -/
def isLen (a : Int) : Bool := decide (1 ≤ a ∧ a ≤ 15)
def codeAt (l : List Int) (i : Nat) : Nat := match l[i]? with
  | some a => if isLen a then fstC l a.toNat + (l.take i).count a else 0
  | none => 0
def codesOf (l : List Int) : List Nat := (List.range l.length).map (codeAt l)
theorem codeAt_len (l : List Int) (i : Nat) (a : Int) (h : l[i]? = some a) (ha : isLen a = true) : codeAt l i = fstC l a.toNat + (l.take i).count a := by simp [codeAt, h, ha]
theorem codeAt_not (l : List Int) (i : Nat) (a : Int) (h : l[i]? = some a) (ha : isLen a = false) : codeAt l i = 0 := by simp [codeAt, h, ha]
theorem count_take_succ (l : List Int) (i : Nat) (a b : Int) (h : l[i]? = some a) : (l.take (i + 1)).count b = (l.take i).count b + (if a = b then 1 else 0) := by
  rw [List.take_add_one, h, List.count_append]
  simp [List.count_cons]
theorem count_take_mono (l : List Int) (i k : Nat) (h : i ≤ k) (b : Int) : (l.take i).count b ≤ (l.take k).count b :=
  (List.take_prefix_take_left h).sublist.count_le b
theorem count_take_le (l : List Int) (i : Nat) (b : Int) : (l.take i).count b ≤ l.count b := (List.take_prefix i l).sublist.count_le b
theorem codeAt_le (l : List Int) (i : Nat) : codeAt l i ≤ 16385 * l.length := by
  cases h : l[i]? with
  | none => simp [codeAt, h]
  | some a =>
    cases ha : isLen a with
    | false => rw [codeAt_not l i a h ha]; exact Nat.zero_le _
    | true =>
      rw [codeAt_len l i a h ha]
      have h1 : 1 ≤ a ∧ a ≤ 15 := by simpa [isLen] using ha
      have h2 := fst_le l a.toNat (by omega)
      have h3 := count_take_le l i a
      have h4 := List.count_le_length (a := a) (l := l)
      omega
/-! ### where a code lies -/
theorem place_eq (l : List Int) (i n : Nat) (h : l[i]? = some ((n + 1 : Nat) : Int)) (hn : n ≤ 14) : codeAt l i * 2 ^ (14 - n) = tot l n + (l.take i).count ((n + 1 : Nat) : Int) * 2 ^ (14 - n) := by
  rw [codeAt_len l i _ h (by simp [isLen]; omega), Int.toNat_natCast, Nat.add_mul, fst_tot l n hn]
theorem place_end (l : List Int) (i n : Nat) (h : l[i]? = some ((n + 1 : Nat) : Int)) (hn : n ≤ 14) : codeAt l i * 2 ^ (14 - n) + 2 ^ (14 - n) ≤ tot l (n + 1) := by
  rw [place_eq l i n h hn, tot]
  have h1 := count_take_succ l i _ ((n + 1 : Nat) : Int) h
  rw [if_pos rfl] at h1
  have h2 := count_take_le l (i + 1) ((n + 1 : Nat) : Int)
  rw [h1] at h2
  have h3 := Nat.mul_le_mul_right (2 ^ (14 - n)) h2
  rw [Nat.add_mul, Nat.one_mul] at h3
  omega
theorem place_ord (l : List Int) (i k n m : Nat) (h : l[i]? = some ((n + 1 : Nat) : Int)) (h2 : l[k]? = some ((m + 1 : Nat) : Int)) (hn : n ≤ 14) (hm : m ≤ 14) (ho : n < m ∨ n = m ∧ i < k) :
    codeAt l i * 2 ^ (14 - n) + 2 ^ (14 - n) ≤ codeAt l k * 2 ^ (14 - m) := by
  rcases ho with ho | ⟨rfl, ho⟩
  · have h3 := place_end l i n h hn
    have h4 := tot_mono l (n + 1) m ho
    have h5 := place_eq l k m h2 hm
    omega
  · rw [place_eq l i n h hn, place_eq l k n h2 hn]
    have h1 := count_take_succ l i _ ((n + 1 : Nat) : Int) h
    rw [if_pos rfl] at h1
    have h2 := count_take_mono l (i + 1) k (by omega) ((n + 1 : Nat) : Int)
    rw [h1] at h2
    have h3 := Nat.mul_le_mul_right (2 ^ (14 - n)) h2
    rw [Nat.add_mul, Nat.one_mul] at h3
    omega
theorem place_top (l : List Int) (i n : Nat) (h : l[i]? = some ((n + 1 : Nat) : Int)) (hn : n ≤ 14) : codeAt l i * 2 ^ (14 - n) + 2 ^ (14 - n) ≤ sumOf l :=
  Nat.le_trans (place_end l i n h hn) (tot_mono l (n + 1) 15 (by omega))
theorem nth_of_count (l : List Int) (a : Int) : ∀ q : Nat, q < l.count a → ∃ i : Nat, l[i]? = some a ∧ (l.take i).count a = q := by
  induction l with
  | nil => intro q h; simp at h
  | cons b l ih =>
    intro q h
    by_cases e : b = a
    · subst e
      cases q with
      | zero => exact ⟨0, rfl, by simp⟩
      | succ q =>
        obtain ⟨i, h1, h2⟩ := ih q (by rw [List.count_cons_self] at h; omega)
        exact ⟨i + 1, by simpa using h1, by rw [List.take_succ_cons, List.count_cons_self, h2]⟩
    · obtain ⟨i, h1, h2⟩ := ih q (by rw [List.count_cons_of_ne e] at h; exact h)
      exact ⟨i + 1, by simpa using h1, by rw [List.take_succ_cons, List.count_cons_of_ne e, h2]⟩
theorem place_cover (l : List Int) (b : Nat) : ∀ n : Nat, n ≤ 15 → b < tot l n → ∃ i m : Nat, l[i]? = some ((m + 1 : Nat) : Int) ∧ m < n ∧ codeAt l i * 2 ^ (14 - m) ≤ b ∧ b < codeAt l i * 2 ^ (14 - m) + 2 ^ (14 - m)
  | 0, _, h => by simp [tot] at h
  | n + 1, hn, h => by
    by_cases hb : b < tot l n
    · obtain ⟨i, m, h1, h2, h3⟩ := place_cover l b n (by omega) hb
      exact ⟨i, m, h1, by omega, h3⟩
    · rw [tot] at h
      have hp : 0 < 2 ^ (14 - n) := Nat.two_pow_pos _
      have hq : (b - tot l n) / 2 ^ (14 - n) < l.count ((n + 1 : Nat) : Int) := by
        rw [Nat.div_lt_iff_lt_mul hp]; omega
      obtain ⟨i, h1, h2⟩ := nth_of_count l _ _ hq
      have h3 := place_eq l i n h1 (by omega)
      rw [h2] at h3
      have h4 := Nat.div_add_mod (b - tot l n) (2 ^ (14 - n))
      have h5 := Nat.mod_lt (b - tot l n) hp
      rw [Nat.mul_comm] at h4
      exact ⟨i, n, h1, by omega, by rw [h3]; omega, by rw [h3]; omega⟩
/-! ### Check -/
def allIn (l : List Int) (most : Int) : Bool := l.all fun a => decide (0 ≤ a ∧ a ≤ most)
def argBad (l : List Int) (most : Int) : Bool := decide (most < 1 ∨ 15 < most ∨ 288 < l.length) || !allIn l most
def checkOf (l : List Int) (most : Int) : Nat :=
  if argBad l most then 1 else if sumOf l = 0 ∨ sumOf l = 32768 ∨ sumOf l = 16384 ∧ l.count 1 = 1 then 0 else 3
def coded (l : List Int) : Nat := l.countP fun a => decide (0 < a)
theorem sum_bounds (l : List Int) (h : ∀ a ∈ l, 0 ≤ a ∧ a ≤ 15) : 16384 * l.count 1 + (coded l - l.count 1) ≤ sumOf l ∧ sumOf l ≤ 16384 * coded l ∧ l.count 1 ≤ coded l := by
  induction l with
  | nil => simp [coded, sumOf, tot_nil]
  | cons a l ih =>
    obtain ⟨h1, h2, h3⟩ := ih fun b hb => h b (List.mem_cons_of_mem _ hb)
    have ha := h a List.mem_cons_self
    have hw := wt_le a
    rw [sum_cons, coded, List.countP_cons, List.count_cons, ← coded]
    by_cases e : a = 1
    · subst e
      have : wtTo 15 1 = 16384 := by decide
      simp only [this, beq_self_eq_true, if_true, show decide ((0 : Int) < 1) = true from rfl]
      omega
    · by_cases e0 : a = 0
      · subst e0
        have : wtTo 15 0 = 0 := by decide
        simp [this]; omega
      · have hd : decide (0 < a) = true := by simp; omega
        have hw1 : 1 ≤ wtTo 15 a := by
          unfold wtTo
          rw [if_pos (by omega)]; exact Nat.one_le_two_pow
        rw [if_neg (by simpa using e), hd]
        simp only [if_true]
        omega
theorem allIn_iff (l : List Int) (most : Int) : allIn l most = true ↔ ∀ a ∈ l, 0 ≤ a ∧ a ≤ most := by simp [allIn]
theorem check_ok {l : List Int} (h : checkOf l 15 = 0) : (∀ a ∈ l, 0 ≤ a ∧ a ≤ 15) ∧ l.length ≤ 288 ∧ (sumOf l = 0 ∨ sumOf l = 32768 ∨ sumOf l = 16384 ∧ l.count 1 = 1) := by
  unfold checkOf at h
  split at h
  · cases h
  · rename_i hb
    split at h
    · rename_i hs
      simp only [argBad, Bool.or_eq_true, decide_eq_true_eq, Bool.not_eq_true', not_or, Bool.not_eq_false] at hb
      exact ⟨(allIn_iff l 15).1 hb.2, by omega, hs⟩
    · cases h
end Go.Proofs.YtbkbkmgogbgofaaDoor
/-
  A code begins with no other one; any 15 bits begin with one. No program is named here.
-/
namespace Go.Proofs.YtbkbkmgogbgofaaDoor
set_option maxRecDepth 5000
def hit (l : List Int) (b i : Nat) : Bool := match l[i]? with
  | some a => isLen a && decide (b / 2 ^ (15 - a.toNat) = codeAt l i)
  | none => false
def hits (l : List Int) (b i : Nat) : Nat := (List.range i).countP (hit l b)
theorem hit_len (l : List Int) (b i p : Nat) (h : l[i]? = some (p : Int)) (hp : 1 ≤ p) (hp2 : p ≤ 15) : hit l b i = decide (b / 2 ^ (15 - p) = codeAt l i) := by
  have : isLen (p : Int) = true := by simp [isLen]; omega
  simp [hit, h, this]
theorem hit_zero (l : List Int) (b i : Nat) (h : l[i]? = some 0) : hit l b i = false := by simp [hit, h, isLen]
theorem code_fits (l : List Int) (i p : Nat) (h : l[i]? = some (p : Int)) (hp : 1 ≤ p) (hp2 : p ≤ 15) (hs : sumOf l ≤ 32768) : codeAt l i < 2 ^ p := by
  obtain ⟨m, rfl⟩ : ∃ m, p = m + 1 := ⟨p - 1, by omega⟩
  have h1 := place_top l i m h (by omega)
  have hw : 0 < 2 ^ (14 - m) := Nat.two_pow_pos _
  have h2 : 2 ^ (m + 1) * 2 ^ (14 - m) = 32768 := by rw [← Nat.pow_add, show m + 1 + (14 - m) = 15 by omega]
  refine Nat.lt_of_mul_lt_mul_right (a := 2 ^ (14 - m)) ?_
  omega
theorem not_begin (l : List Int) (i k p q : Nat) (h : l[i]? = some (p : Int)) (h2 : l[k]? = some (q : Int)) (hp : 1 ≤ p) (hq : q ≤ 15) (hpq : p ≤ q) (hne : k ≠ i) : codeAt l k / 2 ^ (q - p) ≠ codeAt l i := by
  obtain ⟨m, rfl⟩ : ∃ m, p = m + 1 := ⟨p - 1, by omega⟩
  obtain ⟨r, rfl⟩ : ∃ r, q = r + 1 := ⟨q - 1, by omega⟩
  have hw : 0 < 2 ^ (14 - r) := Nat.two_pow_pos _
  by_cases ho : m < r ∨ m = r ∧ i < k
  · have h3 := place_ord l i k m r h h2 (by omega) (by omega) ho
    rw [show 14 - m = (r + 1 - (m + 1)) + (14 - r) by omega, Nat.pow_add] at h3
    have h4 : codeAt l i * 2 ^ (r + 1 - (m + 1)) + 2 ^ (r + 1 - (m + 1)) ≤ codeAt l k := by
      refine Nat.le_of_mul_le_mul_right ?_ hw
      rw [Nat.add_mul, Nat.mul_assoc]; exact h3
    have h5 : codeAt l i + 1 ≤ codeAt l k / 2 ^ (r + 1 - (m + 1)) := by
      rw [Nat.le_div_iff_mul_le (Nat.two_pow_pos _), Nat.add_mul, Nat.one_mul]; exact h4
    omega
  · obtain ⟨rfl, h5⟩ : r = m ∧ k < i := by omega
    have h3 := place_ord l k i r r h2 h (by omega) (by omega) (.inr ⟨rfl, h5⟩)
    have h4 : codeAt l k < codeAt l i := Nat.lt_of_mul_lt_mul_right (a := 2 ^ (14 - r)) (by omega)
    rw [Nat.sub_self, Nat.pow_zero, Nat.div_one]; omega
theorem count_one {p : Nat → Bool} : ∀ {n i : Nat}, i < n → p i = true → (∀ k, k < n → p k = true → k = i) → (List.range n).countP p = 1
  | 0, i, h, _, _ => by omega
  | n + 1, i, h, hi, hu => by
    rw [List.range_succ, List.countP_append, List.countP_singleton]
    by_cases e : i = n
    · subst e
      rw [hi, if_pos rfl]
      have : (List.range i).countP p = 0 := by
        rw [List.countP_eq_zero]
        intro k hk hp
        have hk' := List.mem_range.1 hk
        have := hu k (by omega) hp
        omega
      omega
    · rw [if_neg, count_one (show i < n by omega) hi fun k hk hp => hu k (by omega) hp]
      intro hp
      exact e (hu n (by omega) hp).symm
theorem one_hit (l : List Int) (b : Nat) (hl : ∀ a ∈ l, 0 ≤ a ∧ a ≤ 15) (hs : sumOf l = 32768) (hb : b < 32768) : hits l b l.length = 1 := by
  obtain ⟨i, m, h1, h2, h3, h4⟩ := place_cover l b 15 (by omega) (by show b < sumOf l; omega)
  have hil := (List.getElem?_eq_some_iff.1 h1).1
  have hw : 0 < 2 ^ (14 - m) := Nat.two_pow_pos _
  refine count_one hil ?_ ?_
  · rw [hit_len l b i (m + 1) h1 (by omega) (by omega), decide_eq_true_eq, show 15 - (m + 1) = 14 - m by omega]
    refine Nat.div_eq_of_lt_le h3 ?_
    rw [Nat.add_mul, Nat.one_mul]; exact h4
  · intro k hk hp
    have hg : l[k]? = some l[k] := List.getElem?_eq_getElem hk
    have hr := hl _ (List.mem_of_getElem? hg)
    obtain ⟨q, hq⟩ := Int.eq_ofNat_of_zero_le hr.1
    rw [hq] at hg
    by_cases hq0 : q = 0
    · subst hq0
      rw [hit_zero l b k hg] at hp
      cases hp
    · obtain ⟨r, rfl⟩ : ∃ r, q = r + 1 := ⟨q - 1, by omega⟩
      have hr14 : r ≤ 14 := by omega
      rw [hit_len l b k (r + 1) hg (by omega) (by omega), decide_eq_true_eq, show 15 - (r + 1) = 14 - r by omega] at hp
      have hwr : 0 < 2 ^ (14 - r) := Nat.two_pow_pos _
      have h5 := Nat.div_add_mod b (2 ^ (14 - r))
      have h6 := Nat.mod_lt b hwr
      rw [hp, Nat.mul_comm] at h5
      by_cases hki : k = i
      · exact hki
      · exfalso
        by_cases ho : r < m ∨ r = m ∧ k < i
        · have := place_ord l k i r m hg h1 hr14 (by omega) ho
          omega
        · have := place_ord l i k m r h1 hg (by omega) hr14 (by omega)
          omega
end Go.Proofs.YtbkbkmgogbgofaaDoor
