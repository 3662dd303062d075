/-
  Lists of bits (numbers 0 and 1), the lowest first: of numbers, of bytes, and back. No program is named here.
-/
import Derived.WalkKit
namespace Go.Proofs.YtkdmdbojcdonpaaGreatDoor
set_option maxRecDepth 5000

def bitsOf : Nat → Nat → List Nat
  | 0, _ => []
  | n + 1, v => v % 2 :: bitsOf n (v / 2)
def numOf : List Nat → Nat
  | [] => 0
  | b :: l => b + 2 * numOf l
def bits8 (bs : List Nat) : List Nat := bs.flatMap (bitsOf 8)
def isBits (l : List Nat) : Prop := ∀ b ∈ l, b ≤ 1

theorem bitsOf_length (n v : Nat) : (bitsOf n v).length = n := by
  induction n generalizing v with
  | zero => rfl
  | succ n ih => simp [bitsOf, ih]
theorem bitsOf_get (n v i : Nat) (h : i < n) : (bitsOf n v)[i]? = some (v / 2 ^ i % 2) := by
  induction n generalizing v i with
  | zero => omega
  | succ n ih =>
    cases i with
    | zero => simp [bitsOf]
    | succ i =>
      simp only [bitsOf, List.getElem?_cons_succ]
      rw [ih (v / 2) i (by omega), Nat.div_div_eq_div_mul, Nat.pow_succ, Nat.mul_comm 2]
theorem bitsOf_isBits (n v : Nat) : isBits (bitsOf n v) := by
  induction n generalizing v with
  | zero => intro b hb; cases hb
  | succ n ih =>
    intro b hb
    simp only [bitsOf, List.mem_cons] at hb
    rcases hb with rfl | hb
    · omega
    · exact ih _ b hb
theorem bitsOf_add (a b v : Nat) : bitsOf (a + b) v = bitsOf a v ++ bitsOf b (v / 2 ^ a) := by
  induction a generalizing v with
  | zero => simp [bitsOf]
  | succ a ih =>
    rw [show a + 1 + b = a + b + 1 by omega]
    simp only [bitsOf, List.cons_append]
    rw [ih, Nat.div_div_eq_div_mul, Nat.pow_succ, Nat.mul_comm 2]
theorem bitsOf_mod (n v : Nat) : bitsOf n (v % 2 ^ n) = bitsOf n v := by
  induction n generalizing v with
  | zero => rfl
  | succ n ih =>
    simp only [bitsOf]
    have h1 : v % 2 ^ (n + 1) % 2 = v % 2 := by
      rw [Nat.pow_succ, Nat.mul_comm, Nat.mod_mul_right_mod]
    have h2 : v % 2 ^ (n + 1) / 2 = v / 2 % 2 ^ n := by
      rw [Nat.pow_succ, Nat.mul_comm, Nat.mod_mul_right_div_self]
    rw [h1, h2, ih]
theorem bitsOf_join (c n s v : Nat) (hs : s < 2 ^ c) : bitsOf (c + n) (s + 2 ^ c * v) = bitsOf c s ++ bitsOf n v := by
  rw [bitsOf_add]
  have h1 : (s + 2 ^ c * v) / 2 ^ c = v := by
    rw [Nat.add_mul_div_left _ _ (Nat.two_pow_pos c), Nat.div_eq_of_lt hs, Nat.zero_add]
  have h2 : bitsOf c (s + 2 ^ c * v) = bitsOf c s := by
    rw [← bitsOf_mod c (s + 2 ^ c * v), Nat.add_mul_mod_self_left, Nat.mod_eq_of_lt hs]
  rw [h1, h2]
theorem bitsOf_zero_pad (c n s : Nat) (hs : s < 2 ^ c) : bitsOf (c + n) s = bitsOf c s ++ List.replicate n 0 := by
  have h := bitsOf_join c n s 0 hs
  simp only [Nat.mul_zero, Nat.add_zero] at h
  rw [h]
  congr 1
  clear h
  induction n with
  | zero => rfl
  | succ n ih => simp [bitsOf, List.replicate_succ, ih]
theorem numOf_lt (l : List Nat) (h : isBits l) : numOf l < 2 ^ l.length := by
  induction l with
  | nil => simp [numOf]
  | cons b l ih =>
    have hb := h b (by simp)
    have := ih fun x hx => h x (by simp [hx])
    simp only [numOf, List.length_cons, Nat.pow_succ]
    omega
theorem numOf_append (l m : List Nat) : numOf (l ++ m) = numOf l + 2 ^ l.length * numOf m := by
  induction l with
  | nil => simp [numOf]
  | cons b l ih =>
    simp only [List.cons_append, numOf, List.length_cons, Nat.pow_succ, ih]
    rw [Nat.mul_add, ← Nat.mul_assoc, Nat.mul_comm 2 (2 ^ l.length)]
    omega
theorem numOf_bitsOf (n v : Nat) : numOf (bitsOf n v) = v % 2 ^ n := by
  induction n generalizing v with
  | zero => simp [bitsOf, numOf, Nat.mod_one]
  | succ n ih =>
    simp only [bitsOf, numOf, ih]
    rw [Nat.pow_succ, Nat.mul_comm (2 ^ n) 2, Nat.mod_mul]
theorem bitsOf_numOf (l : List Nat) (h : isBits l) : bitsOf l.length (numOf l) = l := by
  induction l with
  | nil => rfl
  | cons b l ih =>
    have hb := h b (by simp)
    have := ih fun x hx => h x (by simp [hx])
    simp only [List.length_cons, bitsOf, numOf]
    rw [show (b + 2 * numOf l) % 2 = b by omega, show (b + 2 * numOf l) / 2 = numOf l by omega, this]
theorem bitsOf_inj (n v u : Nat) (h : bitsOf n v = bitsOf n u) : v % 2 ^ n = u % 2 ^ n := by
  rw [← numOf_bitsOf, ← numOf_bitsOf, h]
theorem isBits_append {l m : List Nat} (h : isBits l) (k : isBits m) : isBits (l ++ m) := by
  intro b hb
  rcases List.mem_append.1 hb with hb | hb
  · exact h b hb
  · exact k b hb
theorem isBits_drop {l : List Nat} (h : isBits l) (n : Nat) : isBits (l.drop n) := fun b hb => h b (List.mem_of_mem_drop hb)
theorem isBits_take {l : List Nat} (h : isBits l) (n : Nat) : isBits (l.take n) := fun b hb => h b (List.mem_of_mem_take hb)
theorem bits8_isBits (bs : List Nat) : isBits (bits8 bs) := by
  intro b hb
  obtain ⟨x, _, hx⟩ := List.mem_flatMap.1 hb
  exact bitsOf_isBits 8 x b hx
theorem bits8_nil : bits8 [] = [] := rfl
theorem bits8_cons (b : Nat) (l : List Nat) : bits8 (b :: l) = bitsOf 8 b ++ bits8 l := by simp [bits8]
theorem bits8_append (l m : List Nat) : bits8 (l ++ m) = bits8 l ++ bits8 m := by simp [bits8]
theorem bits8_length (l : List Nat) : (bits8 l).length = 8 * l.length := by
  induction l with
  | nil => rfl
  | cons b l ih => rw [bits8_cons, List.length_append, bitsOf_length, ih, List.length_cons]; omega
theorem bits8_drop (l : List Nat) (k : Nat) : (bits8 l).drop (8 * k) = bits8 (l.drop k) := by
  induction k generalizing l with
  | zero => simp
  | succ k ih =>
    cases l with
    | nil => simp [bits8]
    | cons b l =>
      rw [bits8_cons, List.drop_append, bitsOf_length, show 8 * (k + 1) - 8 = 8 * k by omega, ih, List.drop_eq_nil_of_le (by rw [bitsOf_length]; omega)]
      rfl
theorem bits8_take (l : List Nat) (k : Nat) : (bits8 l).take (8 * k) = bits8 (l.take k) := by
  induction k generalizing l with
  | zero => simp [bits8]
  | succ k ih =>
    cases l with
    | nil => simp [bits8]
    | cons b l =>
      rw [bits8_cons, List.take_append, bitsOf_length, show 8 * (k + 1) - 8 = 8 * k by omega, ih, List.take_of_length_le (by rw [bitsOf_length]; omega), List.take_succ_cons, bits8_cons]

/-- The whole bytes of a list of bits. -/
def bytesOf (l : List Nat) : List Nat := (List.range (l.length / 8)).map fun i => numOf ((l.drop (8 * i)).take 8)
theorem bytesOf_length (l : List Nat) : (bytesOf l).length = l.length / 8 := by simp [bytesOf]
theorem bytesOf_get (l : List Nat) (i : Nat) (h : i < l.length / 8) : (bytesOf l)[i]? = some (numOf ((l.drop (8 * i)).take 8)) := by
  simp [bytesOf, List.getElem?_map, List.getElem?_range h]
theorem bytesOf_bits8 (bs t : List Nat) (hb : ∀ b ∈ bs, b < 256) (ht : t.length < 8) : bytesOf (bits8 bs ++ t) = bs := by
  apply List.ext_getElem?
  intro i
  have hlen : (bits8 bs ++ t).length / 8 = bs.length := by rw [List.length_append, bits8_length]; omega
  by_cases hi : i < bs.length
  · rw [bytesOf_get _ _ (by omega), List.drop_append_of_le_length (by rw [bits8_length]; omega), bits8_drop,
      List.take_append_of_le_length (by rw [bits8_length, List.length_drop]; omega)]
    have h1 := bits8_take (bs.drop i) 1
    rw [Nat.mul_one] at h1
    rw [h1, List.getElem?_eq_getElem hi]
    have h2 : (bs.drop i).take 1 = [bs[i]] := by rw [List.drop_eq_getElem_cons hi, List.take_succ_cons, List.take_zero]
    rw [h2, bits8_cons, bits8_nil, List.append_nil, numOf_bitsOf, Nat.mod_eq_of_lt (hb _ (List.getElem_mem hi))]
  · rw [List.getElem?_eq_none (by rw [bytesOf_length]; omega), List.getElem?_eq_none (by omega)]
theorem bytesOf_lt (l : List Nat) (h : isBits l) : ∀ b ∈ bytesOf l, b < 256 := by
  intro b hb
  obtain ⟨i, hi, rfl⟩ := List.mem_map.1 hb
  have h1 := numOf_lt ((l.drop (8 * i)).take 8) (isBits_take (isBits_drop h _) _)
  have h2 : ((l.drop (8 * i)).take 8).length ≤ 8 := List.length_take_le _ _
  have h3 : 2 ^ ((l.drop (8 * i)).take 8).length ≤ 2 ^ 8 := Nat.pow_le_pow_right (by decide) h2
  omega
theorem bits8_bytesOf (l : List Nat) (h : isBits l) (h8 : l.length % 8 = 0) : bits8 (bytesOf l) = l := by
  obtain ⟨k, hk⟩ : ∃ k, l.length = 8 * k := ⟨l.length / 8, by omega⟩
  clear h8
  have key : ∀ (k : Nat) (l : List Nat), isBits l → l.length = 8 * k → ∃ bs : List Nat, l = bits8 bs ∧ ∀ b ∈ bs, b < 256 := by
    intro k
    induction k with
    | zero => intro l _ hl; exact ⟨[], List.eq_nil_of_length_eq_zero (by omega), by simp⟩
    | succ k ih =>
      intro l hb hl
      obtain ⟨bs, h1, h2⟩ := ih (l.drop 8) (isBits_drop hb 8) (by rw [List.length_drop]; omega)
      have h3 : (l.take 8).length = 8 := by rw [List.length_take]; omega
      have h4 := bitsOf_numOf (l.take 8) (isBits_take hb 8)
      have h5 := numOf_lt (l.take 8) (isBits_take hb 8)
      rw [h3] at h4 h5
      refine ⟨numOf (l.take 8) :: bs, ?_, ?_⟩
      · rw [bits8_cons, h4, ← h1, List.take_append_drop]
      · intro b hb'
        rcases List.mem_cons.1 hb' with rfl | hb'
        · exact h5
        · exact h2 b hb'
  obtain ⟨bs, h1, h2⟩ := key k l h hk
  have h3 := bytesOf_bits8 bs [] h2 (by decide)
  rw [List.append_nil] at h3
  rw [h1, h3]
/-- Zeros up to a whole byte. -/
def evened (l : List Nat) : List Nat := l ++ List.replicate ((8 - l.length % 8) % 8) 0
theorem evened_length (l : List Nat) : (evened l).length % 8 = 0 := by
  simp only [evened, List.length_append, List.length_replicate]; omega
theorem evened_le (l : List Nat) : (evened l).length ≤ l.length + 7 := by
  simp only [evened, List.length_append, List.length_replicate]; omega
theorem evened_isBits {l : List Nat} (h : isBits l) : isBits (evened l) :=
  isBits_append h fun b hb => by rw [List.eq_of_mem_replicate hb]; omega

/-- Bytes as the cells of a slice. -/
def u8s (l : List Nat) : List Value := l.map fun (b : Nat) => Value.int .u8 (b : Int)
theorem u8s_length (l : List Nat) : (u8s l).length = l.length := by simp [u8s]
theorem u8s_append (l m : List Nat) : u8s (l ++ m) = u8s l ++ u8s m := by simp [u8s]
theorem u8s_get (l : List Nat) (j : Nat) : (u8s l)[j]? = (l[j]?).map fun (b : Nat) => Value.int .u8 (b : Int) := by simp [u8s]
theorem u8s_one (l : List Nat) : ∀ u ∈ u8s l, u.oneCell' = true := by
  intro u hu
  obtain ⟨_, _, rfl⟩ := List.mem_map.1 hu
  rfl
theorem u8s_inj {l m : List Nat} (h : u8s l = u8s m) : l = m := by
  induction l generalizing m with
  | nil => cases m with | nil => rfl | cons b m => cases h
  | cons a l ih =>
    cases m with
    | nil => cases h
    | cons b m =>
      simp only [u8s, List.map_cons, List.cons.injEq, Value.int.injEq, true_and] at h
      have := ih (m := m) h.2
      rw [this]
      congr 1
      omega
end Go.Proofs.YtkdmdbojcdonpaaGreatDoor
