/-
  Checksums as plain numbers: one step, many steps, bytes; both are linear over exclusive or, a step loses nothing. No program is named here.
-/
namespace Go.Proofs.YtkdmdbojcdonpaaGreatDoor
set_option maxRecDepth 5000

def stp (x : Nat) : Nat := if x % 2 = 1 then (x / 2) ^^^ 3988292384 else x / 2
def stps : Nat → Nat → Nat
  | 0, x => x
  | k + 1, x => stps k (stp x)
def crcs (s : Nat) (l : List Nat) : Nat := l.foldl (fun s b => stps 8 (s ^^^ b)) s

theorem xor_half (x y : Nat) : (x ^^^ y) / 2 = (x / 2) ^^^ (y / 2) := by
  apply Nat.eq_of_testBit_eq
  intro i
  simp [Nat.testBit_div_two]
theorem xor_odd (x y : Nat) : (x ^^^ y) % 2 = (x % 2 + y % 2) % 2 := by
  have h := Nat.testBit_xor x y 0
  simp only [Nat.testBit_zero] at h
  have h1 : x % 2 = 0 ∨ x % 2 = 1 := by omega
  have h2 : y % 2 = 0 ∨ y % 2 = 1 := by omega
  have h3 : (x ^^^ y) % 2 = 0 ∨ (x ^^^ y) % 2 = 1 := by omega
  rcases h1 with h1 | h1 <;> rcases h2 with h2 | h2 <;> rcases h3 with h3 | h3 <;> simp_all
theorem stp_xor (x y : Nat) : stp (x ^^^ y) = stp x ^^^ stp y := by
  have h := xor_odd x y
  have h1 : x % 2 = 0 ∨ x % 2 = 1 := by omega
  have h2 : y % 2 = 0 ∨ y % 2 = 1 := by omega
  unfold stp
  rw [h, xor_half]
  rcases h1 with h1 | h1 <;> rcases h2 with h2 | h2 <;> simp only [h1, h2] <;> simp
  · rw [Nat.xor_assoc]
  · rw [Nat.xor_assoc, Nat.xor_assoc, Nat.xor_comm 3988292384 (y / 2)]
  · rw [← Nat.xor_assoc, Nat.xor_assoc (x / 2) 3988292384 (y / 2), Nat.xor_comm 3988292384 (y / 2), ← Nat.xor_assoc, Nat.xor_assoc _ 3988292384 3988292384, Nat.xor_self, Nat.xor_zero]
theorem stp_zero : stp 0 = 0 := rfl
theorem stps_zero (k : Nat) : stps k 0 = 0 := by
  induction k with
  | zero => rfl
  | succ k ih => exact ih
theorem stps_xor (k x y : Nat) : stps k (x ^^^ y) = stps k x ^^^ stps k y := by
  induction k generalizing x y with
  | zero => rfl
  | succ k ih => rw [stps, stp_xor, ih]; rfl
theorem stps_add (j k x : Nat) : stps (j + k) x = stps k (stps j x) := by
  induction j generalizing x with
  | zero => simp [stps]
  | succ j ih => rw [show j + 1 + k = (j + k) + 1 by omega, stps, stps, ih]
theorem stps_succ (k x : Nat) : stps (k + 1) x = stp (stps k x) := by rw [stps_add]; rfl
theorem stp_lt {x : Nat} (h : x < 2 ^ 32) : stp x < 2 ^ 32 := by
  unfold stp
  split
  · exact Nat.xor_lt_two_pow (by omega) (by decide)
  · omega
theorem stps_lt (k : Nat) {x : Nat} (h : x < 2 ^ 32) : stps k x < 2 ^ 32 := by
  induction k generalizing x with
  | zero => exact h
  | succ k ih => exact ih (stp_lt h)
/-- nothing but nothing comes to nothing -/
theorem stp_ne {x : Nat} (h : x < 2 ^ 32) (hx : x ≠ 0) : stp x ≠ 0 := by
  unfold stp
  split
  · intro h0
    have h1 : (x / 2 ^^^ 3988292384).testBit 31 = true := by
      rw [Nat.testBit_xor, Nat.testBit_lt_two_pow (x := x / 2) (by omega)]; decide
    rw [h0] at h1
    simp at h1
  · omega
theorem stps_ne (k : Nat) {x : Nat} (h : x < 2 ^ 32) (hx : x ≠ 0) : stps k x ≠ 0 := by
  induction k generalizing x with
  | zero => exact hx
  | succ k ih => exact ih (stp_lt h) (stp_ne h hx)
theorem stps_two (k x : Nat) : stps k (2 ^ k * x) = x := by
  induction k with
  | zero => simp [stps]
  | succ k ih =>
    have h1 : 2 ^ (k + 1) * x = 2 * (2 ^ k * x) := by rw [Nat.pow_succ]; rw [Nat.mul_comm (2 ^ k) 2, Nat.mul_assoc]
    have h : stp (2 ^ (k + 1) * x) = 2 ^ k * x := by rw [h1]; unfold stp; rw [if_neg (by omega)]; omega
    rw [stps, h, ih]
theorem xor_add (a y : Nat) (k : Nat) (h : a < 2 ^ k) : a + 2 ^ k * y = a ^^^ (2 ^ k * y) := by
  apply Nat.eq_of_testBit_eq
  intro i
  rw [Nat.add_comm, Nat.testBit_two_pow_mul_add _ h, Nat.testBit_xor, Nat.testBit_two_pow_mul]
  by_cases hi : i < k
  · have hi' : ¬ k ≤ i := by omega
    simp [hi, hi']
  · rw [if_neg hi, Nat.testBit_lt_two_pow (Nat.lt_of_lt_of_le h (Nat.pow_le_pow_right (by decide) (by omega)))]
    simp; omega
/-- eight steps over a number of many bits: its lowest byte's come to, beside the rest. -/
theorem stps_byte (x : Nat) : stps 8 x = stps 8 (x % 256) ^^^ (x / 256) := by
  have h : x = (x % 256) ^^^ (2 ^ 8 * (x / 256)) := by rw [← xor_add _ _ 8 (by omega)]; omega
  have h2 := stps_xor 8 (x % 256) (2 ^ 8 * (x / 256))
  rw [← h, stps_two] at h2
  exact h2

theorem crcs_nil (s : Nat) : crcs s [] = s := rfl
theorem crcs_cons (s b : Nat) (l : List Nat) : crcs s (b :: l) = crcs (stps 8 (s ^^^ b)) l := rfl
theorem crcs_append (s : Nat) (l m : List Nat) : crcs s (l ++ m) = crcs (crcs s l) m := by simp [crcs]
theorem crcs_snoc (s : Nat) (l : List Nat) (b : Nat) : crcs s (l ++ [b]) = stps 8 (crcs s l ^^^ b) := by rw [crcs_append]; rfl
theorem crcs_xor (s t : Nat) (l : List Nat) : crcs (s ^^^ t) l = stps (8 * l.length) s ^^^ crcs t l := by
  induction l generalizing s t with
  | nil => rfl
  | cons b l ih =>
    rw [crcs_cons, crcs_cons, Nat.xor_assoc, stps_xor, ih, List.length_cons, show 8 * (l.length + 1) = 8 + 8 * l.length by omega, stps_add]
theorem crcs_two (s t : Nat) (l m : List Nat) (h : l.length = m.length) : crcs (s ^^^ t) (List.zipWith (· ^^^ ·) l m) = crcs s l ^^^ crcs t m := by
  induction l generalizing s t m with
  | nil => cases m with
    | nil => rfl
    | cons b m => simp at h
  | cons a l ih => cases m with
    | nil => simp at h
    | cons b m =>
      rw [List.zipWith_cons_cons, crcs_cons, crcs_cons, crcs_cons, ← ih _ _ _ (by simpa using h), ← stps_xor]
      congr 2
      rw [Nat.xor_assoc, Nat.xor_assoc]
      congr 1
      rw [← Nat.xor_assoc, Nat.xor_comm t a, Nat.xor_assoc]
theorem crcs_lt {s : Nat} {l : List Nat} (hs : s < 2 ^ 32) (hl : ∀ b ∈ l, b < 256) : crcs s l < 2 ^ 32 := by
  induction l generalizing s with
  | nil => exact hs
  | cons b l ih =>
    rw [crcs_cons]
    exact ih (stps_lt 8 (Nat.xor_lt_two_pow hs (Nat.lt_of_lt_of_le (hl b (by simp)) (by decide)))) (fun c hc => hl c (by simp [hc]))
theorem crcs_noughts (k : Nat) : crcs 0 (List.replicate k 0) = 0 := by
  induction k with
  | zero => rfl
  | succ k ih => rw [List.replicate_succ, crcs_cons, Nat.xor_zero, stps_zero, ih]
/-- the bytes of a number, the lowest first -/
def bytesN : Nat → Nat → List Nat
  | 0, _ => []
  | k + 1, x => x % 256 :: bytesN k (x / 256)
theorem bytesN_length (k x : Nat) : (bytesN k x).length = k := by
  induction k generalizing x with
  | zero => rfl
  | succ k ih => simp [bytesN, ih]
theorem crcs_bytesN (k : Nat) : ∀ s x : Nat, x < 256 ^ k → crcs s (bytesN k x) = stps (8 * k) (s ^^^ x) := by
  induction k with
  | zero => intro s x h; obtain rfl : x = 0 := by simp at h; omega
            simp [bytesN, crcs_nil, stps]
  | succ k ih =>
    intro s x h
    have h2 : x / 256 < 256 ^ k := by rw [Nat.pow_succ] at h; omega
    rw [bytesN, crcs_cons, show 8 * (k + 1) = 8 + 8 * k by omega, stps_add, stps_xor 8 s x, stps_byte x, ← Nat.xor_assoc, ← stps_xor]
    rw [ih _ _ h2]
/-- the two ends' inversions -/
theorem inv_xor {x : Nat} (h : x < 2 ^ 32) : 4294967295 - x = x ^^^ 4294967295 := by
  apply Nat.eq_of_testBit_eq
  intro i
  rw [show 4294967295 - x = 2 ^ 32 - (x + 1) by omega, Nat.testBit_two_pow_sub_succ h, Nat.testBit_xor, show (4294967295 : Nat) = 2 ^ 32 - 1 by decide, Nat.testBit_two_pow_sub_one]
  by_cases hi : i < 32
  · simp [hi]
  · have hx : x.testBit i = false := Nat.testBit_lt_two_pow (Nat.lt_of_lt_of_le h (Nat.pow_le_pow_right (by decide) (by omega)))
    simp [hi, hx]
def crcOf (c : Nat) (l : List Nat) : Nat := crcs (c ^^^ 4294967295) l ^^^ 4294967295
theorem crcOf_append (c : Nat) (l m : List Nat) : crcOf c (l ++ m) = crcOf (crcOf c l) m := by
  unfold crcOf
  rw [crcs_append, Nat.xor_assoc _ 4294967295 4294967295, Nat.xor_self, Nat.xor_zero]
theorem crcOf_join (l m : List Nat) : crcOf 0 (l ++ m) = stps (8 * m.length) (crcOf 0 l) ^^^ crcOf 0 m := by
  rw [crcOf_append]
  unfold crcOf
  rw [Nat.zero_xor]
  obtain ⟨g, hg⟩ : ∃ g, g = crcs 4294967295 l := ⟨_, rfl⟩
  rw [← hg]
  have e1 := crcs_xor g 0 m
  have e2 := crcs_xor 4294967295 0 m
  rw [Nat.xor_zero] at e1 e2
  rw [Nat.xor_assoc g, Nat.xor_self, Nat.xor_zero, e1, e2, stps_xor]
  simp only [Nat.xor_assoc]
  rw [← Nat.xor_assoc (stps (8 * m.length) 4294967295) (stps (8 * m.length) 4294967295), Nat.xor_self, Nat.zero_xor]
/-- what differs in at most 32 bits beside each other has another checksum -/
theorem crcOf_tell (pre post five : List Nat) (bend sh : Nat) (hb : bend < 2 ^ 32) (hb0 : bend ≠ 0) (hs : sh < 8) (hf : five.length = 5) (c : Nat) :
    crcOf c (pre ++ five ++ post) ≠ crcOf c (pre ++ List.zipWith (· ^^^ ·) five (bytesN 5 (2 ^ sh * bend)) ++ post) := by
  intro h
  unfold crcOf at h
  have h1 := congrArg (· ^^^ 4294967295) h
  simp only [Nat.xor_assoc, Nat.xor_self, Nat.xor_zero] at h1
  rw [crcs_append, crcs_append, crcs_append, crcs_append] at h1
  obtain ⟨s, hs0⟩ : ∃ s, s = crcs (c ^^^ 4294967295) pre := ⟨_, rfl⟩
  rw [← hs0] at h1
  have hx : 2 ^ sh * bend < 256 ^ 5 := by
    have h2 : 2 ^ sh ≤ 2 ^ 7 := Nat.pow_le_pow_right (by decide) (by omega)
    have h3 : 2 ^ sh * bend < 2 ^ 7 * 2 ^ 32 := Nat.lt_of_le_of_lt (Nat.mul_le_mul_right _ h2) (Nat.mul_lt_mul_of_pos_left hb (by decide))
    exact Nat.lt_trans h3 (by decide)
  have h2 := crcs_two s 0 five (bytesN 5 (2 ^ sh * bend)) (by rw [bytesN_length, hf])
  rw [Nat.xor_zero, crcs_bytesN 5 0 _ hx, Nat.zero_xor, show 8 * 5 = sh + (40 - sh) by omega, stps_add, stps_two] at h2
  rw [h2, Nat.xor_comm, crcs_xor, Nat.xor_comm] at h1
  have h3 : stps (8 * post.length) (stps (40 - sh) bend) = 0 := by
    have h4 := congrArg (crcs (crcs s five) post ^^^ ·) h1
    simp only [Nat.xor_self] at h4
    have h5 : stps (8 * post.length) (stps (40 - sh) bend) = crcs (crcs s five) post ^^^ (crcs (crcs s five) post ^^^ stps (8 * post.length) (stps (40 - sh) bend)) := by
      rw [← Nat.xor_assoc, Nat.xor_self, Nat.zero_xor]
    rw [h5]
    first
      | exact h4.symm
      | (rw [Nat.xor_comm (crcs (crcs s five) post) (stps _ _)]; exact h4.symm)
  exact stps_ne _ (stps_lt _ hb) (stps_ne _ hb hb0) h3

/-! ### Linear maps as matrices -/
structure Lin (f : Nat → Nat) : Prop where
  xor : ∀ x y, f (x ^^^ y) = f x ^^^ f y
  lt : ∀ x, x < 4294967296 → f x < 4294967296
theorem Lin.zero {f : Nat → Nat} (h : Lin f) : f 0 = 0 := by
  have := h.xor 0 0
  rw [Nat.xor_self, Nat.xor_self] at this
  exact this
theorem Lin.comp {f g : Nat → Nat} (h : Lin f) (k : Lin g) : Lin (fun x => f (g x)) := ⟨fun x y => by rw [k.xor, h.xor], fun x hx => h.lt _ (k.lt x hx)⟩
theorem lin_stps (k : Nat) : Lin (stps k) := ⟨stps_xor k, fun _ hx => stps_lt k hx⟩
def matOf (f : Nat → Nat) : List Nat := (List.range 32).map fun i => f (2 ^ i)
theorem matOf_length (f : Nat → Nat) : (matOf f).length = 32 := by simp [matOf]
theorem matOf_get (f : Nat → Nat) (i : Nat) (h : i < 32) : (matOf f)[i]? = some (f (2 ^ i)) := by simp [matOf, List.getElem?_map, List.getElem?_range h]
def matPart (f : Nat → Nat) (k : Nat) : List Nat := ((List.range k).map fun i => f (2 ^ i)) ++ List.replicate (32 - k) 0
theorem matPart_zero (f : Nat → Nat) : matPart f 0 = List.replicate 32 0 := rfl
theorem matPart_all (f : Nat → Nat) : matPart f 32 = matOf f := by simp [matPart, matOf]
theorem matPart_length (f : Nat → Nat) (k : Nat) (h : k ≤ 32) : (matPart f k).length = 32 := by simp [matPart]; omega
theorem matPart_set (f : Nat → Nat) (k : Nat) (h : k < 32) : (matPart f k).set k (f (2 ^ k)) = matPart f (k + 1) := by
  unfold matPart
  rw [List.range_succ, List.map_append, List.set_append_right _ _ (by simp)]
  rw [show 32 - k = (32 - (k + 1)) + 1 by omega, List.replicate_succ]
  simp
theorem mod_step_one (v i : Nat) (h : v / 2 ^ i % 2 = 1) : v % 2 ^ (i + 1) = (v % 2 ^ i) ^^^ 2 ^ i := by
  have h1 : v % 2 ^ (i + 1) = v % 2 ^ i + 2 ^ i * 1 := by rw [Nat.mod_pow_succ, h]
  rw [h1, xor_add _ _ i (Nat.mod_lt _ (Nat.two_pow_pos i)), Nat.mul_one]
theorem mod_step_none (v i : Nat) (h : ¬ v / 2 ^ i % 2 = 1) : v % 2 ^ (i + 1) = v % 2 ^ i := by
  rw [Nat.mod_pow_succ, show v / 2 ^ i % 2 = 0 by omega, Nat.mul_zero, Nat.add_zero]
theorem Lin.one {f : Nat → Nat} (h : Lin f) (v i : Nat) (hv : v / 2 ^ i % 2 = 1) : f (v % 2 ^ (i + 1)) = f (v % 2 ^ i) ^^^ f (2 ^ i) := by rw [mod_step_one v i hv, h.xor]

/-! ### Adler-32: both halves by sums -/
def adl (p : Nat × Nat) (l : List Nat) : Nat × Nat := l.foldl (fun p b => ((p.1 + b) % 65521, (p.2 + (p.1 + b) % 65521) % 65521)) p
theorem adl_nil (p : Nat × Nat) : adl p [] = p := rfl
theorem adl_cons (p : Nat × Nat) (b : Nat) (l : List Nat) : adl p (b :: l) = adl ((p.1 + b) % 65521, (p.2 + (p.1 + b) % 65521) % 65521) l := rfl
theorem adl_append (p : Nat × Nat) (l m : List Nat) : adl p (l ++ m) = adl (adl p l) m := by simp [adl]
theorem adl_snoc (p : Nat × Nat) (l : List Nat) (b : Nat) : adl p (l ++ [b]) = (((adl p l).1 + b) % 65521, ((adl p l).2 + ((adl p l).1 + b) % 65521) % 65521) := by rw [adl_append]; rfl
theorem adl_lt {p : Nat × Nat} (h1 : p.1 < 65521) (h2 : p.2 < 65521) (l : List Nat) : (adl p l).1 < 65521 ∧ (adl p l).2 < 65521 := by
  induction l generalizing p with
  | nil => exact ⟨h1, h2⟩
  | cons b l ih => exact ih (Nat.mod_lt _ (by decide)) (Nat.mod_lt _ (by decide))
/-- another beginning turns both halves by what it differs -/
theorem adl_shift (x y : Nat) (d e : Nat) (l : List Nat) :
    adl ((x + d) % 65521, (y + e) % 65521) l = (((adl (x % 65521, y % 65521) l).1 + d) % 65521, ((adl (x % 65521, y % 65521) l).2 + e + l.length * d) % 65521) := by
  induction l generalizing x y d e with
  | nil => simp [adl_nil]
  | cons b l ih =>
    rw [adl_cons, adl_cons]
    have h1 : ((x + d) % 65521 + b) % 65521 = ((x % 65521 + b) % 65521 + d) % 65521 := by omega
    have h2 : ((y + e) % 65521 + ((x % 65521 + b) % 65521 + d) % 65521) % 65521 = ((y % 65521 + (x % 65521 + b) % 65521) + (e + d)) % 65521 := by omega
    have h3 := ih ((x % 65521 + b) % 65521) (y % 65521 + (x % 65521 + b) % 65521) d (e + d)
    simp only [h1, h2]
    rw [h3, Nat.mod_mod]
    congr 1
    congr 1
    rw [List.length_cons, Nat.add_mul]
    omega
end Go.Proofs.YtkdmdbojcdonpaaGreatDoor
