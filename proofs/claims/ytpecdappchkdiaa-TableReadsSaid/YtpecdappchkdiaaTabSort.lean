/-
  Symbols sorted by their codes, by counting; and how a code is read by counts, one bit after the other. No program is named here.
-/
import Derived.Test.YtpecdappchkdiaaTabMath
namespace Go.Proofs.Ytpecdappchkdiaa

/-- how many symbols have shorter codes than z bits -/
def offC (l : List Int) : Nat → Nat
  | 0 => 0
  | 1 => 0
  | n + 2 => offC l (n + 1) + l.count ((n + 1 : Nat) : Int)
theorem offC_succ (l : List Int) (z : Nat) (h : 1 ≤ z) : offC l (z + 1) = offC l z + l.count (z : Int) := by
  obtain ⟨n, rfl⟩ : ∃ n, z = n + 1 := ⟨z - 1, by omega⟩
  rfl
theorem fstC_succ (l : List Int) (z : Nat) (h : 1 ≤ z) : fstC l (z + 1) = 2 * (fstC l z + l.count (z : Int)) := by
  obtain ⟨n, rfl⟩ : ∃ n, z = n + 1 := ⟨z - 1, by omega⟩
  rfl
theorem offC_mono (l : List Int) (z : Nat) (h : 1 ≤ z) : ∀ d, offC l z + l.count (z : Int) ≤ offC l (z + 1 + d)
  | 0 => by rw [Nat.add_zero, offC_succ l z h]; exact Nat.le_refl _
  | d + 1 => by
    have ih := offC_mono l z h d
    rw [← Nat.add_assoc, offC_succ l (z + 1 + d) (by omega)]; omega
theorem offC_app (l m : List Int) : ∀ z, offC (l ++ m) z = offC l z + offC m z
  | 0 => rfl
  | 1 => rfl
  | z + 2 => by
    rw [offC_succ _ (z + 1) (by omega), offC_succ _ (z + 1) (by omega), offC_succ _ (z + 1) (by omega), offC_app l m (z + 1), List.count_append]; omega
theorem offC_nil : ∀ z, offC [] z = 0
  | 0 => rfl
  | 1 => rfl
  | z + 2 => by rw [offC_succ _ (z + 1) (by omega), offC_nil (z + 1)]; simp
theorem offC_one (a : Int) : ∀ z, offC [a] z ≤ if a < (z : Int) then 1 else 0
  | 0 => Nat.zero_le _
  | 1 => Nat.zero_le _
  | z + 2 => by
    have ih := offC_one a (z + 1)
    rw [offC_succ _ (z + 1) (by omega), List.count_singleton]
    by_cases e : a = ((z + 1 : Nat) : Int)
    · have h1 : ¬ a < ((z + 1 : Nat) : Int) := by omega
      have h2 : a < ((z + 2 : Nat) : Int) := by omega
      rw [if_neg h1] at ih
      rw [if_pos h2, if_pos (by simpa using e)]; omega
    · rw [if_neg (by simpa using e)]
      by_cases h1 : a < ((z + 1 : Nat) : Int)
      · have h2 : a < ((z + 2 : Nat) : Int) := by omega
        rw [if_pos h1] at ih
        rw [if_pos h2]; omega
      · rw [if_neg h1] at ih
        omega
theorem offC_le (l : List Int) (z : Nat) : offC l z ≤ l.length := by
  induction l with
  | nil => rw [offC_nil]; exact Nat.zero_le _
  | cons a l ih =>
    have h := offC_app [a] l z
    have h1 := offC_one a z
    rw [List.singleton_append] at h
    rw [h, List.length_cons]
    split at h1 <;> omega
theorem offC_end (l : List Int) (z : Nat) (h : 1 ≤ z) : offC l z + l.count (z : Int) ≤ l.length := by
  rw [← offC_succ l z h]; exact offC_le l _
/-- the place of symbol i, of z bits, among the symbols -/
def posC (l : List Int) (i z : Nat) : Nat := offC l z + (l.take i).count (z : Int)
theorem count_here (l : List Int) (i z : Nat) (h : l[i]? = some (z : Int)) : (l.take i).count (z : Int) < l.count (z : Int) := by
  have h1 := count_take_succ l i (z : Int) (z : Int) h
  have h2 := count_take_le l (i + 1) (z : Int)
  rw [if_pos rfl] at h1; omega
theorem posC_lt (l : List Int) (i z : Nat) (h : l[i]? = some (z : Int)) (hz : 1 ≤ z) : posC l i z < l.length := by
  have h1 := count_here l i z h
  have h2 := offC_end l z hz
  unfold posC; omega
theorem posC_ne (l : List Int) (i k z y : Nat) (h : l[i]? = some (z : Int)) (h2 : l[k]? = some (y : Int)) (hz : 1 ≤ z) (hy : 1 ≤ y) (hne : i ≠ k) : posC l i z ≠ posC l k y := by
  have h3 := count_here l i z h
  have h4 := count_here l k y h2
  unfold posC
  rcases Nat.lt_trichotomy z y with hlt | rfl | hlt
  · have := offC_mono l z hz (y - (z + 1))
    rw [show z + 1 + (y - (z + 1)) = y by omega] at this; omega
  · rcases Nat.lt_or_gt_of_ne hne with hik | hik
    · have h5 := count_take_succ l i (z : Int) (z : Int) h
      have h6 := count_take_mono l (i + 1) k hik (z : Int)
      rw [if_pos rfl] at h5; omega
    · have h5 := count_take_succ l k (z : Int) (z : Int) h2
      have h6 := count_take_mono l (k + 1) i hik (z : Int)
      rw [if_pos rfl] at h5; omega
  · have := offC_mono l y hy (z - (y + 1))
    rw [show y + 1 + (z - (y + 1)) = z by omega] at this; omega
/-- The first k symbols are in their places. -/
def Placed (l : List Int) (k : Nat) (A : List Nat) : Prop := ∀ i z : Nat, i < k → l[i]? = some (z : Int) → 1 ≤ z → A[posC l i z]? = some i
theorem Placed.zero (l : List Int) (A : List Nat) : Placed l 0 A := fun _ _ h => by omega
theorem Placed.skip {l : List Int} {k : Nat} {A : List Nat} (h : Placed l k A) (hk : ∀ z : Nat, l[k]? = some (z : Int) → z = 0) : Placed l (k + 1) A := fun i z hi hz h1 => by
  by_cases e : i = k
  · subst e; have := hk z hz; omega
  · exact h i z (by omega) hz h1
theorem Placed.step {l : List Int} {k z : Nat} {A : List Nat} (h : Placed l k A) (hk : l[k]? = some (z : Int)) (hz : 1 ≤ z) (hA : l.length ≤ A.length) : Placed l (k + 1) (A.set (posC l k z) k) := fun i y hi hy h1 => by
  by_cases e : i = k
  · subst e
    rw [hk] at hy
    simp only [Option.some.injEq] at hy
    obtain rfl : z = y := by omega
    rw [List.getElem?_set_self (Nat.lt_of_lt_of_le (posC_lt l i z hk hz) hA)]
  · rw [List.getElem?_set_ne (posC_ne l k i z y hk hy hz h1 (fun h => e h.symm))]
    exact h i y (by omega) hy h1
theorem Placed.find {l : List Int} {A : List Nat} (h : Placed l l.length A) {z r : Nat} (hz : 1 ≤ z) (hz2 : z ≤ 15) (hr : r < l.count (z : Int)) : ∃ i, A[offC l z + r]? = some i ∧ l[i]? = some (z : Int) ∧ codeAt l i = fstC l z + r := by
  obtain ⟨i, hi, hc⟩ := nth_of_count l (z : Int) r hr
  refine ⟨i, ?_, hi, ?_⟩
  · have := h i z (List.getElem?_eq_some_iff.1 hi).1 hi hz
    rw [posC, hc] at this; exact this
  · rw [codeAt_len l i _ hi (by simp [isLen]; omega), Int.toNat_natCast, hc]

/-! ### reading by counts -/
/-- No code of fewer than z bits is at the front. -/
def Past (l : List Int) (bs : List Nat) (z : Nat) : Prop := ∀ i q, Hit l bs i q → z ≤ q
theorem Past.one (l : List Int) (bs : List Nat) : Past l bs 1 := fun _ _ h => h.2.1
theorem hit_code {l : List Int} {bs : List Nat} {i z : Nat} (h : Hit l bs i z) (hz : z ≤ 15) : hiN (bs.take z) = fstC l z + (l.take i).count (z : Int) ∧ hiN (bs.take z) < fstC l z + l.count (z : Int) := by
  have h1 := h.2.2.2
  have h2 := h.2.1
  rw [codeAt_len l i _ h.1 (by simp [isLen]; omega), Int.toNat_natCast] at h1
  have h3 := count_here l i z h.1
  exact ⟨h1, by omega⟩
theorem Past.next {l : List Int} {bs : List Nat} {z : Nat} (h : Past l bs z) (hz : z ≤ 15) (hv : fstC l z + l.count (z : Int) ≤ hiN (bs.take z)) : Past l bs (z + 1) := fun i q hh => by
  have h1 := h i q hh
  by_cases e : q = z
  · subst e; have := (hit_code hh hz).2; omega
  · omega
theorem over_next {l : List Int} {bs : List Nat} {z b : Nat} (hz : 1 ≤ z) (hv : fstC l z + l.count (z : Int) ≤ hiN (bs.take z)) (hb : bs[z]? = some b) : fstC l (z + 1) ≤ hiN (bs.take (z + 1)) := by
  rw [fstC_succ l z hz, hiN_take bs z b hb]; omega
theorem hit_at {l : List Int} {bs : List Nat} {z i : Nat} (hz : 1 ≤ z) (hzb : z ≤ bs.length) (hi : l[i]? = some (z : Int)) (hc : codeAt l i = hiN (bs.take z)) : Hit l bs i z := ⟨hi, hz, hzb, hc.symm⟩
theorem Placed.hit {l : List Int} {A bs : List Nat} (h : Placed l l.length A) {z : Nat} (hz : 1 ≤ z) (hz2 : z ≤ 15) (hzb : z ≤ bs.length) (h1 : fstC l z ≤ hiN (bs.take z)) (h2 : hiN (bs.take z) < fstC l z + l.count (z : Int)) :
    ∃ i, A[offC l z + (hiN (bs.take z) - fstC l z)]? = some i ∧ Hit l bs i z := by
  obtain ⟨i, ha, hi, hc⟩ := h.find hz hz2 (r := hiN (bs.take z) - fstC l z) (by omega)
  exact ⟨i, ha, hit_at hz hzb hi (by omega)⟩
theorem read_hit {l : List Int} {bs : List Nat} {i z : Nat} (h : Hit l bs i z) : ReadIs l bs i z 0 := .inl ⟨rfl, h⟩
theorem read_short {l : List Int} {bs : List Nat} {z : Nat} (h : Past l bs z) (hz : bs.length < z) (hl : z ≤ lng l) : ReadIs l bs 0 0 5 :=
  .inr ⟨rfl, rfl, fun i q hh => by have h1 := h i q hh; have := hh.2.2.1; omega, by rw [if_pos (.inl (by omega))]⟩
theorem read_empty (l : List Int) : ReadIs l [] 0 0 5 :=
  .inr ⟨rfl, rfl, fun i q hh => by have h1 := hh.2.1; have h2 := hh.2.2.1; simp at h2; omega, by rw [if_pos (.inr rfl)]⟩
theorem read_none {l : List Int} {bs : List Nat} {z : Nat} (h : Past l bs z) (hz : lng l < z) (hl : lng l ≤ bs.length) (hn : bs ≠ []) : ReadIs l bs 0 0 3 :=
  .inr ⟨rfl, rfl, fun i q hh => by have h1 := h i q hh; have := hh.long; omega, by rw [if_neg]; exact fun h => h.elim (fun h => by omega) hn⟩
/-- By a whole code bits are past no code. -/
theorem full_hit {l : List Int} (hl : ∀ a ∈ l, 0 ≤ a ∧ a ≤ 15) (hs : sumOf l = 32768) {bs : List Nat} (hb : isBits bs) {z : Nat} (h : Past l bs z) (hz : lng l < z) (hlen : lng l ≤ bs.length) : False := by
  obtain ⟨i, q, hh⟩ := Hit.whole hl hs hb hlen
  have := h i q hh
  have := hh.long
  omega
end Go.Proofs.Ytpecdappchkdiaa
