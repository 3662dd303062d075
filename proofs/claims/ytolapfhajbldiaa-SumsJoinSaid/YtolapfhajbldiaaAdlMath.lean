/-
  Adler-32 with halves that are reduced only now and then.
-/
import Derived.Test.YtolapfhajbldiaaSumsMath
namespace Go.Proofs.Ytolapfhajbldiaa
def raw (p : Nat × Nat) (l : List Nat) : Nat × Nat := l.foldl (fun p b => (p.1 + b, p.2 + (p.1 + b))) p
theorem raw_snoc (p : Nat × Nat) (l : List Nat) (b : Nat) : raw p (l ++ [b]) = ((raw p l).1 + b, (raw p l).2 + ((raw p l).1 + b)) := by simp [raw]
theorem raw_mod (l : List Nat) : ∀ x y : Nat, ((raw (x, y) l).1 % 65521, (raw (x, y) l).2 % 65521) = adl (x % 65521, y % 65521) l := by
  induction l with
  | nil => intro x y; rfl
  | cons b l ih =>
    intro x y
    rw [adl_cons]
    have h := ih (x + b) (y + (x + b))
    show ((raw (x + b, y + (x + b)) l).1 % 65521, (raw (x + b, y + (x + b)) l).2 % 65521) = _
    rw [h]
    congr 2
    · show (x + b) % 65521 = (x % 65521 + b) % 65521
      omega
    · show (y + (x + b)) % 65521 = (y % 65521 + (x % 65521 + b) % 65521) % 65521
      omega
theorem raw_le (l : List Nat) (hb : ∀ b ∈ l, b < 256) : ∀ x y : Nat, (raw (x, y) l).1 ≤ x + 255 * l.length ∧ (raw (x, y) l).2 ≤ y + l.length * (x + 255 * l.length) := by
  induction l with
  | nil => intro x y; simp [raw]
  | cons b l ih =>
    intro x y
    have h := ih (fun c hc => hb c (by simp [hc])) (x + b) (y + (x + b))
    have h1 := hb b (by simp)
    show (raw (x + b, y + (x + b)) l).1 ≤ _ ∧ (raw (x + b, y + (x + b)) l).2 ≤ _
    rw [List.length_cons]
    refine ⟨by omega, ?_⟩
    have h2 : l.length * (x + b + 255 * l.length) ≤ l.length * (x + 255 * (l.length + 1)) := Nat.mul_le_mul_left _ (by omega)
    have h3 : (l.length + 1) * (x + 255 * (l.length + 1)) = l.length * (x + 255 * (l.length + 1)) + (x + 255 * (l.length + 1)) := by rw [Nat.add_mul, Nat.one_mul]
    omega
/-- far from the end of 64 bits -/
theorem raw_lt (l : List Nat) (hb : ∀ b ∈ l, b < 256) (hl : l.length ≤ 1048576) (x y : Nat) (hx : x < 65521) (hy : y < 65521) : (raw (x, y) l).1 < 300000000 ∧ (raw (x, y) l).2 < 300000000000000 := by
  have h := raw_le l hb x y
  have h2 : l.length * (x + 255 * l.length) ≤ 1048576 * 267452401 := Nat.mul_le_mul hl (by omega)
  omega
theorem adl_mod (x y : Nat) (l : List Nat) (hx : x < 65521) (hy : y < 65521) : adl (x, y) l = ((raw (x, y) l).1 % 65521, (raw (x, y) l).2 % 65521) := by
  rw [raw_mod, Nat.mod_eq_of_lt hx, Nat.mod_eq_of_lt hy]
end Go.Proofs.Ytolapfhajbldiaa
