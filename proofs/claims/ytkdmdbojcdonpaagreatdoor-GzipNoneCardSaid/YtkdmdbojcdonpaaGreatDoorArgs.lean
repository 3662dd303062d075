/-
  Slices of numbers that came in as arguments, as slices that are read.
-/
import Derived.Test.YtkdmdbojcdonpaaGreatDoorOwn2
import Derived.Test.YtkdmdbojcdonpaaGreatDoorBitsMath
import Derived.OpenShut
namespace Go.Proofs.YtkdmdbojcdonpaaGreatDoor
set_option maxRecDepth 5000
open Go.RowKit

/-- numbers of a kind as the cells of a slice -/
def nums (k : IntKind) (l : List Nat) : List Value := l.map fun (b : Nat) => Value.int k (b : Int)
theorem nums_length (k : IntKind) (l : List Nat) : (nums k l).length = l.length := by simp [nums]
theorem nums_get (k : IntKind) (l : List Nat) (j : Nat) : (nums k l)[j]? = (l[j]?).map fun (b : Nat) => Value.int k (b : Int) := by simp [nums]
theorem nums_u8 (l : List Nat) : nums .u8 l = u8s l := rfl

theorem rd_of_row {k : IntKind} {w : World} {a : Option Addr} {len cap : Nat} {zs : List Int} (hk : ∀ n, (Lit.int k n).wf = true → 0 ≤ n)
    (h : (a = none ∧ len = 0 ∧ cap = 0 ∧ zs = []) ∨ ∃ x, a = some x ∧ len ≤ cap ∧ cap ≤ maxLen ∧ zs.length = cap ∧ (∀ i, i < zs.length → w.cell? (x.add i) = some (.int k (zs.getD i 0))) ∧ ∀ n ∈ zs, (Lit.int k n).wf = true) :
    ∃ l : List Nat, l.length = len ∧ (∀ b ∈ l, (Lit.int k (b : Int)).wf = true) ∧ Rd w 1 (.slice a len cap) len (nums k l) := by
  rcases h with ⟨rfl, rfl, rfl, rfl⟩ | ⟨x, rfl, hl, hm, hz, hc, hw⟩
  · exact ⟨[], rfl, by simp, by simp [nums], none, 0, rfl, Nat.le_refl _, Nat.zero_le _, fun _ => rfl, .inl rfl⟩
  · have hnn : ∀ n ∈ zs, ((n.toNat : Nat) : Int) = n := fun n hn => Int.toNat_of_nonneg (hk n (hw n hn))
    refine ⟨(zs.take len).map Int.toNat, by simp; omega, ?_, ?_⟩
    · intro b hb
      obtain ⟨n, hn, rfl⟩ := List.mem_map.1 hb
      have hn' := List.mem_of_mem_take hn
      rw [hnn n hn']; exact hw n hn'
    · refine ⟨by simp [nums]; omega, some x, cap, rfl, hl, hm, by simp, ?_⟩
      by_cases h0 : len = 0
      · exact .inl h0
      · right
        obtain ⟨b, off, spot⟩ := x
        have hc0 := hc 0 (by omega)
        have hspot : spot = none := by
          have := World.cell?_spot hc0
          simpa [Addr.add] using this
        subst hspot
        refine ⟨b, off, rfl, fun j u hu => ?_⟩
        have hj : j < len := by have := (List.getElem?_eq_some_iff.1 hu).1; simp [nums] at this; omega
        have hcj := hc j (by omega)
        rw [Addr.add_lit] at hcj
        rw [hcj]
        have hzj : zs[j]? = some (zs[j]'(by omega)) := List.getElem?_eq_getElem (by omega)
        have e : (nums k ((zs.take len).map Int.toNat))[j]? = some (.int k (zs[j]'(by omega))) := by
          rw [nums_get, List.getElem?_map, List.getElem?_take_of_lt hj, hzj]
          simp only [Option.map_some]
          rw [hnn _ (List.getElem_mem _)]
        rw [e] at hu
        simp only [List.getD, hzj, Option.getD_some]
        exact hu
theorem rd_of_row8 {w : World} {a : Option Addr} {len cap : Nat} {zs : List Int}
    (h : (a = none ∧ len = 0 ∧ cap = 0 ∧ zs = []) ∨ ∃ x, a = some x ∧ len ≤ cap ∧ cap ≤ maxLen ∧ zs.length = cap ∧ (∀ i, i < zs.length → w.cell? (x.add i) = some (.int .u8 (zs.getD i 0))) ∧ ∀ n ∈ zs, (Lit.int .u8 n).wf = true) :
    ∃ l : List Nat, l.length = len ∧ (∀ b ∈ l, b < 256) ∧ Rd w 1 (.slice a len cap) len (u8s l) := by
  obtain ⟨l, h1, h2, h3⟩ := rd_of_row (k := .u8) (fun n hn => (bounds_u8 hn).1) h
  exact ⟨l, h1, fun b hb => by have := bounds_u8 (h2 b hb); omega, h3⟩
theorem rd_of_row32 {w : World} {a : Option Addr} {len cap : Nat} {zs : List Int}
    (h : (a = none ∧ len = 0 ∧ cap = 0 ∧ zs = []) ∨ ∃ x, a = some x ∧ len ≤ cap ∧ cap ≤ maxLen ∧ zs.length = cap ∧ (∀ i, i < zs.length → w.cell? (x.add i) = some (.int .u32 (zs.getD i 0))) ∧ ∀ n ∈ zs, (Lit.int .u32 n).wf = true) :
    ∃ l : List Nat, l.length = len ∧ (∀ b ∈ l, b < 4294967296) ∧ Rd w 1 (.slice a len cap) len (nums .u32 l) := by
  obtain ⟨l, h1, h2, h3⟩ := rd_of_row (k := .u32) (fun n hn => (bounds_u32 hn).1) h
  exact ⟨l, h1, fun b hb => by have := bounds_u32 (h2 b hb); omega, h3⟩
end Go.Proofs.YtkdmdbojcdonpaaGreatDoor
