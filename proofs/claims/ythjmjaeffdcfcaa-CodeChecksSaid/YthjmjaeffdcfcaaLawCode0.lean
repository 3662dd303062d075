/-
  What the laws of codes are handed: slices of whole numbers.
-/
import Derived.Test.YthjmjaeffdcfcaaCodeH
import Derived.Test.YthjmjaeffdcfcaaOpen
namespace Go.Proofs.Ythjmjaeffdcfcaa
open Go.RowKit

def shInt64 : Shape Try.prog Int := shInt 3 .i64 Try.underlying3 (by kernel_rfl)
def shInts : Shape Try.prog (List Int) := shSlice shInt64 22 Try.underlying22 (by kernel_rfl) (by decide)
theorem ints_of {w : World} {v : Value} {l : List Int} (h : shInts.good w [v] l) : Rd w 1 v l.length (ints l) := by
  obtain ⟨v', hv, hs⟩ := h
  obtain rfl : v = v' := by simpa using hv
  exact hs.rd (fun n => .int .i64 n) (fun W xs a hg => hg.1) rfl
theorem ints_wf {w : World} {v : Value} {l : List Int} (h : shInts.good w [v] l) : ∀ a ∈ l, (Lit.int .i64 a).wf = true := by
  obtain ⟨v', hv, hs⟩ := h
  intro a ha
  obtain ⟨i, hi⟩ := List.mem_iff_getElem?.1 ha
  obtain ⟨xs, h1, h2⟩ := hs.each hi
  exact h2
/-- an element of a slice, where it lies -/
theorem Rd.at {w : World} {g off n cap j : Nat} {xs : List Value} {u : Value} (h : Rd w 1 (.slice (some ⟨g, off, none⟩) n cap) n xs) (hu : xs[j]? = some u) : w.cell? ⟨g, off + j, none⟩ = some u := by
  have hj := (List.getElem?_eq_some_iff.1 hu).1
  obtain ⟨b, o, hb, hc⟩ := h.spot (by have := h.1; omega)
  simp only [Option.some.injEq, Addr.mk.injEq, and_true] at hb
  obtain ⟨rfl, rfl⟩ := hb
  exact hc j u hu
end Go.Proofs.Ythjmjaeffdcfcaa
