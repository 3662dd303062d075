/-
  What MatchParts is handed: slices of slices of bytes, slices of bools.
-/
import Derived.Test.YtjmdgcppllnkdaaDoorLawMat3
namespace Go.Proofs.YtjmdgcppllnkdaaDoor
open Go.RowKit

def shMParts : Shape Tryd.prog (List (List Int)) := shSlice shMBs 34 Tryd.underlying34 (by kernel_rfl) (by decide)
def shMBool : Shape Tryd.prog Bool := shBool 4 Tryd.underlying4 (by kernel_rfl)
def shMAsks : Shape Tryd.prog (List Bool) := shSlice shMBool 35 Tryd.underlying35 (by kernel_rfl) (by decide)
theorem parts_of {w : World} {v : Value} {l : List (List Int)} (h : shMParts.good w [v] l) : ∃ vs : List Value, Rd w 1 v vs.length vs ∧ ∀ (i : Nat) (vi : Value), vs[i]? = some vi → ∃ bs : List Nat, (∀ b ∈ bs, b < 256) ∧ Rd w 1 vi bs.length (u8s bs) := by
  obtain ⟨v', hv, hs⟩ := h
  obtain rfl : v = v' := by simpa using hv
  obtain ⟨ao, cap, h1, h2, h3, h4, h5⟩ := hs
  rcases h5 with h5 | ⟨g, off, h5, h6⟩
  · refine ⟨[], ⟨by simp, ao, cap, by rw [h1, h5]; rfl, by simp, h3, h4, .inl rfl⟩, by simp⟩
  · have hel : ∀ i, i < l.length → ∃ vi, w.cell? ⟨g, off + i, none⟩ = some vi ∧ ∃ bs : List Nat, (∀ b ∈ bs, b < 256) ∧ Rd w 1 vi bs.length (u8s bs) := by
      intro i hi
      obtain ⟨xs, hg, hc⟩ := h6 i l[i] (List.getElem?_eq_getElem hi)
      obtain ⟨vi, hvi, hsl⟩ := hg
      have hc0 := hc 0 vi (by rw [hvi]; rfl)
      obtain ⟨bs, _, hb1, hb2⟩ := hsl.bytes
      refine ⟨vi, ?_, bs, hb1, hb2⟩
      have e : off + i * shMBs.size + 0 = off + i := by show off + i * 1 + 0 = _; omega
      rw [e] at hc0
      exact hc0
    refine ⟨(List.range l.length).map fun i => (w.cell? ⟨g, off + i, none⟩).getD undef, ⟨by simp, ao, cap, by rw [h1]; simp, by simpa using h2, h3, h4, .inr ⟨g, off, h5, fun j u hu => ?_⟩⟩, fun i vi hvi => ?_⟩
    · rw [List.getElem?_map, Option.map_eq_some_iff] at hu
      obtain ⟨k, hk, rfl⟩ := hu
      obtain ⟨hk1, hk2⟩ := List.getElem?_eq_some_iff.1 hk
      rw [List.getElem_range] at hk2
      subst hk2
      obtain ⟨vi, hvi, _⟩ := hel j (by simpa using hk1)
      rw [hvi]; rfl
    · rw [List.getElem?_map, Option.map_eq_some_iff] at hvi
      obtain ⟨k, hk, rfl⟩ := hvi
      obtain ⟨hk1, hk2⟩ := List.getElem?_eq_some_iff.1 hk
      rw [List.getElem_range] at hk2
      subst hk2
      obtain ⟨vi, hvi, hb⟩ := hel i (by simpa using hk1)
      rw [hvi]; exact hb
theorem asks_of {w : World} {v : Value} {l : List Bool} (h : shMAsks.good w [v] l) : Rd w 1 v l.length (l.map .bool) := by
  obtain ⟨v', hv, hs⟩ := h
  obtain rfl : v = v' := by simpa using hv
  exact hs.rd .bool (fun W xs a hg => hg) rfl
end Go.Proofs.YtjmdgcppllnkdaaDoor
