/-
  What a law is handed: a struct of eleven fields. No program is named here.
-/
import Derived.Test.YtkdmdbojcdonpaaOpen
namespace Go.Proofs.Ytkdmdbojcdonpaa
set_option maxRecDepth 5000
open Go.RowKit

section
variable {P : Program}
set_option maxHeartbeats 6400000 in
set_option maxRecDepth 100000 in
def shStruct11 {α0 : Type} {α1 : Type} {α2 : Type} {α3 : Type} {α4 : Type} {α5 : Type} {α6 : Type} {α7 : Type} {α8 : Type} {α9 : Type} {α10 : Type} (S0 : Shape P α0) (S1 : Shape P α1) (S2 : Shape P α2) (S3 : Shape P α3) (S4 : Shape P α4) (S5 : Shape P α5) (S6 : Shape P α6) (S7 : Shape P α7) (S8 : Shape P α8) (S9 : Shape P α9) (S10 : Shape P α10) (t : TypeId) {f0 f1 f2 f3 f4 f5 f6 f7 f8 f9 f10 : Field} (ht : P.underlying t = some (.struct #[f0, f1, f2, f3, f4, f5, f6, f7, f8, f9, f10])) (hc : P.cellsOf t = S0.size + S1.size + S2.size + S3.size + S4.size + S5.size + S6.size + S7.size + S8.size + S9.size + S10.size) (e0 : f0.type = S0.t) (o0 : f0.offset = 0) (e1 : f1.type = S1.t) (o1 : f1.offset = S0.size) (e2 : f2.type = S2.t) (o2 : f2.offset = S0.size + S1.size) (e3 : f3.type = S3.t) (o3 : f3.offset = S0.size + S1.size + S2.size) (e4 : f4.type = S4.t) (o4 : f4.offset = S0.size + S1.size + S2.size + S3.size) (e5 : f5.type = S5.t) (o5 : f5.offset = S0.size + S1.size + S2.size + S3.size + S4.size) (e6 : f6.type = S6.t) (o6 : f6.offset = S0.size + S1.size + S2.size + S3.size + S4.size + S5.size) (e7 : f7.type = S7.t) (o7 : f7.offset = S0.size + S1.size + S2.size + S3.size + S4.size + S5.size + S6.size) (e8 : f8.type = S8.t) (o8 : f8.offset = S0.size + S1.size + S2.size + S3.size + S4.size + S5.size + S6.size + S7.size) (e9 : f9.type = S9.t) (o9 : f9.offset = S0.size + S1.size + S2.size + S3.size + S4.size + S5.size + S6.size + S7.size + S8.size) (e10 : f10.type = S10.t) (o10 : f10.offset = S0.size + S1.size + S2.size + S3.size + S4.size + S5.size + S6.size + S7.size + S8.size + S9.size) : Shape P (α0 × α1 × α2 × α3 × α4 × α5 × α6 × α7 × α8 × α9 × α10) where
  t := t
  size := S0.size + S1.size + S2.size + S3.size + S4.size + S5.size + S6.size + S7.size + S8.size + S9.size + S10.size
  good := fun W cs a => ∃ c0 c1 c2 c3 c4 c5 c6 c7 c8 c9 c10, cs = c0 ++ (c1 ++ (c2 ++ (c3 ++ (c4 ++ (c5 ++ (c6 ++ (c7 ++ (c8 ++ (c9 ++ (c10)))))))))) ∧ S0.good W c0 a.1 ∧ S1.good W c1 a.2.1 ∧ S2.good W c2 a.2.2.1 ∧ S3.good W c3 a.2.2.2.1 ∧ S4.good W c4 a.2.2.2.2.1 ∧ S5.good W c5 a.2.2.2.2.2.1 ∧ S6.good W c6 a.2.2.2.2.2.2.1 ∧ S7.good W c7 a.2.2.2.2.2.2.2.1 ∧ S8.good W c8 a.2.2.2.2.2.2.2.2.1 ∧ S9.good W c9 a.2.2.2.2.2.2.2.2.2.1 ∧ S10.good W c10 a.2.2.2.2.2.2.2.2.2.2
  sized := hc
  long := fun _ _ _ ⟨_, _, _, _, _, _, _, _, _, _, _, h, g0, g1, g2, g3, g4, g5, g6, g7, g8, g9, g10⟩ => by
    rw [h]; simp only [List.length_append, S0.long _ _ _ g0, S1.long _ _ _ g1, S2.long _ _ _ g2, S3.long _ _ _ g3, S4.long _ _ _ g4, S5.long _ _ _ g5, S6.long _ _ _ g6, S7.long _ _ _ g7, S8.long _ _ _ g8, S9.long _ _ _ g9, S10.long _ _ _ g10]; try omega
  opens := fun {H enc W fuel cs x} h => by
    obtain ⟨xs, n, _, _, hl, hxl, hf⟩ := DataW.trod_struct ht h
    rw [hc] at hl
    have h0 := hf 0 f0 rfl
    rw [e0, o0, S0.sized, List.getElem?_eq_getElem (by rw [hxl]; simp)] at h0
    obtain ⟨a0, g0⟩ := S0.opens h0
    have h1 := hf 1 f1 rfl
    rw [e1, o1, S1.sized, List.getElem?_eq_getElem (by rw [hxl]; simp)] at h1
    obtain ⟨a1, g1⟩ := S1.opens h1
    have h2 := hf 2 f2 rfl
    rw [e2, o2, S2.sized, List.getElem?_eq_getElem (by rw [hxl]; simp)] at h2
    obtain ⟨a2, g2⟩ := S2.opens h2
    have h3 := hf 3 f3 rfl
    rw [e3, o3, S3.sized, List.getElem?_eq_getElem (by rw [hxl]; simp)] at h3
    obtain ⟨a3, g3⟩ := S3.opens h3
    have h4 := hf 4 f4 rfl
    rw [e4, o4, S4.sized, List.getElem?_eq_getElem (by rw [hxl]; simp)] at h4
    obtain ⟨a4, g4⟩ := S4.opens h4
    have h5 := hf 5 f5 rfl
    rw [e5, o5, S5.sized, List.getElem?_eq_getElem (by rw [hxl]; simp)] at h5
    obtain ⟨a5, g5⟩ := S5.opens h5
    have h6 := hf 6 f6 rfl
    rw [e6, o6, S6.sized, List.getElem?_eq_getElem (by rw [hxl]; simp)] at h6
    obtain ⟨a6, g6⟩ := S6.opens h6
    have h7 := hf 7 f7 rfl
    rw [e7, o7, S7.sized, List.getElem?_eq_getElem (by rw [hxl]; simp)] at h7
    obtain ⟨a7, g7⟩ := S7.opens h7
    have h8 := hf 8 f8 rfl
    rw [e8, o8, S8.sized, List.getElem?_eq_getElem (by rw [hxl]; simp)] at h8
    obtain ⟨a8, g8⟩ := S8.opens h8
    have h9 := hf 9 f9 rfl
    rw [e9, o9, S9.sized, List.getElem?_eq_getElem (by rw [hxl]; simp)] at h9
    obtain ⟨a9, g9⟩ := S9.opens h9
    have h10 := hf 10 f10 rfl
    rw [e10, o10, S10.sized, List.getElem?_eq_getElem (by rw [hxl]; simp)] at h10
    obtain ⟨a10, g10⟩ := S10.opens h10
    refine ⟨(a0, a1, a2, a3, a4, a5, a6, a7, a8, a9, a10), _, _, _, _, _, _, _, _, _, _, _, ?_, g0, g1, g2, g3, g4, g5, g6, g7, g8, g9, g10⟩
    have l10 : (cs.drop (S0.size + S1.size + S2.size + S3.size + S4.size + S5.size + S6.size + S7.size + S8.size + S9.size)).take S10.size = cs.drop (S0.size + S1.size + S2.size + S3.size + S4.size + S5.size + S6.size + S7.size + S8.size + S9.size) := List.take_of_length_le (by rw [List.length_drop]; omega)
    rw [l10]
    rw [show cs.drop (S0.size + S1.size + S2.size + S3.size + S4.size + S5.size + S6.size + S7.size + S8.size + S9.size) = (cs.drop (S0.size + S1.size + S2.size + S3.size + S4.size + S5.size + S6.size + S7.size + S8.size)).drop S9.size by rw [List.drop_drop], List.take_append_drop]
    rw [show cs.drop (S0.size + S1.size + S2.size + S3.size + S4.size + S5.size + S6.size + S7.size + S8.size) = (cs.drop (S0.size + S1.size + S2.size + S3.size + S4.size + S5.size + S6.size + S7.size)).drop S8.size by rw [List.drop_drop], List.take_append_drop]
    rw [show cs.drop (S0.size + S1.size + S2.size + S3.size + S4.size + S5.size + S6.size + S7.size) = (cs.drop (S0.size + S1.size + S2.size + S3.size + S4.size + S5.size + S6.size)).drop S7.size by rw [List.drop_drop], List.take_append_drop]
    rw [show cs.drop (S0.size + S1.size + S2.size + S3.size + S4.size + S5.size + S6.size) = (cs.drop (S0.size + S1.size + S2.size + S3.size + S4.size + S5.size)).drop S6.size by rw [List.drop_drop], List.take_append_drop]
    rw [show cs.drop (S0.size + S1.size + S2.size + S3.size + S4.size + S5.size) = (cs.drop (S0.size + S1.size + S2.size + S3.size + S4.size)).drop S5.size by rw [List.drop_drop], List.take_append_drop]
    rw [show cs.drop (S0.size + S1.size + S2.size + S3.size + S4.size) = (cs.drop (S0.size + S1.size + S2.size + S3.size)).drop S4.size by rw [List.drop_drop], List.take_append_drop]
    rw [show cs.drop (S0.size + S1.size + S2.size + S3.size) = (cs.drop (S0.size + S1.size + S2.size)).drop S3.size by rw [List.drop_drop], List.take_append_drop]
    rw [show cs.drop (S0.size + S1.size + S2.size) = (cs.drop (S0.size + S1.size)).drop S2.size by rw [List.drop_drop], List.take_append_drop]
    rw [show cs.drop (S0.size + S1.size) = (cs.drop (S0.size)).drop S1.size by rw [List.drop_drop], List.take_append_drop]
    rw [show cs.drop (S0.size) = (cs.drop 0).drop S0.size by rw [List.drop_drop, Nat.zero_add], List.take_append_drop, List.drop_zero]
end
end Go.Proofs.Ytkdmdbojcdonpaa
