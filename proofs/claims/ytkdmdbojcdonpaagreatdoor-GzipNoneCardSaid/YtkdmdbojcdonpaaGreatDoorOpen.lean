/-
  What a law is handed, opened: numbers, bools, strings, slices of any of these, structs. A 'Shape' says what the cells of a type hold; no program is named here.
-/
import Derived.Test.YtkdmdbojcdonpaaGreatDoorHeld
import Derived.Test.YtkdmdbojcdonpaaGreatDoorBitsMath
import Derived.Deep.Slices
import Derived.OpenShut
import Derived.ProofKit
namespace Go.Proofs.YtkdmdbojcdonpaaGreatDoor
set_option maxRecDepth 5000
open Go.RowKit

structure Shape (P : Program) (α : Type) where
  t : TypeId
  size : Nat
  good : World → List Value → α → Prop
  sized : P.cellsOf t = size
  long : ∀ w cs a, good w cs a → cs.length = size
  opens : ∀ {H : Type} {enc : TypeId × Value → H} {W : World} {fuel : Nat} {cs : List Value} {x : DataW H × List MemPlace},
    DataW.trod enc P W 0 (fun _ => true) true fuel t cs = some x → ∃ a, good W cs a

section
variable {P : Program}
def shInt (t : TypeId) (k : IntKind) (ht : P.underlying t = some (.int k)) (hc : P.cellsOf t = 1) : Shape P Int where
  t := t
  size := 1
  good := fun _ cs n => cs = [.int k n] ∧ (Lit.int k n).wf = true
  sized := hc
  long := fun _ _ _ h => by rw [h.1]; rfl
  opens := fun h => by
    obtain ⟨n, h1, _, h2⟩ := DataW.trod_int ht h
    exact ⟨n, h1, h2⟩
def shBool (t : TypeId) (ht : P.underlying t = some .bool) (hc : P.cellsOf t = 1) : Shape P Bool where
  t := t
  size := 1
  good := fun _ cs b => cs = [.bool b]
  sized := hc
  long := fun _ _ _ h => by rw [h]; rfl
  opens := fun h => by
    obtain ⟨b, h1, _⟩ := DataW.trod_bool ht h
    exact ⟨b, h1⟩
def shStr (t : TypeId) (ht : P.underlying t = some .string) (hc : P.cellsOf t = 1) : Shape P ByteArray where
  t := t
  size := 1
  good := fun _ cs s => cs = [.string s] ∧ s.size ≤ maxLen
  sized := hc
  long := fun _ _ _ h => by rw [h.1]; rfl
  opens := fun h => by
    obtain ⟨s, h1, _, h2⟩ := DataW.trod_string ht h
    exact ⟨s, h1, h2⟩
/-- the elements of a slice -/
def IsSlice {α : Type} (S : Shape P α) (W : World) (v : Value) (l : List α) : Prop :=
  ∃ ao cap, v = .slice ao l.length cap ∧ l.length ≤ cap ∧ cap ≤ maxLen ∧ (ao = none → cap = 0) ∧ (l.length = 0 ∨ ∃ g off, ao = some ⟨g, off, none⟩ ∧
    ∀ i a, l[i]? = some a → ∃ xs, S.good W xs a ∧ ∀ j u, xs[j]? = some u → W.cell? ⟨g, off + i * S.size + j, none⟩ = some u)
def shSlice {α : Type} (S : Shape P α) (t : TypeId) (ht : P.underlying t = some (.slice S.t)) (hc : P.cellsOf t = 1) (hs : 0 < S.size) [Inhabited α] : Shape P (List α) where
  t := t
  size := 1
  good := fun W cs l => ∃ v, cs = [v] ∧ IsSlice S W v l
  sized := hc
  long := fun _ _ _ h => by obtain ⟨v, h, _⟩ := h; rw [h]; rfl
  opens := fun {H enc W fuel cs x} h => by
    rcases Go.Deep.open_slice ht h with ⟨hcs, _⟩ | ⟨ad, l, c, m, n, D, Pl, hcs, _, hl, hm, hmm, _, hel⟩
    · exact ⟨[], _, hcs, none, 0, rfl, Nat.le_refl _, Nat.zero_le _, fun _ => rfl, .inl rfl⟩
    · simp only [if_true] at hmm
      subst hmm
      rw [S.sized] at hel
      by_cases h0 : l = 0
      · subst h0
        exact ⟨[], _, hcs, some ad, m, rfl, by simp, hm, (fun h => by cases h), .inl rfl⟩
      · obtain ⟨g, off, spot⟩ := ad
        have hspot : spot = none := by
          obtain ⟨cs', hc0, _⟩ := hel 0 (by omega)
          obtain ⟨_, hcl, hcc⟩ := World.cells?_some hc0
          have hx := hcc 0 hs
          rw [List.getElem?_eq_getElem (by omega)] at hx
          have := World.cell?_spot hx
          simpa [Addr.add] using this
        subst hspot
        obtain ⟨A, hA⟩ := Go.Deep.choose_lt (α := α) (n := l) (p := fun i a => ∃ xs, S.good W xs a ∧ ∀ j u, xs[j]? = some u → W.cell? ⟨g, off + i * S.size + j, none⟩ = some u) (fun i hi => by
          obtain ⟨cs', hc0, ht⟩ := hel i (by omega)
          obtain ⟨a, ha⟩ := S.opens ht
          obtain ⟨_, hcl, hcc⟩ := World.cells?_some hc0
          refine ⟨a, cs', ha, fun j u hu => ?_⟩
          have hj := hcc j (by have := (List.getElem?_eq_some_iff.1 hu).1; omega)
          rw [Addr.add_lit, Addr.add_lit] at hj
          rw [hj]; exact hu)
        refine ⟨(List.range l).map A, _, hcs, some ⟨g, off, none⟩, m, by simp, by simpa using hl, hm, (fun h => by cases h), .inr ⟨g, off, rfl, fun i a hi => ?_⟩⟩
        have hil : i < l := by have := (List.getElem?_eq_some_iff.1 hi).1; simpa using this
        rw [List.getElem?_map, List.getElem?_range hil] at hi
        simp only [Option.map_some, Option.some.injEq] at hi
        subst hi
        exact hA i hil

theorem IsSlice.form {α : Type} {S : Shape P α} {W : World} {v : Value} {l : List α} (h : IsSlice S W v l) : ∃ ao cap, v = .slice ao l.length cap ∧ l.length ≤ cap ∧ cap ≤ maxLen := by
  obtain ⟨ao, cap, h1, h2, h3, _⟩ := h
  exact ⟨ao, cap, h1, h2, h3⟩
/-- where a slice that is not empty lies -/
theorem IsSlice.spot {α : Type} {S : Shape P α} {W : World} {ao : Option Addr} {n cap : Nat} {l : List α} (h : IsSlice S W (.slice ao n cap) l) (hn : 0 < n) : ∃ g off, ao = some ⟨g, off, none⟩ ∧
    ∀ i a, l[i]? = some a → ∃ xs, S.good W xs a ∧ ∀ j u, xs[j]? = some u → W.cell? ⟨g, off + i * S.size + j, none⟩ = some u := by
  obtain ⟨ao', cap', h1, _, _, _, h2⟩ := h
  simp only [Value.slice.injEq] at h1
  obtain ⟨rfl, rfl, rfl⟩ := h1
  exact h2.resolve_left (by omega)
/-- elements of one cell each, told by a function -/
theorem IsSlice.rd {α : Type} {S : Shape P α} {W : World} {v : Value} {l : List α} (h : IsSlice S W v l) (f : α → Value) (hf : ∀ W xs a, S.good W xs a → xs = [f a]) (hs : S.size = 1) : Rd W 1 v l.length (l.map f) := by
  obtain ⟨ao, cap, h1, h2, h3, h4, h5⟩ := h
  refine ⟨by simp, ao, cap, h1, h2, h3, h4, ?_⟩
  rcases h5 with h5 | ⟨g, off, h5, h6⟩
  · exact .inl h5
  · refine .inr ⟨g, off, h5, fun j u hu => ?_⟩
    rw [List.getElem?_map, Option.map_eq_some_iff] at hu
    obtain ⟨a, ha, rfl⟩ := hu
    obtain ⟨xs, hg, hc⟩ := h6 j a ha
    have := hc 0 (f a) (by rw [hf W xs a hg]; rfl)
    rwa [hs, Nat.mul_one, Nat.add_zero] at this
theorem IsSlice.each {α : Type} {S : Shape P α} {W : World} {v : Value} {l : List α} (h : IsSlice S W v l) {i : Nat} {a : α} (ha : l[i]? = some a) : ∃ xs, S.good W xs a := by
  obtain ⟨ao, cap, h1, h2, h3, h4, h5⟩ := h
  have hi := (List.getElem?_eq_some_iff.1 ha).1
  rcases h5 with h5 | ⟨g, off, h5, h6⟩
  · omega
  · obtain ⟨xs, h7, _⟩ := h6 i a ha
    exact ⟨xs, h7⟩
/-- bytes as small numbers -/
theorem IsSlice.bytes {t : TypeId} {ht : P.underlying t = some (.int .u8)} {hc : P.cellsOf t = 1} {W : World} {v : Value} {l : List Int} (h : IsSlice (shInt t .u8 ht hc) W v l) :
    ∃ b : List Nat, b.length = l.length ∧ (∀ x ∈ b, x < 256) ∧ Rd W 1 v b.length (u8s b) := by
  have hw : ∀ x ∈ l, 0 ≤ x ∧ x ≤ 255 := by
    intro x hx
    obtain ⟨i, hi⟩ := List.mem_iff_getElem?.1 hx
    obtain ⟨xs, h1, h2⟩ := h.each hi
    exact bounds_u8 h2
  refine ⟨l.map Int.toNat, by simp, fun x hx => ?_, ?_⟩
  · obtain ⟨y, hy, rfl⟩ := List.mem_map.1 hx
    have := hw y hy; omega
  · have h1 := h.rd (fun n => .int .u8 n) (fun W xs a hg => hg.1) rfl
    have e : u8s (l.map Int.toNat) = l.map (fun n => Value.int .u8 n) := by
      unfold u8s
      rw [List.map_map]
      refine List.map_congr_left fun x hx => ?_
      have := hw x hx
      simp only [Function.comp]
      rw [Int.toNat_of_nonneg this.1]
    rw [e, List.length_map]
    exact h1
def shStruct2 {α0 : Type} {α1 : Type} (S0 : Shape P α0) (S1 : Shape P α1) (t : TypeId) {f0 f1 : Field} (ht : P.underlying t = some (.struct #[f0, f1])) (hc : P.cellsOf t = S0.size + S1.size) (e0 : f0.type = S0.t) (o0 : f0.offset = 0) (e1 : f1.type = S1.t) (o1 : f1.offset = S0.size) : Shape P (α0 × α1) where
  t := t
  size := S0.size + S1.size
  good := fun W cs a => ∃ c0 c1, cs = c0 ++ (c1) ∧ S0.good W c0 a.1 ∧ S1.good W c1 a.2
  sized := hc
  long := fun _ _ _ ⟨_, _, h, g0, g1⟩ => by
    rw [h]; simp only [List.length_append, S0.long _ _ _ g0, S1.long _ _ _ g1]; try omega
  opens := fun {H enc W fuel cs x} h => by
    obtain ⟨xs, n, _, _, hl, hxl, hf⟩ := DataW.trod_struct ht h
    rw [hc] at hl
    have h0 := hf 0 f0 rfl
    rw [e0, o0, S0.sized, List.getElem?_eq_getElem (by rw [hxl]; simp)] at h0
    obtain ⟨a0, g0⟩ := S0.opens h0
    have h1 := hf 1 f1 rfl
    rw [e1, o1, S1.sized, List.getElem?_eq_getElem (by rw [hxl]; simp)] at h1
    obtain ⟨a1, g1⟩ := S1.opens h1
    refine ⟨(a0, a1), _, _, ?_, g0, g1⟩
    have l1 : (cs.drop (S0.size)).take S1.size = cs.drop (S0.size) := List.take_of_length_le (by rw [List.length_drop]; omega)
    rw [l1]
    rw [show cs.drop (S0.size) = (cs.drop 0).drop S0.size by rw [List.drop_drop, Nat.zero_add], List.take_append_drop, List.drop_zero]
def shStruct3 {α0 : Type} {α1 : Type} {α2 : Type} (S0 : Shape P α0) (S1 : Shape P α1) (S2 : Shape P α2) (t : TypeId) {f0 f1 f2 : Field} (ht : P.underlying t = some (.struct #[f0, f1, f2])) (hc : P.cellsOf t = S0.size + S1.size + S2.size) (e0 : f0.type = S0.t) (o0 : f0.offset = 0) (e1 : f1.type = S1.t) (o1 : f1.offset = S0.size) (e2 : f2.type = S2.t) (o2 : f2.offset = S0.size + S1.size) : Shape P (α0 × α1 × α2) where
  t := t
  size := S0.size + S1.size + S2.size
  good := fun W cs a => ∃ c0 c1 c2, cs = c0 ++ (c1 ++ (c2)) ∧ S0.good W c0 a.1 ∧ S1.good W c1 a.2.1 ∧ S2.good W c2 a.2.2
  sized := hc
  long := fun _ _ _ ⟨_, _, _, h, g0, g1, g2⟩ => by
    rw [h]; simp only [List.length_append, S0.long _ _ _ g0, S1.long _ _ _ g1, S2.long _ _ _ g2]; try omega
  opens := fun {H enc W fuel cs x} h => by
    obtain ⟨xs, n, _, _, hl, hxl, hf⟩ := DataW.trod_struct ht h
    rw [hc] at hl
    have h0 := hf 0 f0 rfl
    rw [e0, o0, S0.sized, List.getElem?_eq_getElem (by rw [hxl]; simp)] at h0
    obtain ⟨a0, g0⟩ := S0.opens h0
    have h1 := hf 1 f1 rfl
    rw [e1, o1, S1.sized, List.getElem?_eq_getElem (by rw [hxl]; simp)] at h1
    obtain ⟨a1, g1⟩ := S1.opens h1
    have h2 := hf 2 f2 rfl
    rw [e2, o2, S2.sized, List.getElem?_eq_getElem (by rw [hxl]; simp)] at h2
    obtain ⟨a2, g2⟩ := S2.opens h2
    refine ⟨(a0, a1, a2), _, _, _, ?_, g0, g1, g2⟩
    have l2 : (cs.drop (S0.size + S1.size)).take S2.size = cs.drop (S0.size + S1.size) := List.take_of_length_le (by rw [List.length_drop]; omega)
    rw [l2]
    rw [show cs.drop (S0.size + S1.size) = (cs.drop (S0.size)).drop S1.size by rw [List.drop_drop], List.take_append_drop]
    rw [show cs.drop (S0.size) = (cs.drop 0).drop S0.size by rw [List.drop_drop, Nat.zero_add], List.take_append_drop, List.drop_zero]
def shStruct4 {α0 : Type} {α1 : Type} {α2 : Type} {α3 : Type} (S0 : Shape P α0) (S1 : Shape P α1) (S2 : Shape P α2) (S3 : Shape P α3) (t : TypeId) {f0 f1 f2 f3 : Field} (ht : P.underlying t = some (.struct #[f0, f1, f2, f3])) (hc : P.cellsOf t = S0.size + S1.size + S2.size + S3.size) (e0 : f0.type = S0.t) (o0 : f0.offset = 0) (e1 : f1.type = S1.t) (o1 : f1.offset = S0.size) (e2 : f2.type = S2.t) (o2 : f2.offset = S0.size + S1.size) (e3 : f3.type = S3.t) (o3 : f3.offset = S0.size + S1.size + S2.size) : Shape P (α0 × α1 × α2 × α3) where
  t := t
  size := S0.size + S1.size + S2.size + S3.size
  good := fun W cs a => ∃ c0 c1 c2 c3, cs = c0 ++ (c1 ++ (c2 ++ (c3))) ∧ S0.good W c0 a.1 ∧ S1.good W c1 a.2.1 ∧ S2.good W c2 a.2.2.1 ∧ S3.good W c3 a.2.2.2
  sized := hc
  long := fun _ _ _ ⟨_, _, _, _, h, g0, g1, g2, g3⟩ => by
    rw [h]; simp only [List.length_append, S0.long _ _ _ g0, S1.long _ _ _ g1, S2.long _ _ _ g2, S3.long _ _ _ g3]; try omega
  opens := fun {H enc W fuel cs x} h => by
    obtain ⟨xs, n, _, _, hl, hxl, hf⟩ := DataW.trod_struct ht h
    rw [hc] at hl
    have h0 := hf 0 f0 rfl
    rw [e0, o0, S0.sized, List.getElem?_eq_getElem (by rw [hxl]; simp)] at h0
    obtain ⟨a0, g0⟩ := S0.opens h0
    have h1 := hf 1 f1 rfl
    rw [e1, o1, S1.sized, List.getElem?_eq_getElem (by rw [hxl]; simp)] at h1
    obtain ⟨a1, g1⟩ := S1.opens h1
    have h2 := hf 2 f2 rfl
    rw [e2, o2, S2.sized, List.getElem?_eq_getElem (by rw [hxl]; simp)] at h2
    obtain ⟨a2, g2⟩ := S2.opens h2
    have h3 := hf 3 f3 rfl
    rw [e3, o3, S3.sized, List.getElem?_eq_getElem (by rw [hxl]; simp)] at h3
    obtain ⟨a3, g3⟩ := S3.opens h3
    refine ⟨(a0, a1, a2, a3), _, _, _, _, ?_, g0, g1, g2, g3⟩
    have l3 : (cs.drop (S0.size + S1.size + S2.size)).take S3.size = cs.drop (S0.size + S1.size + S2.size) := List.take_of_length_le (by rw [List.length_drop]; omega)
    rw [l3]
    rw [show cs.drop (S0.size + S1.size + S2.size) = (cs.drop (S0.size + S1.size)).drop S2.size by rw [List.drop_drop], List.take_append_drop]
    rw [show cs.drop (S0.size + S1.size) = (cs.drop (S0.size)).drop S1.size by rw [List.drop_drop], List.take_append_drop]
    rw [show cs.drop (S0.size) = (cs.drop 0).drop S0.size by rw [List.drop_drop, Nat.zero_add], List.take_append_drop, List.drop_zero]
def shStruct5 {α0 : Type} {α1 : Type} {α2 : Type} {α3 : Type} {α4 : Type} (S0 : Shape P α0) (S1 : Shape P α1) (S2 : Shape P α2) (S3 : Shape P α3) (S4 : Shape P α4) (t : TypeId) {f0 f1 f2 f3 f4 : Field} (ht : P.underlying t = some (.struct #[f0, f1, f2, f3, f4])) (hc : P.cellsOf t = S0.size + S1.size + S2.size + S3.size + S4.size) (e0 : f0.type = S0.t) (o0 : f0.offset = 0) (e1 : f1.type = S1.t) (o1 : f1.offset = S0.size) (e2 : f2.type = S2.t) (o2 : f2.offset = S0.size + S1.size) (e3 : f3.type = S3.t) (o3 : f3.offset = S0.size + S1.size + S2.size) (e4 : f4.type = S4.t) (o4 : f4.offset = S0.size + S1.size + S2.size + S3.size) : Shape P (α0 × α1 × α2 × α3 × α4) where
  t := t
  size := S0.size + S1.size + S2.size + S3.size + S4.size
  good := fun W cs a => ∃ c0 c1 c2 c3 c4, cs = c0 ++ (c1 ++ (c2 ++ (c3 ++ (c4)))) ∧ S0.good W c0 a.1 ∧ S1.good W c1 a.2.1 ∧ S2.good W c2 a.2.2.1 ∧ S3.good W c3 a.2.2.2.1 ∧ S4.good W c4 a.2.2.2.2
  sized := hc
  long := fun _ _ _ ⟨_, _, _, _, _, h, g0, g1, g2, g3, g4⟩ => by
    rw [h]; simp only [List.length_append, S0.long _ _ _ g0, S1.long _ _ _ g1, S2.long _ _ _ g2, S3.long _ _ _ g3, S4.long _ _ _ g4]; try omega
  opens := fun {H enc W fuel cs x} h => by
    obtain ⟨xs, n, _, _, hl, hxl, hf⟩ := DataW.trod_struct ht h
    rw [hc] at hl
    have h0 := hf 0 f0 rfl
    rw [e0, o0, S0.sized, List.getElem?_eq_getElem (by rw [hxl]; simp)] at h0
    obtain ⟨a0, g0⟩ := S0.opens h0
    have h1 := hf 1 f1 rfl
    rw [e1, o1, S1.sized, List.getElem?_eq_getElem (by rw [hxl]; simp)] at h1
    obtain ⟨a1, g1⟩ := S1.opens h1
    have h2 := hf 2 f2 rfl
    rw [e2, o2, S2.sized, List.getElem?_eq_getElem (by rw [hxl]; simp)] at h2
    obtain ⟨a2, g2⟩ := S2.opens h2
    have h3 := hf 3 f3 rfl
    rw [e3, o3, S3.sized, List.getElem?_eq_getElem (by rw [hxl]; simp)] at h3
    obtain ⟨a3, g3⟩ := S3.opens h3
    have h4 := hf 4 f4 rfl
    rw [e4, o4, S4.sized, List.getElem?_eq_getElem (by rw [hxl]; simp)] at h4
    obtain ⟨a4, g4⟩ := S4.opens h4
    refine ⟨(a0, a1, a2, a3, a4), _, _, _, _, _, ?_, g0, g1, g2, g3, g4⟩
    have l4 : (cs.drop (S0.size + S1.size + S2.size + S3.size)).take S4.size = cs.drop (S0.size + S1.size + S2.size + S3.size) := List.take_of_length_le (by rw [List.length_drop]; omega)
    rw [l4]
    rw [show cs.drop (S0.size + S1.size + S2.size + S3.size) = (cs.drop (S0.size + S1.size + S2.size)).drop S3.size by rw [List.drop_drop], List.take_append_drop]
    rw [show cs.drop (S0.size + S1.size + S2.size) = (cs.drop (S0.size + S1.size)).drop S2.size by rw [List.drop_drop], List.take_append_drop]
    rw [show cs.drop (S0.size + S1.size) = (cs.drop (S0.size)).drop S1.size by rw [List.drop_drop], List.take_append_drop]
    rw [show cs.drop (S0.size) = (cs.drop 0).drop S0.size by rw [List.drop_drop, Nat.zero_add], List.take_append_drop, List.drop_zero]
def shStruct6 {α0 : Type} {α1 : Type} {α2 : Type} {α3 : Type} {α4 : Type} {α5 : Type} (S0 : Shape P α0) (S1 : Shape P α1) (S2 : Shape P α2) (S3 : Shape P α3) (S4 : Shape P α4) (S5 : Shape P α5) (t : TypeId) {f0 f1 f2 f3 f4 f5 : Field} (ht : P.underlying t = some (.struct #[f0, f1, f2, f3, f4, f5])) (hc : P.cellsOf t = S0.size + S1.size + S2.size + S3.size + S4.size + S5.size) (e0 : f0.type = S0.t) (o0 : f0.offset = 0) (e1 : f1.type = S1.t) (o1 : f1.offset = S0.size) (e2 : f2.type = S2.t) (o2 : f2.offset = S0.size + S1.size) (e3 : f3.type = S3.t) (o3 : f3.offset = S0.size + S1.size + S2.size) (e4 : f4.type = S4.t) (o4 : f4.offset = S0.size + S1.size + S2.size + S3.size) (e5 : f5.type = S5.t) (o5 : f5.offset = S0.size + S1.size + S2.size + S3.size + S4.size) : Shape P (α0 × α1 × α2 × α3 × α4 × α5) where
  t := t
  size := S0.size + S1.size + S2.size + S3.size + S4.size + S5.size
  good := fun W cs a => ∃ c0 c1 c2 c3 c4 c5, cs = c0 ++ (c1 ++ (c2 ++ (c3 ++ (c4 ++ (c5))))) ∧ S0.good W c0 a.1 ∧ S1.good W c1 a.2.1 ∧ S2.good W c2 a.2.2.1 ∧ S3.good W c3 a.2.2.2.1 ∧ S4.good W c4 a.2.2.2.2.1 ∧ S5.good W c5 a.2.2.2.2.2
  sized := hc
  long := fun _ _ _ ⟨_, _, _, _, _, _, h, g0, g1, g2, g3, g4, g5⟩ => by
    rw [h]; simp only [List.length_append, S0.long _ _ _ g0, S1.long _ _ _ g1, S2.long _ _ _ g2, S3.long _ _ _ g3, S4.long _ _ _ g4, S5.long _ _ _ g5]; try omega
  opens := fun {H enc W fuel cs x} h => by
    obtain ⟨xs, n, _, _, hl, hxl, hf⟩ := DataW.trod_struct ht h
    rw [hc] at hl
    have h0 := hf 0 f0 rfl
    rw [e0, o0, S0.sized, List.getElem?_eq_getElem (by rw [hxl]; simp)] at h0
    obtain ⟨a0, g0⟩ := S0.opens h0
    have h1 := hf 1 f1 rfl
    rw [e1, o1, S1.sized, List.getElem?_eq_getElem (by rw [hxl]; simp)] at h1
    obtain ⟨a1, g1⟩ := S1.opens h1
    have h2 := hf 2 f2 rfl
    rw [e2, o2, S2.sized, List.getElem?_eq_getElem (by rw [hxl]; simp)] at h2
    obtain ⟨a2, g2⟩ := S2.opens h2
    have h3 := hf 3 f3 rfl
    rw [e3, o3, S3.sized, List.getElem?_eq_getElem (by rw [hxl]; simp)] at h3
    obtain ⟨a3, g3⟩ := S3.opens h3
    have h4 := hf 4 f4 rfl
    rw [e4, o4, S4.sized, List.getElem?_eq_getElem (by rw [hxl]; simp)] at h4
    obtain ⟨a4, g4⟩ := S4.opens h4
    have h5 := hf 5 f5 rfl
    rw [e5, o5, S5.sized, List.getElem?_eq_getElem (by rw [hxl]; simp)] at h5
    obtain ⟨a5, g5⟩ := S5.opens h5
    refine ⟨(a0, a1, a2, a3, a4, a5), _, _, _, _, _, _, ?_, g0, g1, g2, g3, g4, g5⟩
    have l5 : (cs.drop (S0.size + S1.size + S2.size + S3.size + S4.size)).take S5.size = cs.drop (S0.size + S1.size + S2.size + S3.size + S4.size) := List.take_of_length_le (by rw [List.length_drop]; omega)
    rw [l5]
    rw [show cs.drop (S0.size + S1.size + S2.size + S3.size + S4.size) = (cs.drop (S0.size + S1.size + S2.size + S3.size)).drop S4.size by rw [List.drop_drop], List.take_append_drop]
    rw [show cs.drop (S0.size + S1.size + S2.size + S3.size) = (cs.drop (S0.size + S1.size + S2.size)).drop S3.size by rw [List.drop_drop], List.take_append_drop]
    rw [show cs.drop (S0.size + S1.size + S2.size) = (cs.drop (S0.size + S1.size)).drop S2.size by rw [List.drop_drop], List.take_append_drop]
    rw [show cs.drop (S0.size + S1.size) = (cs.drop (S0.size)).drop S1.size by rw [List.drop_drop], List.take_append_drop]
    rw [show cs.drop (S0.size) = (cs.drop 0).drop S0.size by rw [List.drop_drop, Nat.zero_add], List.take_append_drop, List.drop_zero]
def shStruct7 {α0 : Type} {α1 : Type} {α2 : Type} {α3 : Type} {α4 : Type} {α5 : Type} {α6 : Type} (S0 : Shape P α0) (S1 : Shape P α1) (S2 : Shape P α2) (S3 : Shape P α3) (S4 : Shape P α4) (S5 : Shape P α5) (S6 : Shape P α6) (t : TypeId) {f0 f1 f2 f3 f4 f5 f6 : Field} (ht : P.underlying t = some (.struct #[f0, f1, f2, f3, f4, f5, f6])) (hc : P.cellsOf t = S0.size + S1.size + S2.size + S3.size + S4.size + S5.size + S6.size) (e0 : f0.type = S0.t) (o0 : f0.offset = 0) (e1 : f1.type = S1.t) (o1 : f1.offset = S0.size) (e2 : f2.type = S2.t) (o2 : f2.offset = S0.size + S1.size) (e3 : f3.type = S3.t) (o3 : f3.offset = S0.size + S1.size + S2.size) (e4 : f4.type = S4.t) (o4 : f4.offset = S0.size + S1.size + S2.size + S3.size) (e5 : f5.type = S5.t) (o5 : f5.offset = S0.size + S1.size + S2.size + S3.size + S4.size) (e6 : f6.type = S6.t) (o6 : f6.offset = S0.size + S1.size + S2.size + S3.size + S4.size + S5.size) : Shape P (α0 × α1 × α2 × α3 × α4 × α5 × α6) where
  t := t
  size := S0.size + S1.size + S2.size + S3.size + S4.size + S5.size + S6.size
  good := fun W cs a => ∃ c0 c1 c2 c3 c4 c5 c6, cs = c0 ++ (c1 ++ (c2 ++ (c3 ++ (c4 ++ (c5 ++ (c6)))))) ∧ S0.good W c0 a.1 ∧ S1.good W c1 a.2.1 ∧ S2.good W c2 a.2.2.1 ∧ S3.good W c3 a.2.2.2.1 ∧ S4.good W c4 a.2.2.2.2.1 ∧ S5.good W c5 a.2.2.2.2.2.1 ∧ S6.good W c6 a.2.2.2.2.2.2
  sized := hc
  long := fun _ _ _ ⟨_, _, _, _, _, _, _, h, g0, g1, g2, g3, g4, g5, g6⟩ => by
    rw [h]; simp only [List.length_append, S0.long _ _ _ g0, S1.long _ _ _ g1, S2.long _ _ _ g2, S3.long _ _ _ g3, S4.long _ _ _ g4, S5.long _ _ _ g5, S6.long _ _ _ g6]; try omega
  opens := fun {H enc W fuel cs x} h => by
    obtain ⟨xs, n, _, _, hl, hxl, hf⟩ := DataW.trod_struct ht h
    rw [hc] at hl
    have h0 := hf 0 f0 rfl
    rw [e0, o0, S0.sized, List.getElem?_eq_getElem (by rw [hxl]; simp)] at h0
    obtain ⟨a0, g0⟩ := S0.opens h0
    have h1 := hf 1 f1 rfl
    rw [e1, o1, S1.sized, List.getElem?_eq_getElem (by rw [hxl]; simp)] at h1
    obtain ⟨a1, g1⟩ := S1.opens h1
    have h2 := hf 2 f2 rfl
    rw [e2, o2, S2.sized, List.getElem?_eq_getElem (by rw [hxl]; simp)] at h2
    obtain ⟨a2, g2⟩ := S2.opens h2
    have h3 := hf 3 f3 rfl
    rw [e3, o3, S3.sized, List.getElem?_eq_getElem (by rw [hxl]; simp)] at h3
    obtain ⟨a3, g3⟩ := S3.opens h3
    have h4 := hf 4 f4 rfl
    rw [e4, o4, S4.sized, List.getElem?_eq_getElem (by rw [hxl]; simp)] at h4
    obtain ⟨a4, g4⟩ := S4.opens h4
    have h5 := hf 5 f5 rfl
    rw [e5, o5, S5.sized, List.getElem?_eq_getElem (by rw [hxl]; simp)] at h5
    obtain ⟨a5, g5⟩ := S5.opens h5
    have h6 := hf 6 f6 rfl
    rw [e6, o6, S6.sized, List.getElem?_eq_getElem (by rw [hxl]; simp)] at h6
    obtain ⟨a6, g6⟩ := S6.opens h6
    refine ⟨(a0, a1, a2, a3, a4, a5, a6), _, _, _, _, _, _, _, ?_, g0, g1, g2, g3, g4, g5, g6⟩
    have l6 : (cs.drop (S0.size + S1.size + S2.size + S3.size + S4.size + S5.size)).take S6.size = cs.drop (S0.size + S1.size + S2.size + S3.size + S4.size + S5.size) := List.take_of_length_le (by rw [List.length_drop]; omega)
    rw [l6]
    rw [show cs.drop (S0.size + S1.size + S2.size + S3.size + S4.size + S5.size) = (cs.drop (S0.size + S1.size + S2.size + S3.size + S4.size)).drop S5.size by rw [List.drop_drop], List.take_append_drop]
    rw [show cs.drop (S0.size + S1.size + S2.size + S3.size + S4.size) = (cs.drop (S0.size + S1.size + S2.size + S3.size)).drop S4.size by rw [List.drop_drop], List.take_append_drop]
    rw [show cs.drop (S0.size + S1.size + S2.size + S3.size) = (cs.drop (S0.size + S1.size + S2.size)).drop S3.size by rw [List.drop_drop], List.take_append_drop]
    rw [show cs.drop (S0.size + S1.size + S2.size) = (cs.drop (S0.size + S1.size)).drop S2.size by rw [List.drop_drop], List.take_append_drop]
    rw [show cs.drop (S0.size + S1.size) = (cs.drop (S0.size)).drop S1.size by rw [List.drop_drop], List.take_append_drop]
    rw [show cs.drop (S0.size) = (cs.drop 0).drop S0.size by rw [List.drop_drop, Nat.zero_add], List.take_append_drop, List.drop_zero]
end
end Go.Proofs.YtkdmdbojcdonpaaGreatDoor
