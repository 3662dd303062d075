/-
  The acts that the laws are handed: a slice of structs, opened.
-/
import Derived.Test.YtmkbifkmdmeklaaArgs
import Derived.Test.YtmkbifkmdmeklaaProg
import Derived.Deep.Slices
import Derived.KernelRfl
import Derived.ProofKit
namespace Go.Proofs.Ytmkbifkmdmeklaa
open Go.RowKit Go.ChangeShapes Go.WideShapes Go.ChangeAt

/-- an act of the laws, as it lies in memory -/
structure Act1 where
  doo : Int
  n : Int
  v : Nat
  b : List Nat
  bv : Value
def IsAct (w : World) (g o : Nat) (a : Act1) : Prop :=
  w.cell? ⟨g, o, none⟩ = some (.int .i64 a.doo) ∧ w.cell? ⟨g, o + 1, none⟩ = some (.int .i64 a.n) ∧ w.cell? ⟨g, o + 2, none⟩ = some (.int .u32 (a.v : Int)) ∧ w.cell? ⟨g, o + 3, none⟩ = some a.bv ∧
      Rd w 1 a.bv a.b.length (u8s a.b) ∧ a.v < 4294967296 ∧ (∀ x ∈ a.b, x < 256) ∧ a.b.length ≤ maxLen
def IsActs (w : World) (v : Value) (acts : List Act1) : Prop :=
  ∃ ao cap, v = .slice ao acts.length cap ∧ acts.length ≤ cap ∧ cap ≤ maxLen ∧ (acts.length = 0 ∨ ∃ g off, ao = some ⟨g, off, none⟩ ∧ ∀ i a, acts[i]? = some a → IsAct w g (off + i * 4) a)

theorem Try.cellsAct : Try.prog.cellsOf 29 = 4 := by kernel_rfl
theorem Try.cellsI : Try.prog.cellsOf 3 = 1 := by kernel_rfl
theorem Try.cellsW : Try.prog.cellsOf 27 = 1 := by kernel_rfl
theorem Try.cellsS : Try.prog.cellsOf 26 = 1 := by kernel_rfl
theorem Try.cellsB : Try.prog.cellsOf 5 = 1 := by kernel_rfl

theorem act_open {H : Type} {enc : TypeId × Value → H} {W : World} {fuel : Nat} {g o : Nat} {cs : List Value} {x : DataW H × List MemPlace} (hc : W.cells? 0 ⟨g, o, none⟩ 4 = some cs)
    (h : DataW.trod enc Try.prog W 0 (fun _ => true) true fuel 29 cs = some x) : ∃ a, IsAct W g o a := by
  obtain ⟨_, hl, hcell⟩ := World.cells?_some hc
  obtain ⟨xs, n, _, _, _, hxl, hf⟩ := DataW.trod_struct Try.underlying29 h
  match cs, hl with
  | [c0, c1, c2, c3], _ =>
    match xs, hxl with
    | [x0, x1, x2, x3], _ =>
      have h0 : DataW.trod enc Try.prog W 0 (fun _ => true) true n 3 (([c0, c1, c2, c3].drop 0).take (Try.prog.cellsOf 3)) = some x0 := hf 0 _ rfl
      rw [Try.cellsI] at h0
      have h1 : DataW.trod enc Try.prog W 0 (fun _ => true) true n 3 (([c0, c1, c2, c3].drop 1).take (Try.prog.cellsOf 3)) = some x1 := hf 1 _ rfl
      rw [Try.cellsI] at h1
      have h2 : DataW.trod enc Try.prog W 0 (fun _ => true) true n 27 (([c0, c1, c2, c3].drop 2).take (Try.prog.cellsOf 27)) = some x2 := hf 2 _ rfl
      rw [Try.cellsW] at h2
      have h3 : DataW.trod enc Try.prog W 0 (fun _ => true) true n 26 (([c0, c1, c2, c3].drop 3).take (Try.prog.cellsOf 26)) = some x3 := hf 3 _ rfl
      rw [Try.cellsS] at h3
      replace h0 : DataW.trod enc Try.prog W 0 (fun _ => true) true n 3 [c0] = some x0 := h0
      replace h1 : DataW.trod enc Try.prog W 0 (fun _ => true) true n 3 [c1] = some x1 := h1
      replace h2 : DataW.trod enc Try.prog W 0 (fun _ => true) true n 27 [c2] = some x2 := h2
      replace h3 : DataW.trod enc Try.prog W 0 (fun _ => true) true n 26 [c3] = some x3 := h3
      obtain ⟨d, e0, _, w0⟩ := DataW.trod_int Try.underlying3 h0
      obtain ⟨nn, e1, _, w1⟩ := DataW.trod_int Try.underlying3 h1
      obtain ⟨v, e2, _, w2⟩ := DataW.trod_int Try.underlying27 h2
      simp only [List.cons.injEq, and_true] at e0 e1 e2
      subst e0 e1 e2
      have hv := bounds_u32 w2
      have k0 := hcell 0 (by decide)
      have k1 := hcell 1 (by decide)
      have k2 := hcell 2 (by decide)
      have k3 := hcell 3 (by decide)
      simp only [Addr.add_lit, List.getElem?_cons_zero, List.getElem?_cons_succ, Nat.add_zero] at k0 k1 k2 k3
      obtain ⟨b, hb256, hbl, hrd⟩ : ∃ b : List Nat, (∀ z ∈ b, z < 256) ∧ b.length ≤ maxLen ∧ Rd W 1 c3 b.length (u8s b) := by
        rcases open_ints Try.underlying26 Try.underlying5 Try.cellsB h3 with ⟨hcs, _⟩ | ⟨ad, l, c, zs, hcs, _, hl, hm, hz, _, hcl, hwz⟩
        · simp only [List.cons.injEq, and_true] at hcs
          subst hcs
          exact ⟨[], by simp, by simp, Rd.nil _ _⟩
        · simp only [List.cons.injEq, and_true] at hcs
          subst hcs
          obtain ⟨b, hbl, hb, hr⟩ := rd_of_row8 (w := W) (a := some ad) (len := l) (cap := c) (zs := zs) (.inr ⟨ad, rfl, hl, hm, by simpa using hz, hcl, hwz⟩)
          subst hbl
          exact ⟨b, hb, by omega, hr⟩
      exact ⟨⟨d, nn, v.toNat, b, c3⟩, k0, k1, by rw [k2]; simp only; rw [Int.toNat_of_nonneg hv.1], k3, hrd, by simp only; omega, hb256, hbl⟩

instance : Inhabited Act1 := ⟨⟨0, 0, 0, [], .slice none 0 0⟩⟩
theorem acts_open {H : Type} {enc : TypeId × Value → H} {W : World} {fuel : Nat} {a0 : Option Addr} {len cap : Nat} {x : DataW H × List MemPlace}
    (h : DataW.trod enc Try.prog W 0 (fun _ => true) true fuel 22 [.slice a0 len cap] = some x) : ∃ acts, acts.length = len ∧ IsActs W (.slice a0 len cap) acts := by
  rcases Go.Deep.open_slice Try.underlying22 h with ⟨hcs, _⟩ | ⟨ad, l, c, m, n, D, Pl, hcs, _, hl, hm, hmm, _, hel⟩
  · simp only [List.cons.injEq, and_true, Value.slice.injEq] at hcs
    obtain ⟨rfl, rfl, rfl⟩ := hcs
    exact ⟨[], rfl, none, 0, rfl, Nat.le_refl _, Nat.zero_le _, .inl rfl⟩
  · simp only [List.cons.injEq, and_true, Value.slice.injEq] at hcs
    obtain ⟨rfl, rfl, rfl⟩ := hcs
    simp only [if_true] at hmm
    subst hmm
    rw [Try.cellsAct] at hel
    by_cases h0 : len = 0
    · subst h0
      exact ⟨[], rfl, some ad, m, rfl, by simp, hm, .inl rfl⟩
    · obtain ⟨g, off, spot⟩ := ad
      have hspot : spot = none := by
        obtain ⟨cs', hc0, _⟩ := hel 0 (by omega)
        obtain ⟨_, hcl, hcc⟩ := World.cells?_some hc0
        have hx := hcc 0 (by decide)
        rw [List.getElem?_eq_getElem (by omega)] at hx
        have := World.cell?_spot hx
        simpa [Addr.add] using this
      subst hspot
      obtain ⟨A, hA⟩ := Go.Deep.choose_lt (α := Act1) (n := len) (p := fun i a => IsAct W g (off + i * 4) a) (fun i hi => by
        obtain ⟨cs', hc0, ht⟩ := hel i (by omega)
        rw [Addr.add_lit] at hc0
        exact act_open hc0 ht)
      refine ⟨(List.range len).map A, by simp, some ⟨g, off, none⟩, m, by simp, by simpa using hl, hm, .inr ⟨g, off, rfl, fun i a hi => ?_⟩⟩
      have hil : i < len := by have := (List.getElem?_eq_some_iff.1 hi).1; simpa using this
      rw [List.getElem?_map, List.getElem?_range hil] at hi
      simp only [Option.map_some, Option.some.injEq] at hi
      subst hi
      exact hA i hil
end Go.Proofs.Ytmkbifkmdmeklaa
