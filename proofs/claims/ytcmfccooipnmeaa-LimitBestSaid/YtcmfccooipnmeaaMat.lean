/-
  A square table that the call has made: a slice of slices of whole numbers, each row in a block of its own. The first k rows are there, the others are nil. No program is named here.
-/
import Derived.Test.YtcmfccooipnmeaaSep
import Derived.Test.YtcmfccooipnmeaaPut
import Derived.Test.YtcmfccooipnmeaaInts
import Derived.Test.YtcmfccooipnmeaaArr
namespace Go.Proofs.Ytcmfccooipnmeaa
open Go.RowKit

def atK (b : Nat → Nat) (k c i : Nat) : Nat := if i = k then c else b i
def put2 (V : Nat → Nat → Nat) (i j u x y : Nat) : Nat := if x = i ∧ y = j then u else V x y
def addRow (V : Nat → Nat → Nat) (k : Nat) (W : Nat → Nat) (x y : Nat) : Nat := if x = k then W y else V x y
theorem atK_self (b : Nat → Nat) (k c : Nat) : atK b k c k = c := by simp [atK]
theorem atK_ne (b : Nat → Nat) (k c : Nat) {i : Nat} (h : i ≠ k) : atK b k c i = b i := by simp [atK, h]
/-- the row as a value -/
def rowV (b : Nat → Nat) (k N i : Nat) : Value := if i < k then .slice (some ⟨b i, 0, none⟩) N N else .slice none 0 0
def rowsL (b : Nat → Nat) (k N : Nat) : List Value := (List.range N).map (rowV b k N)
def rowL (V : Nat → Nat → Nat) (N i : Nat) : List Value := nums .i64 ((List.range N).map (V i))
def matT (eR eI : TypeId) (B : Nat) (b : Nat → Nat) (k N : Nat) (V : Nat → Nat → Nat) : Thing where
  res := fun w F => Own w eR 1 (.slice (some ⟨B, 0, none⟩) N N) N (rowsL b k N) ∧ (∀ i, i < k → Own w eI 1 (.slice (some ⟨b i, 0, none⟩) N N) N (rowL V N i)) ∧
    (∀ i, i < k → b i ≠ B) ∧ (∀ i j, i < k → j < k → b i = b j → i = j) ∧ ∀ x, F x ↔ x = B ∨ ∃ i, i < k ∧ x = b i
  loc := fun _ _ F S h hm hS => by
    obtain ⟨h1, h2, h3, h4, h5⟩ := h
    refine ⟨h1.kept hm fun x hx => hS x ((h5 x).2 (.inl ?_)), fun i hi => (h2 i hi).kept hm fun x hx => hS x ((h5 x).2 (.inr ⟨i, hi, ?_⟩)), h3, h4, h5⟩
    · simpa [Value.ownBlock, eq_comm] using hx
    · simpa [Value.ownBlock, eq_comm] using hx
theorem rowsL_get (b : Nat → Nat) (k N i : Nat) (h : i < N) : (rowsL b k N)[i]? = some (rowV b k N i) := by simp [rowsL, h]
theorem rowL_get (V : Nat → Nat → Nat) (N i j : Nat) (h : j < N) : (rowL V N i)[j]? = some (.int .i64 (V i j : Int)) := by simp [rowL, nums_get, h]
section
variable {w0 w : World} {Rs : List Thing} {eR eI : TypeId} {B : Nat} {b : Nat → Nat} {k N : Nat} {V : Nat → Nat → Nat}
/-- where a row's value lies -/
theorem Held.matRow (h : Held w0 w (matT eR eI B b k N V :: Rs)) {i : Nat} (hi : i < N) : w.cell? ⟨B, i, none⟩ = some (rowV b k N i) ∧ w.frozen? ⟨B, i, none⟩ = false := by
  obtain ⟨F, ⟨h1, _⟩, _⟩ := h
  obtain ⟨g, off, hg, hc, hf, _⟩ := h1.site (by omega)
  simp only [Option.some.injEq, Addr.mk.injEq, and_true] at hg
  obtain ⟨rfl, rfl⟩ := hg
  have e1 := hc i _ (rowsL_get b k N i hi)
  have e2 := hf i
  rw [Nat.zero_add] at e1 e2
  exact ⟨e1, e2⟩
/-- .. and a number -/
theorem Held.matCell (h : Held w0 w (matT eR eI B b k N V :: Rs)) {i j : Nat} (hi : i < k) (hj : j < N) : w.cell? ⟨b i, j, none⟩ = some (.int .i64 (V i j : Int)) ∧ w.frozen? ⟨b i, j, none⟩ = false := by
  obtain ⟨F, ⟨_, h2, _⟩, _⟩ := h
  obtain ⟨g, off, hg, hc, hf, _⟩ := (h2 i hi).site (by omega)
  simp only [Option.some.injEq, Addr.mk.injEq, and_true] at hg
  obtain ⟨rfl, rfl⟩ := hg
  have e1 := hc j _ (rowL_get V N i j hj)
  have e2 := hf j
  rw [Nat.zero_add] at e1 e2
  exact ⟨e1, e2⟩
theorem Held.matApart (h : Held w0 w (matT eR eI B b k N V :: Rs)) {i : Nat} (hi : i < k) : b i ≠ B := by
  obtain ⟨F, ⟨_, _, h3, _⟩, _⟩ := h
  exact h3 i hi
theorem rowL_set (V : Nat → Nat → Nat) (N i j u : Nat) : (rowL V N i).set j (.int .i64 (u : Int)) = rowL (put2 V i j u) N i := by
  unfold rowL
  rw [nums_set]
  congr 1
  refine List.ext_getElem? fun y => ?_
  rw [List.getElem?_set]
  by_cases hy : y < N
  · by_cases e : j = y
    · subst e
      rw [if_pos rfl, if_pos (by simpa using hy)]
      simp [hy, put2]
    · rw [if_neg e]
      simp [hy, put2, show ¬ y = j from fun h => e h.symm]
  · by_cases e : j = y
    · subst e
      rw [if_pos rfl, if_neg (by simpa using hy), List.getElem?_eq_none (by simp; omega)]
    · rw [if_neg e]
      rw [List.getElem?_eq_none (by simp; omega), List.getElem?_eq_none (by simp; omega)]
theorem rowL_other (V : Nat → Nat → Nat) (N i x j u : Nat) (h : x ≠ i) : rowL (put2 V i j u) N x = rowL V N x := by
  unfold rowL
  congr 1
  refine List.map_congr_left fun y _ => ?_
  unfold put2
  rw [if_neg (fun e => h e.1)]
/-- a number stored -/
theorem Held.matSet (h : Held w0 w (matT eR eI B b k N V :: Rs)) {i j : Nat} (hi : i < k) (hj : j < N) (u : Nat) :
    Held w0 (w.setCell ⟨b i, j, none⟩ (.int .i64 (u : Int))) (matT eR eI B b k N (put2 V i j u) :: Rs) := by
  obtain ⟨F, ⟨h1, h2, h3, h4, h5⟩, h6, back⟩ := h.take
  have hM := Mod.set w (b i) j (.int .i64 (u : Int))
  refine back _ _ F ⟨h1.kept hM fun x hx => ?_, fun x hx => ?_, h3, h4, h5⟩ (hM.mono fun x _ hx => (h5 x).2 (.inr ⟨i, hi, hx⟩)) (fun x hx => .inl hx) (fun x hx => Nat.lt_of_lt_of_le (h6 x hx).2 hM.size)
  · have : B = x := by simpa [Value.ownBlock] using hx
    subst this
    exact fun e => h3 i hi e.symm
  · by_cases e : x = i
    · subst e
      obtain ⟨g, off, hg, _, _, hput⟩ := (h2 x hi).site (by omega)
      simp only [Option.some.injEq, Addr.mk.injEq, and_true] at hg
      obtain ⟨rfl, rfl⟩ := hg
      have := hput j (.int .i64 (u : Int)) hj
      rw [Nat.zero_add, rowL_set] at this
      exact this
    · rw [rowL_other V N i x j u e]
      refine (h2 x hx).kept hM fun y hy => ?_
      have : b x = y := by simpa [Value.ownBlock] using hy
      subst this
      exact fun e2 => e (h4 x i hx hi e2)
/-- a new row: an own slice of the call's becomes the next row -/
theorem Held.matGrow {c : Nat} {xs : List Value} (h : Held w0 w (matT eR eI B b k N V :: ownT eI 1 (.slice (some ⟨c, 0, none⟩) N N) N xs :: Rs)) (hk : k < N) (W : Nat → Nat) (hxs : xs = nums .i64 ((List.range N).map W)) :
    Held w0 (w.setCell ⟨B, k, none⟩ (.slice (some ⟨c, 0, none⟩) N N)) (matT eR eI B (atK b k c) (k + 1) N (addRow V k W) :: Rs) := by
  obtain ⟨F1, ⟨h1, h2, h3, h4, h5⟩, h6, F2, ⟨k1, k2⟩, k3, k4⟩ := h
  have hM := Mod.set w B k (.slice (some ⟨c, 0, none⟩) N N)
  have hF2 : ∀ x, F2 x ↔ x = c := fun x => by rw [k2 x]; simp [Value.ownBlock, eq_comm]
  have hcB : c ≠ B := fun e => (k3 c ((hF2 c).2 rfl)).2.2 (.inr ((h5 c).2 (.inl e)))
  have hcb : ∀ i, i < k → c ≠ b i := fun i hi e => (k3 c ((hF2 c).2 rfl)).2.2 (.inr ((h5 c).2 (.inr ⟨i, hi, e⟩)))
  have h7 := HeldU.step hM k4 (fun x hx _ => by subst hx; exact (h6 x ((h5 x).2 (.inl rfl))).1) (fun x hx _ => by subst hx; exact .inl (.inr ((h5 x).2 (.inl rfl))))
  refine ⟨fun x => F1 x ∨ F2 x, ⟨?_, fun i hi => ?_, fun i hi => ?_, fun i j hi hj e => ?_, fun x => ?_⟩, fun x hx => ?_, h7.less fun x hx => ?_⟩
  · obtain ⟨g, off, hg, _, _, hput⟩ := h1.site (by omega)
    simp only [Option.some.injEq, Addr.mk.injEq, and_true] at hg
    obtain ⟨rfl, rfl⟩ := hg
    have := hput k (.slice (some ⟨c, 0, none⟩) N N) hk
    rw [Nat.zero_add] at this
    have e : (rowsL b k N).set k (.slice (some ⟨c, 0, none⟩) N N) = rowsL (atK b k c) (k + 1) N := by
      refine List.ext_getElem? fun y => ?_
      rw [List.getElem?_set]
      by_cases hy : y < N
      · rw [rowsL_get _ _ _ _ hy, rowsL_get _ _ _ _ hy]
        by_cases e : k = y
        · subst e
          rw [if_pos rfl, if_pos (by simpa [rowsL] using hy)]
          simp [rowV, atK_self]
        · rw [if_neg e]
          unfold rowV
          by_cases hyk : y < k
          · rw [if_pos hyk, if_pos (by omega), atK_ne _ _ _ (fun h => e h.symm)]
          · rw [if_neg hyk, if_neg (by omega)]
      · rw [if_neg (by omega), List.getElem?_eq_none (by simp [rowsL]; omega), List.getElem?_eq_none (by simp [rowsL]; omega)]
    rw [← e]; exact this
  · by_cases e : i = k
    · subst e
      rw [atK_self]
      have e2 : rowL (addRow V i W) N i = xs := by
        rw [hxs]; unfold rowL; congr 1
        exact List.map_congr_left fun y _ => by simp [addRow]
      rw [e2]
      refine k1.kept hM fun y hy => ?_
      have : c = y := by simpa [Value.ownBlock] using hy
      subst this; exact hcB
    · rw [atK_ne _ _ _ e]
      have e2 : rowL (addRow V k W) N i = rowL V N i := by
        unfold rowL; congr 1
        exact List.map_congr_left fun y _ => by simp [addRow, e]
      rw [e2]
      refine (h2 i (by omega)).kept hM fun y hy => ?_
      have : b i = y := by simpa [Value.ownBlock] using hy
      subst this; exact h3 i (by omega)
  · by_cases e : i = k
    · rw [e, atK_self]; exact hcB
    · rw [atK_ne _ _ _ e]; exact h3 i (by omega)
  · by_cases e1 : i = k
    · by_cases e2 : j = k
      · omega
      · rw [e1, atK_self, atK_ne _ _ _ e2] at e
        exact absurd e (hcb j (by omega))
    · by_cases e2 : j = k
      · rw [e2, atK_self, atK_ne _ _ _ e1] at e
        exact absurd e.symm (hcb i (by omega))
      · rw [atK_ne _ _ _ e1, atK_ne _ _ _ e2] at e
        exact h4 i j (by omega) (by omega) e
  · show (F1 x ∨ F2 x) ↔ _
    rw [h5, hF2]
    constructor
    · rintro ((hx | ⟨i, hi, hx⟩) | hx)
      · exact .inl hx
      · exact .inr ⟨i, by omega, by rw [atK_ne _ _ _ (by omega)]; exact hx⟩
      · exact .inr ⟨k, by omega, by rw [atK_self]; exact hx⟩
    · rintro (hx | ⟨i, hi, hx⟩)
      · exact .inl (.inl hx)
      · by_cases e : i = k
        · rw [e, atK_self] at hx; exact .inr hx
        · rw [atK_ne _ _ _ e] at hx; exact .inl (.inr ⟨i, by omega, hx⟩)
  · rcases hx with hx | hx
    · exact ⟨(h6 x hx).1, Nat.lt_of_lt_of_le (h6 x hx).2.1 hM.size, fun h => h⟩
    · exact ⟨(k3 x hx).1, Nat.lt_of_lt_of_le (k3 x hx).2.1 hM.size, fun h => h⟩
  · rcases hx with hx | hx | hx
    · exact .inl (.inl hx)
    · exact .inl (.inr hx)
    · exact .inr hx
/-- no row yet -/
theorem Held.matStart (h : Held w0 w (ownT eR 1 (.slice (some ⟨B, 0, none⟩) N N) N (List.replicate N (.slice none 0 0)) :: Rs)) (b : Nat → Nat) (V : Nat → Nat → Nat) : Held w0 w (matT eR eI B b 0 N V :: Rs) := by
  obtain ⟨F, ⟨h1, h2⟩, h3, h4⟩ := h
  have e : rowsL b 0 N = List.replicate N (.slice none 0 0) := by
    refine List.ext_getElem? fun y => ?_
    by_cases hy : y < N
    · rw [rowsL_get _ _ _ _ hy, List.getElem?_replicate, if_pos hy]; simp [rowV]
    · rw [List.getElem?_eq_none (by simp [rowsL]; omega), List.getElem?_eq_none (by simp; omega)]
  refine ⟨F, ⟨by rw [e]; exact h1, fun i hi => by omega, fun i hi => by omega, fun i j hi => by omega, fun x => ?_⟩, h3, h4⟩
  rw [h2 x]
  simp [Value.ownBlock, eq_comm]
theorem Held.matCongr {V' : Nat → Nat → Nat} (h : Held w0 w (matT eR eI B b k N V :: Rs)) (hV : ∀ i j, i < k → j < N → V i j = V' i j) : Held w0 w (matT eR eI B b k N V' :: Rs) := by
  obtain ⟨F, ⟨h1, h2, h3, h4, h5⟩, h6, h7⟩ := h
  refine ⟨F, ⟨h1, fun i hi => ?_, h3, h4, h5⟩, h6, h7⟩
  have e : rowL V' N i = rowL V N i := by
    unfold rowL
    congr 1
    exact List.map_congr_left fun y hy => (hV i y hi (List.mem_range.1 hy)).symm
  rw [e]; exact h2 i hi
end
theorem made_cells (z : Value) (n : Nat) (hz : z.cells = #[z]) : (madeCells z.cells (n * 1)).toList = List.replicate n z := by
  rw [Nat.mul_one, hz]
  refine List.ext_getElem? fun j => ?_
  by_cases hj : j < n
  · simp [madeCells, hj, Nat.mod_one]
  · rw [List.getElem?_eq_none (by simp [madeCells]; omega), List.getElem?_eq_none (by simp; omega)]
theorem rowV_lt (b : Nat → Nat) (k N i : Nat) (h : i < k) : rowV b k N i = .slice (some ⟨b i, 0, none⟩) N N := by simp [rowV, h]
theorem zeros_row (N : Nat) : List.replicate N (Value.int .i64 0) = nums .i64 ((List.range N).map fun _ => 0) := by
  rw [show (List.range N).map (fun _ => (0 : Nat)) = List.replicate N 0 by simp [List.map_const'], nums_replicate]; rfl
end Go.Proofs.Ytcmfccooipnmeaa
