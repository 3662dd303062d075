/-
  What Lengths is to return, as a statement that the program's own text must show ('LengthsOK'); the laws' own example.
-/
import Derived.Test.YtcmfccooipnmeaaLimitRef
import Derived.Test.YtcmfccooipnmeaaLimitMath
import Derived.Test.YtcmfccooipnmeaaHeldApp
import Derived.Test.YtcmfccooipnmeaaArr
namespace Go.Proofs.Ytcmfccooipnmeaa
open Go.RowKit

/-- lengths as the document asks -/
structure LenOK (f : List Nat) (m : Nat) (l : List Nat) : Prop where
  len : l.length = f.length
  few : codedN f < 2 → ∀ (i a b : Nat), l[i]? = some a → f[i]? = some b → a = if 0 < b then 1 else 0
  best : 2 ≤ codedN f → OptL f m l
def LengthsOK : Prop := ∀ (v : Value) (n : Nat) (f : List Int) (most : Int) (w : World), Rd w 1 v n (ints f) → n < 1000 →
  Calls Try.prog 8 #[v, .int .i64 most] w fun e w' => ∃ (v' : Value) (l : List Nat), e = .returned (.tuple #[v', .int .i64 ((mayOf f most : Nat) : Int)]) ∧
    Own w' 3 1 v' l.length (nums .i64 l) ∧ (∀ k, v'.ownBlock = some k → w.heap.size ≤ k) ∧ Mod w w' (fun _ => False) ∧ (mayOf f most ≠ 0 → l = []) ∧ (mayOf f most = 0 → LenOK (f.map Int.toNat) most.toNat l)
theorem OptL.three {m : Nat} {l : List Nat} (hm : 2 ≤ m) (hm2 : m ≤ 15) (h : OptL [1, 1, 2] m l) : l = [2, 2, 1] := by
  have hlen := h.good.len
  match l, hlen with
  | [x0, x1, x2], _ =>
    have p0 := (h.good.sup 0 x0 1 rfl rfl).2 (by omega)
    have p1 := (h.good.sup 1 x1 1 rfl rfl).2 (by omega)
    have p2 := (h.good.sup 2 x2 2 rfl rfl).2 (by omega)
    have hg : FitL [1, 1, 2] m [2, 2, 1] := by
      refine ⟨rfl, fun i a b ha hb => ?_, fun a ha => ?_, by decide⟩
      · match i, ha, hb with
        | 0, ha, hb => simp at ha hb; omega
        | 1, ha, hb => simp at ha hb; omega
        | 2, ha, hb => simp at ha hb; omega
        | i + 3, ha, hb => simp at ha
      · simp at ha; omega
    have h1 := h.least _ hg
    have hw := h.good.whole
    simp only [cst, kr] at h1 hw
    have w1 : wtN 1 = 16384 := by decide
    have w2 : wtN 2 = 8192 := by decide
    have w3 : wtN 3 = 4096 := by decide
    have hcase : (x2 = 1 ∧ ((x0 = 1 ∧ x1 = 1) ∨ (x0 = 1 ∧ x1 = 2) ∨ (x0 = 1 ∧ x1 = 3) ∨ (x0 = 2 ∧ x1 = 1) ∨ (x0 = 2 ∧ x1 = 2) ∨ (x0 = 3 ∧ x1 = 1))) ∨ (x2 = 2 ∧ x0 = 1 ∧ x1 = 1) := by omega
    rcases hcase with ⟨rfl, ⟨rfl, rfl⟩ | ⟨rfl, rfl⟩ | ⟨rfl, rfl⟩ | ⟨rfl, rfl⟩ | ⟨rfl, rfl⟩ | ⟨rfl, rfl⟩⟩ | ⟨rfl, rfl, rfl⟩
    · omega
    · omega
    · omega
    · omega
    · rfl
    · omega
    · omega
theorem may_three : mayOf [1, 1, 2] 15 = 0 := by decide
section
variable {w0 w : World} {Rs : List Thing}
/-- beside what a call holds -/
theorem h_lengths (H : LengthsOK) (h : Held w0 w Rs) {v : Value} {n : Nat} {f : List Int} (most : Int) (hv : Rd w 1 v n (ints f)) (hn : n < 1000) :
    Calls Try.prog 8 #[v, .int .i64 most] w fun e w' => ∃ (ao : Option Addr) (cap N : Nat) (l : List Nat), e = .returned (.tuple #[.slice ao N cap, .int .i64 ((mayOf f most : Nat) : Int)]) ∧ Hid (N = l.length) ∧
      Held w0 w' (ownT 3 1 (.slice ao N cap) N (nums .i64 l) :: Rs) ∧ Hid ((mayOf f most ≠ 0 → l = []) ∧ (mayOf f most = 0 → LenOK (f.map Int.toNat) most.toNat l)) := by
  refine (H v n f most w hv hn).mono fun e w' ⟨v', l, he, ho, hf, hm, h1, h2⟩ => ?_
  obtain ⟨ao, cap, rfl, _, _⟩ := ho.form
  exact ⟨ao, cap, l.length, l, he, rfl, h.pushOwn ho hm hf, h1, h2⟩
set_option maxRecDepth 20000 in
set_option maxHeartbeats 800000 in
theorem h_answers5 (H : LengthsOK) (h : Held w0 w Rs) : Calls Try.prog 7 #[] w fun e w' => e = .returned (.bool true) ∧ Held w0 w' Rs := by
  have HH := hid h
  have HL := hid H
  clear h H
  have HA := hid (HH.out.lit 3 1 (ints [1, 1, 2]) 3 (by decide) rfl)
  have HA2 : Hid (Held w0 (w.alloc (.cells #[.int .i64 1, .int .i64 1, .int .i64 2] 3)) (ownT 3 1 (.slice (some ⟨w.heap.size, 0, none⟩) 3 3) 3 (ints [1, 1, 2]) :: Rs)) := HA.out
  have HC := hid (h_lengths HL.out HA2.out 15 HA2.out.own.rd (by omega))
  rw [may_three] at HC
  clear HA
  go_enter Try.func7, Try.ntmps7
  go_wp2_with fail
  refine HC.out.mono ?_
  rintro e w1 ⟨ao, cap, N, l, rfl, hN, h1, h2⟩
  have HLL : Hid (l = [2, 2, 1]) := OptL.three (by decide) (by decide) ((h2.out.2 (by first | rfl | trivial)).best (by decide))
  obtain rfl := HLL.out
  obtain rfl : N = 3 := hN.out
  have HB := hid h1.drop.drop
  obtain ⟨g, off, rfl, hc⟩ := h1.own.rd.spot (by decide)
  have hc0 : w1.cell? ⟨g, off, none⟩ = some (.int .i64 2) := hc 0 _ rfl
  have hc2 : w1.cell? ⟨g, off + 2, none⟩ = some (.int .i64 1) := hc 2 _ rfl
  clear h1 h2 hc hN
  go_wp2
  go_ret
  exact ⟨rfl, HB.out⟩
end
end Go.Proofs.Ytcmfccooipnmeaa
