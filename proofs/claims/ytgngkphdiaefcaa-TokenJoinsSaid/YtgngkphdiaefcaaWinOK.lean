/-
  What a window is to do, as a statement that the program's own text must show ('WindowOK', for some thing that a window is); the laws' own example.
-/
import Derived.Test.YtgngkphdiaefcaaWinMath
import Derived.Test.YtgngkphdiaefcaaRef1
import Derived.Test.YtgngkphdiaefcaaHeldApp
import Derived.Test.YtgngkphdiaefcaaSlices
import Derived.Test.YtgngkphdiaefcaaPut
import Derived.StillTailTactics
import Derived.Lib.SlBytesConst
import Derived.Laws.BytesArg
namespace Go.Proofs.Ytgngkphdiaefcaa
open Go.RowKit

structure WindowOK (W : List Nat → Nat → Thing) : Prop where
  new : ∀ (w0 w : World) (Rs : List Thing), Held w0 w Rs →
    Calls Try.prog 25 #[] w fun e w' => ∃ B, e = .returned (.pointer (some ⟨B, 0, none⟩)) ∧ Held w0 w' (W [] B :: Rs)
  add : ∀ (all : List Nat) (B : Nat) (v : Value) (n : Nat) (bs : List Nat) (w0 w : World) (Rs : List Thing), Held w0 w (W all B :: Rs) → Rd w 1 v n (u8s bs) → (∀ b ∈ bs, b < 256) → (∀ b ∈ all, b < 256) → all.length + n < 1000000000 →
    Calls Try.prog 30 #[.pointer (some ⟨B, 0, none⟩), v] w fun e w' => e = .returned (.tuple #[]) ∧ Held w0 w' (W (all ++ bs) B :: Rs)
  copyArg : ∀ (all : List Nat) (B : Nat) (n d : Int) (w0 w : World) (Rs : List Thing), Held w0 w (W all B :: Rs) → all.length < 1000000000 → n < 1 ∨ 258 < n →
    Calls Try.prog 29 #[.pointer (some ⟨B, 0, none⟩), .int .i64 n, .int .i64 d] w fun e w' => ∃ v, e = .returned (.tuple #[v, .int .i64 1]) ∧ Rd w' 1 v 0 [] ∧ Held w0 w' (W all B :: Rs)
  copyCode : ∀ (all : List Nat) (B : Nat) (n d : Int) (w0 w : World) (Rs : List Thing), Held w0 w (W all B :: Rs) → all.length < 1000000000 → 1 ≤ n → n ≤ 258 → d < 1 ∨ ((min all.length 32768 : Nat) : Int) < d →
    Calls Try.prog 29 #[.pointer (some ⟨B, 0, none⟩), .int .i64 n, .int .i64 d] w fun e w' => ∃ v, e = .returned (.tuple #[v, .int .i64 3]) ∧ Rd w' 1 v 0 [] ∧ Held w0 w' (W all B :: Rs)
  copy : ∀ (all : List Nat) (B n d : Nat) (w0 w : World) (Rs : List Thing), Held w0 w (W all B :: Rs) → (∀ b ∈ all, b < 256) → all.length < 1000000000 → 1 ≤ n → n ≤ 258 → 1 ≤ d → d ≤ all.length → d ≤ 32768 →
    Calls Try.prog 29 #[.pointer (some ⟨B, 0, none⟩), .int .i64 (n : Int), .int .i64 (d : Int)] w fun e w' => ∃ v, e = .returned (.tuple #[v, .int .i64 0]) ∧ Held w0 w' (ownT 5 1 v n (u8s (out all d n)) :: W (ext all d n) B :: Rs)
  len : ∀ (all : List Nat) (B m : Nat) (w0 w : World) (Rs : List Thing), Held w0 w (W all B :: Rs) → all.length < 1000000000 → m = min all.length 32768 →
    Calls Try.prog 31 #[.pointer (some ⟨B, 0, none⟩)] w fun e w' => e = .returned (.int .i64 (m : Int)) ∧ Held w0 w' (W all B :: Rs)
  last : ∀ (all : List Nat) (B n : Nat) (w0 w : World) (Rs : List Thing), Held w0 w (W all B :: Rs) → (∀ b ∈ all, b < 256) → all.length < 1000000000 → n ≤ all.length → n ≤ 32768 →
    Calls Try.prog 33 #[.pointer (some ⟨B, 0, none⟩), .int .i64 (n : Int)] w fun e w' => ∃ v, e = .returned v ∧ Rd w' 1 v n (u8s (all.drop (all.length - n))) ∧ Held w0 w' (W all B :: Rs)
  addNil : ∀ (v : Value) (n : Nat) (bs : List Nat) (w0 w : World) (Rs : List Thing), Held w0 w Rs → Rd w 1 v n (u8s bs) →
    Calls Try.prog 30 #[.pointer none, v] w fun e w' => e = .returned (.tuple #[]) ∧ Held w0 w' Rs
  copyNil : ∀ (n d : Int) (w0 w : World) (Rs : List Thing), Held w0 w Rs →
    Calls Try.prog 29 #[.pointer none, .int .i64 n, .int .i64 d] w fun e w' => ∃ v, e = .returned (.tuple #[v, .int .i64 1]) ∧ Rd w' 1 v 0 [] ∧ Held w0 w' Rs
  lenNil : ∀ (w0 w : World) (Rs : List Thing), Held w0 w Rs →
    Calls Try.prog 31 #[.pointer none] w fun e w' => e = .returned (.int .i64 0) ∧ Held w0 w' Rs
  lastNil : ∀ (n : Int) (w0 w : World) (Rs : List Thing), Held w0 w Rs →
    Calls Try.prog 33 #[.pointer none, .int .i64 n] w fun e w' => ∃ v, e = .returned v ∧ Rd w' 1 v 0 [] ∧ Held w0 w' Rs
section
variable {w0 w : World} {Rs : List Thing}
theorem h_equal (h : Held w0 w Rs) (v u : Value) (a : List Nat) (n : Nat) (hv : Rd w 1 v n (u8s a)) (hu : Rd w 1 u n (u8s a)) (hal : n < 8000000000) :
    Calls Try.prog 20 #[v, u] w fun e w' => e = .returned (.bool true) ∧ Held w0 w' Rs := by
  have hn : n = a.length := by have := hv.1; rw [u8s_length] at this; omega
  subst hn
  exact (same_any v u a a w hv hu hal).mono fun _ _ ⟨h1, k, h2⟩ => ⟨by rw [h1]; simp, by rw [h2]; exact h.drewN k⟩
theorem Rd.marked (w : World) (cs : List Value) (n : Nat) (t : TypeId) (fr : Nat × Nat) (hn : cs.length = n) (hm : n ≤ maxLen) : Rd (w.alloc (.cells cs.toArray t fr)) 1 (.slice (some ⟨w.heap.size, 0, none⟩) n n) n cs := by
  refine ⟨by omega, _, _, rfl, Nat.le_refl _, hm, by simp, .inr ⟨_, _, rfl, fun j u hu => ?_⟩⟩
  have : (w.alloc (.cells cs.toArray t fr)).heap[w.heap.size]? = some (.cells cs.toArray t fr) := by
    show (w.heap.push _)[w.heap.size]? = _
    simp
  rw [Nat.zero_add, cell_of_row _ _ _ _ _ _ this]
  simpa using hu
theorem eg_out : out [97, 98] 2 5 = [97, 98, 97, 98, 97] := by decide
theorem eg_ext : ext [97, 98] 2 5 = [97, 98, 97, 98, 97, 98, 97] := by decide
end
end Go.Proofs.Ytgngkphdiaefcaa
