/-
  What the laws of limits are handed; costs beside what a call holds.
-/
import Derived.Test.YtcmfccooipnmeaaLimitOK
import Derived.Test.YtcmfccooipnmeaaLimitLaw
import Derived.Test.YtcmfccooipnmeaaCodeRef
import Derived.Test.YtcmfccooipnmeaaCostP
import Derived.Test.YtcmfccooipnmeaaCostR
import Derived.Test.YtcmfccooipnmeaaOpen
import Derived.Test.YtcmfccooipnmeaaSound5
namespace Go.Proofs.Ytcmfccooipnmeaa
open Go.RowKit

def shInt64 : Shape Try.prog Int := shInt 3 .i64 Try.underlying3 (by kernel_rfl)
def shInts : Shape Try.prog (List Int) := shSlice shInt64 22 Try.underlying22 (by kernel_rfl) (by decide)
theorem ints_of {w : World} {v : Value} {l : List Int} (h : shInts.good w [v] l) : Rd w 1 v l.length (ints l) := by
  obtain ⟨v', hv, hs⟩ := h
  obtain rfl : v = v' := by simpa using hv
  exact hs.rd (fun n => .int .i64 n) (fun W xs a hg => hg.1) rfl
section
variable {w0 w : World} {Rs : List Thing}
theorem h_cost5 (h : Held w0 w Rs) {v u : Value} {n : Nat} {l f : List Nat} (hv : Rd w 1 v n (nums .i64 l)) (hu : Rd w 1 u n (nums .i64 f)) (hn : n < 1000000) (hl : ∀ a ∈ l, a ≤ 1048576) (hf : ∀ a ∈ f, a ≤ 1048576) :
    Calls Try.prog 14 #[v, u] w fun e w' => e = .returned (.int .i64 ((cst l f : Nat) : Int)) ∧ Held w0 w' Rs := by
  have h1 : n = l.length := by have := hv.1; simp [nums] at this; omega
  have h2 : n = f.length := by have := hu.1; simp [nums] at this; omega
  have e1 : nums .i64 l = ints (castL l) := nums_ints l
  have e2 : nums .i64 f = ints (castL f) := nums_ints f
  rw [e1] at hv
  rw [e2] at hu
  refine (cost_any v u (castL l) (castL f) w (by rw [castL_length, ← h1]; exact hv) (by rw [castL_length, ← h2]; exact hu) (by rw [castL_length, ← h1]; exact hn)).mono fun e w' ⟨he, c, hw⟩ => ⟨?_, by rw [hw]; exact h.drewN c⟩
  rw [he, castL_length, castL_length, Nat.min_eq_left (by omega), costTo_cst l f (by omega) hl hf]
theorem h_refcost5 (h : Held w0 w Rs) {v u : Value} {n : Nat} {l f : List Nat} (hv : Rd w 1 v n (nums .i64 l)) (hu : Rd w 1 u n (nums .i64 f)) (hn : n < 1000000) (hl : ∀ a ∈ l, a ≤ 1048576) (hf : ∀ a ∈ f, a ≤ 1048576) :
    Calls Try.prog 11 #[v, u] w fun e w' => e = .returned (.int .i64 ((cst l f : Nat) : Int)) ∧ Held w0 w' Rs := by
  have h1 : n = l.length := by have := hv.1; simp [nums] at this; omega
  have h2 : n = f.length := by have := hu.1; simp [nums] at this; omega
  have e1 : nums .i64 l = ints (castL l) := nums_ints l
  have e2 : nums .i64 f = ints (castL f) := nums_ints f
  rw [e1] at hv
  rw [e2] at hu
  refine (refcost_any v u (castL l) (castL f) w (by rw [castL_length, ← h1]; exact hv) (by rw [castL_length, ← h2]; exact hu) (by rw [castL_length, ← h1]; exact hn)).mono fun e w' ⟨he, c, hw⟩ => ⟨?_, by rw [hw]; exact h.drewN c⟩
  rw [he, castL_length, castL_length, Nat.min_eq_left (by omega), costTo_cst l f (by omega) hl hf]
end
end Go.Proofs.Ytcmfccooipnmeaa
