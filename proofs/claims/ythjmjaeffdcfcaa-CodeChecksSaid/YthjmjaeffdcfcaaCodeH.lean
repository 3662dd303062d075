/-
  The contracts of codes beside what a call holds.
-/
import Derived.Test.YthjmjaeffdcfcaaCodeAns
import Derived.Test.YthjmjaeffdcfcaaCodeRef
import Derived.Test.YthjmjaeffdcfcaaCodeRef2
import Derived.Test.YthjmjaeffdcfcaaCodeCost
namespace Go.Proofs.Ythjmjaeffdcfcaa
open Go.RowKit

theorem Rd.num {w : World} {v : Value} {n : Nat} {l : List Int} (h : Rd w 1 v n (ints l)) : n = l.length := by
  have := h.1
  rw [ints_length] at this; omega
section
variable {w0 w : World} {Rs : List Thing} {v : Value} {n : Nat} {l : List Int}
theorem h_answers (h : Held w0 w Rs) : Calls Try.prog 8 #[] w fun e w' => e = .returned (.bool true) ∧ Held w0 w' Rs :=
  (answers_any w).mono fun _ _ ⟨h1, h2⟩ => ⟨h1, h.same h2⟩
theorem h_codes (h : Held w0 w Rs) (hv : Rd w 1 v n (ints l)) (hl : n ≤ 288) :
    Calls Try.prog 9 #[v] w fun e w' => ∃ ao cap, e = .returned (.slice ao n cap) ∧ Held w0 w' (ownT 29 1 (.slice ao n cap) n (nums .u32 (codesOf l)) :: Rs) := by
  obtain rfl := hv.num
  refine (codes_any v l w hv hl).mono fun e w' ⟨v', he, ho, hf, hm⟩ => ?_
  obtain ⟨ao, cap, rfl, _, _⟩ := ho.form
  exact ⟨ao, cap, he, h.pushOwn ho hm hf⟩
theorem h_refcodes (h : Held w0 w Rs) (hv : Rd w 1 v n (ints l)) (hl : n ≤ 288) :
    Calls Try.prog 10 #[v] w fun e w' => ∃ ao cap, e = .returned (.slice ao n cap) ∧ Held w0 w' (ownT 29 1 (.slice ao n cap) n (nums .u32 (codesOf l)) :: Rs) := by
  obtain rfl := hv.num
  refine (refcodes_any v l w hv hl).mono fun e w' ⟨v', he, ho, hf, hm⟩ => ?_
  obtain ⟨ao, cap, rfl, _, _⟩ := ho.form
  exact ⟨ao, cap, he, h.pushOwn ho hm hf⟩
theorem h_sum (h : Held w0 w Rs) (hv : Rd w 1 v n (ints l)) (hl : n < 1000000) :
    Calls Try.prog 11 #[v] w fun e w' => e = .returned (.int .i64 ((sumOf l : Nat) : Int)) ∧ Held w0 w' Rs := by
  obtain rfl := hv.num
  exact (sum_any v l w hv hl).mono fun _ _ ⟨h1, h2⟩ => ⟨h1, h.same h2⟩
theorem h_refsum (h : Held w0 w Rs) (hv : Rd w 1 v n (ints l)) (hl : n < 1000000) :
    Calls Try.prog 12 #[v] w fun e w' => e = .returned (.int .i64 ((sumOf l : Nat) : Int)) ∧ Held w0 w' Rs := by
  obtain rfl := hv.num
  exact (refsum_any v l w hv hl).mono fun _ _ ⟨h1, h2⟩ => ⟨h1, h2 ▸ h⟩
theorem h_check (h : Held w0 w Rs) (most : Int) (hv : Rd w 1 v n (ints l)) (hl : n < 1000000) :
    Calls Try.prog 13 #[v, .int .i64 most] w fun e w' => e = .returned (.int .i64 ((checkOf l most : Nat) : Int)) ∧ Held w0 w' Rs := by
  obtain rfl := hv.num
  exact (check_any v l most w hv hl).mono fun _ _ ⟨h1, h2⟩ => ⟨h1, h.same h2⟩
theorem h_refcheck (h : Held w0 w Rs) (most : Int) (hv : Rd w 1 v n (ints l)) (hl : n < 1000000) :
    Calls Try.prog 14 #[v, .int .i64 most] w fun e w' => e = .returned (.int .i64 ((checkOf l most : Nat) : Int)) ∧ Held w0 w' Rs := by
  obtain rfl := hv.num
  exact (refcheck_any v l most w hv hl).mono fun _ _ ⟨h1, h2⟩ => ⟨h1, h2 ▸ h⟩
variable {u : Value} {m : Nat} {f : List Int}
theorem h_cost (h : Held w0 w Rs) (hv : Rd w 1 v n (ints l)) (hu : Rd w 1 u m (ints f)) (hl : n < 1000000) :
    Calls Try.prog 15 #[v, u] w fun e w' => e = .returned (.int .i64 ((costTo l f (min n m) : Nat) : Int)) ∧ Held w0 w' Rs := by
  obtain rfl := hv.num
  obtain rfl := hu.num
  exact (cost_any v u l f w hv hu hl).mono fun _ _ ⟨h1, c, h2⟩ => ⟨h1, by rw [h2]; exact h.drewN c⟩
theorem h_refcost (h : Held w0 w Rs) (hv : Rd w 1 v n (ints l)) (hu : Rd w 1 u m (ints f)) (hl : n < 1000000) :
    Calls Try.prog 16 #[v, u] w fun e w' => e = .returned (.int .i64 ((costTo l f (min n m) : Nat) : Int)) ∧ Held w0 w' Rs := by
  obtain rfl := hv.num
  obtain rfl := hu.num
  exact (refcost_any v u l f w hv hu hl).mono fun _ _ ⟨h1, c, h2⟩ => ⟨h1, by rw [h2]; exact h.drewN c⟩
theorem h_ints (h : Held w0 w Rs) (hv : Rd w 1 v n (ints l)) (hu : Rd w 1 u n (ints l)) (hl : n < 1000000) :
    Calls Try.prog 17 #[v, u] w fun e w' => e = .returned (.bool true) ∧ Held w0 w' Rs := by
  obtain rfl := hv.num
  exact (ints_same v u l w hv hu hl).mono fun _ _ ⟨h1, c, h2⟩ => ⟨h1, by rw [h2]; exact h.drewN c⟩
end
end Go.Proofs.Ythjmjaeffdcfcaa
