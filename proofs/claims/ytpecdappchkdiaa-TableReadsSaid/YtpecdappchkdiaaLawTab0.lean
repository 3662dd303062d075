/-
  What the laws of tables are handed.
-/
import Derived.Test.YtpecdappchkdiaaTabOK
import Derived.Test.YtpecdappchkdiaaOpen
namespace Go.Proofs.Ytpecdappchkdiaa
open Go.RowKit

def shInt64 : Shape Try.prog Int := shInt 3 .i64 Try.underlying3 (by kernel_rfl)
def shInts : Shape Try.prog (List Int) := shSlice shInt64 22 Try.underlying22 (by kernel_rfl) (by decide)
def shByte : Shape Try.prog Int := shInt 5 .u8 Try.underlying5 (by kernel_rfl)
def shBytes : Shape Try.prog (List Int) := shSlice shByte 23 Try.underlying23 (by kernel_rfl) (by decide)
theorem ints_of {w : World} {v : Value} {l : List Int} (h : shInts.good w [v] l) : Rd w 1 v l.length (ints l) := by
  obtain ⟨v', hv, hs⟩ := h
  obtain rfl : v = v' := by simpa using hv
  exact hs.rd (fun n => .int .i64 n) (fun W xs a hg => hg.1) rfl
theorem bytes_of {w : World} {v : Value} {l : List Int} (h : shBytes.good w [v] l) : ∃ bs : List Nat, bs.length = l.length ∧ (∀ b ∈ bs, b < 256) ∧ Rd w 1 v bs.length (u8s bs) := by
  obtain ⟨v', hv, hs⟩ := h
  obtain rfl : v = v' := by simpa using hv
  exact hs.bytes
theorem infoInt6 : (Try.prog.info? 3).map (fun i => (i.zero, i.size, i.bytes)) = some (some (.int .i64 0), 1, 8) := by kernel_rfl
theorem h_refcheck6 {w0 w : World} {Rs : List Thing} {v : Value} {n : Nat} {l : List Int} (h : Held w0 w Rs) (most : Int) (hv : Rd w 1 v n (ints l)) (hl : n < 1000000) :
    Calls Try.prog 9 #[v, .int .i64 most] w fun e w' => e = .returned (.int .i64 ((checkOf l most : Nat) : Int)) ∧ Held w0 w' Rs := by
  obtain rfl : n = l.length := by have := hv.1; simp [ints] at this; omega
  exact (refcheck_any v l most w hv hl).mono fun _ _ ⟨h1, h2⟩ => ⟨h1, h2 ▸ h⟩
theorem h_refsum6 {w0 w : World} {Rs : List Thing} {v : Value} {n : Nat} {l : List Int} (h : Held w0 w Rs) (hv : Rd w 1 v n (ints l)) (hl : n < 1000000) :
    Calls Try.prog 26 #[v] w fun e w' => e = .returned (.int .i64 ((sumOf l : Nat) : Int)) ∧ Held w0 w' Rs := by
  obtain rfl : n = l.length := by have := hv.1; simp [ints] at this; omega
  exact (refsum_any v l w hv hl).mono fun _ _ ⟨h1, h2⟩ => ⟨h1, h2 ▸ h⟩
end Go.Proofs.Ytpecdappchkdiaa
