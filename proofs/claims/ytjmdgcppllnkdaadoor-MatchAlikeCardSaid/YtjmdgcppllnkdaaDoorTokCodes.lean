/-
  The program's codes of lengths and distances.
-/
import Derived.Test.YtjmdgcppllnkdaaDoorProg
import Derived.Test.YtjmdgcppllnkdaaDoorTokMath
import Derived.Test.YtjmdgcppllnkdaaDoorOwn2
import Derived.StillTailTactics
namespace Go.Proofs.YtjmdgcppllnkdaaDoor
open Go.RowKit

/-- what LenBase returns -/
def lensOf (code : Int) : Value := if code < 257 ∨ 285 < code then .tuple #[.int .i64 0, .int .i64 0, .bool false] else .tuple #[.int .i64 ((lB (code - 257).toNat : Nat) : Int), .int .i64 ((lX (code - 257).toNat : Nat) : Int), .bool true]
def distsOf (code : Int) : Value := if code < 0 ∨ 30 ≤ code then .tuple #[.int .i64 0, .int .i64 0, .bool false] else .tuple #[.int .i64 ((dB code.toNat : Nat) : Int), .int .i64 ((dX code.toNat : Nat) : Int), .bool true]
theorem lens_at (k : Nat) (hk : k < 29) : lensOf ((257 + k : Nat) : Int) = .tuple #[.int .i64 ((lB k : Nat) : Int), .int .i64 ((lX k : Nat) : Int), .bool true] := by
  unfold lensOf
  rw [if_neg (by omega), show (((257 + k : Nat) : Int) - 257).toNat = k by omega]
theorem dists_at (k : Nat) (hk : k < 30) : distsOf (k : Int) = .tuple #[.int .i64 ((dB k : Nat) : Int), .int .i64 ((dX k : Nat) : Int), .bool true] := by
  unfold distsOf
  rw [if_neg (by omega), Int.toNat_natCast]
/-- what LenCode returns at a length, or at none -/
def IsLenCode (n : Int) (v : Value) : Prop := ((n < 3 ∨ 258 < n) ∧ v = .tuple #[.int .i64 0, .int .i64 0, .int .i64 0]) ∨ ∃ k c q x z : Nat, n = (k : Int) ∧ 3 ≤ k ∧ k ≤ 258 ∧ CodeIs lB 29 k c ∧ q = 257 + c ∧ x = lX c ∧ z = k - lB c ∧ v = .tuple #[.int .i64 (q : Int), .int .i64 (x : Int), .int .i64 (z : Int)]
def IsDistCode (n : Int) (v : Value) : Prop := ((n < 1 ∨ 32768 < n) ∧ v = .tuple #[.int .i64 0, .int .i64 0, .int .i64 0]) ∨ ∃ k c q x z : Nat, n = (k : Int) ∧ 1 ≤ k ∧ k ≤ 32768 ∧ CodeIs dB 30 k c ∧ q = 0 + c ∧ x = dX c ∧ z = k - dB c ∧ v = .tuple #[.int .i64 (q : Int), .int .i64 (x : Int), .int .i64 (z : Int)]
end Go.Proofs.YtjmdgcppllnkdaaDoor
