/-
  The capacity of a queue.
-/
import Derived.Test.YthlfomeggobnaaaProg
import Derived.Test.YthlfomeggobnaaaOwn2
import Derived.StillTailTactics
namespace Go.Proofs.Ythlfomeggobnaaa
open Go.RowKit

theorem ret_int {k : IntKind} {a b : Int} (h : a = b) : Ending.returned (.int k a) = .returned (.int k b) := by rw [h]
/-- The capacity that is asked for, within the limits. -/
def lim (m : Int) : Nat := min m.toNat 65536
theorem lim_le (m : Int) : lim m ≤ 65536 := Nat.min_le_right _ _
/-- how many Peek and Pop return -/
def few (a : Int) (n : Nat) : Nat := min a.toNat n
theorem limited_any (m : Int) (w : World) :
    Calls Try.prog 32 #[.int .i64 m] w fun e w' => e = .returned (.int .i64 (lim m : Int)) ∧ w = w' := by
  go_enter Try.func32, Try.ntmps32
  go_wp2
  all_goals
    go_ret
    exact ⟨ret_int (by unfold lim; omega), rfl⟩
end Go.Proofs.Ythlfomeggobnaaa
