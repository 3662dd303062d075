/-
  Two items compared by weight.
-/
import Derived.Test.YtcmfccooipnmeaaProg
import Derived.Test.YtcmfccooipnmeaaStab
import Derived.Test.YtcmfccooipnmeaaInts
import Derived.Test.YtcmfccooipnmeaaSep
import Derived.Test.YtcmfccooipnmeaaSlices
import Derived.StillTailTactics
import Derived.BigRegion
namespace Go.Proofs.Ytcmfccooipnmeaa
open Go.RowKit

def itmV (x : Itm) : Value := .agg #[.int .i64 (x.1 : Int), .int .i64 x.2]
def cmpI (a b : Int) : Int := if a < b then -1 else if b < a then 1 else 0
theorem nan_any (a : Int) (w : World) : Calls Try.prog 31 #[.int .i64 a] w fun e w' => e = .returned (.bool false) ∧ w' = w := by
  go_enter Try.func31, Try.ntmps31
  go_wp2
  go_ret
  exact ⟨by simp, rfl⟩
theorem compare_any (a b : Int) (w : World) : Calls Try.prog 29 #[.int .i64 a, .int .i64 b] w fun e w' => e = .returned (.int .i64 (cmpI a b)) ∧ w' = w := by
  have hc : (a < b ∧ cmpI a b = -1) ∨ (¬ a < b ∧ b < a ∧ cmpI a b = 1) ∨ (¬ a < b ∧ ¬ b < a ∧ cmpI a b = 0) := by
    unfold cmpI
    by_cases h1 : a < b
    · simp [h1]
    · by_cases h2 : b < a
      · simp [h1, h2]
      · simp [h1, h2]
  rcases hc with ⟨h1, h2⟩ | ⟨h1, h3, h2⟩ | ⟨h1, h3, h2⟩
  all_goals
    rw [h2]
    clear h2
    go_enter Try.func29, Try.ntmps29
    go_wp2_with fail
    refine (nan_any a w).mono ?_
    rintro e w' ⟨rfl, rfl⟩
    go_wp2_with fail
    refine (nan_any b _).mono ?_
    rintro e w' ⟨rfl, rfl⟩
    go_wp2
    try (exfalso; omega)
    go_ret
    exact ⟨rfl, rfl⟩
theorem cmp_any (x y : Itm) (w : World) : Calls Try.prog 28 #[itmV x, itmV y] w fun e w' => e = .returned (.int .i64 (cmpI x.1 y.1)) ∧ Mod w w' (fun _ => False) := by
  unfold itmV
  go_enter Try.func28, Try.ntmps28
  go_wp2_with fail
  refine (compare_any _ _ _).mono ?_
  rintro e w' ⟨rfl, rfl⟩
  go_wp2
  go_ret
  exact ⟨rfl, ((Mod.refl w _).alloc _).alloc _⟩
end Go.Proofs.Ytcmfccooipnmeaa
