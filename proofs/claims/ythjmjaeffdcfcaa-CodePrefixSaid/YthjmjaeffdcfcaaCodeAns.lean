/-
  The statements' own example: the lengths 2 1 3 3 have the codes 2 0 6 7. The contracts over what a call holds.
-/
import Derived.Test.YthjmjaeffdcfcaaCode2
import Derived.Test.YthjmjaeffdcfcaaSep
namespace Go.Proofs.Ythjmjaeffdcfcaa
open Go.RowKit

theorem four_codes : codesOf [2, 1, 3, 3] = [2, 0, 6, 7] := by decide
set_option maxRecDepth 20000 in
set_option maxHeartbeats 800000 in
theorem answers_any (w : World) :
    Calls Try.prog 8 #[] w fun e w' => e = .returned (.bool true) ∧ Mod w w' (fun _ => False) := by
  go_enter Try.func8, Try.ntmps8
  go_wp2_with fail
  refine (codes_any _ [2, 1, 3, 3] _ (Rd.lit w [.int .i64 2, .int .i64 1, .int .i64 3, .int .i64 3] 3 1 4 (by decide) rfl) (by decide)).mono ?_
  rw [four_codes]
  rintro e w1 ⟨v1, rfl, hown, hfr, hM⟩
  have hMM : Mod w w1 (fun _ => False) := ((Mod.refl w _).alloc _).same hM
  obtain ⟨ao, cap, rfl, _, _⟩ := hown.form
  obtain ⟨g, off, rfl, hc⟩ := hown.rd.spot (by decide)
  have hc1 : w1.cell? ⟨g, off, none⟩ = some (.int .u32 2) := hc 0 _ rfl
  have hc2 : w1.cell? ⟨g, off + 3, none⟩ = some (.int .u32 7) := hc 3 _ rfl
  have HM := hid hMM
  clear hc hown hfr hM hMM
  go_wp2
  go_ret
  exact ⟨rfl, HM.out⟩
end Go.Proofs.Ythjmjaeffdcfcaa
