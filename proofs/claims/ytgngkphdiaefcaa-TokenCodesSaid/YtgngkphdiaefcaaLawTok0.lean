/-
  The laws' own example of layer 8; what two answers of one question have in common.
-/
import Derived.Test.YtgngkphdiaefcaaTokRef
import Derived.Test.YtgngkphdiaefcaaTokSound
namespace Go.Proofs.Ytgngkphdiaefcaa
open Go.RowKit

theorem IsLenCode.same {n : Int} {v u : Value} (h : IsLenCode n v) (h' : IsLenCode n u) : v = u := by
  rcases h with ⟨h1, rfl⟩ | ⟨k, c, q, x, z, h0, h1, h2, hc, rfl, rfl, rfl, rfl⟩
  · rcases h' with ⟨_, rfl⟩ | ⟨k', c', q', x', z', h0', h1', h2', _⟩
    · rfl
    · omega
  · rcases h' with ⟨h3, _⟩ | ⟨k', c', q', x', z', h0', h1', h2', hc', rfl, rfl, rfl, rfl⟩
    · omega
    · obtain rfl : k = k' := by omega
      rw [hc.same hc']
theorem IsDistCode.same {n : Int} {v u : Value} (h : IsDistCode n v) (h' : IsDistCode n u) : v = u := by
  rcases h with ⟨h1, rfl⟩ | ⟨k, c, q, x, z, h0, h1, h2, hc, rfl, rfl, rfl, rfl⟩
  · rcases h' with ⟨_, rfl⟩ | ⟨k', c', q', x', z', h0', h1', h2', _⟩
    · rfl
    · omega
  · rcases h' with ⟨h3, _⟩ | ⟨k', c', q', x', z', h0', h1', h2', hc', rfl, rfl, rfl, rfl⟩
    · omega
    · obtain rfl : k = k' := by omega
      rw [hc.same hc']
theorem lenCode_258 : IsLenCode 258 (.tuple #[.int .i64 285, .int .i64 0, .int .i64 0]) :=
  .inr ⟨258, 28, 285, 0, 0, rfl, by decide, by decide, ⟨by decide, by decide, fun d h1 h2 => by omega⟩, by decide, by decide, by decide, rfl⟩
theorem IsLenCode.form {n : Int} {v : Value} (h : IsLenCode n v) : ∃ a b c : Int, v = .tuple #[.int .i64 a, .int .i64 b, .int .i64 c] := by
  rcases h with ⟨h1, rfl⟩ | ⟨k, c, q, x, z, h0, h1, h2, hc, rfl, rfl, rfl, rfl⟩
  · exact ⟨_, _, _, rfl⟩
  · exact ⟨_, _, _, rfl⟩
theorem IsDistCode.form {n : Int} {v : Value} (h : IsDistCode n v) : ∃ a b c : Int, v = .tuple #[.int .i64 a, .int .i64 b, .int .i64 c] := by
  rcases h with ⟨h1, rfl⟩ | ⟨k, c, q, x, z, h0, h1, h2, hc, rfl, rfl, rfl, rfl⟩
  · exact ⟨_, _, _, rfl⟩
  · exact ⟨_, _, _, rfl⟩
theorem lensOf_form (n : Int) : ∃ a b : Int, ∃ c : Bool, lensOf n = .tuple #[.int .i64 a, .int .i64 b, .bool c] := by
  unfold lensOf
  split
  · exact ⟨_, _, _, rfl⟩
  · exact ⟨_, _, _, rfl⟩
theorem distsOf_form (n : Int) : ∃ a b : Int, ∃ c : Bool, distsOf n = .tuple #[.int .i64 a, .int .i64 b, .bool c] := by
  unfold distsOf
  split
  · exact ⟨_, _, _, rfl⟩
  · exact ⟨_, _, _, rfl⟩
theorem h_answers8 (w : World) :
    Calls Try.prog 11 #[] w fun e w' => e = .returned (.bool true) ∧ Mod w w' (fun _ => False) := by
  have HL := hid (lenCode_any 258 w)
  have HS := hid (sound_any (0, 3, 1) w)
  rw [show soundB (0, 3, 1) = true by decide] at HS
  unfold tokV at HS
  go_enter Try.func11, Try.ntmps11
  go_wp2_with fail
  refine HL.out.mono ?_
  rintro e w1 ⟨⟨v, rfl, hv⟩, rfl⟩
  obtain rfl := hv.same lenCode_258
  clear hv
  go_wp2_with fail
  refine HS.out.mono ?_
  rintro e w1 ⟨rfl, hm⟩
  have HM := hid hm
  clear hm
  go_wp2
  go_ret
  exact ⟨rfl, HM.out⟩
end Go.Proofs.Ytgngkphdiaefcaa
