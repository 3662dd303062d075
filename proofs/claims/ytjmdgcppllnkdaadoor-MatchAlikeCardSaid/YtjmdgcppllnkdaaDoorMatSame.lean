/-
  The reference's SameTokens, at two slices that hold the same tokens.
-/
import Derived.Test.YtjmdgcppllnkdaaDoorLawMat1
namespace Go.Proofs.YtjmdgcppllnkdaaDoor
open Go.RowKit

set_option maxHeartbeats 1600000 in
theorem sametoks_any (v u : Value) (n : Nat) (l : List Tok) (w : World) (hv : Rd w 3 v n (toksV l)) (hu : Rd w 3 u n (toksV l)) (hn : n < 1000000000) :
    Calls Tryd.prog 17 #[v, u] w fun e w' => e = .returned (.bool true) ∧ ∃ k, w' = w.drewN k := by
  obtain ⟨ao, cap, rfl, _, _⟩ := hv.form
  obtain ⟨bo, bcap, rfl, _, _⟩ := hu.form
  have HL := hid hv.toks_len
  have HV := hid hv
  have HU := hid hu
  have hn0 : (0 : Int) ≤ (n : Int) := Int.natCast_nonneg _
  have hnn : ((n : Int) != (n : Int)) = false := by simp
  clear hv hu
  go_enter Tryd.func17, Tryd.ntmps17
  go_wp2
  go_loopg [5] (n + 2) (fun g t5 wr => ∃ i c : Nat, i ≤ n ∧ n - i < g ∧ t5 = .int .i64 (i : Int) ∧ wr = w.drewN c)
  case atStart => exact ⟨0, 0, by omega, by omega, rfl, rfl⟩
  case round =>
    obtain ⟨i, c, hi, hg, rfl, rfl⟩ := hrel
    have hi0 : (0 : Int) ≤ (i : Int) := Int.natCast_nonneg _
    by_cases hin : i < n
    · have hiI : (i : Int) < (n : Int) := by omega
      obtain ⟨⟨ta, tl, td⟩, ht⟩ : ∃ t, l[i]? = some t := ⟨l[i]'(by have := HL.out; omega), List.getElem?_eq_getElem _⟩
      obtain ⟨g, off, rfl, c0, c1, c2⟩ := HV.out.tok ht
      obtain ⟨g2, off2, rfl, d0, d1, d2⟩ := HU.out.tok ht
      clear ht
      go_wp2
      go_quiet (fail)
      go_wp2
      go_roundg (gk - 1)
      case measure => omega
      case rel => exact ⟨i + 1, _, by omega, by omega, by go_num, rfl⟩
    · have hiI : ¬ (i : Int) < (n : Int) := by omega
      go_wp2
      go_ret
      exact ⟨rfl, _, rfl⟩
end Go.Proofs.YtjmdgcppllnkdaaDoor
