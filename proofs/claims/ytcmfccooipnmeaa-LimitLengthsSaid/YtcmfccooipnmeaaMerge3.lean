/-
  Two sorted ranges of items merged, whatever their lengths.
-/
import Derived.Test.YtcmfccooipnmeaaMerge2
namespace Go.Proofs.Ytcmfccooipnmeaa
open Go.RowKit

theorem merge_ok : ∀ D, MergeOK D
  | 0 => by
    intro a m b N P X Y S v w0 w Rs h hN hN2 ha hm hb h1 h2 hX hY hD
    exfalso; omega
  | D + 1 => by
    intro a m b N P X Y S v w0 w Rs h hN hN2 ha hm hb h1 h2 hX hY hD
    by_cases e1 : a + 1 = m
    · obtain ⟨x, rfl⟩ : ∃ x, X = [x] := List.length_eq_one_iff.1 (by omega)
      exact merge_left a m b N P Y S x v w0 w Rs h hN hN2 ha e1 hb hY
    · by_cases e2 : m + 1 = b
      · obtain ⟨y, rfl⟩ : ∃ y, Y = [y] := List.length_eq_one_iff.1 (by omega)
        exact merge_right a m b N P X S y v w0 w Rs h hN hN2 ha hm e2 hX (by omega)
      · exact merge_step D (merge_ok D) a m b N P X Y S v w0 w Rs h hN hN2 ha hm hb (by omega) (by omega) hX hY hD
end Go.Proofs.Ytcmfccooipnmeaa
