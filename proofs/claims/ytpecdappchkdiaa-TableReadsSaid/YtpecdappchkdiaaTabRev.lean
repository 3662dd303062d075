/-
  Codes, their highest bit first, and the numbers that writers and readers take, their lowest bit first.
-/
import Derived.Test.YtpecdappchkdiaaRev
import Derived.Test.YtpecdappchkdiaaTabMath
namespace Go.Proofs.Ytpecdappchkdiaa

theorem bitsOf_revN (c n : Nat) (hn : n ≤ 32) : bitsOf n (revN c n) = hiBits n c := by
  refine List.ext_getElem? fun k => ?_
  by_cases hk : k < n
  · rw [bitsOf_get _ _ _ hk]
    have h := revN_bit c n (n - 1 - k) hn (by omega)
    rw [show n - 1 - (n - 1 - k) = k by omega] at h
    simp [hiBits, hk, h]
  · rw [List.getElem?_eq_none (by rw [bitsOf_length]; omega), List.getElem?_eq_none (by rw [hiBits_length]; omega)]
theorem bitsOf_hiBits (c n : Nat) (hn : n ≤ 32) : bitsOf n c = hiBits n (revN c n) := by
  rw [← bitsOf_revN _ _ hn, revN_twice _ _ hn, bitsOf_mod]
theorem hiN_bitsOf (c n : Nat) (hn : n ≤ 32) : hiN (bitsOf n c) = revN c n := by
  have h := hiN_hiBits n (revN c n) n (Nat.le_refl _)
  rw [List.take_of_length_le (by rw [hiBits_length]; exact Nat.le_refl _), Nat.sub_self, Nat.pow_zero, Nat.div_one, Nat.mod_eq_of_lt (revN_lt _ _ hn)] at h
  rw [bitsOf_hiBits _ _ hn, h]
theorem revN_numOf (bs : List Nat) (hb : isBits bs) (z : Nat) (hz : z ≤ 32) (hzb : z ≤ bs.length) : revN (numOf (bs.take z)) z = hiN (bs.take z) := by
  have hl : (bs.take z).length = z := by rw [List.length_take]; omega
  have h := bitsOf_numOf (bs.take z) (isBits_take hb z)
  rw [hl] at h
  have h2 := hiN_bitsOf (numOf (bs.take z)) z hz
  rw [h] at h2
  exact h2.symm
end Go.Proofs.Ytpecdappchkdiaa
