/-
  slices.Backward over the rows, as the program calls it.
-/
import Derived.Test.YtcmfccooipnmeaaRounds
import Derived.Test.YtcmfccooipnmeaaItems
import Derived.Sort.LoopGhostIn
namespace Go.Proofs.Ytcmfccooipnmeaa
open Go.RowKit
attribute [local go_sem] Oper.semAt_some

theorem backward_any (v : Value) (w : World) (hv : ∃ a n c, v = .slice a n c) :
    Calls Try.prog 21 #[v] w fun e w' => e = .returned (.func (.func 25) #[] #[.pointer (some ⟨w.heap.size, 0, none⟩)]) ∧ w' = w.alloc (.cells #[v] 43) := by
  obtain ⟨a, n, c, rfl⟩ := hv
  go_enter Try.func21, Try.ntmps21
  go_wp2
  go_ret
  exact ⟨rfl, rfl⟩
set_option maxRecDepth 100000 in
set_option maxHeartbeats 2000000 in
theorem backward_in (F : Fence) (n : Nat) (hf : F.fn 25) (hro : F.round = none) (hn : 1 ≤ n) (l C B m : Nat) (vals : Nat → Value) (hm : m ≤ 15) (hvals : ∀ t, ∃ a k c, vals t = .slice a k c)
    (J : Nat → World → Prop) (hJ : ∀ k W, J k W → W.cell? ⟨C, 0, none⟩ = some (.slice (some ⟨B, 0, none⟩) m m) ∧ ∀ t, t < m → W.cell? ⟨B, t, none⟩ = some (vals t))
    (hY : ∀ k W, k < m → J k W → YieldAt F (n - 1) Try.prog l #[.int .i64 ((m - 1 - k : Nat) : Int), vals (m - 1 - k)] W fun e W' => e = .returned (.bool true) ∧ J (k + 1) W')
    (W : World) (h0 : J 0 W) :
    CallsIn F n Try.prog 25 #[.func (.yield l) #[] #[], .pointer (some ⟨C, 0, none⟩)] W fun e W' => (∃ v, e = .returned v) ∧ J m W' := by
  have hC := (hJ 0 W h0).1
  have hm0 : (0 : Int) ≤ (m : Int) := Int.natCast_nonneg _
  refine callsIn_of_wp Try.func25 rfl hf ?_ hro
  simp only [Try.ntmps25, List.size_toArray, List.length_cons, List.length_nil, Nat.reduceAdd, Nat.reduceSub, Array.replicate_succ, Array.replicate_zero, List.push_toArray, List.append_toArray, List.nil_append, List.cons_append]
  gi_wp2
  gi_loopg [3] (m + 1) (fun g p wr => ∃ (k : Nat), k ≤ m ∧ m - k < g ∧ p = .int .i64 ((m : Int) - 1 - (k : Int)) ∧ Hid (J k wr))
  case atStart => exact ⟨0, by omega, by omega, by simp, h0⟩
  case round =>
    obtain ⟨k, hk, hg, rfl, HJ⟩ := hrel
    by_cases hlt : k < m
    · have c0 := (hJ k wr HJ.out).1
      obtain ⟨q, hq⟩ : ∃ q, q = m - 1 - k := ⟨_, rfl⟩
      have hqm : q < m := by omega
      have hqI : (m : Int) - 1 - (k : Int) = (q : Int) := by omega
      have hq0 : (0 : Int) ≤ (q : Int) := Int.natCast_nonneg _
      have c1 := (hJ k wr HJ.out).2 q hqm
      obtain ⟨va, vk, vc, hv⟩ := hvals q
      rw [hv] at c1
      obtain ⟨fn, tmps, assign, body, hy, hR⟩ := hY k wr hlt HJ.out
      rw [← hq, hv] at hy
      have HQ := hid hq
      clear hq
      gi_wp2
      refine hR.mono ?_
      rintro e W3 ⟨rfl, hJ3⟩
      have HJ3 := hid hJ3
      clear hJ3
      gi_wp2
      gi_roundg (gk - 1)
      case measure => omega
      case rel => exact ⟨k + 1, by omega, by omega, by go_num, HJ3⟩
    · obtain rfl : k = m := by omega
      have hlI : (k : Int) - 1 - (k : Int) = -1 := by omega
      gi_wp2
      go_end0
      exact ⟨⟨_, rfl⟩, HJ⟩
end Go.Proofs.Ytcmfccooipnmeaa
