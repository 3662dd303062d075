/-
  The walk of the law CodeCosts.
-/
import Derived.Test.YthjmjaeffdcfcaaLawCode0
namespace Go.Proofs.Ythjmjaeffdcfcaa
open Go.RowKit

theorem cost_nineteen : costTo [1, 2] [5, 7] (min 2 2) = 19 := by decide
set_option maxRecDepth 20000 in
set_option maxHeartbeats 1600000 in
theorem codeCosts_walk (v : Value) (l : List Int) (u : Value) (f : List Int) (w : World) (hl : shInts.good w [v] l) (hf : shInts.good w [u] f) :
    Calls Try.prog 5 #[v, u] w fun e w' => e = .returned (.bool true) ∧ Below w.heap.size w w' := by
  have hv := ints_of hl
  have hu := ints_of hf
  clear hl hf
  generalize l.length = n at hv
  generalize f.length = m at hu
  obtain ⟨ao, cap, rfl, _, _⟩ := hv.form
  obtain ⟨bo, cap2, rfl, _, _⟩ := hu.form
  have h3 : 1000 < n ∨ n ≤ 1000 ∧ 1000 < m ∨ n ≤ 1000 ∧ m ≤ 1000 := by omega
  have HV := hid hv
  have HU := hid hu
  have H0 := hid (Held.start w)
  clear hv hu
  rcases h3 with h3 | ⟨h3, h4⟩ | ⟨h3, h4⟩
  · have h3I : (1000 : Int) < (n : Int) := by omega
    go_enter Try.func5, Try.ntmps5
    go_wp2_with fail
    refine (h_answers H0.out).mono ?_
    rintro e w1 ⟨rfl, hM⟩
    have HB := hid hM.below
    clear hM
    go_wp2
    go_ret
    exact ⟨rfl, HB.out⟩
  · have h3I : ¬ (1000 : Int) < (n : Int) := by omega
    have h4I : (1000 : Int) < (m : Int) := by omega
    go_enter Try.func5, Try.ntmps5
    go_wp2_with fail
    refine (h_answers H0.out).mono ?_
    rintro e w1 ⟨rfl, hM⟩
    have HB := hid hM.below
    clear hM
    go_wp2
    go_ret
    exact ⟨rfl, HB.out⟩
  · have h3I : ¬ (1000 : Int) < (n : Int) := by omega
    have h4I : ¬ (1000 : Int) < (m : Int) := by omega
    go_enter Try.func5, Try.ntmps5
    go_wp2_with fail
    refine (h_answers H0.out).mono ?_
    rintro e w1 ⟨rfl, h1⟩
    have H1 := hid h1
    clear h1
    go_wp2_with fail
    refine (h_cost H1.out (H1.out.old HV.out) (H1.out.old HU.out) (by omega)).mono ?_
    rintro e w2 ⟨rfl, h2⟩
    have H2 := hid h2
    clear h2
    go_wp2_with fail
    refine (h_refcost H2.out (H2.out.old HV.out) (H2.out.old HU.out) (by omega)).mono ?_
    rintro e w3 ⟨rfl, h3⟩
    have H3 : Hid (Held w ((w3.alloc (.cells #[.int .i64 1, .int .i64 2] 3)).alloc (.cells #[.int .i64 5, .int .i64 7] 3)) [ownT 3 1 (.slice (some ⟨w3.heap.size + 1, 0, none⟩) 2 2) 2 (ints [5, 7]), ownT 3 1 (.slice (some ⟨w3.heap.size, 0, none⟩) 2 2) 2 (ints [1, 2])]) := by
      have h := (h3.lit 3 1 (ints [1, 2]) 2 (by decide) rfl).lit 3 1 (ints [5, 7]) 2 (by decide) rfl
      simpa [Hid, ints] using h
    have HC := hid (h_cost (l := [1, 2]) (f := [5, 7]) H3.out H3.out.swap.own.rd H3.out.own.rd (by omega))
    rw [cost_nineteen] at HC
    clear h3
    generalize costTo l f (min n m) = z
    have hz : ((z : Int) == (z : Int)) = true := by simp
    go_wp2_with fail
    refine HC.out.mono ?_
    rintro e w4 ⟨rfl, h4⟩
    have H4 := hid h4
    clear h4
    go_wp2_with fail
    refine (h_ints H4.out (H4.out.old HV.out) (H4.out.old HV.out) (by omega)).mono ?_
    rintro e w5 ⟨rfl, h5⟩
    have HB := hid h5.below
    clear h5
    go_wp2
    go_ret
    exact ⟨rfl, HB.out⟩
end Go.Proofs.Ythjmjaeffdcfcaa
