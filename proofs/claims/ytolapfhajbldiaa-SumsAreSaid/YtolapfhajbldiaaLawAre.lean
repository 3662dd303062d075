/-
  The walk of the law SumsAre.
-/
import Derived.Test.YtolapfhajbldiaaAns2
namespace Go.Proofs.Ytolapfhajbldiaa
open Go.RowKit

set_option maxRecDepth 20000 in
set_option maxHeartbeats 1600000 in
theorem are_walk (c : Nat) (v : Value) (l : List Nat) (w : World) (hc : c < 4294967296) (hv : Rd w 1 v l.length (u8s l)) (hb : ∀ b ∈ l, b < 256) :
    Calls Try.prog 3 #[.int .u32 (c : Int), v] w fun e w' => e = .returned (.bool true) ∧ Below w.heap.size w w' := by
  obtain ⟨ao, cap, rfl, hcap, hmax⟩ := hv.form
  obtain ⟨n, hn⟩ : ∃ n, n = l.length := ⟨_, rfl⟩
  have HV := hid hv
  have HB := hid hb
  have HN := hid hn
  have hn63 : n ≤ 9223372036854775807 := by unfold maxLen at hmax; omega
  rw [← hn]
  clear hn hv hb hcap hmax
  have hn0 : (0 : Int) ≤ (n : Int) := Int.natCast_nonneg _
  by_cases hl : 20000 < n
  · have hl1 : (20000 : Int) < (n : Int) := by omega
    go_enter Try.func3, Try.ntmps3
    go_wp2_with fail
    refine (answers_any w).mono ?_
    rintro e w1 ⟨rfl, hM1⟩
    go_wp2
    go_ret
    exact ⟨rfl, hM1.toBelow⟩
  · have hl1 : ¬ (20000 : Int) < (n : Int) := by omega
    have hlt : l.length < 1000000000 := by have := HN.out; omega
    have HV2 : Hid (Rd w 1 (.slice ao n cap) l.length (u8s l)) := by unfold Hid; have h := HV.out; rw [← HN.out] at h ⊢; exact h
    clear HV
    obtain ⟨x, hx⟩ : ∃ x, x = crcOf c l := ⟨_, rfl⟩
    obtain ⟨y, hy⟩ : ∃ y, y = adlOf c l := ⟨_, rfl⟩
    have HX := hid hx
    have HY := hid hy
    have HLT := hid hlt
    clear hx hy hlt
    have hxx : ((x : Int) == (x : Int)) = true := by simp
    have hyy : ((y : Int) == (y : Int)) = true := by simp
    go_enter Try.func3, Try.ntmps3
    go_wp2_with fail
    refine (answers_any w).mono ?_
    rintro e w1 ⟨rfl, hM1⟩
    have HM1 := hid hM1
    have HV3 := hid (HV2.out.kept hM1 (fun _ _ h => h))
    clear hM1 HV2
    go_wp2_with fail
    have HC := hid (crc_any c _ l w1 hc HV3.out HB.out HLT.out)
    rw [← HX.out] at HC
    refine HC.out.mono ?_
    rintro e w2 ⟨rfl, hM2⟩
    have HM2 := hid hM2
    have HV4 := hid (HV3.out.kept hM2 (fun _ _ h => h))
    clear hM2 HV3 HC
    go_wp2_with fail
    have HC := hid (refcrc_any c _ l w2 hc HV4.out HB.out HLT.out)
    rw [← HX.out] at HC
    refine HC.out.mono ?_
    rintro e w' ⟨rfl, rfl⟩
    clear HC
    go_wp2_with fail
    have HC := hid (adler_any c _ l w2 hc HV4.out HB.out HLT.out)
    rw [← HY.out] at HC
    refine HC.out.mono ?_
    rintro e w' ⟨rfl, rfl⟩
    clear HC
    go_wp2_with fail
    have HC := hid (refadler_any c _ l w2 hc HV4.out HB.out HLT.out)
    have HE : Hid ((adl (c % 65536 % 65521, c / 65536 % 65521) l).2 * 65536 + (adl (c % 65536 % 65521, c / 65536 % 65521) l).1 = y) := by unfold Hid; rw [HY.out]; rfl
    rw [HE.out] at HC
    refine HC.out.mono ?_
    rintro e w' ⟨rfl, rfl⟩
    clear HC
    go_wp2
    go_ret
    exact ⟨rfl, (HM1.out.same HM2.out).toBelow⟩
end Go.Proofs.Ytolapfhajbldiaa
