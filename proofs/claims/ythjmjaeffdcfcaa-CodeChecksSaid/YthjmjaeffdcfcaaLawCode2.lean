/-
  The walk of the law CodeChecks.
-/
import Derived.Test.YthjmjaeffdcfcaaLawCode0
import Derived.Test.YthjmjaeffdcfcaaHeldApp
namespace Go.Proofs.Ythjmjaeffdcfcaa
open Go.RowKit

theorem infoInt : (Try.prog.info? 3).map (fun i => (i.zero, i.size, i.bytes)) = some (some (Value.int .i64 0), 1, 8) := by kernel_rfl
set_option maxRecDepth 20000 in
set_option maxHeartbeats 1600000 in
theorem codeChecks_walk (v : Value) (l : List Int) (most : Int) (w : World) (hl : shInts.good w [v] l) (_ : (Lit.int .i64 most).wf = true) :
    Calls Try.prog 3 #[v, .int .i64 most] w fun e w' => e = .returned (.bool true) ∧ Below w.heap.size w w' := by
  have hv := ints_of hl
  clear hl
  generalize l.length = n at hv
  obtain ⟨ao, cap, rfl, _, _⟩ := hv.form
  have HV := hid hv
  have H0 := hid (Held.start w)
  obtain ⟨i0, hi0, hz0, hz1, hz2⟩ := info_parts infoInt
  clear hv
  have h3 : 1000 < n ∨ n ≤ 1000 ∧ 288 < n ∨ n ≤ 1000 ∧ n ≤ 288 := by omega
  rcases h3 with h3 | ⟨h3, h4⟩ | ⟨h3, h4⟩
  · have h3I : (1000 : Int) < (n : Int) := by omega
    go_enter Try.func3, Try.ntmps3
    go_wp2_with fail
    refine (h_answers H0.out).mono ?_
    rintro e w1 ⟨rfl, hM⟩
    have HB := hid hM.below
    clear hM
    go_wp2
    go_ret
    exact ⟨rfl, HB.out⟩
  · have h3I : ¬ (1000 : Int) < (n : Int) := by omega
    have H1 := hid (H0.out.lit 3 1 [] 0 (by decide) rfl)
    go_enter Try.func3, Try.ntmps3
    go_wp2_with (refine wpList_app_held rfl (.tmp 12) (.tmp 13) 22 rfl 3 i0 (.int .i64 0) 1 8 Try.underlying22 hi0 hz0 hz1 hz2 rfl (by decide) _ 0 [] rfl H1.out _ n (ints l) rfl (H1.out.old HV.out) (ints_one l) n (by omega) (by unfold maxLen; omega) (by omega) ?_; intro ao1 cap1 w1 h1; have H2 := hid h1; clear h1)
    refine (codes_none _ n _ _ H2.out.own.rd h4).mono ?_
    rintro e w2 ⟨rfl, rfl⟩
    go_wp2_with fail
    refine (refcodes_none _ n _ _ (H2.out.old HV.out) h4).mono ?_
    rintro e w3 ⟨rfl, rfl⟩
    go_wp2_with fail
    refine (h_answers H2.out).mono ?_
    rintro e w4 ⟨rfl, h2⟩
    have H5 := hid h2
    clear h2
    go_wp2_with fail
    refine (h_sum H5.out (H5.out.old HV.out) (by omega)).mono ?_
    rintro e w5 ⟨rfl, h2⟩
    have H6 := hid h2
    clear h2
    go_wp2_with fail
    refine (h_refsum H6.out (H6.out.old HV.out) (by omega)).mono ?_
    rintro e w6 ⟨rfl, h2⟩
    have H7 := hid h2
    clear h2
    generalize sumOf l = z
    have hz : ((z : Int) != (z : Int)) = false := by simp
    go_wp2_with fail
    refine (h_check H7.out most (H7.out.old HV.out) (by omega)).mono ?_
    rintro e w7 ⟨rfl, h2⟩
    have H8 := hid h2
    clear h2
    go_wp2_with fail
    refine (h_refcheck H8.out most (H8.out.old HV.out) (by omega)).mono ?_
    rintro e w8 ⟨rfl, h2⟩
    have H9 := hid h2
    clear h2
    generalize checkOf l most = y
    have hy : ((y : Int) != (y : Int)) = false := by simp
    have HB := hid H9.out.below
    go_wp2
    go_loopw [7] (fun t7 wr => t7 = .int .i64 0 ∧ wr = w8) (fun _ _ => 0)
    case atStart => exact ⟨rfl, rfl⟩
    case round =>
      obtain ⟨rfl, rfl⟩ := hrel
      go_wp2
      go_ret
      exact ⟨rfl, HB.out⟩
  · have h3I : ¬ (1000 : Int) < (n : Int) := by omega
    have H1 := hid (H0.out.lit 3 1 [] 0 (by decide) rfl)
    go_enter Try.func3, Try.ntmps3
    go_wp2_with (refine wpList_app_held rfl (.tmp 12) (.tmp 13) 22 rfl 3 i0 (.int .i64 0) 1 8 Try.underlying22 hi0 hz0 hz1 hz2 rfl (by decide) _ 0 [] rfl H1.out _ n (ints l) rfl (H1.out.old HV.out) (ints_one l) n (by omega) (by unfold maxLen; omega) (by omega) ?_; intro ao1 cap1 w1 h1; have H2 := hid h1; clear h1)
    refine (h_codes H2.out H2.out.own.rd h4).mono ?_
    rintro e w2 ⟨ao2, cap2, rfl, h2⟩
    have H3 := hid h2
    clear h2
    go_wp2_with fail
    refine (h_refcodes H3.out (H3.out.old HV.out) h4).mono ?_
    rintro e w3 ⟨ao3, cap3, rfl, h2⟩
    have H4 := hid h2
    clear h2
    go_wp2_with fail
    refine (h_answers H4.out).mono ?_
    rintro e w4 ⟨rfl, h2⟩
    have H5 := hid h2
    clear h2
    go_wp2_with fail
    refine (h_sum H5.out (H5.out.old HV.out) (by omega)).mono ?_
    rintro e w5 ⟨rfl, h2⟩
    have H6 := hid h2
    clear h2
    go_wp2_with fail
    refine (h_refsum H6.out (H6.out.old HV.out) (by omega)).mono ?_
    rintro e w6 ⟨rfl, h2⟩
    have H7 := hid h2
    clear h2
    generalize sumOf l = z
    have hz : ((z : Int) != (z : Int)) = false := by simp
    go_wp2_with fail
    refine (h_check H7.out most (H7.out.old HV.out) (by omega)).mono ?_
    rintro e w7 ⟨rfl, h2⟩
    have H8 := hid h2
    clear h2
    go_wp2_with fail
    refine (h_refcheck H8.out most (H8.out.old HV.out) (by omega)).mono ?_
    rintro e w8 ⟨rfl, h2⟩
    have H9 := hid h2
    clear h2
    generalize checkOf l most = y
    have hy : ((y : Int) != (y : Int)) = false := by simp
    have hnn : ((n : Int) != (n : Int)) = false := by simp
    obtain ⟨HR2, HR3⟩ : Hid (Rd w8 1 (.slice ao2 n cap2) n (nums .u32 (codesOf l))) ∧ Hid (Rd w8 1 (.slice ao3 n cap3) n (nums .u32 (codesOf l))) := ⟨H9.out.swap.own.rd, H9.out.own.rd⟩
    have HN : Hid (n = (codesOf l).length) := by unfold Hid; rw [codesOf_length]; exact HV.out.num
    generalize codesOf l = cs at HR2 HR3 HN
    go_wp2
    go_loopw [7] (fun t7 wr => ∃ k c : Nat, k ≤ n ∧ t7 = .int .i64 (k : Int) ∧ Hid (wr = w8.drewN c)) (fun t7 _ => n - (intOf t7).toNat)
    case atStart => exact ⟨0, 0, Nat.zero_le _, rfl, rfl⟩
    case round =>
      obtain ⟨k, c, hk, rfl, HW⟩ := hrel
      obtain rfl := HW.out
      by_cases hkn : k < n
      · obtain ⟨x, hx⟩ : ∃ x, cs[k]? = some x := ⟨cs[k]'(by have := HN.out; omega), List.getElem?_eq_getElem _⟩
        obtain ⟨g, off, rfl, hcell⟩ := HR2.out.spot (by omega)
        obtain ⟨g2, off2, rfl, hcell2⟩ := HR3.out.spot (by omega)
        have hc : w8.cell? ⟨g, off + k, none⟩ = some (.int .u32 (x : Int)) := hcell k _ (by rw [nums_get, hx]; rfl)
        have hc2 : w8.cell? ⟨g2, off2 + k, none⟩ = some (.int .u32 (x : Int)) := hcell2 k _ (by rw [nums_get, hx]; rfl)
        have hk0 : (0 : Int) ≤ (k : Int) := Int.natCast_nonneg _
        have hk1 : (k : Int) < (n : Int) := by omega
        have hd : ((x : Int) != (x : Int)) = false := by simp
        clear hcell hcell2 hx
        go_wp2
        go_quiet (fail)
        go_wp2
        go_roundw
        case rel => exact ⟨k + 1, _, by omega, by go_num, rfl⟩
        case measure => simp [intOf]; omega
      · go_wp2
        go_ret
        exact ⟨rfl, (H9.out.drewN c).below⟩
end Go.Proofs.Ythjmjaeffdcfcaa
