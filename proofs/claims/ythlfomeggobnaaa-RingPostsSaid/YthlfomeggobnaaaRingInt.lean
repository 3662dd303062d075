/-
  The contracts of the queue's methods, for elements of type int.
-/
import Derived.Test.YthlfomeggobnaaaSlices
import Derived.Test.YthlfomeggobnaaaLim
namespace Go.Proofs.Ythlfomeggobnaaa
open Go.RowKit

theorem infoInt : (Try.prog.info? 3).map (fun i => (i.zero, i.size, i.bytes)) = some (some (.int .i64 0), 1, 8) := by kernel_rfl
/-- A queue of n elements, of the cells xs, in the object B. -/
def ringTInt (B most n : Nat) (xs : List Value) : Thing :=
  exT fun v : Value => andT (objT B [v, .int .i64 (most : Int)] 82) (ownT 3 1 v n xs)

theorem packInt {B most n : Nat} {xs : List Value} {v : Value} {w0 w : World} {Rs : List Thing} (h : Held w0 w (objT B [v, .int .i64 (most : Int)] 82 :: ownT 3 1 v n xs :: Rs)) : Held w0 w (ringTInt B most n xs :: Rs) :=
  Held.mk v h.pair
theorem unpackInt {B most n : Nat} {xs : List Value} {w0 w : World} {Rs : List Thing} (h : Held w0 w (ringTInt B most n xs :: Rs)) : ∃ v, Held w0 w (objT B [v, .int .i64 (most : Int)] 82 :: ownT 3 1 v n xs :: Rs) := by
  obtain ⟨v, h2⟩ := h.ex
  exact ⟨v, h2.unpair⟩
theorem newInt (m : Int) (w0 w : World) (Rs : List Thing) (h : Held w0 w Rs) :
    Calls Try.prog 33 #[.int .i64 m] w fun e w' => ∃ B, e = .returned (.pointer (some ⟨B, 0, none⟩)) ∧ Held w0 w' (ringTInt B (lim m) 0 [] :: Rs) := by
  go_enter Try.func33, Try.ntmps33
  go_wp2_with (go_at_call 32; refine (limited_any m w).mono ?_; rintro e w' ⟨rfl, rfl⟩)
  go_ret
  exact ⟨_, rfl, packInt ((h.nil 3 1).newObj [.slice none 0 0, .int .i64 (lim m : Int)] _)⟩

theorem roomInt (B most n : Nat) (xs : List Value) (w0 w : World) (Rs : List Thing) (h : Held w0 w (ringTInt B most n xs :: Rs)) (hm : most ≤ 65536) (hn : n ≤ most) :
    Calls Try.prog 42 #[.pointer (some ⟨B, 0, none⟩)] w fun e w' => e = .returned (.int .i64 ((most - n : Nat) : Int)) ∧ ∃ k, w' = w.drewN k := by
  obtain ⟨v, h3⟩ := unpackInt h
  have hb := h3.obj
  obtain ⟨ao, cap, rfl, _, _⟩ := h3.swap.own.form
  have c0 := hb.cell (i := 0) rfl
  have c1 := hb.cell (i := 1) rfl
  clear h h3 hb
  go_enter Try.func42, Try.ntmps42
  go_wp2
  go_quiet (fail)
  all_goals
    go_wp2
    go_ret
    exact ⟨ret_int (by omega), _, rfl⟩
theorem roomHInt (B most n : Nat) (xs : List Value) (w0 w : World) (Rs : List Thing) (h : Held w0 w (ringTInt B most n xs :: Rs)) (hm : most ≤ 65536) (hn : n ≤ most) :
    Calls Try.prog 42 #[.pointer (some ⟨B, 0, none⟩)] w fun e w' => e = .returned (.int .i64 ((most - n : Nat) : Int)) ∧ Held w0 w' (ringTInt B most n xs :: Rs) :=
  (roomInt B most n xs w0 w Rs h hm hn).mono fun _ _ ⟨h1, k, h2⟩ => ⟨h1, by rw [h2]; exact h.drewN k⟩

theorem lenInt (B most n : Nat) (xs : List Value) (w0 w : World) (Rs : List Thing) (h : Held w0 w (ringTInt B most n xs :: Rs)) :
    Calls Try.prog 43 #[.pointer (some ⟨B, 0, none⟩)] w fun e w' => e = .returned (.int .i64 (n : Int)) ∧ w = w' := by
  obtain ⟨v, h3⟩ := unpackInt h
  have hb := h3.obj
  obtain ⟨ao, cap, rfl, _, _⟩ := h3.swap.own.form
  have c0 := hb.cell (i := 0) rfl
  clear h h3 hb
  go_enter Try.func43, Try.ntmps43
  go_wp2
  go_ret
  exact ⟨rfl, rfl⟩

set_option maxHeartbeats 800000 in
theorem pushInt (B most n m : Nat) (xs ys : List Value) (s : Value) (w0 w : World) (Rs : List Thing) (h : Held w0 w (ringTInt B most n xs :: Rs)) (hm : most ≤ 65536) (hn : n ≤ most)
    (hs : Rd w 1 s m ys) (h1 : ∀ u ∈ ys, u.oneCell' = true) :
    Calls Try.prog 34 #[.pointer (some ⟨B, 0, none⟩), s] w fun e w' => e = .returned (.int .i64 ((min m (most - n) : Nat) : Int)) ∧
      Held w0 w' (ringTInt B most (n + min m (most - n)) (xs ++ ys.take (min m (most - n) * 1)) :: Rs) := by
  obtain ⟨i, hi, hz0, hz1, hz2⟩ := info_parts infoInt
  have HR := hid (roomInt B most n xs w0 w Rs h hm hn)
  obtain ⟨so, scap, rfl, hsc, hsm⟩ := hs.form
  obtain ⟨r, hr⟩ : ∃ r, r = most - n := ⟨_, rfl⟩
  obtain ⟨k, hk⟩ : ∃ k, k = min m r := ⟨_, rfl⟩
  have hr1 : r ≤ 65536 := by omega
  have hkr : k ≤ r := by omega
  have hkm : k ≤ m := by omega
  have hnk : n + k ≤ 65536 := by omega
  have hm63 : m ≤ 9223372036854775807 := by unfold maxLen at hsm; omega
  have hcases : (m ≤ r ∧ k = m) ∨ (r < m ∧ k = r) := by omega
  rw [← hr] at HR ⊢
  rw [← hk]
  have hpos : (0 : Int) ≤ (m : Int) := Int.natCast_nonneg _
  have hposr : (0 : Int) ≤ (r : Int) := Int.natCast_nonneg _
  have H0 := hid h
  clear hr hk h
  have HS := hid hs
  clear hs
  rcases hcases with ⟨hc, hkk⟩ | ⟨hc, hkk⟩
  all_goals
    subst hkk
    go_enter Try.func34, Try.ntmps34
    go_wp2_with fail
    refine HR.out.mono ?_
    rintro e w1 ⟨rfl, kk, hw⟩
    have hh : Held w0 w1 (ringTInt B most n xs :: Rs) := by rw [hw]; exact H0.out.drewN kk
    have HRd := hid (HS.out.drewTo hw)
    clear hw
    obtain ⟨v, h3⟩ := unpackInt hh
    have hb := h3.obj
    have HO := hid h3.swap.own
    obtain ⟨ao, cap, rfl, hnc, hcm⟩ := h3.swap.own.form
    have HH := hid h3
    have c0 := hb.cell (i := 0) rfl
    have f0 := hb.frozen 0
    have HB := hid hb
    have HA := hid h3.apart
    have HRd2 : Hid (Rd w1 1 (.slice so k scap) k (ys.take (k * 1))) := HRd.out.front hkm
    have hks : k ≤ scap := by omega
    clear hh h3 hb
    go_wp2
    all_goals try (exfalso; omega)
    go_region_law ((refine step_app _ (by rfl) (.tmp 17) (.tmp 20) 64 (by rfl) 3 i (.int .i64 0) 1 8 Try.underlying64 hi hz0 hz1 hz2 (by rfl) (by decide) (.slice ao n cap) n xs (by rfl) (by exact HO.out.drew) (.slice so k scap) k (ys.take (k * 1)) (by rfl) (by exact HRd2.out.drew) (fun u hu => h1 u (List.mem_of_mem_take hu)) (by unfold maxLen; omega) (by omega) ?_; intro ao1 cap1 w2 hown1 hgrow hat; have HB1 := hid (HB.out.drew.grown hgrow HA.out); have f1 := HB1.out.frozen 0; have c1 := HB1.out.cell (i := 0) rfl))
    all_goals
      go_wp2
      go_ret
      exact ⟨rfl, packInt ((HH.out.swap.drew.app hown1 hgrow hat).swap.setObj 0 (.slice ao1 (n + k) cap1))⟩

theorem peekInt (B most n : Nat) (a : Int) (xs : List Value) (w0 w : World) (Rs : List Thing) (h : Held w0 w (ringTInt B most n xs :: Rs)) (hn : n ≤ 65536) (h1 : ∀ u ∈ xs, u.oneCell' = true) :
    Calls Try.prog 35 #[.pointer (some ⟨B, 0, none⟩), .int .i64 a] w fun e w' => ∃ v, e = .returned v ∧
      Held w0 w' (ownT 3 1 v (few a n) (xs.take (few a n * 1)) :: ringTInt B most n xs :: Rs) := by
  obtain ⟨i, hi, hz0, hz1, hz2⟩ := info_parts infoInt
  have HL := hid (lenInt B most n xs w0 w Rs h)
  have HW := hid h
  obtain ⟨v, h3⟩ := unpackInt h
  have HB := hid h3.obj
  have HO := hid h3.swap.own
  obtain ⟨ao, cap, rfl, hnc, hcm⟩ := h3.swap.own.form
  have hpos : (0 : Int) ≤ (n : Int) := Int.natCast_nonneg _
  by_cases hk0 : few a n = 0
  · have hk : a < 1 ∨ n = 0 := by unfold few at hk0; omega
    rw [hk0]
    have HF := hid (HW.out.nil 3 1)
    clear h h3 hk0
    go_enter Try.func35, Try.ntmps35
    go_wp2_with fail
    refine HL.out.mono ?_
    rintro e w1 ⟨rfl, rfl⟩
    have hcI : (n : Int) < a ∨ a ≤ (n : Int) := by omega
    rcases hcI with hcI | hcI
    · have hnI : (n : Int) < 1 := by omega
      go_wp2
      go_ret
      exact ⟨_, rfl, by simpa using HF.out⟩
    · have hnI : a < 1 := by omega
      go_wp2
      go_ret
      exact ⟨_, rfl, by simpa using HF.out⟩
  · obtain ⟨k, hk⟩ : ∃ k, k = few a n := ⟨_, rfl⟩
    rw [← hk] at hk0 ⊢
    have hkn : k ≤ n := by rw [hk]; exact Nat.min_le_right _ _
    have hmn : min n k = k := by omega
    have hka : ((n : Int) < a ∧ k = n) ∨ (a ≤ (n : Int) ∧ a = (k : Int)) := by unfold few at hk; omega
    have hk1 : ¬ (k : Int) < 1 := by omega
    have HH := hid h3
    have HK := hid hk
    have HMN := hid hmn
    clear h h3 hk hmn hk0
    rcases hka with ⟨hcI, hkk⟩ | ⟨hcI, hkk⟩
    all_goals
      subst hkk
      go_enter Try.func35, Try.ntmps35
      go_wp2_with fail
      refine HL.out.mono ?_
      rintro e w1 ⟨rfl, rfl⟩
      go_wp2_with (first
        | ((with_reducible show wpList _ _ _ (⟨some 13, _, _, _, _, _⟩ :: _) _ _); refine wpList_make_own rfl 64 (.tmp 12) (.tmp 12) rfl 3 i (.int .i64 0) 1 Try.underlying64 hi hz0 hz1 .i64 k rfl rfl (by rw [hz2]; omega) (by unfold maxLen; omega) ?_; intro v1 w1 zs ho1 hm1 hf1 hv1 hzs; have hc1 := (HB.out.kept hm1 (fun h => h)).cell (i := 0) rfl; have HM1 := hid hm1; have HF1 := hid hf1; have HO1 := hid ho1; clear hm1 hf1 hv1 hzs ho1)
        | ((with_reducible show wpList _ _ _ (⟨some 19, _, _, _, _, _⟩ :: _) _ _); refine wpList_copy_own' rfl (.tmp 14) (.tmp 18) 64 64 rfl 3 i 1 Try.underlying64 hi hz1 v1 _ k _ zs xs rfl rfl HO1.out (HO.out.kept HM1.out (fun _ _ h => h)).rd h1 ?_; intro w2 ho2 hm2))
      go_ret
      have hh := (HH.out.pushOwn HO1.out HM1.out HF1.out).turnOwn ho2 rfl hm2
      have h5 := HO1.out.1
      rw [HMN.out, List.drop_of_length_le (by omega), List.append_nil] at hh
      exact ⟨_, rfl, (packInt hh.third.third).swap⟩

/-! ### A queue that is nil -/
theorem none_lenInt (w : World) : Calls Try.prog 43 #[.pointer none] w fun e w' => e = .returned (.int .i64 0) ∧ w = w' := by
  go_enter Try.func43, Try.ntmps43
  go_wp2
  go_ret
  exact ⟨rfl, rfl⟩
theorem none_roomInt (w : World) : Calls Try.prog 42 #[.pointer none] w fun e w' => e = .returned (.int .i64 0) ∧ w = w' := by
  go_enter Try.func42, Try.ntmps42
  go_wp2
  go_ret
  exact ⟨rfl, rfl⟩
theorem none_pushInt (v : Value) (w : World) : Calls Try.prog 34 #[.pointer none, v] w fun e w' => e = .returned (.int .i64 0) ∧ w = w' := by
  go_enter Try.func34, Try.ntmps34
  go_wp2
  go_ret
  exact ⟨rfl, rfl⟩
theorem none_peekInt (a : Int) (w : World) : Calls Try.prog 35 #[.pointer none, .int .i64 a] w fun e w' => e = .returned (.slice none 0 0) ∧ w = w' := by
  have ha : 0 < a ∨ a ≤ 0 := by omega
  rcases ha with ha | ha
  all_goals
    go_enter Try.func35, Try.ntmps35
    go_wp2_with fail
    refine (none_lenInt w).mono ?_
    rintro e w' ⟨rfl, rfl⟩
    go_wp2
    go_ret
    exact ⟨rfl, rfl⟩
end Go.Proofs.Ythlfomeggobnaaa
