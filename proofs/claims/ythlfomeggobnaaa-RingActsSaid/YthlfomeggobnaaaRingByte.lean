/-
  The contracts of the queue's methods, for elements of type byte.
-/
import Derived.Test.YthlfomeggobnaaaSlices
import Derived.Test.YthlfomeggobnaaaLim
namespace Go.Proofs.Ythlfomeggobnaaa
open Go.RowKit

theorem infoByte : (Try.prog.info? 5).map (fun i => (i.zero, i.size, i.bytes)) = some (some (.int .u8 0), 1, 1) := by kernel_rfl
/-- A queue of n elements, of the cells xs, in the object B. -/
def ringTByte (B most n : Nat) (xs : List Value) : Thing :=
  exT fun v : Value => andT (objT B [v, .int .i64 (most : Int)] 60) (ownT 5 1 v n xs)

theorem packByte {B most n : Nat} {xs : List Value} {v : Value} {w0 w : World} {Rs : List Thing} (h : Held w0 w (objT B [v, .int .i64 (most : Int)] 60 :: ownT 5 1 v n xs :: Rs)) : Held w0 w (ringTByte B most n xs :: Rs) :=
  Held.mk v h.pair
theorem unpackByte {B most n : Nat} {xs : List Value} {w0 w : World} {Rs : List Thing} (h : Held w0 w (ringTByte B most n xs :: Rs)) : ∃ v, Held w0 w (objT B [v, .int .i64 (most : Int)] 60 :: ownT 5 1 v n xs :: Rs) := by
  obtain ⟨v, h2⟩ := h.ex
  exact ⟨v, h2.unpair⟩
theorem newByte (m : Int) (w0 w : World) (Rs : List Thing) (h : Held w0 w Rs) :
    Calls Try.prog 6 #[.int .i64 m] w fun e w' => ∃ B, e = .returned (.pointer (some ⟨B, 0, none⟩)) ∧ Held w0 w' (ringTByte B (lim m) 0 [] :: Rs) := by
  go_enter Try.func6, Try.ntmps6
  go_wp2_with (go_at_call 32; refine (limited_any m w).mono ?_; rintro e w' ⟨rfl, rfl⟩)
  go_ret
  exact ⟨_, rfl, packByte ((h.nil 5 1).newObj [.slice none 0 0, .int .i64 (lim m : Int)] _)⟩

theorem roomByte (B most n : Nat) (xs : List Value) (w0 w : World) (Rs : List Thing) (h : Held w0 w (ringTByte B most n xs :: Rs)) (hm : most ≤ 65536) (hn : n ≤ most) :
    Calls Try.prog 14 #[.pointer (some ⟨B, 0, none⟩)] w fun e w' => e = .returned (.int .i64 ((most - n : Nat) : Int)) ∧ ∃ k, w' = w.drewN k := by
  obtain ⟨v, h3⟩ := unpackByte h
  have hb := h3.obj
  obtain ⟨ao, cap, rfl, _, _⟩ := h3.swap.own.form
  have c0 := hb.cell (i := 0) rfl
  have c1 := hb.cell (i := 1) rfl
  clear h h3 hb
  go_enter Try.func14, Try.ntmps14
  go_wp2
  go_quiet (fail)
  all_goals
    go_wp2
    go_ret
    exact ⟨ret_int (by omega), _, rfl⟩
theorem roomHByte (B most n : Nat) (xs : List Value) (w0 w : World) (Rs : List Thing) (h : Held w0 w (ringTByte B most n xs :: Rs)) (hm : most ≤ 65536) (hn : n ≤ most) :
    Calls Try.prog 14 #[.pointer (some ⟨B, 0, none⟩)] w fun e w' => e = .returned (.int .i64 ((most - n : Nat) : Int)) ∧ Held w0 w' (ringTByte B most n xs :: Rs) :=
  (roomByte B most n xs w0 w Rs h hm hn).mono fun _ _ ⟨h1, k, h2⟩ => ⟨h1, by rw [h2]; exact h.drewN k⟩

theorem lenByte (B most n : Nat) (xs : List Value) (w0 w : World) (Rs : List Thing) (h : Held w0 w (ringTByte B most n xs :: Rs)) :
    Calls Try.prog 13 #[.pointer (some ⟨B, 0, none⟩)] w fun e w' => e = .returned (.int .i64 (n : Int)) ∧ w = w' := by
  obtain ⟨v, h3⟩ := unpackByte h
  have hb := h3.obj
  obtain ⟨ao, cap, rfl, _, _⟩ := h3.swap.own.form
  have c0 := hb.cell (i := 0) rfl
  clear h h3 hb
  go_enter Try.func13, Try.ntmps13
  go_wp2
  go_ret
  exact ⟨rfl, rfl⟩

set_option maxHeartbeats 800000 in
theorem pushByte (B most n m : Nat) (xs ys : List Value) (s : Value) (w0 w : World) (Rs : List Thing) (h : Held w0 w (ringTByte B most n xs :: Rs)) (hm : most ≤ 65536) (hn : n ≤ most)
    (hs : Rd w 1 s m ys) (h1 : ∀ u ∈ ys, u.oneCell' = true) :
    Calls Try.prog 9 #[.pointer (some ⟨B, 0, none⟩), s] w fun e w' => e = .returned (.int .i64 ((min m (most - n) : Nat) : Int)) ∧
      Held w0 w' (ringTByte B most (n + min m (most - n)) (xs ++ ys.take (min m (most - n) * 1)) :: Rs) := by
  obtain ⟨i, hi, hz0, hz1, hz2⟩ := info_parts infoByte
  have HR := hid (roomByte B most n xs w0 w Rs h hm hn)
  obtain ⟨so, scap, rfl, hsc, hsm⟩ := hs.form
  obtain ⟨r, hr⟩ : ∃ r, r = most - n := ⟨_, rfl⟩
  obtain ⟨k, hk⟩ : ∃ k, k = min m r := ⟨_, rfl⟩
  have hr1 : r ≤ 65536 := by omega
  have hkr : k ≤ r := by omega
  have hkm : k ≤ m := by omega
  have hnk : n + k ≤ 65536 := by omega
  have hm63 : m ≤ 9223372036854775807 := by unfold maxLen at hsm; omega
  have hcases : (m ≤ r ∧ k = m) ∨ (r < m ∧ k = r) := by omega
  rw [← hr] at HR ⊢
  rw [← hk]
  have hpos : (0 : Int) ≤ (m : Int) := Int.natCast_nonneg _
  have hposr : (0 : Int) ≤ (r : Int) := Int.natCast_nonneg _
  have H0 := hid h
  clear hr hk h
  have HS := hid hs
  clear hs
  rcases hcases with ⟨hc, hkk⟩ | ⟨hc, hkk⟩
  all_goals
    subst hkk
    go_enter Try.func9, Try.ntmps9
    go_wp2_with fail
    refine HR.out.mono ?_
    rintro e w1 ⟨rfl, kk, hw⟩
    have hh : Held w0 w1 (ringTByte B most n xs :: Rs) := by rw [hw]; exact H0.out.drewN kk
    have HRd := hid (HS.out.drewTo hw)
    clear hw
    obtain ⟨v, h3⟩ := unpackByte hh
    have hb := h3.obj
    have HO := hid h3.swap.own
    obtain ⟨ao, cap, rfl, hnc, hcm⟩ := h3.swap.own.form
    have HH := hid h3
    have c0 := hb.cell (i := 0) rfl
    have f0 := hb.frozen 0
    have HB := hid hb
    have HA := hid h3.apart
    have HRd2 : Hid (Rd w1 1 (.slice so k scap) k (ys.take (k * 1))) := HRd.out.front hkm
    have hks : k ≤ scap := by omega
    clear hh h3 hb
    go_wp2
    all_goals try (exfalso; omega)
    go_region_law ((refine step_app _ (by rfl) (.tmp 17) (.tmp 20) 27 (by rfl) 5 i (.int .u8 0) 1 1 Try.underlying27 hi hz0 hz1 hz2 (by rfl) (by decide) (.slice ao n cap) n xs (by rfl) (by exact HO.out.drew) (.slice so k scap) k (ys.take (k * 1)) (by rfl) (by exact HRd2.out.drew) (fun u hu => h1 u (List.mem_of_mem_take hu)) (by unfold maxLen; omega) (by omega) ?_; intro ao1 cap1 w2 hown1 hgrow hat; have HB1 := hid (HB.out.drew.grown hgrow HA.out); have f1 := HB1.out.frozen 0; have c1 := HB1.out.cell (i := 0) rfl))
    all_goals
      go_wp2
      go_ret
      exact ⟨rfl, packByte ((HH.out.swap.drew.app hown1 hgrow hat).swap.setObj 0 (.slice ao1 (n + k) cap1))⟩

theorem peekByte (B most n : Nat) (a : Int) (xs : List Value) (w0 w : World) (Rs : List Thing) (h : Held w0 w (ringTByte B most n xs :: Rs)) (hn : n ≤ 65536) (h1 : ∀ u ∈ xs, u.oneCell' = true) :
    Calls Try.prog 12 #[.pointer (some ⟨B, 0, none⟩), .int .i64 a] w fun e w' => ∃ v, e = .returned v ∧
      Held w0 w' (ownT 5 1 v (few a n) (xs.take (few a n * 1)) :: ringTByte B most n xs :: Rs) := by
  obtain ⟨i, hi, hz0, hz1, hz2⟩ := info_parts infoByte
  have HL := hid (lenByte B most n xs w0 w Rs h)
  have HW := hid h
  obtain ⟨v, h3⟩ := unpackByte h
  have HB := hid h3.obj
  have HO := hid h3.swap.own
  obtain ⟨ao, cap, rfl, hnc, hcm⟩ := h3.swap.own.form
  have hpos : (0 : Int) ≤ (n : Int) := Int.natCast_nonneg _
  by_cases hk0 : few a n = 0
  · have hk : a < 1 ∨ n = 0 := by unfold few at hk0; omega
    rw [hk0]
    have HF := hid (HW.out.nil 5 1)
    clear h h3 hk0
    go_enter Try.func12, Try.ntmps12
    go_wp2_with fail
    refine HL.out.mono ?_
    rintro e w1 ⟨rfl, rfl⟩
    have hcI : (n : Int) < a ∨ a ≤ (n : Int) := by omega
    rcases hcI with hcI | hcI
    · have hnI : (n : Int) < 1 := by omega
      go_wp2
      go_ret
      exact ⟨_, rfl, by simpa using HF.out⟩
    · have hnI : a < 1 := by omega
      go_wp2
      go_ret
      exact ⟨_, rfl, by simpa using HF.out⟩
  · obtain ⟨k, hk⟩ : ∃ k, k = few a n := ⟨_, rfl⟩
    rw [← hk] at hk0 ⊢
    have hkn : k ≤ n := by rw [hk]; exact Nat.min_le_right _ _
    have hmn : min n k = k := by omega
    have hka : ((n : Int) < a ∧ k = n) ∨ (a ≤ (n : Int) ∧ a = (k : Int)) := by unfold few at hk; omega
    have hk1 : ¬ (k : Int) < 1 := by omega
    have HH := hid h3
    have HK := hid hk
    have HMN := hid hmn
    clear h h3 hk hmn hk0
    rcases hka with ⟨hcI, hkk⟩ | ⟨hcI, hkk⟩
    all_goals
      subst hkk
      go_enter Try.func12, Try.ntmps12
      go_wp2_with fail
      refine HL.out.mono ?_
      rintro e w1 ⟨rfl, rfl⟩
      go_wp2_with (first
        | ((with_reducible show wpList _ _ _ (⟨some 13, _, _, _, _, _⟩ :: _) _ _); refine wpList_make_own rfl 27 (.tmp 12) (.tmp 12) rfl 5 i (.int .u8 0) 1 Try.underlying27 hi hz0 hz1 .i64 k rfl rfl (by rw [hz2]; omega) (by unfold maxLen; omega) ?_; intro v1 w1 zs ho1 hm1 hf1 hv1 hzs; have hc1 := (HB.out.kept hm1 (fun h => h)).cell (i := 0) rfl; have HM1 := hid hm1; have HF1 := hid hf1; have HO1 := hid ho1; clear hm1 hf1 hv1 hzs ho1)
        | ((with_reducible show wpList _ _ _ (⟨some 19, _, _, _, _, _⟩ :: _) _ _); refine wpList_copy_own' rfl (.tmp 14) (.tmp 18) 27 27 rfl 5 i 1 Try.underlying27 hi hz1 v1 _ k _ zs xs rfl rfl HO1.out (HO.out.kept HM1.out (fun _ _ h => h)).rd h1 ?_; intro w2 ho2 hm2))
      go_ret
      have hh := (HH.out.pushOwn HO1.out HM1.out HF1.out).turnOwn ho2 rfl hm2
      have h5 := HO1.out.1
      rw [HMN.out, List.drop_of_length_le (by omega), List.append_nil] at hh
      exact ⟨_, rfl, (packByte hh.third.third).swap⟩

set_option maxHeartbeats 800000 in
theorem dropByte (B most n k : Nat) (xs : List Value) (w0 w : World) (Rs : List Thing) (h : Held w0 w (ringTByte B most n xs :: Rs)) (hn : n ≤ 65536) (hk : k ≤ n) :
    Calls Try.prog 36 #[.pointer (some ⟨B, 0, none⟩), .int .i64 (k : Int)] w fun e w' => e = .returned (.tuple #[]) ∧
      Held w0 w' (ringTByte B most (n - k) (xs.drop (k * 1)) :: Rs) := by
  obtain ⟨i, hi, hz0, hz1, hz2⟩ := info_parts infoByte
  obtain ⟨v, h3⟩ := unpackByte h
  have HB := hid h3.obj
  have HO := hid h3.swap.own
  have HA := hid h3.apart
  obtain ⟨ao, cap, rfl, hnc, hcm⟩ := h3.swap.own.form
  have hc0 := HB.out.cell (i := 0) rfl
  have hf0 := HB.out.frozen 0
  have HH := hid h3
  have hpos : (0 : Int) ≤ (n : Int) := Int.natCast_nonneg _
  have hposk : (0 : Int) ≤ (k : Int) := Int.natCast_nonneg _
  have hkc : k ≤ cap := by omega
  clear h h3
  obtain ⟨r, hr⟩ : ∃ r, r = n - k := ⟨_, rfl⟩
  have HR := hid hr
  rw [← hr]
  have hz : r = 0 ∨ 0 < r := by omega
  clear hr
  have hz63 : r ≤ 65536 := by have := HR.out; omega
  rcases hz with hz | hz
  all_goals
    have hb : ((r : Int) == 0) = decide (r = 0) := by rw [Bool.eq_iff_iff]; simp
    go_enter Try.func36, Try.ntmps36
    go_wp2_with (first
      | ((with_reducible show wpList _ _ _ (⟨none, Op.call _, _, _, _, _⟩ :: _) _ _); refine wpList_clear_own rfl (.tmp 9) 27 rfl 5 i (.int .u8 0) 1 Try.underlying27 hi hz0 rfl (by simp [Value.cells, Value.oneCell']) ao n cap k xs rfl HO.out hk ?_; intro w1 zs ho1 hm1 hl1; have hb1 := HB.out.kept hm1 HA.out; have hc1 := hb1.cell (i := 0) rfl; have hf1 := hb1.frozen 0; have HO1 := hid ho1; have HM1 := hid hm1; have HL1 := hid hl1; clear ho1 hm1 hl1 hb1)
      | ((with_reducible show wpList _ _ _ (⟨some 16, _, _, _, _, _⟩ :: _) _ _); refine wpList_cut_own rfl 27 (.tmp 14) (some (.tmp 15)) none rfl 5 i 1 Try.underlying27 hi hz1 ao n cap k n _ rfl HO1.out ⟨_, rfl⟩ rfl hk (Nat.le_refl _) ?_; intro a2 ho2 hv2; rw [← HR.out] at ho2 hv2 ⊢; have HO2 := hid ho2; have HV2 := hid hv2; clear ho2 hv2))
    go_end0
    refine ⟨rfl, ?_⟩
    have hxl := HO.out.1
    have hE : ((zs ++ xs.drop (k * 1)).drop (k * 1)).take (r * 1) = xs.drop (k * 1) := by
      have h1 := HL1.out
      have h2 := HR.out
      rw [← h1, List.drop_left, List.take_of_length_le (by rw [List.length_drop, hxl]; omega)]
    have hh1 := HH.out.swap.turnOwn HO1.out rfl HM1.out
    have ho2 := HO2.out
    rw [hE] at ho2
    have hh2 := (hh1.recut ho2 HV2.out).swap.setObj 0 (.slice a2 r (cap - k))
  · have hx0 : xs.drop (k * 1) = [] := List.drop_of_length_le (by rw [hxl]; have := HR.out; omega)
    subst hz
    rw [hx0]
    have hh3 := hh2.setObj 0 (.slice none 0 0)
    exact packByte ((hh3.nil 5 1).third.drop.swap)
  · exact packByte hh2

theorem popByte (B most n : Nat) (a : Int) (xs : List Value) (w0 w : World) (Rs : List Thing) (h : Held w0 w (ringTByte B most n xs :: Rs)) (hn : n ≤ 65536) (h1 : ∀ u ∈ xs, u.oneCell' = true) :
    Calls Try.prog 11 #[.pointer (some ⟨B, 0, none⟩), .int .i64 a] w fun e w' => ∃ v, e = .returned v ∧
      Held w0 w' (ownT 5 1 v (few a n) (xs.take (few a n * 1)) :: ringTByte B most (n - few a n) (xs.drop (few a n * 1)) :: Rs) := by
  have HP := hid (peekByte B most n a xs w0 w Rs h hn h1)
  have hk : few a n ≤ n := Nat.min_le_right _ _
  obtain ⟨k, hk'⟩ : ∃ k, k = few a n := ⟨_, rfl⟩
  rw [← hk'] at HP hk ⊢
  clear h hk'
  go_enter Try.func11, Try.ntmps11
  go_wp2_with fail
  refine HP.out.mono ?_
  rintro e w1 ⟨v, rfl, hh⟩
  obtain ⟨vo, vcap, rfl, _, _⟩ := hh.own.form
  have HD := hid (dropByte B most n k xs w0 w1 _ hh.swap hn hk)
  clear hh
  go_wp2_with fail
  refine HD.out.mono ?_
  rintro e w2 ⟨rfl, hh⟩
  have HH := hid hh
  clear hh
  go_wp2
  go_ret
  exact ⟨_, rfl, HH.out.swap⟩

/-! ### A queue that is nil -/
theorem none_lenByte (w : World) : Calls Try.prog 13 #[.pointer none] w fun e w' => e = .returned (.int .i64 0) ∧ w = w' := by
  go_enter Try.func13, Try.ntmps13
  go_wp2
  go_ret
  exact ⟨rfl, rfl⟩
theorem none_roomByte (w : World) : Calls Try.prog 14 #[.pointer none] w fun e w' => e = .returned (.int .i64 0) ∧ w = w' := by
  go_enter Try.func14, Try.ntmps14
  go_wp2
  go_ret
  exact ⟨rfl, rfl⟩
theorem none_pushByte (v : Value) (w : World) : Calls Try.prog 9 #[.pointer none, v] w fun e w' => e = .returned (.int .i64 0) ∧ w = w' := by
  go_enter Try.func9, Try.ntmps9
  go_wp2
  go_ret
  exact ⟨rfl, rfl⟩
theorem none_popByte (a : Int) (w : World) : Calls Try.prog 11 #[.pointer none, .int .i64 a] w fun e w' => e = .returned (.slice none 0 0) ∧ w = w' := by
  go_enter Try.func11, Try.ntmps11
  go_wp2
  go_ret
  exact ⟨rfl, rfl⟩
theorem none_peekByte (a : Int) (w : World) : Calls Try.prog 12 #[.pointer none, .int .i64 a] w fun e w' => e = .returned (.slice none 0 0) ∧ w = w' := by
  have ha : 0 < a ∨ a ≤ 0 := by omega
  rcases ha with ha | ha
  all_goals
    go_enter Try.func12, Try.ntmps12
    go_wp2_with fail
    refine (none_lenByte w).mono ?_
    rintro e w' ⟨rfl, rfl⟩
    go_wp2
    go_ret
    exact ⟨rfl, rfl⟩
end Go.Proofs.Ythlfomeggobnaaa
