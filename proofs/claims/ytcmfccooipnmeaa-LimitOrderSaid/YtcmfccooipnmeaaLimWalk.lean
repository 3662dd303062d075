/-
  The program's Lengths keeps what it is to return.
-/
import Derived.Test.YtcmfccooipnmeaaShareMath
import Derived.Deep.DeepCutAuto
namespace Go.Proofs.Ytcmfccooipnmeaa
open Go.RowKit

theorem Held.pick {w0 w : World} {A R : Thing} {Rs : List Thing} (h : Held w0 w (A :: Rs)) (hR : R ∈ Rs) : ∃ Rs', Held w0 w (A :: R :: Rs') := by
  obtain ⟨s, t, rfl⟩ := List.append_of_mem hR
  exact ⟨s ++ t, h.perm (List.perm_middle.cons _)⟩
theorem coded_nat : ∀ f : List Int, (∀ a ∈ f, 0 ≤ a) → codedN (f.map Int.toNat) = coded f
  | [], _ => rfl
  | a :: f, h => by
    have ih := coded_nat f fun b hb => h b (List.mem_cons_of_mem _ hb)
    have ha := h a List.mem_cons_self
    rw [List.map_cons, codedN, ih, coded, coded, List.countP_cons]
    by_cases h0 : 0 < a
    · rw [if_pos (by omega)]; simp [h0]; omega
    · rw [if_neg (by omega)]; simp [h0]
set_option maxHeartbeats 1600000 in
theorem shareH (n m N B : Nat) (S : List Itm) (ms : List (Value × List Itm)) (gl cap : Nat) (sv : Value) (w0 w : World) (Rs : List Thing)
    (h : Held w0 w (ownT 38 1 (.slice (some ⟨B, 0, none⟩) m m) m (ms.map (·.1)) :: itmT sv S :: (mT ms ++ (ownT 3 1 (.slice (some ⟨gl, 0, none⟩) N cap) N (gNums N fun _ => 0) :: Rs))))
    (hms : ms.length = m) (hms2 : ms.map (·.2) = (List.range m).map (fun t => rowI S (t + 1))) (hn : S.length = n) (hn0 : 0 < n) (hn2 : n ≤ 300) (hm : m ≤ 15) (hm1 : 1 ≤ m) (hnm : n ≤ 2 ^ m) (hN : N ≤ 1000) (hsy : ∀ x ∈ S, ∃ s : Nat, s < N ∧ x.2 = (s : Int)) :
    Calls Try.prog 17 #[.slice (some ⟨gl, 0, none⟩) N cap, .slice (some ⟨B, 0, none⟩) m m, .int .i64 ((2 * n - 2 : Nat) : Int)] w fun e w' => e = .returned (.tuple #[]) ∧
      ∃ Rs', Held w0 w' (ownT 3 1 (.slice (some ⟨gl, 0, none⟩) N cap) N (gNums N (gS S m)) :: Rs') := by
  have hS : ∀ x ∈ S, x.2 ≠ -1 := fun x hx => by
    obtain ⟨s, _, e⟩ := hsy x hx
    omega
  have h' : Held w0 w ((ownT 38 1 (.slice (some ⟨B, 0, none⟩) m m) m (ms.map (·.1)) :: itmT sv S :: mT ms) ++ (ownT 3 1 (.slice (some ⟨gl, 0, none⟩) N cap) N (gNums N fun _ => 0) :: Rs)) := h
  have hL := h'.perm List.perm_append_comm
  rw [List.cons_append] at hL
  have hrow : ∀ t, t < m → ∃ r : Value × List Itm, ms[t]? = some r ∧ r.2 = rowI S (t + 1) := fun t ht => by
    refine ⟨ms[t]'(by omega), List.getElem?_eq_getElem _, ?_⟩
    have e := congrArg (fun l : List (List Itm) => l[t]?) hms2
    simp only [List.getElem?_map, List.getElem?_range ht, Option.map_some, List.getElem?_eq_getElem (show t < ms.length by omega), Option.some.injEq] at e
    exact e
  have hpick : ∀ t, t < m → ∃ Rs', Held w0 w (ownT 3 1 (.slice (some ⟨gl, 0, none⟩) N cap) N (gNums N fun _ => 0) :: itmT ((ms[t]?).getD (.slice none 0 0, [])).1 (rowI S (t + 1)) :: Rs') := fun t ht => by
    obtain ⟨r, hr, hr2⟩ := hrow t ht
    rw [hr]
    refine hL.pick ?_
    refine List.mem_append_right _ (List.mem_cons_of_mem _ (List.mem_cons_of_mem _ (List.mem_map.2 ⟨r, List.mem_of_getElem? hr, ?_⟩)))
    rw [hr2]; rfl
  obtain ⟨Rs1, hB⟩ := hL.pick (R := ownT 38 1 (.slice (some ⟨B, 0, none⟩) m m) m (ms.map (·.1))) (List.mem_append_right _ List.mem_cons_self)
  have hlenr : ∀ t, (rowI S t).length ≤ 600 := fun t => by have := rowI_length S t; omega
  refine (share_any N m (2 * n - 2) gl 0 cap B (fun t => ((ms[t]?).getD (.slice none 0 0, [])).1) (fun t => rowI S (t + 1)) w hN hm hL.own (fun t ht => ?_) (hB.swap.own.lt B rfl) (fun e => ?_) (fun t => ?_) (fun t ht => ?_) (fun t ht e => ?_) (fun k hk => ?_) (fun t => ?_) (fun t ht => ?_) (fun t ht x hx => ?_)).mono ?_
  · obtain ⟨r, hr, _⟩ := hrow t ht
    refine h.rowAt ?_ (by omega)
    rw [List.getElem?_map, hr]; rfl
  · exact hB.apart2 gl rfl (by rw [e]; rfl)
  · by_cases ht : t < m
    · obtain ⟨Rs', hp⟩ := hpick t ht
      obtain ⟨a, c, e, _, _⟩ := itm_form hp.swap
      exact ⟨a, _, c, e⟩
    · rw [List.getElem?_eq_none (by omega)]; exact ⟨none, 0, 0, rfl⟩
  · obtain ⟨Rs', hp⟩ := hpick t ht
    exact hp.swap.own
  · obtain ⟨Rs', hp⟩ := hpick t ht
    exact hp.apart2 gl rfl e
  · have := kS_room hS (by omega : S.length ≤ 2 ^ m) (m - k) (by omega)
    unfold kS at this
    rw [show m - (m - k) = k by omega, hn] at this
    rw [show m - 1 - k + 1 = m - k by omega]
    exact this
  · have := hlenr (t + 1); omega
  · show 0 < (rowI S (t + 1)).length
    rw [rowI, ssort_length, List.length_append]; omega
  · rw [rowI] at hx
    rcases List.mem_append.1 ((ssort_perm _).mem_iff.1 hx) with h1 | h1
    · exact .inr (hsy x h1)
    · obtain ⟨a, b, _, _, rfl⟩ := packI_mem _ _ h1
      exact .inl rfl
  · rintro e w' ⟨rfl, ho, hm2⟩
    refine ⟨rfl, _, hL.turnOwn (v' := .slice (some ⟨gl, 0, none⟩) N cap) ?_ rfl (hm2.mono fun k _ hk => by rw [hk]; rfl)⟩
    have hG : gS S m = (stS (fun t => rowI S (t + 1)) m (2 * n - 2) m).2 := by
      funext i
      unfold gS
      rw [hn]; rfl
    rw [hG]; exact ho
set_option maxHeartbeats 1600000 in
theorem lengths_bad (v : Value) (n : Nat) (f : List Int) (most : Int) (w : World) (hv : Rd w 1 v n (ints f)) (hn : n = f.length) (hl : n < 1000) (hbad : most < 1 ∨ 15 < most ∨ 288 < n ∨ frqIn f = false) :
    Calls Try.prog 8 #[v, .int .i64 most] w fun e w' => e = .returned (.tuple #[.slice none 0 0, .int .i64 1]) ∧ w = w' := by
  have HW := hid (within_any v f w n hn hv (by omega))
  obtain ⟨ao, cap, rfl, _, _⟩ := hv.form
  have hn0 : (0 : Int) ≤ (n : Int) := Int.natCast_nonneg _
  have h4 : most < 1 ∨ 1 ≤ most ∧ 15 < most ∨ 1 ≤ most ∧ most ≤ 15 ∧ 288 < n ∨ 1 ≤ most ∧ most ≤ 15 ∧ n ≤ 288 ∧ frqIn f = false := by
    rcases hbad with h | h | h | h
    · exact .inl h
    · exact .inr (.inl ⟨by omega, h⟩)
    · by_cases h1 : most < 1
      · exact .inl h1
      · by_cases h2 : 15 < most
        · exact .inr (.inl ⟨by omega, h2⟩)
        · exact .inr (.inr (.inl ⟨by omega, by omega, h⟩))
    · by_cases h1 : most < 1
      · exact .inl h1
      · by_cases h2 : 15 < most
        · exact .inr (.inl ⟨by omega, h2⟩)
        · by_cases h3 : 288 < n
          · exact .inr (.inr (.inl ⟨by omega, by omega, h3⟩))
          · exact .inr (.inr (.inr ⟨by omega, by omega, by omega, h⟩))
  clear hbad hv hn
  rcases h4 with h | ⟨h, h2⟩ | ⟨h, h2, h3⟩ | ⟨h, h2, h3, h5⟩
  · have hb1 : decide (most < 1) = true := by simp; omega
    go_enter Try.func8, Try.ntmps8
    go_wp2
    go_ret2
    exact ⟨rfl, rfl⟩
  · have hb1 : decide (most < 1) = false := by simp; omega
    have hb2 : decide ((15 : Int) < most) = true := by simp; omega
    go_enter Try.func8, Try.ntmps8
    go_wp2
    go_ret2
    exact ⟨rfl, rfl⟩
  · have hb1 : decide (most < 1) = false := by simp; omega
    have hb2 : decide ((15 : Int) < most) = false := by simp; omega
    have hb3 : decide ((288 : Int) < (n : Int)) = true := by simp; omega
    go_enter Try.func8, Try.ntmps8
    go_wp2
    go_ret2
    exact ⟨rfl, rfl⟩
  · have hb1 : decide (most < 1) = false := by simp; omega
    have hb2 : decide ((15 : Int) < most) = false := by simp; omega
    have hb3 : decide ((288 : Int) < (n : Int)) = false := by simp; omega
    rw [h5] at HW
    clear h5
    go_enter Try.func8, Try.ntmps8
    go_wp2_with fail
    refine HW.out.mono ?_
    rintro e w' ⟨rfl, rfl⟩
    go_wp2
    go_ret2
    exact ⟨rfl, rfl⟩
theorem infoInt5 : (Try.prog.info? 3).map (fun i => (i.zero, i.size, i.bytes)) = some (some (.int .i64 0), 1, 8) := by kernel_rfl
theorem zero_nums (n : Nat) : List.replicate n (Value.int .i64 0) = gNums n (fun _ => 0) := by
  refine List.ext_getElem? fun j => ?_
  by_cases h : j < n
  · rw [gNums_get _ _ _ h, List.getElem?_replicate, if_pos h]; rfl
  · rw [List.getElem?_eq_none (by simp; omega), List.getElem?_eq_none (by simp [gNums, nums]; omega)]
theorem Held.itemAt {w0 w : World} {g off n cap : Nat} {l : List Itm} {Rs : List Thing} (h : Held w0 w (itmT (.slice (some ⟨g, off, none⟩) n cap) l :: Rs)) {j : Nat} {x : Itm} (hx : l[j]? = some x) :
    w.cell? ⟨g, off + j * 2, none⟩ = some (.int .i64 (x.1 : Int)) ∧ w.cell? ⟨g, off + j * 2 + 1, none⟩ = some (.int .i64 x.2) := by
  have hl := (List.getElem?_eq_some_iff.1 hx).1
  obtain ⟨g', off', cap', hv, _, _, hcell, _, _⟩ := h.site2 (by omega)
  simp only [Value.slice.injEq, Option.some.injEq, Addr.mk.injEq, and_true] at hv
  obtain ⟨⟨rfl, rfl⟩, _, rfl⟩ := hv
  exact hcell j x hx
theorem itm_addr {w0 w : World} {v : Value} {l : List Itm} {Rs : List Thing} (h : Held w0 w (itmT v l :: Rs)) (hl : 0 < l.length) : ∃ g off cap, v = .slice (some ⟨g, off, none⟩) l.length cap := by
  obtain ⟨g, off, cap, hv, _⟩ := h.site2 hl
  exact ⟨g, off, cap, hv⟩
theorem Held.numAt {w0 w : World} {B n c : Nat} {G : Nat → Nat} {Rs : List Thing} (h : Held w0 w (ownT 3 1 (.slice (some ⟨B, 0, none⟩) n c) n (gNums n G) :: Rs)) {s : Nat} (hs : s < n) (u : Nat) :
    w.cell? ⟨B, s, none⟩ = some (.int .i64 (G s : Int)) ∧ w.frozen? ⟨B, s, none⟩ = false ∧ Held w0 (w.setCell ⟨B, s, none⟩ (.int .i64 (u : Int))) (ownT 3 1 (.slice (some ⟨B, 0, none⟩) n c) n (gNums n (fun j => if j = s then u else G j)) :: Rs) := by
  obtain ⟨g, off, hg, hcell, hfr, hput⟩ := h.own.site (by omega)
  simp only [Option.some.injEq, Addr.mk.injEq, and_true] at hg
  obtain ⟨rfl, rfl⟩ := hg
  have h1 := hcell s _ (gNums_get n G s hs)
  have h2 := hfr s
  have h3 := h.putOwn (hput s (.int .i64 (u : Int)) hs) (Mod.set w B (0 + s) _)
  rw [gNums_set] at h3
  rw [Nat.zero_add] at h1 h2 h3
  exact ⟨h1, h2, h3⟩
set_option maxHeartbeats 3200000 in
theorem lengths_good (v : Value) (n m : Nat) (f : List Int) (w : World) (hv : Rd w 1 v n (ints f)) (hn : n = f.length) (hl : n ≤ 288) (hm1 : 1 ≤ m) (hm2 : m ≤ 15) (hf : frqIn f = true) :
    Calls Try.prog 8 #[v, .int .i64 (m : Int)] w fun e w' => (2 ^ m < coded f ∧ e = .returned (.tuple #[.slice none 0 0, .int .i64 3]) ∧ Mod w w' (fun _ => False)) ∨
      (coded f ≤ 2 ^ m ∧ ∃ (v' : Value) (l : List Nat) (Rs : List Thing), e = .returned (.tuple #[v', .int .i64 0]) ∧ Held w w' (ownT 3 1 v' n (nums .i64 l) :: Rs) ∧ LenOK (f.map Int.toNat) m l) := by
  have HW := hid (within_any v f w n hn hv (by omega))
  rw [hf] at HW
  have hfi := (frqIn_iff f).1 hf
  have hcn : codedN (f.map Int.toNat) = coded f := coded_nat f fun a ha => (hfi a ha).1
  obtain ⟨S, hS⟩ : ∃ S, S = symI 0 (f.map Int.toNat) := ⟨_, rfl⟩
  have HY := hid (symbols_any v f w w [] (Held.start w) n hn hv (by omega) hfi)
  rw [← hS] at HY
  obtain ⟨c, hc⟩ : ∃ c, c = S.length := ⟨_, rfl⟩
  have hcc : c = coded f := by rw [hc, hS, symI_length, hcn]
  have hcn2 : c ≤ n := by
    have := symI_le (f.map Int.toNat) 0
    rw [← hS, ← hc, List.length_map, ← hn] at this; exact this
  have hsy : ∀ x ∈ S, ∃ s : Nat, s < n ∧ x.2 = (s : Int) ∧ x.1 ≤ 1048576 := fun x hx => by
    rw [hS] at hx
    obtain ⟨i, _, e, hi, _⟩ := symI_mem _ 0 x hx
    have hil := (List.getElem?_eq_some_iff.1 hi).1
    rw [List.length_map, Nat.sub_zero, ← hn] at hil
    refine ⟨i, hil, e, ?_⟩
    rw [Nat.sub_zero, List.getElem?_map] at hi
    obtain ⟨a, ha, hxa⟩ := Option.map_eq_some_iff.1 hi
    have := hfi a (List.mem_of_getElem? ha)
    omega
  rw [← hcc]
  obtain ⟨ao, cap, rfl, _, _⟩ := hv.form
  have hn0 : (0 : Int) ≤ (n : Int) := Int.natCast_nonneg _
  have hc0 : (0 : Int) ≤ (c : Int) := Int.natCast_nonneg _
  have hm0 : (0 : Int) ≤ (m : Int) := Int.natCast_nonneg _
  have HL := hid (And.intro hc.symm (And.intro hS (And.intro hn hsy)))
  have HCC := hid hcn
  have hb1 : decide ((m : Int) < 1) = false := by simp; omega
  have hb2 : decide ((15 : Int) < (m : Int)) = false := by simp; omega
  have hb3 : decide ((288 : Int) < (n : Int)) = false := by simp; omega
  obtain ⟨z, hz⟩ : ∃ z, z = 2 ^ m := ⟨_, rfl⟩
  have hz0 : z ≤ 32768 := by rw [hz]; exact Nat.pow_le_pow_right (by decide) hm2
  have HZ := hid hz
  have hwz : wrap64 ((2 : Int) ^ m) = (z : Int) := by
    rw [two_pow_int, ← hz]
    unfold wrap64; omega
  rw [← hz]
  clear hc hS hn hsy hfi hf hv hcn hz
  have HCF := hid hcc
  clear hcc
  go_enter Try.func8, Try.ntmps8
  go_wp2_with fail
  refine HW.out.mono ?_
  rintro e w' ⟨rfl, rfl⟩
  go_wp2_with fail
  refine HY.out.mono ?_
  rintro e w1 ⟨sv, rfl, hh⟩
  obtain ⟨so, sc, rfl, hs1, hs2⟩ := itm_form hh
  rw [HL.out.1] at hs1 hh ⊢
  have HH := hid hh
  clear hh HW HY
  by_cases hcz : z < c
  · have hczI : (z : Int) < (c : Int) := by omega
    go_wp2
    go_ret2
    exact .inl ⟨hcz, rfl, HH.out.mod⟩
  · have hczI : ¬ (z : Int) < (c : Int) := by omega
    have hcz2 : c ≤ z := by omega
    obtain ⟨i0, hi, hz0, hz1, hz2⟩ := info_parts infoInt5
    have hfl : (f.map Int.toNat).length = n := by rw [List.length_map]; exact HL.out.2.2.1.symm
    have HFL := hid hfl
    clear hfl
    have h3 : c = 0 ∨ c = 1 ∨ 2 ≤ c := by omega
    rcases h3 with h3 | h3 | h3
    · have HOK : Hid (LenOK (f.map Int.toNat) m ((List.range n).map fun _ => 0)) := by
        have hcf := HCF.out
        have hcn := HCC.out
        refine hid ⟨by rw [HFL.out]; simp, fun _ i a b ha hb => ?_, fun h => by omega⟩
        have hil := (List.getElem?_eq_some_iff.1 ha).1
        rw [List.length_map, List.length_range] at hil
        rw [List.getElem?_map, List.getElem?_range hil] at ha
        simp only [Option.map_some, Option.some.injEq] at ha
        by_cases h0 : 0 < b
        · have h := symI_has _ 0 i b hb h0
          have hSl := HL.out.1
          rw [h3] at hSl
          rw [← HL.out.2.1, List.eq_nil_of_length_eq_zero hSl] at h
          simp at h
        · rw [if_neg h0]; exact ha.symm
      subst h3
      go_wp2_with ((with_reducible show wpList _ _ _ (⟨some 33, _, _, _, _, _⟩ :: _) _ _); refine wpList_make_own rfl 22 (.tmp 32) (.tmp 32) rfl 3 i0 (.int .i64 0) 1 Try.underlying22 hi hz0 hz1 .i64 n rfl rfl (by rw [hz2]; omega) (by unfold maxLen; omega) ?_; intro v1 w2 zs ho1 hm1 hf1 hv1 hzs; rw [made_cells _ _ rfl, zero_nums] at hzs; subst hzs; subst hv1; have HH2 := hid (HH.out.pushOwn ho1 hm1 hf1); clear hm1 hf1 ho1)
      go_ret2
      exact .inr ⟨hcz2, _, (List.range n).map fun _ => 0, _, rfl, HH2.out, HOK.out⟩
    · subst h3
      obtain ⟨⟨a0, s0⟩, hSx⟩ : ∃ x, S = [x] := List.length_eq_one_iff.1 HL.out.1
      obtain ⟨s, hsn, hs, ha0⟩ := HL.out.2.2.2 (a0, s0) (by rw [hSx]; simp)
      have hs : s0 = (s : Int) := hs
      subst hs
      have HOK : Hid (LenOK (f.map Int.toNat) m ((List.range n).map fun j => if j = s then 1 else 0)) := by
        have hcf := HCF.out
        have hcn := HCC.out
        refine hid ⟨by rw [HFL.out]; simp, fun _ i a b ha hb => ?_, fun h => by omega⟩
        have hil := (List.getElem?_eq_some_iff.1 ha).1
        rw [List.length_map, List.length_range] at hil
        rw [List.getElem?_map, List.getElem?_range hil] at ha
        simp only [Option.map_some, Option.some.injEq] at ha
        rw [← ha]
        by_cases h0 : 0 < b
        · have h := symI_has _ 0 i b hb h0
          rw [← HL.out.2.1, hSx, List.mem_singleton, Nat.zero_add] at h
          have h2 : (i : Int) = (s : Int) := congrArg Prod.snd h
          rw [if_pos h0, if_pos (by omega)]
        · have h1 : (a0, (s : Int)) ∈ symI 0 (f.map Int.toNat) := by rw [← HL.out.2.1, hSx]; simp
          obtain ⟨j, _, e, hj, hp⟩ := symI_mem _ 0 _ h1
          have e2 : (s : Int) = (j : Int) := e
          have hne : ¬ i = s := by
            intro e3
            have : j = i := by omega
            subst this
            rw [Nat.sub_zero, hb] at hj
            simp only [Option.some.injEq] at hj
            omega
          rw [if_neg h0, if_neg hne]
      have hs0 : (0 : Int) ≤ (s : Int) := Int.natCast_nonneg _
      have HSX := hid hSx
      obtain ⟨g, off, cp, hv⟩ := itm_addr HH.out (by rw [hSx]; exact Nat.zero_lt_one)
      simp only [Value.slice.injEq] at hv
      obtain ⟨rfl, hx9, rfl⟩ := hv
      clear hSx hx9
      go_wp2_with ((with_reducible show wpList _ _ _ (⟨some 33, _, _, _, _, _⟩ :: _) _ _); refine wpList_make_own rfl 22 (.tmp 32) (.tmp 32) rfl 3 i0 (.int .i64 0) 1 Try.underlying22 hi hz0 hz1 .i64 n rfl rfl (by rw [hz2]; omega) (by unfold maxLen; omega) ?_; intro v1 w2 zs ho1 hm1 hf1 hv1 hzs; rw [made_cells _ _ rfl, zero_nums] at hzs; subst hzs; subst hv1; have HH2 := hid (HH.out.pushOwn ho1 hm1 hf1); clear hm1 hf1 ho1; have c2 := (HH2.out.swap.itemAt (j := 0) (x := (a0, (s : Int))) (by rw [HSX.out]; rfl)).2; obtain ⟨c3, f3, h3⟩ := HH2.out.numAt hsn 1; have HP := hid h3; simp only [Nat.zero_mul, Nat.add_zero] at c2; clear h3)
      go_ret2
      exact .inr ⟨hcz2, _, _, _, rfl, HP.out, HOK.out⟩
    · have HOK : Hid (LenOK (f.map Int.toNat) m ((List.range n).map (gS S m))) := by
        have hcf := HCF.out
        have hcn := HCC.out
        have hz9 := HZ.out
        refine hid ⟨by rw [HFL.out]; simp, fun h => by omega, fun _ => ?_⟩
        rw [HL.out.2.1, ← HFL.out]
        exact share_opt _ m hm1 hm2 (by omega) (by omega)
      have hc1I : ¬ (c : Int) = 1 := by omega
      have hc1b : ((c : Int) == 1) = false := by simp; omega
      have hc2I : (1 : Int) < (c : Int) := by omega
      obtain ⟨k, hk⟩ : ∃ k, k = 2 * c - 2 := ⟨_, rfl⟩
      have hkI : 2 * (c : Int) - 2 = (k : Int) := by omega
      have HK := hid hk
      clear hk
      go_wp2_with first
        | ((with_reducible show wpList _ _ _ (⟨some 33, _, _, _, _, _⟩ :: _) _ _); refine wpList_make_own rfl 22 (.tmp 32) (.tmp 32) rfl 3 i0 (.int .i64 0) 1 Try.underlying22 hi hz0 hz1 .i64 n rfl rfl (by rw [hz2]; omega) (by unfold maxLen; omega) ?_; intro v1 w2 zs ho1 hm1 hf1 hv1 hzs; rw [made_cells _ _ rfl, zero_nums] at hzs; subst hzs; subst hv1; have HH2 := hid (HH.out.pushOwn ho1 hm1 hf1); clear hm1 hf1 ho1)
        | fail
      have hsy2 : ∀ x ∈ S, x.1 ≤ 1048576 := fun x hx => by
        obtain ⟨_, _, _, h⟩ := HL.out.2.2.2 x hx
        exact h
      refine (rows_any c m S _ w _ _ HH2.out.swap HL.out.1 (by omega) (by omega) hm2 hsy2).mono ?_
      rintro e w3 ⟨B, ms, rfl, hms, hms2, hh⟩
      have HR := shareH c m n B S ms w1.heap.size n (.slice so c sc) w w3 [] hh hms hms2 HL.out.1 (by omega) (by omega) hm2 hm1 (by have := HZ.out; omega) (by omega) (fun x hx => by
        obtain ⟨s, h1, h2, _⟩ := HL.out.2.2.2 x hx
        exact ⟨s, h1, h2⟩)
      rw [← HK.out] at HR
      have HR2 := hid HR
      clear HR hh hms hms2 hsy2
      go_wp2_with fail
      refine HR2.out.mono ?_
      rintro e w4 ⟨rfl, Rs4, hh⟩
      have HF := hid hh
      clear hh HR2
      go_wp2
      go_ret2
      exact .inr ⟨hcz2, _, _, _, rfl, HF.out, HOK.out⟩
/-- The contract. -/
theorem lengthsOK : LengthsOK := by
  intro v n f most w hv hn
  have hnf : n = f.length := by have := hv.1; rw [ints_length] at this; omega
  by_cases hbad : most < 1 ∨ 15 < most ∨ 288 < n ∨ frqIn f = false
  · have hM : mayOf f most = 1 := by
      unfold mayOf
      rw [if_pos]
      rcases hbad with h | h | h | h
      · exact .inr (.inl h)
      · exact .inr (.inr (.inl h))
      · exact .inl (by omega)
      · exact .inr (.inr (.inr h))
    refine (lengths_bad v n f most w hv hnf hn hbad).mono ?_
    rintro e w' ⟨rfl, rfl⟩
    exact ⟨.slice none 0 0, [], by rw [hM]; rfl, Own.nil _ _ _, fun k hk => by simp [Value.ownBlock] at hk, Mod.refl _ _, fun _ => rfl, fun h => by omega⟩
  · have h1 : 1 ≤ most := by
      have : ¬ most < 1 := fun h => hbad (.inl h)
      omega
    have h2 : most ≤ 15 := by
      have : ¬ 15 < most := fun h => hbad (.inr (.inl h))
      omega
    have h3 : n ≤ 288 := by
      have : ¬ 288 < n := fun h => hbad (.inr (.inr (.inl h)))
      omega
    have h4 : frqIn f = true := by
      cases hf : frqIn f with
      | true => rfl
      | false => exact absurd (.inr (.inr (.inr hf))) hbad
    obtain ⟨m, rfl⟩ := Int.eq_ofNat_of_zero_le (show 0 ≤ most by omega)
    have hM : mayOf f (m : Int) = if 2 ^ m < coded f then 3 else 0 := by
      unfold mayOf
      rw [if_neg (by
        rintro (h | h | h | h)
        · omega
        · omega
        · omega
        · rw [h4] at h; cases h)]
      rfl
    refine (lengths_good v n m f w hv hnf h3 (by omega) (by omega) h4).mono ?_
    rintro e w' (⟨hc, rfl, hm⟩ | ⟨hc, v', l, Rs, rfl, hh, hok⟩)
    · rw [if_pos hc] at hM
      exact ⟨.slice none 0 0, [], by rw [hM]; rfl, Own.nil _ _ _, fun k hk => by simp [Value.ownBlock] at hk, hm, fun _ => rfl, fun h => by omega⟩
    · rw [if_neg (by omega)] at hM
      have hl : l.length = n := by rw [hok.len, List.length_map]; omega
      refine ⟨v', l, by rw [hM]; rfl, by rw [hl]; exact hh.own, hh.fresh, hh.mod, fun h => absurd hM h, fun _ => ?_⟩
      simpa using hok
end Go.Proofs.Ytcmfccooipnmeaa
