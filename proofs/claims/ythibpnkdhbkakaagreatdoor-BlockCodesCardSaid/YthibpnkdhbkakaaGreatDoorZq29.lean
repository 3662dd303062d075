/-
  The program's Lengths keeps what it is to return.
-/
import Derived.Test.YthibpnkdhbkakaaGreatDoorZq28
import Derived.Deep.DeepCutAuto
import Derived.Test.YthibpnkdhbkakaaGreatDoorZq22
namespace Go.Proofs.YthibpnkdhbkakaaGreatDoor
set_option maxRecDepth 5000
open Go.RowKit

theorem Held.pick {w0 w : World} {A R : Thing} {Rs : List Thing} (h : Held w0 w (A :: Rs)) (hR : R ∈ Rs) : ∃ Rs', Held w0 w (A :: R :: Rs') := by
  obtain ⟨s, t, rfl⟩ := List.append_of_mem hR
  exact ⟨s ++ t, h.perm (List.perm_middle.cons _)⟩
theorem coded_nat : ∀ f : List Int, (∀ a ∈ f, 0 ≤ a) → codedN (f.map Int.toNat) = coded f
  | [], _ => rfl
  | a :: f, h => by
    have ih := coded_nat f fun b hb => h b (List.mem_cons_of_mem _ hb)
    have ha := h a List.mem_cons_self
    rw [List.map_cons, codedN, ih, coded, coded, List.countP_cons]
    by_cases h0 : 0 < a
    · rw [if_pos (by omega)]; simp [h0]; omega
    · rw [if_neg (by omega)]; simp [h0]
set_option maxHeartbeats 1600000 in
theorem shareH (n m N B : Nat) (S : List Itm) (ms : List (Value × List Itm)) (gl cap : Nat) (sv : Value) (w0 w : World) (Rs : List Thing)
    (h : Held w0 w (ownT 113 1 (.slice (some ⟨B, 0, none⟩) m m) m (ms.map (·.1)) :: itmT sv S :: (mT ms ++ (ownT 3 1 (.slice (some ⟨gl, 0, none⟩) N cap) N (gNums N fun _ => 0) :: Rs))))
    (hms : ms.length = m) (hms2 : ms.map (·.2) = (List.range m).map (fun t => rowI S (t + 1))) (hn : S.length = n) (hn0 : 0 < n) (hn2 : n ≤ 300) (hm : m ≤ 15) (hm1 : 1 ≤ m) (hnm : n ≤ 2 ^ m) (hN : N ≤ 1000) (hsy : ∀ x ∈ S, ∃ s : Nat, s < N ∧ x.2 = (s : Int)) :
    Calls Tryz.prog 69 #[.slice (some ⟨gl, 0, none⟩) N cap, .slice (some ⟨B, 0, none⟩) m m, .int .i64 ((2 * n - 2 : Nat) : Int)] w fun e w' => e = .returned (.tuple #[]) ∧
      ∃ Rs', Held w0 w' (ownT 3 1 (.slice (some ⟨gl, 0, none⟩) N cap) N (gNums N (gS S m)) :: Rs') := by
  have hS : ∀ x ∈ S, x.2 ≠ -1 := fun x hx => by
    obtain ⟨s, _, e⟩ := hsy x hx
    omega
  have h' : Held w0 w ((ownT 113 1 (.slice (some ⟨B, 0, none⟩) m m) m (ms.map (·.1)) :: itmT sv S :: mT ms) ++ (ownT 3 1 (.slice (some ⟨gl, 0, none⟩) N cap) N (gNums N fun _ => 0) :: Rs)) := h
  have hL := h'.perm List.perm_append_comm
  rw [List.cons_append] at hL
  have hrow : ∀ t, t < m → ∃ r : Value × List Itm, ms[t]? = some r ∧ r.2 = rowI S (t + 1) := fun t ht => by
    refine ⟨ms[t]'(by omega), List.getElem?_eq_getElem _, ?_⟩
    have e := congrArg (fun l : List (List Itm) => l[t]?) hms2
    simp only [List.getElem?_map, List.getElem?_range ht, Option.map_some, List.getElem?_eq_getElem (show t < ms.length by omega), Option.some.injEq] at e
    exact e
  have hpick : ∀ t, t < m → ∃ Rs', Held w0 w (ownT 3 1 (.slice (some ⟨gl, 0, none⟩) N cap) N (gNums N fun _ => 0) :: itmT ((ms[t]?).getD (.slice none 0 0, [])).1 (rowI S (t + 1)) :: Rs') := fun t ht => by
    obtain ⟨r, hr, hr2⟩ := hrow t ht
    rw [hr]
    refine hL.pick ?_
    refine List.mem_append_right _ (List.mem_cons_of_mem _ (List.mem_cons_of_mem _ (List.mem_map.2 ⟨r, List.mem_of_getElem? hr, ?_⟩)))
    rw [hr2]; rfl
  obtain ⟨Rs1, hB⟩ := hL.pick (R := ownT 113 1 (.slice (some ⟨B, 0, none⟩) m m) m (ms.map (·.1))) (List.mem_append_right _ List.mem_cons_self)
  have hlenr : ∀ t, (rowI S t).length ≤ 600 := fun t => by have := rowI_length S t; omega
  refine (share_any N m (2 * n - 2) gl 0 cap B (fun t => ((ms[t]?).getD (.slice none 0 0, [])).1) (fun t => rowI S (t + 1)) w hN hm hL.own (fun t ht => ?_) (hB.swap.own.lt B rfl) (fun e => ?_) (fun t => ?_) (fun t ht => ?_) (fun t ht e => ?_) (fun k hk => ?_) (fun t => ?_) (fun t ht => ?_) (fun t ht x hx => ?_)).mono ?_
  · obtain ⟨r, hr, _⟩ := hrow t ht
    refine h.rowAt ?_ (by omega)
    rw [List.getElem?_map, hr]; rfl
  · exact hB.apart2 gl rfl (by rw [e]; rfl)
  · by_cases ht : t < m
    · obtain ⟨Rs', hp⟩ := hpick t ht
      obtain ⟨a, c, e, _, _⟩ := itm_form hp.swap
      exact ⟨a, _, c, e⟩
    · rw [List.getElem?_eq_none (by omega)]; exact ⟨none, 0, 0, rfl⟩
  · obtain ⟨Rs', hp⟩ := hpick t ht
    exact hp.swap.own
  · obtain ⟨Rs', hp⟩ := hpick t ht
    exact hp.apart2 gl rfl e
  · have := kS_room hS (by omega : S.length ≤ 2 ^ m) (m - k) (by omega)
    unfold kS at this
    rw [show m - (m - k) = k by omega, hn] at this
    rw [show m - 1 - k + 1 = m - k by omega]
    exact this
  · have := hlenr (t + 1); omega
  · show 0 < (rowI S (t + 1)).length
    rw [rowI, ssort_length, List.length_append]; omega
  · rw [rowI] at hx
    rcases List.mem_append.1 ((ssort_perm _).mem_iff.1 hx) with h1 | h1
    · exact .inr (hsy x h1)
    · obtain ⟨a, b, _, _, rfl⟩ := packI_mem _ _ h1
      exact .inl rfl
  · rintro e w' ⟨rfl, ho, hm2⟩
    refine ⟨rfl, _, hL.turnOwn (v' := .slice (some ⟨gl, 0, none⟩) N cap) ?_ rfl (hm2.mono fun k _ hk => by rw [hk]; rfl)⟩
    have hG : gS S m = (stS (fun t => rowI S (t + 1)) m (2 * n - 2) m).2 := by
      funext i
      unfold gS
      rw [hn]; rfl
    rw [hG]; exact ho
set_option maxHeartbeats 1600000 in
theorem lengths_bad (v : Value) (n : Nat) (f : List Int) (most : Int) (w : World) (hv : Rd w 1 v n (ints f)) (hn : n = f.length) (hl : n < 1000) (hbad : most < 1 ∨ 15 < most ∨ 288 < n ∨ frqIn f = false) :
    Calls Tryz.prog 52 #[v, .int .i64 most] w fun e w' => e = .returned (.tuple #[.slice none 0 0, .int .i64 1]) ∧ w = w' := by
  have HW := hid (withinL_any v f w n hn hv (by omega))
  obtain ⟨ao, cap, rfl, _, _⟩ := hv.form
  have hn0 : (0 : Int) ≤ (n : Int) := Int.natCast_nonneg _
  have h4 : most < 1 ∨ 1 ≤ most ∧ 15 < most ∨ 1 ≤ most ∧ most ≤ 15 ∧ 288 < n ∨ 1 ≤ most ∧ most ≤ 15 ∧ n ≤ 288 ∧ frqIn f = false := by
    rcases hbad with h | h | h | h
    · exact .inl h
    · exact .inr (.inl ⟨by omega, h⟩)
    · by_cases h1 : most < 1
      · exact .inl h1
      · by_cases h2 : 15 < most
        · exact .inr (.inl ⟨by omega, h2⟩)
        · exact .inr (.inr (.inl ⟨by omega, by omega, h⟩))
    · by_cases h1 : most < 1
      · exact .inl h1
      · by_cases h2 : 15 < most
        · exact .inr (.inl ⟨by omega, h2⟩)
        · by_cases h3 : 288 < n
          · exact .inr (.inr (.inl ⟨by omega, by omega, h3⟩))
          · exact .inr (.inr (.inr ⟨by omega, by omega, by omega, h⟩))
  clear hbad hv hn
  rcases h4 with h | ⟨h, h2⟩ | ⟨h, h2, h3⟩ | ⟨h, h2, h3, h5⟩
  · have hb1 : decide (most < 1) = true := by simp; omega
    go_enter Tryz.func52, Tryz.ntmps52
    go_wp2
    go_ret2
    exact ⟨rfl, rfl⟩
  · have hb1 : decide (most < 1) = false := by simp; omega
    have hb2 : decide ((15 : Int) < most) = true := by simp; omega
    go_enter Tryz.func52, Tryz.ntmps52
    go_wp2
    go_ret2
    exact ⟨rfl, rfl⟩
  · have hb1 : decide (most < 1) = false := by simp; omega
    have hb2 : decide ((15 : Int) < most) = false := by simp; omega
    have hb3 : decide ((288 : Int) < (n : Int)) = true := by simp; omega
    go_enter Tryz.func52, Tryz.ntmps52
    go_wp2
    go_ret2
    exact ⟨rfl, rfl⟩
  · have hb1 : decide (most < 1) = false := by simp; omega
    have hb2 : decide ((15 : Int) < most) = false := by simp; omega
    have hb3 : decide ((288 : Int) < (n : Int)) = false := by simp; omega
    rw [h5] at HW
    clear h5
    go_enter Tryz.func52, Tryz.ntmps52
    go_wp2_with fail
    refine HW.out.mono ?_
    rintro e w' ⟨rfl, rfl⟩
    go_wp2
    go_ret2
    exact ⟨rfl, rfl⟩
theorem infoInt5 : (Tryz.prog.info? 3).map (fun i => (i.zero, i.size, i.bytes)) = some (some (.int .i64 0), 1, 8) := by kernel_rfl
theorem zero_nums (n : Nat) : List.replicate n (Value.int .i64 0) = gNums n (fun _ => 0) := by
  refine List.ext_getElem? fun j => ?_
  by_cases h : j < n
  · rw [gNums_get _ _ _ h, List.getElem?_replicate, if_pos h]; rfl
  · rw [List.getElem?_eq_none (by simp; omega), List.getElem?_eq_none (by simp [gNums, nums]; omega)]
theorem Held.itemAt {w0 w : World} {g off n cap : Nat} {l : List Itm} {Rs : List Thing} (h : Held w0 w (itmT (.slice (some ⟨g, off, none⟩) n cap) l :: Rs)) {j : Nat} {x : Itm} (hx : l[j]? = some x) :
    w.cell? ⟨g, off + j * 2, none⟩ = some (.int .i64 (x.1 : Int)) ∧ w.cell? ⟨g, off + j * 2 + 1, none⟩ = some (.int .i64 x.2) := by
  have hl := (List.getElem?_eq_some_iff.1 hx).1
  obtain ⟨g', off', cap', hv, _, _, hcell, _, _⟩ := h.site2 (by omega)
  simp only [Value.slice.injEq, Option.some.injEq, Addr.mk.injEq, and_true] at hv
  obtain ⟨⟨rfl, rfl⟩, _, rfl⟩ := hv
  exact hcell j x hx
theorem itm_addr {w0 w : World} {v : Value} {l : List Itm} {Rs : List Thing} (h : Held w0 w (itmT v l :: Rs)) (hl : 0 < l.length) : ∃ g off cap, v = .slice (some ⟨g, off, none⟩) l.length cap := by
  obtain ⟨g, off, cap, hv, _⟩ := h.site2 hl
  exact ⟨g, off, cap, hv⟩
theorem Held.numAt {w0 w : World} {B n c : Nat} {G : Nat → Nat} {Rs : List Thing} (h : Held w0 w (ownT 3 1 (.slice (some ⟨B, 0, none⟩) n c) n (gNums n G) :: Rs)) {s : Nat} (hs : s < n) (u : Nat) :
    w.cell? ⟨B, s, none⟩ = some (.int .i64 (G s : Int)) ∧ w.frozen? ⟨B, s, none⟩ = false ∧ Held w0 (w.setCell ⟨B, s, none⟩ (.int .i64 (u : Int))) (ownT 3 1 (.slice (some ⟨B, 0, none⟩) n c) n (gNums n (fun j => if j = s then u else G j)) :: Rs) := by
  obtain ⟨g, off, hg, hcell, hfr, hput⟩ := h.own.site (by omega)
  simp only [Option.some.injEq, Addr.mk.injEq, and_true] at hg
  obtain ⟨rfl, rfl⟩ := hg
  have h1 := hcell s _ (gNums_get n G s hs)
  have h2 := hfr s
  have h3 := h.putOwn (hput s (.int .i64 (u : Int)) hs) (Mod.set w B (0 + s) _)
  rw [gNums_set] at h3
  rw [Nat.zero_add] at h1 h2 h3
  exact ⟨h1, h2, h3⟩
/-- the lengths that the program finds: a function of the frequencies and the limit -/
def lensF (f : List Nat) (m : Nat) : List Nat :=
  match symI 0 f with
  | [] => (List.range f.length).map fun _ => 0
  | [x] => (List.range f.length).map fun (j : Nat) => if (j : Int) = x.2 then 1 else 0
  | x :: y :: r => (List.range f.length).map (gS (x :: y :: r) m)
theorem lensF_zero {f : List Nat} {m n : Nat} {S : List Itm} (hS : S = symI 0 f) (h : S.length = 0) (hn : f.length = n) : ((List.range n).map fun _ => 0) = lensF f m := by
  have e : symI 0 f = [] := by rw [← hS]; exact List.eq_nil_of_length_eq_zero h
  unfold lensF
  rw [e, hn]
theorem lensF_one {f : List Nat} {m n a s : Nat} {S : List Itm} (hS : S = symI 0 f) (h : S = [(a, (s : Int))]) (hn : f.length = n) : ((List.range n).map fun j => if j = s then 1 else 0) = lensF f m := by
  have e : symI 0 f = [(a, (s : Int))] := by rw [← hS]; exact h
  unfold lensF
  rw [e, hn]
  simp only [Int.natCast_inj]
theorem lensF_many {f : List Nat} {m n : Nat} {S : List Itm} (hS : S = symI 0 f) (h : 2 ≤ S.length) (hn : f.length = n) : (List.range n).map (gS S m) = lensF f m := by
  unfold lensF
  rw [← hS, hn]
  match S, h with
  | _ :: _ :: _, _ => rfl
set_option maxHeartbeats 3200000 in
theorem lengths_good (v : Value) (n m : Nat) (f : List Int) (w : World) (hv : Rd w 1 v n (ints f)) (hn : n = f.length) (hl : n ≤ 288) (hm1 : 1 ≤ m) (hm2 : m ≤ 15) (hf : frqIn f = true) :
    Calls Tryz.prog 52 #[v, .int .i64 (m : Int)] w fun e w' => (2 ^ m < coded f ∧ e = .returned (.tuple #[.slice none 0 0, .int .i64 3]) ∧ Mod w w' (fun _ => False)) ∨
      (coded f ≤ 2 ^ m ∧ ∃ (v' : Value) (l : List Nat) (Rs : List Thing), e = .returned (.tuple #[v', .int .i64 0]) ∧ Held w w' (ownT 3 1 v' n (nums .i64 l) :: Rs) ∧ LenOK (f.map Int.toNat) m l ∧ l = lensF (f.map Int.toNat) m) := by
  have HW := hid (withinL_any v f w n hn hv (by omega))
  rw [hf] at HW
  have hfi := (frqIn_iff f).1 hf
  have hcn : codedN (f.map Int.toNat) = coded f := coded_nat f fun a ha => (hfi a ha).1
  obtain ⟨S, hS⟩ : ∃ S, S = symI 0 (f.map Int.toNat) := ⟨_, rfl⟩
  have HY := hid (symbols_any v f w w [] (Held.start w) n hn hv (by omega) hfi)
  rw [← hS] at HY
  obtain ⟨c, hc⟩ : ∃ c, c = S.length := ⟨_, rfl⟩
  have hcc : c = coded f := by rw [hc, hS, symI_length, hcn]
  have hcn2 : c ≤ n := by
    have := symI_le (f.map Int.toNat) 0
    rw [← hS, ← hc, List.length_map, ← hn] at this; exact this
  have hsy : ∀ x ∈ S, ∃ s : Nat, s < n ∧ x.2 = (s : Int) ∧ x.1 ≤ 1048576 := fun x hx => by
    rw [hS] at hx
    obtain ⟨i, _, e, hi, _⟩ := symI_mem _ 0 x hx
    have hil := (List.getElem?_eq_some_iff.1 hi).1
    rw [List.length_map, Nat.sub_zero, ← hn] at hil
    refine ⟨i, hil, e, ?_⟩
    rw [Nat.sub_zero, List.getElem?_map] at hi
    obtain ⟨a, ha, hxa⟩ := Option.map_eq_some_iff.1 hi
    have := hfi a (List.mem_of_getElem? ha)
    omega
  rw [← hcc]
  obtain ⟨ao, cap, rfl, _, _⟩ := hv.form
  have hn0 : (0 : Int) ≤ (n : Int) := Int.natCast_nonneg _
  have hc0 : (0 : Int) ≤ (c : Int) := Int.natCast_nonneg _
  have hm0 : (0 : Int) ≤ (m : Int) := Int.natCast_nonneg _
  have HL := hid (And.intro hc.symm (And.intro hS (And.intro hn hsy)))
  have HCC := hid hcn
  have hb1 : decide ((m : Int) < 1) = false := by simp; omega
  have hb2 : decide ((15 : Int) < (m : Int)) = false := by simp; omega
  have hb3 : decide ((288 : Int) < (n : Int)) = false := by simp; omega
  obtain ⟨z, hz⟩ : ∃ z, z = 2 ^ m := ⟨_, rfl⟩
  have hz0 : z ≤ 32768 := by rw [hz]; exact Nat.pow_le_pow_right (by decide) hm2
  have HZ := hid hz
  have hwz : wrap64 ((2 : Int) ^ m) = (z : Int) := by
    rw [two_pow_int, ← hz]
    unfold wrap64; omega
  rw [← hz]
  clear hc hS hn hsy hfi hf hv hcn hz
  have HCF := hid hcc
  clear hcc
  go_enter Tryz.func52, Tryz.ntmps52
  go_wp2_with fail
  refine HW.out.mono ?_
  rintro e w' ⟨rfl, rfl⟩
  go_wp2_with fail
  refine HY.out.mono ?_
  rintro e w1 ⟨sv, rfl, hh⟩
  obtain ⟨so, sc, rfl, hs1, hs2⟩ := itm_form hh
  rw [HL.out.1] at hs1 hh ⊢
  have HH := hid hh
  clear hh HW HY
  by_cases hcz : z < c
  · have hczI : (z : Int) < (c : Int) := by omega
    go_wp2
    go_ret2
    exact .inl ⟨hcz, rfl, HH.out.mod⟩
  · have hczI : ¬ (z : Int) < (c : Int) := by omega
    have hcz2 : c ≤ z := by omega
    obtain ⟨i0, hi, hz0, hz1, hz2⟩ := info_parts infoInt5
    have hfl : (f.map Int.toNat).length = n := by rw [List.length_map]; exact HL.out.2.2.1.symm
    have HFL := hid hfl
    clear hfl
    have h3 : c = 0 ∨ c = 1 ∨ 2 ≤ c := by omega
    rcases h3 with h3 | h3 | h3
    · have HOK : Hid (LenOK (f.map Int.toNat) m ((List.range n).map fun _ => 0)) := by
        have hcf := HCF.out
        have hcn := HCC.out
        refine hid ⟨by rw [HFL.out]; simp, fun _ i a b ha hb => ?_, fun h => by omega⟩
        have hil := (List.getElem?_eq_some_iff.1 ha).1
        rw [List.length_map, List.length_range] at hil
        rw [List.getElem?_map, List.getElem?_range hil] at ha
        simp only [Option.map_some, Option.some.injEq] at ha
        by_cases h0 : 0 < b
        · have h := symI_has _ 0 i b hb h0
          have hSl := HL.out.1
          rw [h3] at hSl
          rw [← HL.out.2.1, List.eq_nil_of_length_eq_zero hSl] at h
          simp at h
        · rw [if_neg h0]; exact ha.symm
      subst h3
      go_wp2_with ((with_reducible show wpList _ _ _ (⟨some 33, _, _, _, _, _⟩ :: _) _ _); refine wpList_make_own rfl 37 (.tmp 32) (.tmp 32) rfl 3 i0 (.int .i64 0) 1 Tryz.underlying37 hi hz0 hz1 .i64 n rfl rfl (by rw [hz2]; omega) (by unfold maxLen; omega) ?_; intro v1 w2 zs ho1 hm1 hf1 hv1 hzs; rw [made_cells _ _ rfl, zero_nums] at hzs; subst hzs; subst hv1; have HH2 := hid (HH.out.pushOwn ho1 hm1 hf1); clear hm1 hf1 ho1)
      go_ret2
      exact .inr ⟨hcz2, _, (List.range n).map fun _ => 0, _, rfl, HH2.out, HOK.out, lensF_zero HL.out.2.1 HL.out.1 HFL.out⟩
    · subst h3
      obtain ⟨⟨a0, s0⟩, hSx⟩ : ∃ x, S = [x] := List.length_eq_one_iff.1 HL.out.1
      obtain ⟨s, hsn, hs, ha0⟩ := HL.out.2.2.2 (a0, s0) (by rw [hSx]; simp)
      have hs : s0 = (s : Int) := hs
      subst hs
      have HOK : Hid (LenOK (f.map Int.toNat) m ((List.range n).map fun j => if j = s then 1 else 0)) := by
        have hcf := HCF.out
        have hcn := HCC.out
        refine hid ⟨by rw [HFL.out]; simp, fun _ i a b ha hb => ?_, fun h => by omega⟩
        have hil := (List.getElem?_eq_some_iff.1 ha).1
        rw [List.length_map, List.length_range] at hil
        rw [List.getElem?_map, List.getElem?_range hil] at ha
        simp only [Option.map_some, Option.some.injEq] at ha
        rw [← ha]
        by_cases h0 : 0 < b
        · have h := symI_has _ 0 i b hb h0
          rw [← HL.out.2.1, hSx, List.mem_singleton, Nat.zero_add] at h
          have h2 : (i : Int) = (s : Int) := congrArg Prod.snd h
          rw [if_pos h0, if_pos (by omega)]
        · have h1 : (a0, (s : Int)) ∈ symI 0 (f.map Int.toNat) := by rw [← HL.out.2.1, hSx]; simp
          obtain ⟨j, _, e, hj, hp⟩ := symI_mem _ 0 _ h1
          have e2 : (s : Int) = (j : Int) := e
          have hne : ¬ i = s := by
            intro e3
            have : j = i := by omega
            subst this
            rw [Nat.sub_zero, hb] at hj
            simp only [Option.some.injEq] at hj
            omega
          rw [if_neg h0, if_neg hne]
      have hs0 : (0 : Int) ≤ (s : Int) := Int.natCast_nonneg _
      have HSX := hid hSx
      obtain ⟨g, off, cp, hv⟩ := itm_addr HH.out (by rw [hSx]; exact Nat.zero_lt_one)
      simp only [Value.slice.injEq] at hv
      obtain ⟨rfl, hx9, rfl⟩ := hv
      clear hSx hx9
      go_wp2_with ((with_reducible show wpList _ _ _ (⟨some 33, _, _, _, _, _⟩ :: _) _ _); refine wpList_make_own rfl 37 (.tmp 32) (.tmp 32) rfl 3 i0 (.int .i64 0) 1 Tryz.underlying37 hi hz0 hz1 .i64 n rfl rfl (by rw [hz2]; omega) (by unfold maxLen; omega) ?_; intro v1 w2 zs ho1 hm1 hf1 hv1 hzs; rw [made_cells _ _ rfl, zero_nums] at hzs; subst hzs; subst hv1; have HH2 := hid (HH.out.pushOwn ho1 hm1 hf1); clear hm1 hf1 ho1; have c2 := (HH2.out.swap.itemAt (j := 0) (x := (a0, (s : Int))) (by rw [HSX.out]; rfl)).2; obtain ⟨c3, f3, h3⟩ := HH2.out.numAt hsn 1; have HP := hid h3; simp only [Nat.zero_mul, Nat.add_zero] at c2; clear h3)
      go_ret2
      exact .inr ⟨hcz2, _, _, _, rfl, HP.out, HOK.out, lensF_one HL.out.2.1 HSX.out HFL.out⟩
    · have HOK : Hid (LenOK (f.map Int.toNat) m ((List.range n).map (gS S m))) := by
        have hcf := HCF.out
        have hcn := HCC.out
        have hz9 := HZ.out
        refine hid ⟨by rw [HFL.out]; simp, fun h => by omega, fun _ => ?_⟩
        rw [HL.out.2.1, ← HFL.out]
        exact share_opt _ m hm1 hm2 (by omega) (by omega)
      have hc1I : ¬ (c : Int) = 1 := by omega
      have hc1b : ((c : Int) == 1) = false := by simp; omega
      have hc2I : (1 : Int) < (c : Int) := by omega
      obtain ⟨k, hk⟩ : ∃ k, k = 2 * c - 2 := ⟨_, rfl⟩
      have hkI : 2 * (c : Int) - 2 = (k : Int) := by omega
      have HK := hid hk
      clear hk
      go_wp2_with first
        | ((with_reducible show wpList _ _ _ (⟨some 33, _, _, _, _, _⟩ :: _) _ _); refine wpList_make_own rfl 37 (.tmp 32) (.tmp 32) rfl 3 i0 (.int .i64 0) 1 Tryz.underlying37 hi hz0 hz1 .i64 n rfl rfl (by rw [hz2]; omega) (by unfold maxLen; omega) ?_; intro v1 w2 zs ho1 hm1 hf1 hv1 hzs; rw [made_cells _ _ rfl, zero_nums] at hzs; subst hzs; subst hv1; have HH2 := hid (HH.out.pushOwn ho1 hm1 hf1); clear hm1 hf1 ho1)
        | fail
      have hsy2 : ∀ x ∈ S, x.1 ≤ 1048576 := fun x hx => by
        obtain ⟨_, _, _, h⟩ := HL.out.2.2.2 x hx
        exact h
      refine (rows_any c m S _ w _ _ HH2.out.swap HL.out.1 (by omega) (by omega) hm2 hsy2).mono ?_
      rintro e w3 ⟨B, ms, rfl, hms, hms2, hh⟩
      have HR := shareH c m n B S ms w1.heap.size n (.slice so c sc) w w3 [] hh hms hms2 HL.out.1 (by omega) (by omega) hm2 hm1 (by have := HZ.out; omega) (by omega) (fun x hx => by
        obtain ⟨s, h1, h2, _⟩ := HL.out.2.2.2 x hx
        exact ⟨s, h1, h2⟩)
      rw [← HK.out] at HR
      have HR2 := hid HR
      clear HR hh hms hms2 hsy2
      go_wp2_with fail
      refine HR2.out.mono ?_
      rintro e w4 ⟨rfl, Rs4, hh⟩
      have HF := hid hh
      clear hh HR2
      go_wp2
      go_ret2
      exact .inr ⟨hcz2, _, _, _, rfl, HF.out, HOK.out, lensF_many HL.out.2.1 (by rw [HL.out.1]; exact h3) HFL.out⟩
/-- The contract. -/
theorem lengthsOK : LengthsOK := by
  intro v n f most w hv hn
  have hnf : n = f.length := by have := hv.1; rw [ints_length] at this; omega
  by_cases hbad : most < 1 ∨ 15 < most ∨ 288 < n ∨ frqIn f = false
  · have hM : mayOf f most = 1 := by
      unfold mayOf
      rw [if_pos]
      rcases hbad with h | h | h | h
      · exact .inr (.inl h)
      · exact .inr (.inr (.inl h))
      · exact .inl (by omega)
      · exact .inr (.inr (.inr h))
    refine (lengths_bad v n f most w hv hnf hn hbad).mono ?_
    rintro e w' ⟨rfl, rfl⟩
    exact ⟨.slice none 0 0, [], by rw [hM]; rfl, Own.nil _ _ _, fun k hk => by simp [Value.ownBlock] at hk, Mod.refl _ _, fun _ => rfl, fun h => by omega⟩
  · have h1 : 1 ≤ most := by
      have : ¬ most < 1 := fun h => hbad (.inl h)
      omega
    have h2 : most ≤ 15 := by
      have : ¬ 15 < most := fun h => hbad (.inr (.inl h))
      omega
    have h3 : n ≤ 288 := by
      have : ¬ 288 < n := fun h => hbad (.inr (.inr (.inl h)))
      omega
    have h4 : frqIn f = true := by
      cases hf : frqIn f with
      | true => rfl
      | false => exact absurd (.inr (.inr (.inr hf))) hbad
    obtain ⟨m, rfl⟩ := Int.eq_ofNat_of_zero_le (show 0 ≤ most by omega)
    have hM : mayOf f (m : Int) = if 2 ^ m < coded f then 3 else 0 := by
      unfold mayOf
      rw [if_neg (by
        rintro (h | h | h | h)
        · omega
        · omega
        · omega
        · rw [h4] at h; cases h)]
      rfl
    refine (lengths_good v n m f w hv hnf h3 (by omega) (by omega) h4).mono ?_
    rintro e w' (⟨hc, rfl, hm⟩ | ⟨hc, v', l, Rs, rfl, hh, hok, _⟩)
    · rw [if_pos hc] at hM
      exact ⟨.slice none 0 0, [], by rw [hM]; rfl, Own.nil _ _ _, fun k hk => by simp [Value.ownBlock] at hk, hm, fun _ => rfl, fun h => by omega⟩
    · rw [if_neg (by omega)] at hM
      have hl : l.length = n := by rw [hok.len, List.length_map]; omega
      refine ⟨v', l, by rw [hM]; rfl, by rw [hl]; exact hh.own, hh.fresh, hh.mod, fun h => absurd hM h, fun _ => ?_⟩
      simpa using hok
/-- where lengths may be: which, and that they are what is asked -/
theorem lengths_det {w0 w : World} {Rs : List Thing} (h : Held w0 w Rs) (v : Value) (n m : Nat) (f : List Int) (hv : Rd w 1 v n (ints f)) (hn : n = f.length) (hl : n ≤ 288) (hm1 : 1 ≤ m) (hm2 : m ≤ 15) (hf : frqIn f = true) (hc : coded f ≤ 2 ^ m) :
    Calls Tryz.prog 52 #[v, .int .i64 (m : Int)] w fun e w' => ∃ v', e = .returned (.tuple #[v', .int .i64 0]) ∧ Held w0 w' (ownT 3 1 v' n (nums .i64 (lensF (f.map Int.toNat) m)) :: Rs) :=
  (lengths_good v n m f w hv hn hl hm1 hm2 hf).mono fun e w' h2 => by
    rcases h2 with ⟨h3, _⟩ | ⟨_, v', l, _, he, hh, _, rfl⟩
    · omega
    · exact ⟨v', he, h.pushOwn hh.own hh.mod hh.fresh⟩
/-- they are what is asked: as a fact that names no world -/
theorem lensF_ok (f : List Nat) (m : Nat) (_ : f.length ≤ 288) (hm1 : 1 ≤ m) (hm2 : m ≤ 15) (hc : codedN f ≤ 2 ^ m) : LenOK f m (lensF f m) := by
  obtain ⟨S, hS⟩ : ∃ S, S = symI 0 f := ⟨_, rfl⟩
  have hl : S.length = codedN f := by rw [hS, symI_length]
  have h3 : S.length = 0 ∨ S.length = 1 ∨ 2 ≤ S.length := by omega
  rcases h3 with h3 | h3 | h3
  · rw [← lensF_zero hS h3 rfl]
    refine ⟨by simp, fun _ i a b ha hb => ?_, fun h => by omega⟩
    have hil := (List.getElem?_eq_some_iff.1 ha).1
    rw [List.length_map, List.length_range] at hil
    rw [List.getElem?_map, List.getElem?_range hil] at ha
    simp only [Option.map_some, Option.some.injEq] at ha
    by_cases h0 : 0 < b
    · have h := symI_has _ 0 i b hb h0
      rw [← hS, List.eq_nil_of_length_eq_zero h3] at h
      simp at h
    · rw [if_neg h0]; exact ha.symm
  · obtain ⟨⟨a0, s0⟩, hSx⟩ : ∃ x, S = [x] := List.length_eq_one_iff.1 h3
    obtain ⟨s, _, hs, hfs, _⟩ := symI_mem f 0 (a0, s0) (by rw [← hS, hSx]; simp)
    have hs : s0 = (s : Int) := hs
    subst hs
    rw [← lensF_one hS hSx rfl]
    refine ⟨by simp, fun _ i a b ha hb => ?_, fun h => by omega⟩
    have hil := (List.getElem?_eq_some_iff.1 ha).1
    rw [List.length_map, List.length_range] at hil
    rw [List.getElem?_map, List.getElem?_range hil] at ha
    simp only [Option.map_some, Option.some.injEq] at ha
    rw [← ha]
    by_cases h0 : 0 < b
    · have h := symI_has _ 0 i b hb h0
      rw [← hS, hSx] at h
      simp only [List.mem_singleton] at h
      have h2 : ((0 + i : Nat) : Int) = (s : Int) := congrArg Prod.snd h
      rw [if_pos h0, if_pos (by omega)]
    · have h1 : (a0, (s : Int)) ∈ symI 0 f := by rw [← hS, hSx]; simp
      obtain ⟨j, _, e, hj, hp⟩ := symI_mem _ 0 _ h1
      have e2 : (s : Int) = (j : Int) := e
      have hne : ¬ i = s := by
        intro e3
        have : j = i := by omega
        subst this
        rw [Nat.sub_zero, hb] at hj
        simp only [Option.some.injEq] at hj
        omega
      rw [if_neg h0, if_neg hne]
  · rw [← lensF_many hS h3 rfl]
    refine ⟨by simp, fun h => by omega, fun _ => ?_⟩
    rw [hS]
    exact share_opt _ m hm1 hm2 (by omega) (by omega)
end Go.Proofs.YthibpnkdhbkakaaGreatDoor
/-
  The head of a dynamic block made: items, the third code, how many bits.
-/
namespace Go.Proofs.YthibpnkdhbkakaaGreatDoor
set_option maxRecDepth 5000
open Go.RowKit

theorem frqN_snoc (xs : List Item) (x : Item) (k : Nat) : frqN (xs ++ [x]) k = frqN xs k + (if x.1 = k then 1 else 0) := by
  simp only [frqN, List.countP_append, List.countP_cons, List.countP_nil, decide_eq_true_eq]; omega
theorem frqF_set (xs : List Item) (x : Item) : (frqF xs).set x.1 (frqN xs x.1 + 1) = frqF (xs ++ [x]) := by
  refine get_eq_of (by simp [frqF]) fun k hk => ?_
  have hk : k < 19 := by rw [frqF_length] at hk; exact hk
  rw [List.getElem?_set, frqF_get _ hk, frqF_get _ hk, frqN_snoc, frqF_length]
  by_cases c : x.1 = k
  · subst c
    rw [if_pos rfl, if_pos (by omega), if_pos rfl]
  · rw [if_neg c, if_neg c, Nat.add_zero]
def extI (xs : List Item) : Nat := (xs.map fun x => x.2.1).sum
theorem extI_snoc (xs : List Item) (x : Item) : extI (xs ++ [x]) = extI xs + x.2.1 := by simp [extI]
theorem extI_le : ∀ xs : List Item, (∀ x ∈ xs, x.2.1 ≤ 7) → extI xs ≤ 7 * xs.length
  | [], _ => Nat.le_refl _
  | x :: xs, h => by
    have h1 := extI_le xs fun y hy => h y (List.mem_cons_of_mem _ hy)
    have h2 := h x (List.mem_cons_self ..)
    simp only [extI, List.map_cons, List.sum_cons, List.length_cons] at h1 ⊢
    omega
theorem itemsB_length (hd : List Int) : ∀ xs : List Item, (∀ x ∈ xs, x.1 < 19) → (itemsB hd xs).length = csum hd (frqN xs) 19 + extI xs
  | [], _ => by
    rw [csum_zero hd (frqN []) 19 (fun _ _ => rfl)]; rfl
  | x :: xs, h => by
    have ih := itemsB_length hd xs fun y hy => h y (List.mem_cons_of_mem _ hy)
    have e1 : frqN (x :: xs) = fun k => frqN xs k + (if x.1 = k then 1 else 0) := by
      funext k
      simp only [frqN, List.countP_cons, decide_eq_true_eq]
    have e2 : extI (x :: xs) = x.2.1 + extI xs := by simp [extI]
    have e3 : itemsB hd (x :: xs) = itemB hd x ++ itemsB hd xs := by simp [itemsB]
    rw [e3, List.length_append, itemB_length, ih, e1, e2, csum_add, csum_one _ _ _ (h x (List.mem_cons_self ..))]
    omega
theorem lensF_LensOK : LensOK lensF := fun f m h1 h2 h3 h4 => lensF_ok f m h1 h2 h3 h4
theorem frqZero : (Tryz.prog.info? 127).map (·.zero) = some (some (arrV .i64 (frqF []))) := by kernel_rfl
theorem pairI {A B : List Int} : [A, B].flatten = A ++ B := by simp
theorem Blk.whole {w : World} {C : Nat} {B : List Value} {T : TypeId} (h : Blk w C B T) (hB : B.length ≤ maxLen) : Rd w 1 (.slice (some ⟨C, 0, none⟩) B.length B.length) B.length B := by
  have h2 : Blk w C ([] ++ (B ++ [])) T := by simpa using h
  exact h2.part hB
theorem natI_nat (f : List Nat) : (natI f).map Int.toNat = f := by
  unfold natI
  rw [List.map_map]
  conv => rhs; rw [← List.map_id f]
  rfl
theorem frqIn_natI {f : List Nat} (h : ∀ a ∈ f, a ≤ 1048576) : frqIn (natI f) = true := (frqIn_iff _).2 fun a ha => by
  obtain ⟨n, hn, rfl⟩ := List.mem_map.1 ha
  have := h n hn
  exact ⟨Int.natCast_nonneg _, by omega⟩
theorem coded_natI (f : List Nat) : coded (natI f) ≤ f.length := by
  unfold coded
  have := List.countP_le_length (p := fun a : Int => decide (0 < a)) (l := natI f)
  rwa [natI_length] at this
theorem cut_own {w : World} {ao : Option Addr} {n cap N : Nat} {l : List Int} (h : Own w 3 1 (.slice ao n cap) n (ints l)) (hN : N ≤ n) : Own w 3 1 (.slice ao N cap) N (ints (l.take N)) := by
  have h2 := h.cut (L := 0) (H := N) (Nat.zero_le _) hN
  rw [sliced_front _ _ _ _ h.spotless, Nat.sub_zero, Nat.zero_mul, List.drop_zero, Nat.mul_one] at h2
  rw [show (ints l).take N = ints (l.take N) by simp [ints, List.map_take]] at h2
  exact h2
theorem wrap_bits (y x N b : Nat) (h : b = 14 + 3 * N + (x + y)) (hb : b ≤ 100000) : IntKind.i64.wrap ((y : Int) + IntKind.i64.wrap (IntKind.i64.wrap (14 + IntKind.i64.wrap (3 * (N : Int))) + (x : Int))) = (b : Int) := by
  simp only [wrapEq]
  unfold wrap64
  omega
theorem setSz (w : World) (a : Addr) (v : Value) : (w.setCell a v).heap.size = w.heap.size := by simp [World.setCell]
/-- the head's cells -/
def headL (n1 n2 : Nat) (iv hv : Value) (tv : Value) (bits : Nat) : List Value := [.int .i64 (n1 : Int), .int .i64 (n2 : Int), iv, hv, tv, .int .i64 (bits : Int)]
set_option maxHeartbeats 6400000 in
theorem newHead_any {w : World} (litv dv : Value) (n1 n2 : Nat) (lit dist : List Int) (h1 : Rd w 1 litv n1 (ints lit)) (h2 : Rd w 1 dv n2 (ints dist)) (c1 : checkOf lit 15 = 0) (c2 : checkOf dist 15 = 0) (hl1 : 257 ≤ n1) (hl2 : n1 ≤ 286) (hd1 : 1 ≤ n2) (hd2 : n2 ≤ 30) (hO : Ordr w) :
    Calls Tryz.prog 55 #[litv, dv] w fun e w' => ∃ (B Bt : Nat) (iv hv : Value), e = .returned (.pointer (some ⟨B, 0, none⟩)) ∧
      Held w w' [objT B (headL n1 n2 iv hv (.pointer (some ⟨Bt, 0, none⟩)) (headB lit dist (headC lensF (itemsOf lit dist)) (itemsOf lit dist)).length) 125, ownT 129 3 iv (itemsOf lit dist).length (itemsV (itemsOf lit dist)),
        ownT 3 1 hv (headN (headC lensF (itemsOf lit dist))) (ints ((inOrd (headC lensF (itemsOf lit dist))).take (headN (headC lensF (itemsOf lit dist))))), tabT (headC lensF (itemsOf lit dist)) Bt] := by
  obtain ⟨ao, cap, rfl, _, _⟩ := h1.form
  obtain ⟨bo, cap2, rfl, _, _⟩ := h2.form
  have k1 := check_is (m := 15) c1
  have k2 := check_is (m := 15) c2
  have hn1 : n1 = lit.length := by have := h1.1; rw [ints_length] at this; omega
  have hn2 : n2 = dist.length := by have := h2.1; rw [ints_length] at this; omega
  have hA := all_app k1.2.1 k2.2.1
  have hal : (lit ++ dist).length = n1 + n2 := by rw [List.length_append]; omega
  obtain ⟨xs, hxs⟩ : ∃ xs, xs = itemsOf lit dist := ⟨_, rfl⟩
  rw [← hxs]
  obtain ⟨hd, hhd⟩ : ∃ hd, hd = headC lensF xs := ⟨_, rfl⟩
  rw [← hhd]
  obtain ⟨N, hN⟩ : ∃ N, N = headN hd := ⟨_, rfl⟩
  rw [← hN]
  obtain ⟨K, hK⟩ : ∃ K, K = inOrd hd := ⟨_, rfl⟩
  rw [← hK]
  obtain ⟨b, hb⟩ : ∃ b, b = (headB lit dist hd xs).length := ⟨_, rfl⟩
  rw [← hb]
  obtain ⟨m, hm⟩ : ∃ m, m = xs.length := ⟨_, rfl⟩
  rw [← hm]
  have HD := hid (And.intro hxs (And.intro hhd (And.intro hN (And.intro hK (And.intro hb hm)))))
  clear hxs hhd hN hK hb hm
  have HP := ((Held.start w).newObj [.int .i64 (n1 : Int), .int .i64 (n2 : Int), .slice none 0 0, .slice none 0 0, .pointer none, .int .i64 0] 125).lit 37 1 [.slice ao n1 cap, .slice bo n2 cap2] 2 (by decide) rfl
  rw [allocSz] at HP
  have HCC := hid (concatI_any [.slice ao n1 cap, .slice bo n2 cap2] [lit, dist] _ 2 _ HP.own.rd rfl rfl (fun i v l hv hl => by
    match i, hv, hl with
    | 0, hv, hl => simp at hv hl; subst hv; subst hl; rw [← hn1]; exact HP.old h1
    | 1, hv, hl => simp at hv hl; subst hv; subst hl; rw [← hn2]; exact HP.old h2
    | i + 2, hv, hl => simp at hv) (by rw [pairI, hal]; omega) (by rw [pairI, hal]; omega) (by decide))
  rw [pairI, hal] at HCC
  have HP2 := hid HP.drop
  have HA := hid (And.intro hA (And.intro hal hO))
  have hn10 : (0 : Int) ≤ (n1 : Int) := Int.natCast_nonneg _
  have hn20 : (0 : Int) ≤ (n2 : Int) := Int.natCast_nonneg _
  clear HP h1 h2 c1 c2 k1 k2 hA hal hO hn1 hn2
  go_enter Tryz.func55, Tryz.ntmps55
  go_wp2_with fail
  refine HCC.out.mono ?_
  rintro e w1 ⟨v1, rfl, hh⟩
  have H1 := hid (HP2.out.frame hh)
  have hrd1 : Rd w1 1 v1 (n1 + n2) (ints (lit ++ dist)) := hh.own.rd
  have HIT := hid (itemsOf_any v1 (n1 + n2) (lit ++ dist) w1 hrd1 (by omega) HA.out.1)
  have hxe : itemsF (lit ++ dist) (n1 + n2) 0 = xs := by
    have h := HD.out.1
    rw [itemsOf, HA.out.2.1] at h
    exact h.symm
  rw [hxe, ← HD.out.2.2.2.2.2] at HIT
  clear hh hrd1 HCC hxe
  go_wp2_with fail
  refine HIT.out.mono ?_
  rintro e w2 ⟨iv, rfl, hh⟩
  obtain ⟨io, ic, rfl, _, _⟩ := hh.own.form
  have h2 : Held w w2 (objT w.heap.size [.int .i64 (n1 : Int), .int .i64 (n2 : Int), .slice none 0 0, .slice none 0 0, .pointer none, .int .i64 0] 125 :: [ownT 129 3 (.slice io m ic) m (itemsV xs)]) := (H1.out.frame hh).third.two
  have f2 := h2.obj.frozen 2
  have k2 := h2.obj.cell (i := 2) rfl
  have H3 := hid (h2.setObj 2 (.slice io m ic))
  clear h2 hh HIT H1
  go_wp2_with first
    | ((with_reducible show wpList _ _ _ (⟨some 6, _, _, _, _, _⟩ :: _) _ _); refine wpList_alloc_arr rfl 127 rfl .i64 (frqF []) frqZero ?_; have h4 := H3.out.newObj (nums .i64 (frqF [])) 127; rw [setSz] at h4; have c2 := h4.drop.obj.cell (i := 2) rfl; have H4 := hid h4; clear h4)
    | fail
  have HSM : Hid (∀ x ∈ xs, x.1 < 19 ∧ x.2.1 ≤ 7 ∧ x.2.2 < 2 ^ x.2.1) := by
    rw [HD.out.1]
    exact hid (itemsF_sym HA.out.1 _ 0)
  have hmm : m ≤ 316 := by
    have h := itemsF_length (all := lit ++ dist) (lit ++ dist).length 0
    have h2 := HD.out.2.2.2.2.2
    have h3 := HA.out.2.1
    rw [HD.out.1] at h2
    unfold itemsOf at h2
    omega
  have hm0 : (0 : Int) ≤ (m : Int) := Int.natCast_nonneg _
  clear c2
  go_loopg [30] (m + 1) (fun k t30 wr => ∃ i : Nat, i ≤ m ∧ m - i < k ∧ t30 = .int .i64 (i : Int) ∧ Hid (Held w wr (objT w2.heap.size (nums .i64 (frqF (xs.take i))) 127 :: objT w.heap.size [.int .i64 (n1 : Int), .int .i64 (n2 : Int), .slice io m ic, .slice none 0 0, .pointer none, .int .i64 ((extI (xs.take i) : Nat) : Int)] 125 :: [ownT 129 3 (.slice io m ic) m (itemsV xs)])))
  case atStart => exact ⟨0, by omega, by omega, rfl, H4⟩
  case round =>
    obtain ⟨i, hi, hk, rfl, HH⟩ := hrel
    have hi0 : (0 : Int) ≤ (i : Int) := Int.natCast_nonneg _
    by_cases hin : i < m
    · have hiI : (i : Int) < (m : Int) := by omega
      obtain ⟨⟨sy, ex, va⟩, ht⟩ : ∃ t, xs[i]? = some t := ⟨xs[i]'(by have := HD.out.2.2.2.2.2; omega), List.getElem?_eq_getElem _⟩
      obtain ⟨g, off, rfl, c0, c1, c2⟩ := HH.out.third.own.rd.item ht
      have hsm := HSM.out _ (List.mem_of_getElem? ht)
      simp only at hsm
      have htk : xs.take (i + 1) = xs.take i ++ [(sy, ex, va)] := by rw [List.take_add_one, ht]; rfl
      have hset := frqF_set (xs.take i) (sy, ex, va)
      have hext := extI_snoc (xs.take i) (sy, ex, va)
      rw [← htk] at hset hext
      simp only at hset hext
      have hfl : frqN (xs.take i) sy ≤ 316 := Nat.le_trans (frqN_le _ _) (by simp; omega)
      have hel : extI (xs.take i) ≤ 7 * 316 := by
        have h := extI_le (xs.take i) fun x hx => (HSM.out x (List.mem_of_mem_take hx)).2.1
        have h2 : (xs.take i).length ≤ i := by simp; omega
        omega
      have hg := frqF_get (xs.take i) hsm.1
      obtain ⟨x, hx⟩ : ∃ x, x = frqN (xs.take i) sy := ⟨_, rfl⟩
      obtain ⟨y, hy⟩ : ∃ y, y = extI (xs.take i) := ⟨_, rfl⟩
      rw [← hx] at hset hfl hg
      rw [← hy] at hext hel
      have h5 := HH.out.newObj [.int .i64 (sy : Int), .int .i64 (ex : Int), .int .i64 (va : Int)] 129
      rw [← hy] at h5
      have HS := hid (And.intro hset hext)
      have H5 := hid h5
      have t0 := h5.obj.cell (i := 0) rfl
      have t1 := h5.obj.cell (i := 1) rfl
      have k1 := h5.swap.obj.cell (i := sy) (v := .int .i64 (x : Int)) (by simp [nums, hg])
      have f1 := h5.swap.obj.frozen sy
      have hsI : (sy : Int) < 19 := by omega
      have hs0 : (0 : Int) ≤ (sy : Int) := Int.natCast_nonneg _
      have hex : ex ≤ 7 := hsm.2.1
      clear h5 hset hext hx hy hg htk ht hsm
      go_wp2
      have h6 := H5.out.swap.setObj sy (.int .i64 ((x : Int) + 1))
      generalize (wr.alloc (.cells #[.int .i64 (sy : Int), .int .i64 (ex : Int), .int .i64 (va : Int)] 129)).setCell ⟨w2.heap.size, sy, none⟩ (.int .i64 ((x : Int) + 1)) = w5 at h6 ⊢
      have u1 := h6.swap.obj.cell (i := 1) rfl
      have k5 := h6.third.obj.cell (i := 5) rfl
      have f5 := h6.third.obj.frozen 5
      have H6 := hid h6
      clear h6 t0 t1 k1 f1 H5
      go_still_tail 9, (by kernel_rfl)
      change wpList _ _ _ _ _ (World.drew _)
      have h7 := H6.out.third.drew.setObj 5 (.int .i64 ((y : Int) + (ex : Int)))
      have H7 : Hid (Held w (w5.drew.setCell ⟨w.heap.size, 5, none⟩ (.int .i64 ((y : Int) + (ex : Int)))) (objT w2.heap.size (nums .i64 (frqF (xs.take (i + 1)))) 127 :: objT w.heap.size [.int .i64 (n1 : Int), .int .i64 (n2 : Int), .slice (some ⟨g, off, none⟩) m ic, .slice none 0 0, .pointer none, .int .i64 ((extI (xs.take (i + 1)) : Nat) : Int)] 125 :: [ownT 129 3 (.slice (some ⟨g, off, none⟩) m ic) m (itemsV xs)])) := by
        have h8 : Held w _ (objT w.heap.size [.int .i64 (n1 : Int), .int .i64 (n2 : Int), .slice (some ⟨g, off, none⟩) m ic, .slice none 0 0, .pointer none, .int .i64 ((y + ex : Nat) : Int)] 125 :: objT w2.heap.size ((nums .i64 (frqF (xs.take i))).set sy (.int .i64 ((x + 1 : Nat) : Int))) 127 :: _ :: [ownT 129 3 (.slice (some ⟨g, off, none⟩) m ic) m (itemsV xs)]) := h7
        rw [nums_set, HS.out.1, ← HS.out.2] at h8
        exact hid h8.mid.swap.drop.swap
      clear h7 H6
      go_wp2
      go_roundg (gk - 1)
      case measure => omega
      case rel => exact ⟨i + 1, by omega, by omega, by go_num, H7⟩
    · have hiI : ¬ (i : Int) < (m : Int) := by omega
      have hti : xs.take i = xs := List.take_of_length_le (by have := HD.out.2.2.2.2.2; omega)
      rw [hti] at HH
      have hF := HH.out.obj.whole (by simp [nums, frqF]; decide)
      have hfl : (nums .i64 (frqF xs)).length = 19 := by simp [nums, frqF]
      rw [hfl, nums_natI] at hF
      have hfq : ∀ a ∈ frqF xs, a ≤ 1048576 := fun a ha => by
        obtain ⟨k, _, rfl⟩ := List.mem_map.1 ha
        have h1 := frqN_le xs k
        have h2 := HD.out.2.2.2.2.2
        omega
      have HLD := hid (lengths_det HH.out (.slice (some ⟨w2.heap.size, 0, none⟩) 19 19) 19 7 (natI (frqF xs)) hF (by rw [natI_length, frqF_length]) (by omega) (by omega) (by omega) (frqIn_natI hfq) (Nat.le_trans (coded_natI _) (by rw [frqF_length]; decide)))
      rw [natI_nat, nums_natI, show natI (lensF (frqF xs) 7) = hd from HD.out.2.1.symm, show ((7 : Nat) : Int) = 7 from rfl] at HLD
      clear hF hfl hfq hti
      go_wp2_with fail
      with_reducible refine HLD.out.mono ?_
      rintro e w3 ⟨lv, rfl, h3⟩
      obtain ⟨la, lc, rfl, _, _⟩ := h3.own.form
      have H3 := hid h3
      have hck : checkOf hd 7 = 0 := by rw [HD.out.2.1]; exact headC_check lensF_LensOK xs
      have HBD := hid (build_any (.slice la 19 lc) 19 hd 7 w3 h3.own.rd (by omega))
      rw [hck] at HBD
      clear h3 HLD hck
      go_wp2_with fail
      with_reducible refine HBD.out.mono ?_
      rintro e w4 (⟨h0, _⟩ | ⟨_, Bt, rfl, hh⟩)
      · exact absurd rfl h0
      have h4 : Held w w4 (objT w.heap.size [.int .i64 (n1 : Int), .int .i64 (n2 : Int), .slice io m ic, .slice none 0 0, .pointer none, .int .i64 ((extI xs : Nat) : Int)] 125 :: tabT hd Bt :: ownT 3 1 (.slice la 19 lc) 19 (ints hd) :: objT w2.heap.size (nums .i64 (frqF xs)) 127 :: [ownT 129 3 (.slice io m ic) m (itemsV xs)]) := (H3.out.frame hh).fourth
      have f4 := h4.obj.frozen 4
      have k4 := h4.obj.cell (i := 4) rfl
      have h5 := h4.setObj 4 (.pointer (some ⟨Bt, 0, none⟩))
      have H5 := hid h5
      have HIO := hid (inOrder_any (.slice la 19 lc) hd _ h5.third.own.rd (HA.out.2.2.kept h5.mod))
      rw [← HD.out.2.2.2.1] at HIO
      clear h4 h5 hh HBD H3
      go_wp2_with fail
      with_reducible refine HIO.out.mono ?_
      rintro e w5 ⟨oa, oc, rfl, hh⟩
      have H6 := hid (H5.out.frame hh)
      have HCU := hid (cut_any oa 19 oc 4 K w5 hh.own.rd (by omega) (by omega) hh.own.spotless)
      rw [HD.out.2.2.2.1, show cutN (inOrd hd) 4 19 = N from HD.out.2.2.1.symm, show ((4 : Nat) : Int) = 4 from rfl] at HCU
      have hN19 : N ≤ 19 := by rw [HD.out.2.2.1]; exact cutN_le _
      clear hh HIO H5
      go_wp2_with fail
      with_reducible refine HCU.out.mono ?_
      rintro e w6 ⟨rfl, d6, rfl⟩
      have h7 : Held w (w5.drewN d6) (objT w.heap.size [.int .i64 (n1 : Int), .int .i64 (n2 : Int), .slice io m ic, .slice none 0 0, .pointer (some ⟨Bt, 0, none⟩), .int .i64 ((extI xs : Nat) : Int)] 125 :: ownT 3 1 (.slice oa N oc) N (ints (K.take N)) :: tabT hd Bt :: ownT 3 1 (.slice la 19 lc) 19 (ints hd) :: objT w2.heap.size (nums .i64 (frqF xs)) 127 :: [ownT 129 3 (.slice io m ic) m (itemsV xs)]) := by
        have h : Held w (w5.drewN d6) (ownT 3 1 (.slice oa 19 oc) 19 (ints K) :: _ :: _) := H6.out.drewN d6
        exact (h.recut (cut_own h.own hN19) (by cases oa <;> rfl)).swap
      generalize w5.drewN d6 = w7 at h7 ⊢
      have f3 := h7.obj.frozen 3
      have k3 := h7.obj.cell (i := 3) rfl
      have h8 := h7.setObj 3 (.slice oa N oc)
      have H8 := hid h8
      clear h7 HCU H6
      go_wp2_with fail
      generalize w7.setCell ⟨w.heap.size, 3, none⟩ (.slice oa N oc) = w8 at h8 H8 ⊢
      have j3 := h8.obj.cell (i := 3) rfl
      have j5 := h8.obj.cell (i := 5) rfl
      have g5 := h8.obj.frozen 5
      have hF := h8.drop.drop.drop.drop.obj.whole (by simp [nums, frqF]; decide)
      have hfl : (nums .i64 (frqF xs)).length = 19 := by simp [nums, frqF]
      rw [hfl, nums_natI] at hF
      have hRL := h8.drop.drop.drop.own.rd
      have hdl : hd.length = 19 := by rw [HD.out.2.1]; exact headC_len lensF_LensOK xs
      have hnl : (natI (frqF xs)).length = 19 := by rw [natI_length, frqF_length]
      have hco : costTo hd (natI (frqF xs)) (min hd.length (natI (frqF xs)).length) = csum hd (frqN xs) 19 := by
        have h := cost_csum (l := hd) (g := frqN xs) (N := 19) (fun a ha => by
          rw [HD.out.2.1] at ha
          have := headC_all lensF_LensOK xs a ha
          omega) (fun k _ => by have h1 := frqN_le xs k; have h2 := HD.out.2.2.2.2.2; omega)
        unfold natI frqF
        exact h
      have HC := hid (fun k => cost_any (.slice la hd.length lc) (.slice (some ⟨w2.heap.size, 0, none⟩) (natI (frqF xs)).length 19) hd (natI (frqF xs)) (w8.drewN k) (by rw [hdl]; exact hRL.drewTo rfl) (by rw [hnl]; exact hF.drewTo rfl) (by omega))
      rw [hco, hdl, hnl] at HC
      have hbl : b = 14 + 3 * N + (csum hd (frqN xs) 19 + extI xs) := by
        have h1 := headB_length lit dist hd xs
        rw [itemsB_length hd xs (fun x hx => (HSM.out x hx).1), ← HD.out.2.2.1, ← HD.out.2.2.2.2.1] at h1
        exact h1
      have hbs : b ≤ 100000 := by
        have h1 := headB_length lit dist hd xs
        have h2 := itemsB_short (hd := hd) (by rw [HD.out.2.1]; exact headC_all lensF_LensOK xs) (xs := xs) (fun x hx => (HSM.out x hx).2.1)
        rw [← HD.out.2.2.1, ← HD.out.2.2.2.2.1] at h1
        have h3 := HD.out.2.2.2.2.2
        omega
      obtain ⟨x, hx⟩ : ∃ x, x = csum hd (frqN xs) 19 := ⟨_, rfl⟩
      obtain ⟨y, hy⟩ : ∃ y, y = extI xs := ⟨_, rfl⟩
      rw [← hx] at hbl HC
      rw [← hy] at hbl j5
      have HB := hid (wrap_bits y x N b hbl hbs)
      have hxs : x ≤ 100000 := by omega
      have hys : y ≤ 100000 := by omega
      clear hF hfl hRL hdl hnl hco hbl hbs hx hy h8
      go_region_law ((first
        | (go_simp; go_at_call 64; refine (HC.out _).mono ?_; rintro e w9 ⟨rfl, d9, rfl⟩)))
      all_goals
        rw [HB.out]
        have H9 := hid ((H8.out.drewN (1 + d9)).setObj 5 (.int .i64 (b : Int)))
        go_wp2
        go_ret
        exact ⟨w.heap.size, Bt, .slice io m ic, .slice oa N oc, rfl, H9.out.fourth.drop.fourth.drop.mid2⟩
end Go.Proofs.YthibpnkdhbkakaaGreatDoor
