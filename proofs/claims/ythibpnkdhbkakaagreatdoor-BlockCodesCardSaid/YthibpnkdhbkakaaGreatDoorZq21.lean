/-
  The items that stand for lengths: how long a run is, one item, all of them; lengths without their last zeros.
-/
import Derived.Test.YthibpnkdhbkakaaGreatDoorZq16
import Derived.Handy
import Derived.Test.YthibpnkdhbkakaaGreatDoorZq07
namespace Go.Proofs.YthibpnkdhbkakaaGreatDoor
set_option maxRecDepth 5000
open Go.RowKit

theorem drew_add (w : World) (a b : Nat) : (w.drewN a).drewN b = w.drewN (a + b) := by
  simp only [World.drewN, Nat.add_assoc]
set_option maxHeartbeats 1600000 in
theorem equal_run (v : Value) (n : Nat) (l : List Int) (w : World) (hv : Rd w 1 v n (ints l)) (hn : n < 1000000) (h1 : 1 ≤ n) :
    Calls Tryz.prog 99 #[v] w fun e w' => e = .returned (.int .i64 ((eqRun (l[0]?.getD 0) l : Nat) : Int)) ∧ ∃ c, w' = w.drewN c := by
  obtain ⟨g, off, hsp, hcell⟩ : ∃ g off, (∃ cap, v = .slice (some ⟨g, off, none⟩) n cap) ∧ ∀ j u, (ints l)[j]? = some u → w.cell? ⟨g, off + j, none⟩ = some u := by
    obtain ⟨ao, cap, rfl, _, _⟩ := hv.form
    obtain ⟨g, off, rfl, h⟩ := hv.spot (by omega)
    exact ⟨g, off, ⟨cap, rfl⟩, h⟩
  obtain ⟨cap, rfl⟩ := hsp
  have hln : l.length = n := by have := hv.1; rw [ints_length] at this; omega
  obtain ⟨z, hz⟩ : ∃ z, l[0]? = some z := ⟨l[0]'(by omega), List.getElem?_eq_getElem _⟩
  have HC := hid hcell
  have c0 := hcell 0 _ (by rw [ints_get, hz]; rfl)
  rw [Nat.add_zero] at c0
  rw [hz]
  simp only [Option.getD_some]
  have HLN := hid hln
  have hle := eqRun_le z l
  rw [hln] at hle
  obtain ⟨r, hr⟩ : ∃ r, r = eqRun z l := ⟨_, rfl⟩
  rw [← hr] at hle ⊢
  have HR := hid hr
  have hn0 : (0 : Int) ≤ (n : Int) := Int.natCast_nonneg _
  clear hv hcell hz hln hr
  go_enter Tryz.func99, Tryz.ntmps99
  go_wp2
  go_loopg [3] (n + 1) (fun k t3 wr => ∃ (i d : Nat), i ≤ r ∧ n - i < k ∧ t3 = .int .i64 (i : Int) ∧ wr = w.drewN d)
  case atStart => exact ⟨0, 0, by omega, by omega, rfl, rfl⟩
  case round =>
    obtain ⟨i, d, hi, hk, rfl, rfl⟩ := hrel
    have hi0 : (0 : Int) ≤ (i : Int) := Int.natCast_nonneg _
    by_cases hin : i < n
    · have hb1 : decide ((i : Int) < (n : Int)) = true := by simp; omega
      have hb1n : decide (i < n) = true := by simp; omega
      have hiI : (i : Int) < (n : Int) := by omega
      have h1I : (0 : Int) < (n : Int) := by omega
      obtain ⟨x, hx⟩ : ∃ x, l[i]? = some x := ⟨l[i]'(by have := HLN.out; omega), List.getElem?_eq_getElem _⟩
      have c1 := HC.out i _ (by rw [ints_get, hx]; rfl)
      by_cases hxz : x = z
      · have hri : i + 1 ≤ r := by
          refine Classical.byContradiction fun h => ?_
          obtain rfl : r = i := by omega
          have h2 := HR.out
          have h3 := eqRun_stop z l x (by rw [← h2]; exact hx)
          exact h3 hxz
        have hb2 : (x == z) = true := by simp [hxz]
        clear hx
        go_wp2_with fail
        go_quiet (fail)
        go_wp2
        go_roundg (gk - 1)
        case measure => omega
        case rel => exact ⟨i + 1, _, by omega, by omega, by go_num, rfl⟩
      · have hri : i = r := by
          refine Classical.byContradiction fun h => hxz ?_
          have h2 := eqRun_get z l i (by have := HR.out; omega)
          rw [hx] at h2
          simpa using h2
        have hb2 : (x == z) = false := by simp [hxz]
        clear hx
        subst hri
        go_wp2_with fail
        go_quiet (fail)
        go_wp2
        go_ret
        exact ⟨rfl, _, drew_add _ _ _⟩
    · have hb1 : decide ((i : Int) < (n : Int)) = false := by simp; omega
      have hb1n : decide (i < n) = false := by simp; omega
      have hri : i = r := by omega
      subst hri
      go_wp2_with fail
      go_quiet (fail)
      go_wp2
      go_ret
      exact ⟨rfl, _, drew_add _ _ _⟩
/-- the three items that stand for several lengths -/
theorem repeat_any (sy ex le mx r : Nat) (hc : sy = 18 ∧ ex = 7 ∧ le = 11 ∧ mx = 138 ∨ sy = 17 ∧ ex = 3 ∧ le = 3 ∧ mx = 10 ∨ sy = 16 ∧ ex = 2 ∧ le = 3 ∧ mx = 6) (hr : le ≤ r) (hr2 : r < 1000000) (w : World) :
    Calls Tryz.prog 100 #[.int .i64 (sy : Int), .int .i64 (ex : Int), .int .i64 (le : Int), .int .i64 (r : Int)] w fun e w' => e = .returned (.tuple #[.agg #[.int .i64 (sy : Int), .int .i64 (ex : Int), .int .i64 ((min r mx - le : Nat) : Int)], .int .i64 ((min r mx : Nat) : Int)]) ∧ Mod w w' (fun _ => False) := by
  have h0 : (0 : Int) ≤ (r : Int) := Int.natCast_nonneg _
  rcases hc with ⟨rfl, rfl, rfl, rfl⟩ | ⟨rfl, rfl, rfl, rfl⟩ | ⟨rfl, rfl, rfl, rfl⟩
  · by_cases hm : r < 138
    · have h1 : (r : Int) < 138 := by omega
      have h2 : (r : Int) - 11 = ((r - 11 : Nat) : Int) := by omega
      rw [Nat.min_eq_left (by omega)]
      go_enter Tryz.func100, Tryz.ntmps100
      go_wp2
      go_returns
      exact ⟨rfl, (Mod.refl _ _).alloc _⟩
    · have h1 : ¬ (r : Int) < 138 := by omega
      have h2 : (if (r : Int) < 138 then (r : Int) else 138) = 138 := if_neg h1
      have h3 : (if (138 : Int) < (r : Int) then (138 : Int) else (r : Int)) = 138 := by
        split <;> omega
      rw [Nat.min_eq_right (by omega)]
      go_enter Tryz.func100, Tryz.ntmps100
      go_wp2
      go_returns
      exact ⟨rfl, (Mod.refl _ _).alloc _⟩
  · by_cases hm : r < 10
    · have h1 : (r : Int) < 10 := by omega
      have h2 : (r : Int) - 3 = ((r - 3 : Nat) : Int) := by omega
      rw [Nat.min_eq_left (by omega)]
      go_enter Tryz.func100, Tryz.ntmps100
      go_wp2
      go_returns
      exact ⟨rfl, (Mod.refl _ _).alloc _⟩
    · have h1 : ¬ (r : Int) < 10 := by omega
      have h2 : (if (r : Int) < 10 then (r : Int) else 10) = 10 := if_neg h1
      have h3 : (if (10 : Int) < (r : Int) then (10 : Int) else (r : Int)) = 10 := by
        split <;> omega
      rw [Nat.min_eq_right (by omega)]
      go_enter Tryz.func100, Tryz.ntmps100
      go_wp2
      go_returns
      exact ⟨rfl, (Mod.refl _ _).alloc _⟩
  · by_cases hm : r < 6
    · have h1 : (r : Int) < 6 := by omega
      have h2 : (r : Int) - 3 = ((r - 3 : Nat) : Int) := by omega
      rw [Nat.min_eq_left (by omega)]
      go_enter Tryz.func100, Tryz.ntmps100
      go_wp2
      go_returns
      exact ⟨rfl, (Mod.refl _ _).alloc _⟩
    · have h1 : ¬ (r : Int) < 6 := by omega
      have h2 : (if (r : Int) < 6 then (r : Int) else 6) = 6 := if_neg h1
      have h3 : (if (6 : Int) < (r : Int) then (6 : Int) else (r : Int)) = 6 := by
        split <;> omega
      rw [Nat.min_eq_right (by omega)]
      go_enter Tryz.func100, Tryz.ntmps100
      go_wp2
      go_returns
      exact ⟨rfl, (Mod.refl _ _).alloc _⟩
theorem results_cell_tmp {P : Program} {fn : Func} {p q : Tmp} {ty : TypeId} (h : fn.results = #[.cell p ty, .tmp q]) (tmps : Array Value) (w : World) (g : Nat) (t : TypeId) (cs : Array Value) (fr : Nat × Nat) (d : TypeDesc)
    (hp : tmps.getD p undef = .pointer (some ⟨g, 0, none⟩)) (hg : w.heap[g]? = some (.cells cs t fr))
    (hu : P.underlying ty = some d) (hd : (match d with | .struct _ | .array _ _ => true | _ => false) = true) (hi : (P.info? ty).map (·.size) = some cs.size) :
    (results fn tmps).run P w = .ok (.tuple #[.agg cs, tmps.getD q undef]) w := by
  have hp' : tmps[p]?.getD undef = .pointer (some ⟨g, 0, none⟩) := by simpa using hp
  simp [results, h, hp', asAddr, run_loadVar_row w g t ty cs fr d hg hu hd hi]
theorem ret_cell_tmp {P : Program} {w : World} {fn : Func} {p q : Tmp} {t : TypeId} (hf : fn.results = #[.cell p t, .tmp q]) {R : Ending → World → Prop} {a : Act}
    (d : TypeDesc) (n : Nat) (ht : P.underlying t = some d) (hd : isArr d = true) (hi : (P.info? t).map (·.size) = some n)
    (B : Nat) (cs : List Value) (T : TypeId) (u : Value) (hp : a.tmps.getD p undef = .pointer (some ⟨B, 0, none⟩)) (hq : a.tmps.getD q undef = u) (hl : cs.length = n) (hB : Blk w B cs T)
    (hdf : a.defers = []) (h : R (.returned (.tuple #[.agg cs.toArray, u])) w) : bodyPost P fn R .ret a w :=
  bodyPost_ret (v := .tuple #[.agg cs.toArray, u]) (by rw [← hq]; exact results_cell_tmp hf a.tmps w B T cs.toArray (0, 0) d hp hB ht (by cases d <;> simp_all [isArr]) (by rw [hi]; simp [hl])) hdf h
def itV (x : Item) : Value := .agg #[.int .i64 (x.1 : Int), .int .i64 (x.2.1 : Int), .int .i64 (x.2.2 : Int)]
set_option maxHeartbeats 3200000 in
theorem nextItem_any (v : Value) (n a : Nat) (all : List Int) (w : World) (hv : Rd w 1 v n (ints all)) (hn : n < 100000) (ha : a < n) (hA : ∀ x ∈ all, 0 ≤ x ∧ x ≤ 15) :
    Calls Tryz.prog 90 #[v, .int .i64 (a : Int)] w fun e w' => e = .returned (.tuple #[itV (nextI all a).1, .int .i64 (((nextI all a).2 : Nat) : Int)]) ∧ Mod w w' (fun _ => False) := by
  obtain ⟨i, hi, hz0, hz1, hz2⟩ := info_parts infoIntB
  obtain ⟨ao, cap, rfl, hnc, hcm⟩ := hv.form
  have hln : all.length = n := by have := hv.1; rw [ints_length] at this; omega
  have hrd := (hv.cut (L := a) (H := n) (by omega) (Nat.le_refl _))
  have hcut : ∀ wg, (Instr.sliceAt 37 (.slice ao n cap) (some (.int .i64 (a : Int))) none none).run Tryz.prog wg = .ok (sliced ao a n cap 1) wg := fun wg =>
    run_cut (P := Tryz.prog) 37 3 i 1 Tryz.underlying37 hi hz1 ao n cap a n (some (.int .i64 (a : Int))) none ⟨_, rfl⟩ rfl (by omega) hnc
  have e2 : ((ints all).drop (a * 1)).take ((n - a) * 1) = ints (all.drop a) := by
    rw [Nat.mul_one, Nat.mul_one, List.take_of_length_le (by rw [List.length_drop, ints_length]; omega)]
    simp [ints, List.map_drop]
  rw [e2] at hrd
  generalize sliced ao a n cap 1 = sv at hcut hrd
  obtain ⟨g, off, rfl, hcell⟩ := hv.spot (by omega)
  obtain ⟨z, hz⟩ : ∃ z, all[a]? = some z := ⟨all[a]'(by omega), List.getElem?_eq_getElem _⟩
  have c0 := hcell a _ (by rw [ints_get, hz]; rfl)
  have HQ := hid (fun k => equal_run sv (n - a) (all.drop a) ((w.alloc (.cells #[.int .i64 0, .int .i64 0, .int .i64 0] 129)).drewN k) ((hrd.kept ((Mod.refl w (fun _ => False)).alloc _) (fun _ _ h => h)).drewTo rfl) (by omega) (by omega))
  have h00 : (all.drop a)[0]?.getD 0 = z := by rw [List.getElem?_drop, Nat.add_zero, hz]; rfl
  rw [h00] at HQ
  have hA1 := hA z (List.mem_of_getElem? hz)
  have hrl := eqRun_le z (all.drop a)
  rw [List.length_drop, hln] at hrl
  have hE : Hid (nextI all a = if z = 0 ∧ 11 ≤ eqRun z (all.drop a) then ((18, 7, min (eqRun z (all.drop a)) 138 - 11), min (eqRun z (all.drop a)) 138) else if z = 0 ∧ 3 ≤ eqRun z (all.drop a) then ((17, 3, min (eqRun z (all.drop a)) 10 - 3), min (eqRun z (all.drop a)) 10)
      else if 0 < a ∧ all[a - 1]?.getD 0 = z ∧ 3 ≤ eqRun z (all.drop a) then ((16, 2, min (eqRun z (all.drop a)) 6 - 3), min (eqRun z (all.drop a)) 6) else ((z.toNat, 0, 0), 1)) := by
    unfold Hid nextI
    rw [hz]; rfl
  generalize eqRun z (all.drop a) = r at hE HQ hrl
  have ha0 : (0 : Int) ≤ (a : Int) := Int.natCast_nonneg _
  have haI : (a : Int) < (n : Int) := by omega
  have hr0 : (0 : Int) ≤ (r : Int) := Int.natCast_nonneg _
  have HC0 := hid (((hv.kept ((Mod.refl w (fun _ => False)).alloc (.cells #[.int .i64 0, .int .i64 0, .int .i64 0] 129)) (fun _ _ h => h)).at (u := .int .i64 z) (j := a) (by rw [ints_get, hz]; rfl)))
  have HP : Hid (0 < a → w.cell? ⟨g, off + (a - 1), none⟩ = some (.int .i64 (all[a - 1]?.getD 0))) := hid fun h => hcell (a - 1) _ (by rw [ints_get, List.getElem?_eq_getElem (by omega)]; rfl)
  clear hcell hv hrd e2 h00 hz hln
  go_enter Tryz.func90, Tryz.ntmps90
  go_wp2_with fail
  have c0' : (w.alloc (.cells #[.int .i64 0, .int .i64 0, .int .i64 0] 129)).cell? ⟨g, off + a, none⟩ = some (.int .i64 z) := HC0.out
  go_quiet ((go_at_call 99; exact (HQ.out _).mono fun _ _ h => ⟨h.1, _, h.2.choose_spec.trans (drew_add _ _ _)⟩))
  obtain ⟨w1, hw1⟩ : ∃ w1, w1 = (w.alloc (.cells #[.int .i64 0, .int .i64 0, .int .i64 0] 129)).drewN nq := ⟨_, rfl⟩
  have H1 : Hid (Held w w1 [objT w.heap.size [.int .i64 0, .int .i64 0, .int .i64 0] 129]) := by
    rw [hw1]; exact hid (((Held.start w).newObj [.int .i64 0, .int .i64 0, .int .i64 0] 129).drewN _)
  have HP1 : Hid (0 < a → w1.cell? ⟨g, off + (a - 1), none⟩ = some (.int .i64 (all[a - 1]?.getD 0))) := hid fun h => by
    have h2 := HP.out h
    rw [H1.out.mod.cell (World.block_lt_of_cell? w _ h2) (fun h => h)]; exact h2
  rw [← hw1]
  clear HQ hcut HC0 c0' c0 HP hw1
  generalize all[a - 1]?.getD 0 = p at hE HP1
  have hpr : Hid (0 < a → w1.cell? ⟨g, off + (a - 1), none⟩ = some (.int .i64 p)) := HP1
  by_cases hz0 : z = 0
  · have b1 : (z == 0) = true := by simp [hz0]
    by_cases h11 : 11 ≤ r
    · have b2 : decide ((11 : Int) ≤ (r : Int)) = true := by simp; omega
      have HX := hid (repeat_any 18 7 11 138 r (.inl ⟨rfl, rfl, rfl, rfl⟩) h11 (by omega) w1)
      have hE2 : Hid (nextI all a = ((18, 7, min r 138 - 11), min r 138)) := by
        unfold Hid; rw [hE.out, if_pos ⟨hz0, h11⟩]
      go_wp2_with fail
      refine HX.out.mono ?_
      rintro e w2 ⟨rfl, hm⟩
      have h2 := H1.out.same hm
      have f0 := h2.obj.frozen 0
      have f1 := h2.obj.frozen 1
      have f2 := h2.obj.frozen 2
      have k0 := h2.obj.cell (i := 0) rfl
      have k1 := h2.obj.cell (i := 1) rfl
      have k2 := h2.obj.cell (i := 2) rfl
      have H5 := hid (((h2.setObj 0 (.int .i64 ((18 : Nat) : Int))).setObj 1 (.int .i64 ((7 : Nat) : Int))).setObj 2 (.int .i64 ((min r 138 - 11 : Nat) : Int)))
      have HM := hid h2.mod
      clear h2 hm HX
      go_wp2
      try simp only [Exit.inBlock, Exit.then]
      refine ret_cell_tmp rfl _ 3 Tryz.underlying129 rfl (by kernel_rfl) w.heap.size [.int .i64 ((18 : Nat) : Int), .int .i64 ((7 : Nat) : Int), .int .i64 ((min r 138 - 11 : Nat) : Int)] 129 _ rfl rfl rfl H5.out.obj rfl ?_
      rw [hE2.out]
      exact ⟨rfl, ((HM.out.setCell (.inl (Nat.le_refl _)) _).setCell (.inl (Nat.le_refl _)) _).setCell (.inl (Nat.le_refl _)) _⟩
    · have b2 : decide ((11 : Int) ≤ (r : Int)) = false := by simp; omega
      by_cases h3 : 3 ≤ r
      · have b3 : decide ((3 : Int) ≤ (r : Int)) = true := by simp; omega
        have HX := hid (repeat_any 17 3 3 10 r (.inr (.inl ⟨rfl, rfl, rfl, rfl⟩)) h3 (by omega) w1)
        have hE2 : Hid (nextI all a = ((17, 3, min r 10 - 3), min r 10)) := by
          unfold Hid; rw [hE.out, if_neg (fun h => h11 h.2), if_pos ⟨hz0, h3⟩]
        go_wp2_with fail
        refine HX.out.mono ?_
        rintro e w2 ⟨rfl, hm⟩
        have h2 := H1.out.same hm
        have f0 := h2.obj.frozen 0
        have f1 := h2.obj.frozen 1
        have f2 := h2.obj.frozen 2
        have k0 := h2.obj.cell (i := 0) rfl
        have k1 := h2.obj.cell (i := 1) rfl
        have k2 := h2.obj.cell (i := 2) rfl
        have H5 := hid (((h2.setObj 0 (.int .i64 ((17 : Nat) : Int))).setObj 1 (.int .i64 ((3 : Nat) : Int))).setObj 2 (.int .i64 ((min r 10 - 3 : Nat) : Int)))
        have HM := hid h2.mod
        clear h2 hm HX
        go_wp2
        try simp only [Exit.inBlock, Exit.then]
        refine ret_cell_tmp rfl _ 3 Tryz.underlying129 rfl (by kernel_rfl) w.heap.size [.int .i64 ((17 : Nat) : Int), .int .i64 ((3 : Nat) : Int), .int .i64 ((min r 10 - 3 : Nat) : Int)] 129 _ rfl rfl rfl H5.out.obj rfl ?_
        rw [hE2.out]
        exact ⟨rfl, ((HM.out.setCell (.inl (Nat.le_refl _)) _).setCell (.inl (Nat.le_refl _)) _).setCell (.inl (Nat.le_refl _)) _⟩
      · have b3 : decide ((3 : Int) ≤ (r : Int)) = false := by simp; omega
        by_cases ha1 : 0 < a
        · have b4 : decide ((0 : Int) < (a : Int)) = true := by simp; omega
          have ha2 : (a : Int) - 1 = ((a - 1 : Nat) : Int) := by omega
          have ha3 : ((a - 1 : Nat) : Int) < (n : Int) := by omega
          have kp := hpr.out ha1
          by_cases hpz : p = z
          · have b5 : (p == z) = true := by simp [hpz]
            have hE2 : Hid (nextI all a = ((z.toNat, 0, 0), 1)) := by
              unfold Hid; rw [hE.out, if_neg (fun h => h11 h.2), if_neg (fun h => h3 h.2), if_neg (fun h => h3 h.2.2)]
            have hzn : Hid (((z.toNat : Nat) : Int) = z) := hid (by have := hA1.1; omega)
            have h2 := H1.out
            have f0 := h2.obj.frozen 0
            have f1 := h2.obj.frozen 1
            have f2 := h2.obj.frozen 2
            have k0 := h2.obj.cell (i := 0) rfl
            have k1 := h2.obj.cell (i := 1) rfl
            have k2 := h2.obj.cell (i := 2) rfl
            have H5 := hid (((h2.setObj 0 (.int .i64 z)).setObj 1 (.int .i64 0)).setObj 2 (.int .i64 0))
            have HM := hid h2.mod
            clear h2 H1
            go_wp2
            try simp only [Exit.inBlock, Exit.then]
            rw [hz0] at H5
            refine ret_cell_tmp rfl _ 3 Tryz.underlying129 rfl (by kernel_rfl) w.heap.size [.int .i64 0, .int .i64 0, .int .i64 0] 129 _ rfl rfl rfl H5.out.obj rfl ?_
            rw [hE2.out]
            unfold itV
            simp only [hz0]
            exact ⟨rfl, ((HM.out.setCell (.inl (Nat.le_refl _)) _).setCell (.inl (Nat.le_refl _)) _).setCell (.inl (Nat.le_refl _)) _⟩
          · have b5 : (p == z) = false := by simp [hpz]
            have hE2 : Hid (nextI all a = ((z.toNat, 0, 0), 1)) := by
              unfold Hid; rw [hE.out, if_neg (fun h => h11 h.2), if_neg (fun h => h3 h.2), if_neg (fun h => h3 h.2.2)]
            have hzn : Hid (((z.toNat : Nat) : Int) = z) := hid (by have := hA1.1; omega)
            have h2 := H1.out
            have f0 := h2.obj.frozen 0
            have f1 := h2.obj.frozen 1
            have f2 := h2.obj.frozen 2
            have k0 := h2.obj.cell (i := 0) rfl
            have k1 := h2.obj.cell (i := 1) rfl
            have k2 := h2.obj.cell (i := 2) rfl
            have H5 := hid (((h2.setObj 0 (.int .i64 z)).setObj 1 (.int .i64 0)).setObj 2 (.int .i64 0))
            have HM := hid h2.mod
            clear h2 H1
            go_wp2
            try simp only [Exit.inBlock, Exit.then]
            rw [hz0] at H5
            refine ret_cell_tmp rfl _ 3 Tryz.underlying129 rfl (by kernel_rfl) w.heap.size [.int .i64 0, .int .i64 0, .int .i64 0] 129 _ rfl rfl rfl H5.out.obj rfl ?_
            rw [hE2.out]
            unfold itV
            simp only [hz0]
            exact ⟨rfl, ((HM.out.setCell (.inl (Nat.le_refl _)) _).setCell (.inl (Nat.le_refl _)) _).setCell (.inl (Nat.le_refl _)) _⟩
        · have b4 : decide ((0 : Int) < (a : Int)) = false := by simp; omega
          have hE2 : Hid (nextI all a = ((z.toNat, 0, 0), 1)) := by
            unfold Hid; rw [hE.out, if_neg (fun h => h11 h.2), if_neg (fun h => h3 h.2), if_neg (fun h => h3 h.2.2)]
          have hzn : Hid (((z.toNat : Nat) : Int) = z) := hid (by have := hA1.1; omega)
          have h2 := H1.out
          have f0 := h2.obj.frozen 0
          have f1 := h2.obj.frozen 1
          have f2 := h2.obj.frozen 2
          have k0 := h2.obj.cell (i := 0) rfl
          have k1 := h2.obj.cell (i := 1) rfl
          have k2 := h2.obj.cell (i := 2) rfl
          have H5 := hid (((h2.setObj 0 (.int .i64 z)).setObj 1 (.int .i64 0)).setObj 2 (.int .i64 0))
          have HM := hid h2.mod
          clear h2 H1
          go_wp2
          try simp only [Exit.inBlock, Exit.then]
          rw [hz0] at H5
          refine ret_cell_tmp rfl _ 3 Tryz.underlying129 rfl (by kernel_rfl) w.heap.size [.int .i64 0, .int .i64 0, .int .i64 0] 129 _ rfl rfl rfl H5.out.obj rfl ?_
          rw [hE2.out]
          unfold itV
          simp only [hz0]
          exact ⟨rfl, ((HM.out.setCell (.inl (Nat.le_refl _)) _).setCell (.inl (Nat.le_refl _)) _).setCell (.inl (Nat.le_refl _)) _⟩
  · have b1 : (z == 0) = false := by simp [hz0]
    by_cases ha1 : 0 < a
    · have b4 : decide ((0 : Int) < (a : Int)) = true := by simp; omega
      have ha2 : (a : Int) - 1 = ((a - 1 : Nat) : Int) := by omega
      have ha3 : ((a - 1 : Nat) : Int) < (n : Int) := by omega
      have kp := hpr.out ha1
      by_cases hpz : p = z
      · have b5 : (p == z) = true := by simp [hpz]
        by_cases h3 : 3 ≤ r
        · have b3 : decide ((3 : Int) ≤ (r : Int)) = true := by simp; omega
          have HX := hid (repeat_any 16 2 3 6 r (.inr (.inr ⟨rfl, rfl, rfl, rfl⟩)) h3 (by omega) w1)
          have hE2 : Hid (nextI all a = ((16, 2, min r 6 - 3), min r 6)) := by
            unfold Hid; rw [hE.out, if_neg (fun h => hz0 h.1), if_neg (fun h => hz0 h.1), if_pos ⟨ha1, hpz, h3⟩]
          go_wp2_with fail
          refine HX.out.mono ?_
          rintro e w2 ⟨rfl, hm⟩
          have h2 := H1.out.same hm
          have f0 := h2.obj.frozen 0
          have f1 := h2.obj.frozen 1
          have f2 := h2.obj.frozen 2
          have k0 := h2.obj.cell (i := 0) rfl
          have k1 := h2.obj.cell (i := 1) rfl
          have k2 := h2.obj.cell (i := 2) rfl
          have H5 := hid (((h2.setObj 0 (.int .i64 ((16 : Nat) : Int))).setObj 1 (.int .i64 ((2 : Nat) : Int))).setObj 2 (.int .i64 ((min r 6 - 3 : Nat) : Int)))
          have HM := hid h2.mod
          clear h2 hm HX
          go_wp2
          try simp only [Exit.inBlock, Exit.then]
          refine ret_cell_tmp rfl _ 3 Tryz.underlying129 rfl (by kernel_rfl) w.heap.size [.int .i64 ((16 : Nat) : Int), .int .i64 ((2 : Nat) : Int), .int .i64 ((min r 6 - 3 : Nat) : Int)] 129 _ rfl rfl rfl H5.out.obj rfl ?_
          rw [hE2.out]
          exact ⟨rfl, ((HM.out.setCell (.inl (Nat.le_refl _)) _).setCell (.inl (Nat.le_refl _)) _).setCell (.inl (Nat.le_refl _)) _⟩
        · have b3 : decide ((3 : Int) ≤ (r : Int)) = false := by simp; omega
          have hE2 : Hid (nextI all a = ((z.toNat, 0, 0), 1)) := by
            unfold Hid; rw [hE.out, if_neg (fun h => hz0 h.1), if_neg (fun h => hz0 h.1), if_neg (fun h => h3 h.2.2)]
          have hzn : Hid (((z.toNat : Nat) : Int) = z) := hid (by have := hA1.1; omega)
          have h2 := H1.out
          have f0 := h2.obj.frozen 0
          have f1 := h2.obj.frozen 1
          have f2 := h2.obj.frozen 2
          have k0 := h2.obj.cell (i := 0) rfl
          have k1 := h2.obj.cell (i := 1) rfl
          have k2 := h2.obj.cell (i := 2) rfl
          have H5 := hid (((h2.setObj 0 (.int .i64 z)).setObj 1 (.int .i64 0)).setObj 2 (.int .i64 0))
          have HM := hid h2.mod
          clear h2 H1
          go_wp2
          try simp only [Exit.inBlock, Exit.then]
          refine ret_cell_tmp rfl _ 3 Tryz.underlying129 rfl (by kernel_rfl) w.heap.size [.int .i64 z, .int .i64 0, .int .i64 0] 129 _ rfl rfl rfl H5.out.obj rfl ?_
          rw [hE2.out]
          unfold itV
          simp only [hzn.out]
          exact ⟨rfl, ((HM.out.setCell (.inl (Nat.le_refl _)) _).setCell (.inl (Nat.le_refl _)) _).setCell (.inl (Nat.le_refl _)) _⟩
      · have b5 : (p == z) = false := by simp [hpz]
        have hE2 : Hid (nextI all a = ((z.toNat, 0, 0), 1)) := by
          unfold Hid; rw [hE.out, if_neg (fun h => hz0 h.1), if_neg (fun h => hz0 h.1), if_neg (fun h => hpz h.2.1)]
        have hzn : Hid (((z.toNat : Nat) : Int) = z) := hid (by have := hA1.1; omega)
        have h2 := H1.out
        have f0 := h2.obj.frozen 0
        have f1 := h2.obj.frozen 1
        have f2 := h2.obj.frozen 2
        have k0 := h2.obj.cell (i := 0) rfl
        have k1 := h2.obj.cell (i := 1) rfl
        have k2 := h2.obj.cell (i := 2) rfl
        have H5 := hid (((h2.setObj 0 (.int .i64 z)).setObj 1 (.int .i64 0)).setObj 2 (.int .i64 0))
        have HM := hid h2.mod
        clear h2 H1
        go_wp2
        try simp only [Exit.inBlock, Exit.then]
        refine ret_cell_tmp rfl _ 3 Tryz.underlying129 rfl (by kernel_rfl) w.heap.size [.int .i64 z, .int .i64 0, .int .i64 0] 129 _ rfl rfl rfl H5.out.obj rfl ?_
        rw [hE2.out]
        unfold itV
        simp only [hzn.out]
        exact ⟨rfl, ((HM.out.setCell (.inl (Nat.le_refl _)) _).setCell (.inl (Nat.le_refl _)) _).setCell (.inl (Nat.le_refl _)) _⟩
    · have b4 : decide ((0 : Int) < (a : Int)) = false := by simp; omega
      have hE2 : Hid (nextI all a = ((z.toNat, 0, 0), 1)) := by
        unfold Hid; rw [hE.out, if_neg (fun h => hz0 h.1), if_neg (fun h => hz0 h.1), if_neg (fun h => ha1 h.1)]
      have hzn : Hid (((z.toNat : Nat) : Int) = z) := hid (by have := hA1.1; omega)
      have h2 := H1.out
      have f0 := h2.obj.frozen 0
      have f1 := h2.obj.frozen 1
      have f2 := h2.obj.frozen 2
      have k0 := h2.obj.cell (i := 0) rfl
      have k1 := h2.obj.cell (i := 1) rfl
      have k2 := h2.obj.cell (i := 2) rfl
      have H5 := hid (((h2.setObj 0 (.int .i64 z)).setObj 1 (.int .i64 0)).setObj 2 (.int .i64 0))
      have HM := hid h2.mod
      clear h2 H1
      go_wp2
      try simp only [Exit.inBlock, Exit.then]
      refine ret_cell_tmp rfl _ 3 Tryz.underlying129 rfl (by kernel_rfl) w.heap.size [.int .i64 z, .int .i64 0, .int .i64 0] 129 _ rfl rfl rfl H5.out.obj rfl ?_
      rw [hE2.out]
      unfold itV
      simp only [hzn.out]
      exact ⟨rfl, ((HM.out.setCell (.inl (Nat.le_refl _)) _).setCell (.inl (Nat.le_refl _)) _).setCell (.inl (Nat.le_refl _)) _⟩
end Go.Proofs.YthibpnkdhbkakaaGreatDoor
/-
  All items of lengths; lengths without their last zeros; the lengths of the third code in the order in which they are written.
-/
namespace Go.Proofs.YthibpnkdhbkakaaGreatDoor
set_option maxRecDepth 5000
open Go.RowKit

theorem infoItemB : (Tryz.prog.info? 129).map (fun i => (i.zero, i.size, i.bytes)) = some (some (.agg #[.int .i64 0, .int .i64 0, .int .i64 0]), 3, 24) := by kernel_rfl
def itemsV (xs : List Item) : List Value := xs.flatMap fun x => [.int .i64 (x.1 : Int), .int .i64 (x.2.1 : Int), .int .i64 (x.2.2 : Int)]
theorem itemsV_app (a b : List Item) : itemsV (a ++ b) = itemsV a ++ itemsV b := by simp [itemsV]
theorem itemsV_length (xs : List Item) : (itemsV xs).length = xs.length * 3 := by
  induction xs with
  | nil => rfl
  | cons x xs ih =>
    have e : itemsV (x :: xs) = .int .i64 (x.1 : Int) :: .int .i64 (x.2.1 : Int) :: .int .i64 (x.2.2 : Int) :: itemsV xs := by simp [itemsV]
    rw [e]
    simp only [List.length_cons, ih]; omega
theorem itemsV_get : ∀ (l : List Item) (j : Nat) (x : Item), l[j]? = some x → (itemsV l)[j * 3]? = some (.int .i64 (x.1 : Int)) ∧ (itemsV l)[j * 3 + 1]? = some (.int .i64 (x.2.1 : Int)) ∧ (itemsV l)[j * 3 + 2]? = some (.int .i64 (x.2.2 : Int))
  | [], j, x, h => by cases h
  | y :: l, 0, x, h => by
    simp at h; subst h
    exact ⟨rfl, rfl, rfl⟩
  | y :: l, j + 1, x, h => by
    have ih := itemsV_get l j x (by simpa using h)
    have e : itemsV (y :: l) = .int .i64 (y.1 : Int) :: .int .i64 (y.2.1 : Int) :: .int .i64 (y.2.2 : Int) :: itemsV l := by simp [itemsV]
    rw [e, show (j + 1) * 3 = j * 3 + 1 + 1 + 1 by omega, show j * 3 + 1 + 1 + 1 + 1 = j * 3 + 1 + 1 + 1 + 1 by rfl]
    exact ih
theorem itemsV_one (l : List Item) : ∀ u ∈ itemsV l, u.oneCell' = true := by
  intro u hu
  obtain ⟨x, _, hx⟩ := List.mem_flatMap.1 hu
  simp only [List.mem_cons, List.not_mem_nil, or_false] at hx
  rcases hx with rfl | rfl | rfl <;> rfl
theorem Rd.item {w : World} {ao : Option Addr} {n cap : Nat} {l : List Item} (h : Rd w 3 (.slice ao n cap) n (itemsV l)) {i : Nat} {t : Item} (hi : l[i]? = some t) :
    ∃ g off, ao = some ⟨g, off, none⟩ ∧ w.cell? ⟨g, off + i * 3, none⟩ = some (.int .i64 (t.1 : Int)) ∧ w.cell? ⟨g, off + i * 3 + 1, none⟩ = some (.int .i64 (t.2.1 : Int)) ∧ w.cell? ⟨g, off + i * 3 + 2, none⟩ = some (.int .i64 (t.2.2 : Int)) := by
  have hl := h.1
  rw [itemsV_length] at hl
  have hil := (List.getElem?_eq_some_iff.1 hi).1
  obtain ⟨g, off, rfl, hc⟩ := h.spot (by omega)
  obtain ⟨h1, h2, h3⟩ := itemsV_get l i t hi
  exact ⟨g, off, rfl, hc _ _ h1, hc _ _ h2, hc _ _ h3⟩
theorem allocSzI (w : World) (o : Obj) : (w.alloc o).heap.size = w.heap.size + 1 := by
  show (w.heap.push o).size = _
  simp
theorem itemsF_end (all : List Int) : ∀ f a, all.length ≤ a → itemsF all f a = []
  | 0, _, _ => rfl
  | f + 1, a, h => by unfold itemsF; rw [if_neg (by omega)]
set_option maxHeartbeats 3200000 in
theorem itemsOf_any (v : Value) (n : Nat) (all : List Int) (w : World) (hv : Rd w 1 v n (ints all)) (hn : n < 1000) (hA : ∀ x ∈ all, 0 ≤ x ∧ x ≤ 15) :
    Calls Tryz.prog 73 #[v] w fun e w' => ∃ u, e = .returned u ∧ Held w w' [ownT 129 3 u (itemsF all n 0).length (itemsV (itemsF all n 0))] := by
  obtain ⟨i0, hi0, hz0, hz1, hz2⟩ := info_parts infoItemB
  obtain ⟨ao, cap, rfl, _, _⟩ := hv.form
  have hln : all.length = n := by have := hv.1; rw [ints_length] at this; omega
  have HV := hid (And.intro hv (And.intro hln hA))
  have hn0 : (0 : Int) ≤ (n : Int) := Int.natCast_nonneg _
  clear hv hln hA
  go_enter Tryz.func73, Tryz.ntmps73
  go_wp2
  go_loopg [3, 4] (n + 1) (fun k t3 t4 wr => ∃ (i f L : Nat) (bo : Option Addr) (bc : Nat) (Z : List Item), i ≤ n ∧ n - i < k ∧ n - i ≤ f ∧ t4 = .int .i64 (i : Int) ∧ t3 = .slice bo L bc ∧ L ≤ i ∧ Hid (L = Z.length) ∧ Hid (itemsF all n 0 = Z ++ itemsF all f i) ∧
    Hid (Held w wr [ownT 129 3 (.slice bo L bc) L (itemsV Z)]))
  case atStart => exact ⟨0, n, 0, none, 0, [], by omega, by omega, by omega, rfl, rfl, by omega, hid rfl, hid rfl, hid ((Held.start w).nil _ _)⟩
  case round =>
    obtain ⟨i, f, L, bo, bc, Z, hi, hk, hf, rfl, rfl, hL, HZ, HE, HH⟩ := hrel
    have hii0 : (0 : Int) ≤ (i : Int) := Int.natCast_nonneg _
    by_cases hin : i < n
    · have hiI : (i : Int) < (n : Int) := by omega
      obtain ⟨f, rfl⟩ : ∃ g, f = g + 1 := ⟨f - 1, by omega⟩
      have hfit := nextI_fits (all := all) (a := i) (by have := HV.out.2.1; omega)
      have HN := hid (nextItem_any (.slice ao n cap) n i all wr (HH.out.old HV.out.1) (by omega) hin HV.out.2.2)
      have hE : itemsF all n 0 = (Z ++ [(nextI all i).1]) ++ itemsF all f (i + (nextI all i).2) := by
        rw [HE.out, itemsF, if_pos (by have := HV.out.2.1; omega)]; simp
      rw [HV.out.2.1] at hfit
      generalize nextI all i = nx at HN hE hfit
      obtain ⟨⟨sy, ex, va⟩, q⟩ := nx
      simp only at hE hfit
      obtain ⟨hq1, hq2⟩ := hfit
      have HE2 := hid hE
      clear hE HE
      unfold itV at HN
      simp only at HN
      go_wp2_with fail
      refine HN.out.mono ?_
      rintro e w2 ⟨rfl, hm⟩
      have h2 := (HH.out.same hm).newObj [.int .i64 (sy : Int), .int .i64 (ex : Int), .int .i64 (va : Int)] 129
      have HS := hid (h2.swap.lit 129 3 (itemsV [(sy, ex, va)]) 1 (by decide) rfl).swap
      rw [allocSzI] at HS
      have k0 := h2.obj.cell (i := 0) rfl
      have k1 := h2.obj.cell (i := 1) rfl
      have k2 := h2.obj.cell (i := 2) rfl
      clear h2 hm HN
      go_wp2_with ((with_reducible show wpList _ _ _ (⟨some 20, _, _, _, _, _⟩ :: _) _ _); go_must (refine wpList_app_held rfl (.tmp 17) (.tmp 19) 123 rfl 129 i0 (.agg #[.int .i64 0, .int .i64 0, .int .i64 0]) 3 24 Tryz.underlying123 hi0 hz0 hz1 hz2 rfl (by decide) _ _ (itemsV Z) rfl HS.out _ 1 (itemsV [(sy, ex, va)]) rfl HS.out.swap.own.rd (itemsV_one _) (L + 1) rfl (by unfold maxLen; omega) (by omega) ?_); intro ao1 cap1 w4 h1; have HJ := hid h1; clear h1)
      go_roundg (gk - 1)
      case measure => omega
      case rel =>
        refine ⟨i + q, f, L + 1, ao1, cap1, Z ++ [(sy, ex, va)], by omega, by omega, by omega, by go_num, rfl, by omega, hid (by rw [List.length_append, ← HZ.out]; rfl), HE2, ?_⟩
        rw [itemsV_app]
        exact hid HJ.out.one
    · have hiI : ¬ (i : Int) < (n : Int) := by omega
      have hE : Hid (itemsF all n 0 = Z) := by
        have h := HE.out
        rw [itemsF_end all f i (by have := HV.out.2.1; omega), List.append_nil] at h
        exact hid h
      go_wp2
      go_ret
      rw [hE.out, ← HZ.out]
      exact ⟨_, rfl, HH.out⟩
set_option maxHeartbeats 1600000 in
theorem cut_any (ao : Option Addr) (n cap least : Nat) (l : List Int) (w : World) (hv : Rd w 1 (.slice ao n cap) n (ints l)) (hn : n < 1000) (hl : least ≤ 1000) (hsp : ∀ x, ao = some x → x.spot = none) :
    Calls Tryz.prog 54 #[.slice ao n cap, .int .i64 (least : Int)] w fun e w' => e = .returned (.slice ao (cutN l least n) cap) ∧ ∃ c, w' = w.drewN c := by
  obtain ⟨i, hi, hz0, hz1, hz2⟩ := info_parts infoIntB
  have hln : l.length = n := by have := hv.1; rw [ints_length] at this; omega
  have hnc : n ≤ cap := by
    obtain ⟨_, a, c, hh, h, _⟩ := hv
    simp only [Value.slice.injEq, true_and] at hh
    omega
  have HV := hid (And.intro hv hln)
  have hn0 : (0 : Int) ≤ (n : Int) := Int.natCast_nonneg _
  have hl0 : (0 : Int) ≤ (least : Int) := Int.natCast_nonneg _
  clear hv hln
  go_enter Tryz.func54, Tryz.ntmps54
  go_wp2
  go_loopg [5] (n + 1) (fun k t5 wr => ∃ (j d : Nat), j ≤ n ∧ j < k ∧ t5 = .int .i64 (j : Int) ∧ Hid (cutN l least n = cutN l least j) ∧ wr = w.drewN d)
  case atStart => exact ⟨n, 0, by omega, by omega, rfl, hid rfl, rfl⟩
  case round =>
    obtain ⟨j, d, hj, hk, rfl, HE, rfl⟩ := hrel
    have hj0 : (0 : Int) ≤ (j : Int) := Int.natCast_nonneg _
    have stop : cutN l least j = j → Hid (cutN l least n = j) := fun h => hid (HE.out.trans h)
    have hcut : ∀ wg, (Instr.sliceAt 37 (.slice ao n cap) none (some (.int .i64 (j : Int))) none).run Tryz.prog wg = .ok (.slice ao j cap) wg := fun wg => by
      have h := run_cut (P := Tryz.prog) (w := wg) 37 3 i 1 Tryz.underlying37 hi hz1 ao n cap 0 j none (some (.int .i64 (j : Int))) rfl ⟨_, rfl⟩ (by omega) (by omega)
      rw [h, sliced_front _ _ _ _ hsp]
    by_cases hjl : least < j
    · have hb1 : decide ((least : Int) < (j : Int)) = true := by simp; omega
      have hj1 : (j : Int) - 1 = ((j - 1 : Nat) : Int) := by omega
      have hj2 : ((j - 1 : Nat) : Int) < (n : Int) := by omega
      obtain ⟨x, hx⟩ : ∃ x, l[j - 1]? = some x := ⟨l[j - 1]'(by have := HV.out.2; omega), List.getElem?_eq_getElem _⟩
      obtain ⟨g, off, rfl, hcell⟩ := HV.out.1.spot (by omega)
      have c1 := hcell (j - 1) _ (by rw [ints_get, hx]; rfl)
      have hun : cutN l least j = if x = 0 then cutN l least (j - 1) else j := by
        obtain ⟨m, rfl⟩ : ∃ m, j = m + 1 := ⟨j - 1, by omega⟩
        rw [cutN]
        rw [show m + 1 - 1 = m by omega] at hx ⊢
        rw [hx]
        simp only [Option.getD_some, hjl, true_and]
      clear hcell hx
      by_cases hx0 : x = 0
      · have hb2 : (x == 0) = true := by simp [hx0]
        rw [if_pos hx0] at hun
        have HE2 := hid (HE.out.trans hun)
        clear hun stop
        go_wp2
        go_roundg (gk - 1)
        case measure => omega
        case rel => exact ⟨j - 1, d, by omega, by omega, by go_num, HE2, rfl⟩
      · have hb2 : (x == 0) = false := by simp [hx0]
        rw [if_neg hx0] at hun
        have HF := stop hun
        clear hun stop
        go_wp2
        go_ret
        rw [HF.out]
        exact ⟨rfl, _, rfl⟩
    · have hb1 : decide ((least : Int) < (j : Int)) = false := by simp; omega
      have HF := stop (by
        cases j with
        | zero => rfl
        | succ m => rw [cutN, if_neg (fun h => hjl h.1)])
      clear stop
      go_wp2
      go_ret
      rw [HF.out]
      exact ⟨rfl, _, rfl⟩
end Go.Proofs.YthibpnkdhbkakaaGreatDoor
