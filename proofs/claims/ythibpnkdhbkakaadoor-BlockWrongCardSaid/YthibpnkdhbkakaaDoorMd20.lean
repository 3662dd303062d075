/-
  All items of lengths; lengths without their last zeros; the lengths of the third code in the order in which they are written.
-/
import Derived.Test.YthibpnkdhbkakaaDoorMd19
import Derived.Test.YthibpnkdhbkakaaDoorMd07
import Derived.Test.YthibpnkdhbkakaaDoorProg
import Derived.Test.YthibpnkdhbkakaaDoorMd04
import Derived.StillTailTactics
namespace Go.Proofs.YthibpnkdhbkakaaDoor
set_option maxRecDepth 5000
open Go.RowKit

theorem infoItemB : (Tryd.prog.info? 100).map (fun i => (i.zero, i.size, i.bytes)) = some (some (.agg #[.int .i64 0, .int .i64 0, .int .i64 0]), 3, 24) := by kernel_rfl
def itemsV (xs : List Item) : List Value := xs.flatMap fun x => [.int .i64 (x.1 : Int), .int .i64 (x.2.1 : Int), .int .i64 (x.2.2 : Int)]
theorem itemsV_app (a b : List Item) : itemsV (a ++ b) = itemsV a ++ itemsV b := by simp [itemsV]
theorem itemsV_length (xs : List Item) : (itemsV xs).length = xs.length * 3 := by
  induction xs with
  | nil => rfl
  | cons x xs ih =>
    have e : itemsV (x :: xs) = .int .i64 (x.1 : Int) :: .int .i64 (x.2.1 : Int) :: .int .i64 (x.2.2 : Int) :: itemsV xs := by simp [itemsV]
    rw [e]
    simp only [List.length_cons, ih]; omega
theorem itemsV_get : ∀ (l : List Item) (j : Nat) (x : Item), l[j]? = some x → (itemsV l)[j * 3]? = some (.int .i64 (x.1 : Int)) ∧ (itemsV l)[j * 3 + 1]? = some (.int .i64 (x.2.1 : Int)) ∧ (itemsV l)[j * 3 + 2]? = some (.int .i64 (x.2.2 : Int))
  | [], j, x, h => by cases h
  | y :: l, 0, x, h => by
    simp at h; subst h
    exact ⟨rfl, rfl, rfl⟩
  | y :: l, j + 1, x, h => by
    have ih := itemsV_get l j x (by simpa using h)
    have e : itemsV (y :: l) = .int .i64 (y.1 : Int) :: .int .i64 (y.2.1 : Int) :: .int .i64 (y.2.2 : Int) :: itemsV l := by simp [itemsV]
    rw [e, show (j + 1) * 3 = j * 3 + 1 + 1 + 1 by omega, show j * 3 + 1 + 1 + 1 + 1 = j * 3 + 1 + 1 + 1 + 1 by rfl]
    exact ih
theorem itemsV_one (l : List Item) : ∀ u ∈ itemsV l, u.oneCell' = true := by
  intro u hu
  obtain ⟨x, _, hx⟩ := List.mem_flatMap.1 hu
  simp only [List.mem_cons, List.not_mem_nil, or_false] at hx
  rcases hx with rfl | rfl | rfl <;> rfl
theorem Rd.item {w : World} {ao : Option Addr} {n cap : Nat} {l : List Item} (h : Rd w 3 (.slice ao n cap) n (itemsV l)) {i : Nat} {t : Item} (hi : l[i]? = some t) :
    ∃ g off, ao = some ⟨g, off, none⟩ ∧ w.cell? ⟨g, off + i * 3, none⟩ = some (.int .i64 (t.1 : Int)) ∧ w.cell? ⟨g, off + i * 3 + 1, none⟩ = some (.int .i64 (t.2.1 : Int)) ∧ w.cell? ⟨g, off + i * 3 + 2, none⟩ = some (.int .i64 (t.2.2 : Int)) := by
  have hl := h.1
  rw [itemsV_length] at hl
  have hil := (List.getElem?_eq_some_iff.1 hi).1
  obtain ⟨g, off, rfl, hc⟩ := h.spot (by omega)
  obtain ⟨h1, h2, h3⟩ := itemsV_get l i t hi
  exact ⟨g, off, rfl, hc _ _ h1, hc _ _ h2, hc _ _ h3⟩
theorem allocSzI (w : World) (o : Obj) : (w.alloc o).heap.size = w.heap.size + 1 := by
  show (w.heap.push o).size = _
  simp
theorem itemsF_end (all : List Int) : ∀ f a, all.length ≤ a → itemsF all f a = []
  | 0, _, _ => rfl
  | f + 1, a, h => by unfold itemsF; rw [if_neg (by omega)]
set_option maxHeartbeats 3200000 in
theorem itemsOf_any (v : Value) (n : Nat) (all : List Int) (w : World) (hv : Rd w 1 v n (ints all)) (hn : n < 1000) (hA : ∀ x ∈ all, 0 ≤ x ∧ x ≤ 15) :
    Calls Tryd.prog 45 #[v] w fun e w' => ∃ u, e = .returned u ∧ Held w w' [ownT 100 3 u (itemsF all n 0).length (itemsV (itemsF all n 0))] := by
  obtain ⟨i0, hi0, hz0, hz1, hz2⟩ := info_parts infoItemB
  obtain ⟨ao, cap, rfl, _, _⟩ := hv.form
  have hln : all.length = n := by have := hv.1; rw [ints_length] at this; omega
  have HV := hid (And.intro hv (And.intro hln hA))
  have hn0 : (0 : Int) ≤ (n : Int) := Int.natCast_nonneg _
  clear hv hln hA
  go_enter Tryd.func45, Tryd.ntmps45
  go_wp2
  go_loopg [3, 4] (n + 1) (fun k t3 t4 wr => ∃ (i f L : Nat) (bo : Option Addr) (bc : Nat) (Z : List Item), i ≤ n ∧ n - i < k ∧ n - i ≤ f ∧ t4 = .int .i64 (i : Int) ∧ t3 = .slice bo L bc ∧ L ≤ i ∧ Hid (L = Z.length) ∧ Hid (itemsF all n 0 = Z ++ itemsF all f i) ∧
    Hid (Held w wr [ownT 100 3 (.slice bo L bc) L (itemsV Z)]))
  case atStart => exact ⟨0, n, 0, none, 0, [], by omega, by omega, by omega, rfl, rfl, by omega, hid rfl, hid rfl, hid ((Held.start w).nil _ _)⟩
  case round =>
    obtain ⟨i, f, L, bo, bc, Z, hi, hk, hf, rfl, rfl, hL, HZ, HE, HH⟩ := hrel
    have hii0 : (0 : Int) ≤ (i : Int) := Int.natCast_nonneg _
    by_cases hin : i < n
    · have hiI : (i : Int) < (n : Int) := by omega
      obtain ⟨f, rfl⟩ : ∃ g, f = g + 1 := ⟨f - 1, by omega⟩
      have hfit := nextI_fits (all := all) (a := i) (by have := HV.out.2.1; omega)
      have HN := hid (nextItem_any (.slice ao n cap) n i all wr (HH.out.old HV.out.1) (by omega) hin HV.out.2.2)
      have hE : itemsF all n 0 = (Z ++ [(nextI all i).1]) ++ itemsF all f (i + (nextI all i).2) := by
        rw [HE.out, itemsF, if_pos (by have := HV.out.2.1; omega)]; simp
      rw [HV.out.2.1] at hfit
      generalize nextI all i = nx at HN hE hfit
      obtain ⟨⟨sy, ex, va⟩, q⟩ := nx
      simp only at hE hfit
      obtain ⟨hq1, hq2⟩ := hfit
      have HE2 := hid hE
      clear hE HE
      unfold itV at HN
      simp only at HN
      go_wp2_with fail
      refine HN.out.mono ?_
      rintro e w2 ⟨rfl, hm⟩
      have h2 := (HH.out.same hm).newObj [.int .i64 (sy : Int), .int .i64 (ex : Int), .int .i64 (va : Int)] 100
      have HS := hid (h2.swap.lit 100 3 (itemsV [(sy, ex, va)]) 1 (by decide) rfl).swap
      rw [allocSzI] at HS
      have k0 := h2.obj.cell (i := 0) rfl
      have k1 := h2.obj.cell (i := 1) rfl
      have k2 := h2.obj.cell (i := 2) rfl
      clear h2 hm HN
      go_wp2_with ((with_reducible show wpList _ _ _ (⟨some 20, _, _, _, _, _⟩ :: _) _ _); go_must (refine wpList_app_held rfl (.tmp 17) (.tmp 19) 94 rfl 100 i0 (.agg #[.int .i64 0, .int .i64 0, .int .i64 0]) 3 24 Tryd.underlying94 hi0 hz0 hz1 hz2 rfl (by decide) _ _ (itemsV Z) rfl HS.out _ 1 (itemsV [(sy, ex, va)]) rfl HS.out.swap.own.rd (itemsV_one _) (L + 1) rfl (by unfold maxLen; omega) (by omega) ?_); intro ao1 cap1 w4 h1; have HJ := hid h1; clear h1)
      go_roundg (gk - 1)
      case measure => omega
      case rel =>
        refine ⟨i + q, f, L + 1, ao1, cap1, Z ++ [(sy, ex, va)], by omega, by omega, by omega, by go_num, rfl, by omega, hid (by rw [List.length_append, ← HZ.out]; rfl), HE2, ?_⟩
        rw [itemsV_app]
        exact hid HJ.out.one
    · have hiI : ¬ (i : Int) < (n : Int) := by omega
      have hE : Hid (itemsF all n 0 = Z) := by
        have h := HE.out
        rw [itemsF_end all f i (by have := HV.out.2.1; omega), List.append_nil] at h
        exact hid h
      go_wp2
      go_ret
      rw [hE.out, ← HZ.out]
      exact ⟨_, rfl, HH.out⟩
set_option maxHeartbeats 1600000 in
theorem cut_any (ao : Option Addr) (n cap least : Nat) (l : List Int) (w : World) (hv : Rd w 1 (.slice ao n cap) n (ints l)) (hn : n < 1000) (hl : least ≤ 1000) (hsp : ∀ x, ao = some x → x.spot = none) :
    Calls Tryd.prog 27 #[.slice ao n cap, .int .i64 (least : Int)] w fun e w' => e = .returned (.slice ao (cutN l least n) cap) ∧ ∃ c, w' = w.drewN c := by
  obtain ⟨i, hi, hz0, hz1, hz2⟩ := info_parts infoIntB
  have hln : l.length = n := by have := hv.1; rw [ints_length] at this; omega
  have hnc : n ≤ cap := by
    obtain ⟨_, a, c, hh, h, _⟩ := hv
    simp only [Value.slice.injEq, true_and] at hh
    omega
  have HV := hid (And.intro hv hln)
  have hn0 : (0 : Int) ≤ (n : Int) := Int.natCast_nonneg _
  have hl0 : (0 : Int) ≤ (least : Int) := Int.natCast_nonneg _
  clear hv hln
  go_enter Tryd.func27, Tryd.ntmps27
  go_wp2
  go_loopg [5] (n + 1) (fun k t5 wr => ∃ (j d : Nat), j ≤ n ∧ j < k ∧ t5 = .int .i64 (j : Int) ∧ Hid (cutN l least n = cutN l least j) ∧ wr = w.drewN d)
  case atStart => exact ⟨n, 0, by omega, by omega, rfl, hid rfl, rfl⟩
  case round =>
    obtain ⟨j, d, hj, hk, rfl, HE, rfl⟩ := hrel
    have hj0 : (0 : Int) ≤ (j : Int) := Int.natCast_nonneg _
    have stop : cutN l least j = j → Hid (cutN l least n = j) := fun h => hid (HE.out.trans h)
    have hcut : ∀ wg, (Instr.sliceAt 59 (.slice ao n cap) none (some (.int .i64 (j : Int))) none).run Tryd.prog wg = .ok (.slice ao j cap) wg := fun wg => by
      have h := run_cut (P := Tryd.prog) (w := wg) 59 3 i 1 Tryd.underlying59 hi hz1 ao n cap 0 j none (some (.int .i64 (j : Int))) rfl ⟨_, rfl⟩ (by omega) (by omega)
      rw [h, sliced_front _ _ _ _ hsp]
    by_cases hjl : least < j
    · have hb1 : decide ((least : Int) < (j : Int)) = true := by simp; omega
      have hj1 : (j : Int) - 1 = ((j - 1 : Nat) : Int) := by omega
      have hj2 : ((j - 1 : Nat) : Int) < (n : Int) := by omega
      obtain ⟨x, hx⟩ : ∃ x, l[j - 1]? = some x := ⟨l[j - 1]'(by have := HV.out.2; omega), List.getElem?_eq_getElem _⟩
      obtain ⟨g, off, rfl, hcell⟩ := HV.out.1.spot (by omega)
      have c1 := hcell (j - 1) _ (by rw [ints_get, hx]; rfl)
      have hun : cutN l least j = if x = 0 then cutN l least (j - 1) else j := by
        obtain ⟨m, rfl⟩ : ∃ m, j = m + 1 := ⟨j - 1, by omega⟩
        rw [cutN]
        rw [show m + 1 - 1 = m by omega] at hx ⊢
        rw [hx]
        simp only [Option.getD_some, hjl, true_and]
      clear hcell hx
      by_cases hx0 : x = 0
      · have hb2 : (x == 0) = true := by simp [hx0]
        rw [if_pos hx0] at hun
        have HE2 := hid (HE.out.trans hun)
        clear hun stop
        go_wp2
        go_roundg (gk - 1)
        case measure => omega
        case rel => exact ⟨j - 1, d, by omega, by omega, by go_num, HE2, rfl⟩
      · have hb2 : (x == 0) = false := by simp [hx0]
        rw [if_neg hx0] at hun
        have HF := stop hun
        clear hun stop
        go_wp2
        go_ret
        rw [HF.out]
        exact ⟨rfl, _, rfl⟩
    · have hb1 : decide ((least : Int) < (j : Int)) = false := by simp; omega
      have HF := stop (by
        cases j with
        | zero => rfl
        | succ m => rw [cutN, if_neg (fun h => hjl h.1)])
      clear stop
      go_wp2
      go_ret
      rw [HF.out]
      exact ⟨rfl, _, rfl⟩
end Go.Proofs.YthibpnkdhbkakaaDoor
/-
  The lengths of the third code in the order in which they are written, by the package-level array 'order'.
-/
namespace Go.Proofs.YthibpnkdhbkakaaDoor
set_option maxRecDepth 5000
open Go.RowKit

/-- the array lies in memory -/
def Ordr (w : World) : Prop := ∀ i v, (nums .i64 orderF)[i]? = some v → w.cell? ⟨0, i, none⟩ = some v
theorem Ordr.kept {w w' : World} (h : Ordr w) (hm : Mod w w' (fun _ => False)) : Ordr w' := fun i v hv => by
  have hc := h i v hv
  rw [hm.cell (World.block_lt_of_cell? w _ hc) (fun h => h)]; exact hc
section
variable {P : Program} {w : World}
/-- an array loaded whole, its cells known one by one -/
theorem run_loadVar_cells (g : Nat) (ty : TypeId) (cs : List Value) (d : TypeDesc) (hc : ∀ j u, cs[j]? = some u → w.cell? ⟨g, j, none⟩ = some u)
    (hu : P.underlying ty = some d) (hd : (match d with | .struct _ | .array _ _ => true | _ => false) = true) (hi : (P.info? ty).map (·.size) = some cs.length) :
    (loadVar ty ⟨g, 0, none⟩).run P w = .ok (.agg cs.toArray) w := by
  have hl : (loadCells ⟨g, 0, none⟩ cs.length).run P w = .ok cs.toArray w :=
    run_loadCells_list (P := P) w ⟨g, 0, none⟩ cs (fun j v hv => by
      have hadd : (⟨g, 0, none⟩ : Addr).add j = ⟨g, j, none⟩ := by unfold Addr.add; split <;> simp_all
      rw [hadd]
      exact hc j v hv)
  cases hq : P.info? ty with
  | none => simp [hq] at hi
  | some i =>
    have hs : i.size = cs.length := by simpa [hq] using hi
    have hagg : (isAgg ty).run P w = .ok true w := by
      unfold isAgg
      rw [Sem.run_bind, run_underlying hu w]
      cases d <;> simp_all
    simp [loadVar, typeInfo, hq, hs, hl, hagg, sizeOf]
theorem wpList_load_cells {ops : Array Oper} {rest : List Oper} {o : Oper} {ac : Act} {Q : Exit → Act → World → Prop} (hgd : o.guard = none) (t : TypeId) (x : Operand) (ho : o.op = .load t x)
    (g : Nat) (cs : List Value) (d : TypeDesc) (hx : ac.eval x = .pointer (some ⟨g, 0, none⟩)) (hc : ∀ j u, cs[j]? = some u → w.cell? ⟨g, j, none⟩ = some u)
    (hu : P.underlying t = some d) (hd : (match d with | .struct _ | .array _ _ => true | _ => false) = true) (hi : (P.info? t).map (·.size) = some cs.length)
    (h : wpList P ops Q rest (ac.put o.dst (.agg cs.toArray)) w) : wpList P ops Q (o :: rest) ac w :=
  wpList_plain hgd fun K hK => by
    have hr := run_loadVar_cells (P := P) (w := w) g t cs d hc hu hd hi
    unfold Oper.wp execOp
    simp only [ho, hx, Instr.loadAt, Instr.sureAddr, Sem.run_bind, Sem.run_pure, Result.andThen_ok, hr]
    exact hK _ _ h
end
theorem infoIntO : (Tryd.prog.info? 3).map (fun i => (i.zero, i.size, i.bytes)) = some (some (Value.int .i64 0), 1, 8) := by kernel_rfl
theorem infoIntO2 : (Tryd.prog.info? 3).map (·.size) = some 1 := by kernel_rfl
set_option maxHeartbeats 3200000 in
theorem inOrder_any (v : Value) (hd : List Int) (w : World) (hv : Rd w 1 v 19 (ints hd)) (hO : Ordr w) :
    Calls Tryd.prog 46 #[v] w fun e w' => ∃ ao cap, e = .returned (.slice ao 19 cap) ∧ Held w w' [ownT 3 1 (.slice ao 19 cap) 19 (ints (inOrd hd))] := by
  obtain ⟨i0, hi, hz0, hz1, hz2⟩ := info_parts infoIntO
  obtain ⟨ao, cap, rfl, _, _⟩ := hv.form
  have hln : hd.length = 19 := by have := hv.1; rw [ints_length] at this; omega
  have HV := hid (And.intro hv (And.intro hln hO))
  clear hv hln hO
  go_enter Tryd.func46, Tryd.ntmps46
  go_wp2_with first
    | ((with_reducible show wpList _ _ _ (⟨some 6, _, _, _, _, _⟩ :: _) _ _); refine wpList_make_own rfl 59 (.const (.int .i64 19)) (.const (.int .i64 19)) rfl 3 i0 (.int .i64 0) 1 Tryd.underlying59 hi hz0 hz1 .i64 19 rfl rfl (by rw [hz2]; omega) (by unfold maxLen; omega) ?_; intro v1 w2 zs ho1 hm1 hf1 hv1 hzs; rw [made_cellsB _ _ rfl] at hzs; subst hzs; subst hv1; have H1 := hid ((Held.start w).pushOwn ho1 hm1 hf1); have HO2 := hid (HV.out.2.2.kept hm1); clear hm1 hf1 ho1)
    | ((with_reducible show wpList _ _ _ (⟨some 7, _, _, _, _, _⟩ :: _) _ _); refine wpList_load_cells rfl 98 (.global 0) rfl 0 (nums .i64 orderF) _ rfl HO2.out Tryd.underlying98 rfl (by kernel_rfl) ?_)
    | fail
  have H2 : Hid (Held w w2 [ownT 3 1 (.slice (some ⟨w.heap.size, 0, none⟩) 19 19) 19 (ints ((inOrd hd).take 0 ++ List.replicate (19 - 0) 0))]) := by
    have h := H1.out
    rw [show List.replicate 19 (Value.int .i64 0) = ints ((inOrd hd).take 0 ++ List.replicate (19 - 0) 0) by simp [ints]] at h
    exact hid h
  clear H1 HO2
  go_loopg [8] 20 (fun k t8 wr => ∃ i : Nat, i ≤ 19 ∧ 19 - i < k ∧ t8 = .int .i64 (i : Int) ∧ Hid (Held w wr [ownT 3 1 (.slice (some ⟨w.heap.size, 0, none⟩) 19 19) 19 (ints ((inOrd hd).take i ++ List.replicate (19 - i) 0))]))
  case atStart => exact ⟨0, by omega, by omega, rfl, H2⟩
  case round =>
    obtain ⟨i, hi2, hk, rfl, HH⟩ := hrel
    have hi0 : (0 : Int) ≤ (i : Int) := Int.natCast_nonneg _
    by_cases hin : i < 19
    · have hiI : (i : Int) < 19 := by omega
      have hob : orderF[i]? = some (orderAt i) := by
        unfold orderAt
        have : i < orderF.length := hin
        rw [List.getElem?_eq_getElem this]; rfl
      have hol := orderAt_lt i hin
      obtain ⟨x, hx⟩ : ∃ x, hd[orderAt i]? = some x := ⟨hd[orderAt i]'(by have := HV.out.2.1; omega), List.getElem?_eq_getElem _⟩
      have hset : (ints ((inOrd hd).take i ++ List.replicate (19 - i) 0)).set i (.int .i64 x) = ints ((inOrd hd).take (i + 1) ++ List.replicate (19 - (i + 1)) 0) := by
        have h1 : (inOrd hd)[i]? = some x := by rw [inOrd_get hd hin, hx]; rfl
        have hl : ((inOrd hd).take i).length = i := by rw [List.length_take, inOrd_length]; omega
        have h2 : (ints ((inOrd hd).take i ++ List.replicate (19 - i) 0)).set i (.int .i64 x) = ints (((inOrd hd).take i ++ List.replicate (19 - i) 0).set i x) := by simp [ints, List.map_set]
        rw [h2, List.set_append_right _ _ (by omega), hl, Nat.sub_self, List.take_add_one, h1, show 19 - i = (19 - (i + 1)) + 1 by omega, List.replicate_succ]
        simp
      obtain ⟨g, off, rfl, hcell⟩ := (HH.out.old HV.out.1).spot (by omega)
      have c1 := hcell (orderAt i) _ (by rw [ints_get, hx]; rfl)
      obtain ⟨g2, off2, hg2, hc2, hfr, hput⟩ := HH.out.own.site (by omega)
      simp only [Option.some.injEq, Addr.mk.injEq, and_true] at hg2
      obtain ⟨rfl, rfl⟩ := hg2
      have f1 := hfr i
      have hcl : (ints ((inOrd hd).take i ++ List.replicate (19 - i) 0))[i]? = some (.int .i64 0) := by
        have hl : ((inOrd hd).take i).length = i := by rw [List.length_take, inOrd_length]; omega
        rw [ints_get, List.getElem?_append_right (by omega), hl, Nat.sub_self, List.getElem?_replicate, if_pos (by omega)]; rfl
      have h5 := HH.out.putOwn (hput i (.int .i64 x) hin) (Mod.set wr w.heap.size (0 + i) _)
      rw [hset] at h5
      obtain ⟨ob, hob2⟩ : ∃ ob, ob = orderAt i := ⟨_, rfl⟩
      rw [← hob2] at hob hol c1
      have hoI : (ob : Int) < 19 := by omega
      have ho0 : (0 : Int) ≤ (ob : Int) := Int.natCast_nonneg _
      have c2 := hc2 i _ hcl
      rw [Nat.zero_add] at c2 f1 h5
      have H5 := hid h5
      clear hcell hput hfr hcl hc2 hset hx h5 hob2
      go_wp2_with ((with_reducible show wpList _ _ _ (⟨some 11, _, _, _, _, _⟩ :: _) _ _); refine wpList_index_arr rfl 98 (.tmp 7) (.tmp 8) rfl 3 19 _ Tryd.underlying98 Tryd.underlying3 rfl infoIntO2 .i64 orderF .i64 i ob rfl rfl hin hob ?_)
      go_roundg (gk - 1)
      case measure => omega
      case rel => exact ⟨i + 1, by omega, by omega, by go_num, H5⟩
    · have hiI : ¬ (i : Int) < 19 := by omega
      have hE : Hid (Held w wr [ownT 3 1 (.slice (some ⟨w.heap.size, 0, none⟩) 19 19) 19 (ints (inOrd hd))]) := by
        have h := HH.out
        rw [List.take_of_length_le (by rw [inOrd_length]; omega), show 19 - i = 0 by omega, List.replicate_zero, List.append_nil] at h
        exact hid h
      go_wp2
      go_ret
      exact ⟨_, _, rfl, hE.out⟩
end Go.Proofs.YthibpnkdhbkakaaDoor
/-
  The program's Cost.
-/
namespace Go.Proofs.YthibpnkdhbkakaaDoor
set_option maxRecDepth 5000
open Go.RowKit

theorem valueOf_any (a : Int) (w : World) :
    Calls Tryd.prog 55 #[.int .i64 a] w fun e w' => e = .returned (.int .i64 ((valOf a : Nat) : Int)) ∧ w = w' := by
  have h3 : a < 0 ∨ 0 ≤ a ∧ 1048576 < a ∨ 0 ≤ a ∧ a ≤ 1048576 := by omega
  rcases h3 with h | ⟨h, h2⟩ | ⟨h, h2⟩
  · have HI : Hid (valOf a = 0) := by unfold Hid valOf; rw [if_neg (by omega)]
    go_enter Tryd.func55, Tryd.ntmps55
    go_wp2
    go_ret
    exact ⟨by rw [HI.out]; rfl, rfl⟩
  · have HI : Hid (valOf a = 0) := by unfold Hid valOf; rw [if_neg (by omega)]
    go_enter Tryd.func55, Tryd.ntmps55
    go_wp2
    go_ret
    exact ⟨by rw [HI.out]; rfl, rfl⟩
  · have HI : Hid ((valOf a : Int) = a) := by unfold Hid valOf; rw [if_pos ⟨h, h2⟩]; omega
    have h2' : ¬ 1048576 < a := by omega
    go_enter Tryd.func55, Tryd.ntmps55
    go_wp2
    go_ret
    exact ⟨by rw [HI.out]; rfl, rfl⟩

theorem valueOf_quiet (a : Int) (w : World) :
    Calls Tryd.prog 55 #[.int .i64 a] w fun e w' => e = .returned (.int .i64 ((valOf a : Nat) : Int)) ∧ w' = w :=
  (valueOf_any a w).mono fun _ _ ⟨h1, h2⟩ => ⟨h1, h2.symm⟩
set_option maxHeartbeats 1600000 in
theorem cost_any (v u : Value) (l f : List Int) (w : World) (hv : Rd w 1 v l.length (ints l)) (hu : Rd w 1 u f.length (ints f)) (hl : l.length < 1000000) :
    Calls Tryd.prog 36 #[v, u] w fun e w' => e = .returned (.int .i64 ((costTo l f (min l.length f.length) : Nat) : Int)) ∧ ∃ c, w' = w.drewN c := by
  obtain ⟨ao, cap, rfl, _, _⟩ := hv.form
  obtain ⟨bo, cap2, rfl, _, _⟩ := hu.form
  obtain ⟨n, hn⟩ : ∃ n, n = l.length := ⟨_, rfl⟩
  obtain ⟨m, hm⟩ : ∃ m, m = f.length := ⟨_, rfl⟩
  obtain ⟨q, hq⟩ : ∃ q, q = min l.length f.length := ⟨_, rfl⟩
  rw [← hq]
  rw [← hn] at hv hl hq ⊢
  rw [← hm] at hu hq ⊢
  have HN := hid hn
  have HM := hid hm
  have hqn : q ≤ n := by omega
  have hqm : q ≤ m := by omega
  have hmn : ((m : Int) < (n : Int) ∧ Hid ((m : Int) = (q : Int))) ∨ (¬ (m : Int) < (n : Int) ∧ Hid ((n : Int) = (q : Int))) := by unfold Hid; omega
  clear hn hm hq
  rcases hmn with ⟨hmn, HQ⟩ | ⟨hmn, HQ⟩
  all_goals
    go_enter Tryd.func36, Tryd.ntmps36
    go_wp2
    rw [HQ.out]
    go_loopg [5, 12] (q + 1) (fun k t5 t12 wr => ∃ (i s c : Nat), i ≤ q ∧ q - i < k ∧ t12 = .int .i64 (i : Int) ∧ t5 = .int .i64 (s : Int) ∧ Hid (s = costTo l f i) ∧ s ≤ 1099511627776 * i ∧ Hid (wr = w.drewN c))
    case atStart => exact ⟨0, 0, 0, by omega, by omega, rfl, rfl, rfl, by omega, rfl⟩
    case round =>
      obtain ⟨i, s, c, hi, hk, rfl, rfl, HS, hs, HW⟩ := hrel
      obtain rfl := HW.out
      by_cases hin : i < q
      · obtain ⟨g, off, rfl, hcell⟩ := hv.spot (by omega)
        obtain ⟨g2, off2, rfl, hcell2⟩ := hu.spot (by omega)
        obtain ⟨a, hai⟩ : ∃ a, l[i]? = some a := ⟨l[i]'(by have := HN.out; omega), List.getElem?_eq_getElem _⟩
        obtain ⟨b, hbi⟩ : ∃ b, f[i]? = some b := ⟨f[i]'(by have := HM.out; omega), List.getElem?_eq_getElem _⟩
        have hc1 : w.cell? ⟨g, off + i, none⟩ = some (.int .i64 a) := hcell i _ (by rw [ints_get, hai]; rfl)
        have hc2 : w.cell? ⟨g2, off2 + i, none⟩ = some (.int .i64 b) := hcell2 i _ (by rw [ints_get, hbi]; rfl)
        have hi0 : (0 : Int) ≤ (i : Int) := Int.natCast_nonneg _
        have hi1 : (i : Int) < (q : Int) := by omega
        have hi2 : (i : Int) < (n : Int) := by omega
        have hi3 : (i : Int) < (m : Int) := by omega
        have HST : Hid (costTo l f (i + 1) = costTo l f i + valOf a * valOf b) := by unfold Hid; rw [costTo, getD_of hai, getD_of hbi]
        have hle := val_mul a b
        obtain ⟨z, hz⟩ : ∃ z, z = valOf a * valOf b := ⟨_, rfl⟩
        rw [← hz] at hle HST
        have hzI : IntKind.i64.wrap ((valOf a : Int) * (valOf b : Int)) = (z : Int) := by
          rw [show ((valOf a : Int) * (valOf b : Int)) = ((z : Nat) : Int) by rw [hz]; simp]
          exact wrap_nat z (by omega)
        have hsI : IntKind.i64.wrap ((s : Int) + (z : Int)) = ((s : Int) + (z : Int)) := by
          have := wrap_nat (s + z) (by omega)
          simpa using this
        clear hcell hcell2 hai hbi hz
        go_wp2
        go_quiet ((go_at_call 55; exact (valueOf_quiet _ _).mono fun _ _ h => ⟨h.1, _, h.2⟩))
        go_wp2
        go_roundg (gk - 1)
        case measure => omega
        case rel => exact ⟨i + 1, s + z, _, by omega, by omega, by go_num, by go_num, by unfold Hid; rw [HST.out, ← HS.out], by omega, rfl⟩
      · have hi1 : ¬ (i : Int) < (q : Int) := by omega
        obtain rfl : i = q := by omega
        go_wp2
        go_ret
        exact ⟨ret_int (by rw [HS.out]), _, rfl⟩

end Go.Proofs.YthibpnkdhbkakaaDoor
