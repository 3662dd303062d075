/-
  All items of lengths; lengths without their last zeros; the lengths of the third code in the order in which they are written.
-/
import Derived.Test.YtdmnfjicjjlnnaaGreatDoorDm17
import Derived.Test.YtdmnfjicjjlnnaaGreatDoorDm04
import Derived.Test.YtdmnfjicjjlnnaaGreatDoorProg
import Derived.StillTailTactics
import Derived.Test.YtdmnfjicjjlnnaaGreatDoorDm03
import Derived.RangeFuncNested
import Derived.RangeFuncCalls
import Derived.RangeFuncLeaves
import Derived.Shelf.Abstract
import Derived.OwnWalkIn
import Derived.TacticsInMore
import Derived.LoopNIn
import Derived.LoopIn
import Derived.Test.YtdmnfjicjjlnnaaGreatDoorDm14
namespace Go.Proofs.YtdmnfjicjjlnnaaGreatDoor
set_option maxRecDepth 5000
open Go.RowKit
theorem infoItemB : (Tryz.prog.info? 159).map (fun i => (i.zero, i.size, i.bytes)) = some (some (.agg #[.int .i64 0, .int .i64 0, .int .i64 0]), 3, 24) := by kernel_rfl
def itemsV (xs : List Item) : List Value := xs.flatMap fun x => [.int .i64 (x.1 : Int), .int .i64 (x.2.1 : Int), .int .i64 (x.2.2 : Int)]
theorem itemsV_app (a b : List Item) : itemsV (a ++ b) = itemsV a ++ itemsV b := by simp [itemsV]
theorem itemsV_length (xs : List Item) : (itemsV xs).length = xs.length * 3 := by
  induction xs with
  | nil => rfl
  | cons x xs ih =>
    have e : itemsV (x :: xs) = .int .i64 (x.1 : Int) :: .int .i64 (x.2.1 : Int) :: .int .i64 (x.2.2 : Int) :: itemsV xs := by simp [itemsV]
    rw [e]
    simp only [List.length_cons, ih]; omega
theorem itemsV_get : ∀ (l : List Item) (j : Nat) (x : Item), l[j]? = some x → (itemsV l)[j * 3]? = some (.int .i64 (x.1 : Int)) ∧ (itemsV l)[j * 3 + 1]? = some (.int .i64 (x.2.1 : Int)) ∧ (itemsV l)[j * 3 + 2]? = some (.int .i64 (x.2.2 : Int))
  | [], j, x, h => by cases h
  | y :: l, 0, x, h => by
    simp at h; subst h
    exact ⟨rfl, rfl, rfl⟩
  | y :: l, j + 1, x, h => by
    have ih := itemsV_get l j x (by simpa using h)
    have e : itemsV (y :: l) = .int .i64 (y.1 : Int) :: .int .i64 (y.2.1 : Int) :: .int .i64 (y.2.2 : Int) :: itemsV l := by simp [itemsV]
    rw [e, show (j + 1) * 3 = j * 3 + 1 + 1 + 1 by omega, show j * 3 + 1 + 1 + 1 + 1 = j * 3 + 1 + 1 + 1 + 1 by rfl]
    exact ih
theorem itemsV_one (l : List Item) : ∀ u ∈ itemsV l, u.oneCell' = true := by
  intro u hu
  obtain ⟨x, _, hx⟩ := List.mem_flatMap.1 hu
  simp only [List.mem_cons, List.not_mem_nil, or_false] at hx
  rcases hx with rfl | rfl | rfl <;> rfl
theorem Rd.item {w : World} {ao : Option Addr} {n cap : Nat} {l : List Item} (h : Rd w 3 (.slice ao n cap) n (itemsV l)) {i : Nat} {t : Item} (hi : l[i]? = some t) :
    ∃ g off, ao = some ⟨g, off, none⟩ ∧ w.cell? ⟨g, off + i * 3, none⟩ = some (.int .i64 (t.1 : Int)) ∧ w.cell? ⟨g, off + i * 3 + 1, none⟩ = some (.int .i64 (t.2.1 : Int)) ∧ w.cell? ⟨g, off + i * 3 + 2, none⟩ = some (.int .i64 (t.2.2 : Int)) := by
  have hl := h.1
  rw [itemsV_length] at hl
  have hil := (List.getElem?_eq_some_iff.1 hi).1
  obtain ⟨g, off, rfl, hc⟩ := h.spot (by omega)
  obtain ⟨h1, h2, h3⟩ := itemsV_get l i t hi
  exact ⟨g, off, rfl, hc _ _ h1, hc _ _ h2, hc _ _ h3⟩
theorem allocSzI (w : World) (o : Obj) : (w.alloc o).heap.size = w.heap.size + 1 := by
  show (w.heap.push o).size = _
  simp
theorem itemsF_end (all : List Int) : ∀ f a, all.length ≤ a → itemsF all f a = []
  | 0, _, _ => rfl
  | f + 1, a, h => by unfold itemsF; rw [if_neg (by omega)]
set_option maxHeartbeats 3200000 in
theorem itemsOf_any (v : Value) (n : Nat) (all : List Int) (w : World) (hv : Rd w 1 v n (ints all)) (hn : n < 1000) (hA : ∀ x ∈ all, 0 ≤ x ∧ x ≤ 15) :
    Calls Tryz.prog 85 #[v] w fun e w' => ∃ u, e = .returned u ∧ Held w w' [ownT 159 3 u (itemsF all n 0).length (itemsV (itemsF all n 0))] := by
  obtain ⟨i0, hi0, hz0, hz1, hz2⟩ := info_parts infoItemB
  obtain ⟨ao, cap, rfl, _, _⟩ := hv.form
  have hln : all.length = n := by have := hv.1; rw [ints_length] at this; omega
  have HV := hid (And.intro hv (And.intro hln hA))
  have hn0 : (0 : Int) ≤ (n : Int) := Int.natCast_nonneg _
  clear hv hln hA
  go_enter Tryz.func85, Tryz.ntmps85
  go_wp2
  go_loopg [3, 4] (n + 1) (fun k t3 t4 wr => ∃ (i f L : Nat) (bo : Option Addr) (bc : Nat) (Z : List Item), i ≤ n ∧ n - i < k ∧ n - i ≤ f ∧ t4 = .int .i64 (i : Int) ∧ t3 = .slice bo L bc ∧ L ≤ i ∧ Hid (L = Z.length) ∧ Hid (itemsF all n 0 = Z ++ itemsF all f i) ∧
    Hid (Held w wr [ownT 159 3 (.slice bo L bc) L (itemsV Z)]))
  case atStart => exact ⟨0, n, 0, none, 0, [], by omega, by omega, by omega, rfl, rfl, by omega, hid rfl, hid rfl, hid ((Held.start w).nil _ _)⟩
  case round =>
    obtain ⟨i, f, L, bo, bc, Z, hi, hk, hf, rfl, rfl, hL, HZ, HE, HH⟩ := hrel
    have hii0 : (0 : Int) ≤ (i : Int) := Int.natCast_nonneg _
    by_cases hin : i < n
    · have hiI : (i : Int) < (n : Int) := by omega
      obtain ⟨f, rfl⟩ : ∃ g, f = g + 1 := ⟨f - 1, by omega⟩
      have hfit := nextI_fits (all := all) (a := i) (by have := HV.out.2.1; omega)
      have HN := hid (nextItem_any (.slice ao n cap) n i all wr (HH.out.old HV.out.1) (by omega) hin HV.out.2.2)
      have hE : itemsF all n 0 = (Z ++ [(nextI all i).1]) ++ itemsF all f (i + (nextI all i).2) := by
        rw [HE.out, itemsF, if_pos (by have := HV.out.2.1; omega)]; simp
      rw [HV.out.2.1] at hfit
      generalize nextI all i = nx at HN hE hfit
      obtain ⟨⟨sy, ex, va⟩, q⟩ := nx
      simp only at hE hfit
      obtain ⟨hq1, hq2⟩ := hfit
      have HE2 := hid hE
      clear hE HE
      unfold itV at HN
      simp only at HN
      go_wp2_with fail
      refine HN.out.mono ?_
      rintro e w2 ⟨rfl, hm⟩
      have h2 := (HH.out.same hm).newObj [.int .i64 (sy : Int), .int .i64 (ex : Int), .int .i64 (va : Int)] 159
      have HS := hid (h2.swap.lit 159 3 (itemsV [(sy, ex, va)]) 1 (by decide) rfl).swap
      rw [allocSzI] at HS
      have k0 := h2.obj.cell (i := 0) rfl
      have k1 := h2.obj.cell (i := 1) rfl
      have k2 := h2.obj.cell (i := 2) rfl
      clear h2 hm HN
      go_wp2_with ((with_reducible show wpList _ _ _ (⟨some 20, _, _, _, _, _⟩ :: _) _ _); go_must (refine wpList_app_held rfl (.tmp 17) (.tmp 19) 153 rfl 159 i0 (.agg #[.int .i64 0, .int .i64 0, .int .i64 0]) 3 24 Tryz.underlying153 hi0 hz0 hz1 hz2 rfl (by decide) _ _ (itemsV Z) rfl HS.out _ 1 (itemsV [(sy, ex, va)]) rfl HS.out.swap.own.rd (itemsV_one _) (L + 1) rfl (by unfold maxLen; omega) (by omega) ?_); intro ao1 cap1 w4 h1; have HJ := hid h1; clear h1)
      go_roundg (gk - 1)
      case measure => omega
      case rel =>
        refine ⟨i + q, f, L + 1, ao1, cap1, Z ++ [(sy, ex, va)], by omega, by omega, by omega, by go_num, rfl, by omega, hid (by rw [List.length_append, ← HZ.out]; rfl), HE2, ?_⟩
        rw [itemsV_app]
        exact hid HJ.out.one
    · have hiI : ¬ (i : Int) < (n : Int) := by omega
      have hE : Hid (itemsF all n 0 = Z) := by
        have h := HE.out
        rw [itemsF_end all f i (by have := HV.out.2.1; omega), List.append_nil] at h
        exact hid h
      go_wp2
      go_ret
      rw [hE.out, ← HZ.out]
      exact ⟨_, rfl, HH.out⟩
set_option maxHeartbeats 1600000 in
theorem cut_any (ao : Option Addr) (n cap least : Nat) (l : List Int) (w : World) (hv : Rd w 1 (.slice ao n cap) n (ints l)) (hn : n < 1000) (hl : least ≤ 1000) (hsp : ∀ x, ao = some x → x.spot = none) :
    Calls Tryz.prog 65 #[.slice ao n cap, .int .i64 (least : Int)] w fun e w' => e = .returned (.slice ao (cutN l least n) cap) ∧ ∃ c, w' = w.drewN c := by
  obtain ⟨i, hi, hz0, hz1, hz2⟩ := info_parts infoIntB
  have hln : l.length = n := by have := hv.1; rw [ints_length] at this; omega
  have hnc : n ≤ cap := by
    obtain ⟨_, a, c, hh, h, _⟩ := hv
    simp only [Value.slice.injEq, true_and] at hh
    omega
  have HV := hid (And.intro hv hln)
  have hn0 : (0 : Int) ≤ (n : Int) := Int.natCast_nonneg _
  have hl0 : (0 : Int) ≤ (least : Int) := Int.natCast_nonneg _
  clear hv hln
  go_enter Tryz.func65, Tryz.ntmps65
  go_wp2
  go_loopg [5] (n + 1) (fun k t5 wr => ∃ (j d : Nat), j ≤ n ∧ j < k ∧ t5 = .int .i64 (j : Int) ∧ Hid (cutN l least n = cutN l least j) ∧ wr = w.drewN d)
  case atStart => exact ⟨n, 0, by omega, by omega, rfl, hid rfl, rfl⟩
  case round =>
    obtain ⟨j, d, hj, hk, rfl, HE, rfl⟩ := hrel
    have hj0 : (0 : Int) ≤ (j : Int) := Int.natCast_nonneg _
    have stop : cutN l least j = j → Hid (cutN l least n = j) := fun h => hid (HE.out.trans h)
    have hcut : ∀ wg, (Instr.sliceAt 32 (.slice ao n cap) none (some (.int .i64 (j : Int))) none).run Tryz.prog wg = .ok (.slice ao j cap) wg := fun wg => by
      have h := run_cut (P := Tryz.prog) (w := wg) 32 3 i 1 Tryz.underlying32 hi hz1 ao n cap 0 j none (some (.int .i64 (j : Int))) rfl ⟨_, rfl⟩ (by omega) (by omega)
      rw [h, sliced_front _ _ _ _ hsp]
    by_cases hjl : least < j
    · have hb1 : decide ((least : Int) < (j : Int)) = true := by simp; omega
      have hj1 : (j : Int) - 1 = ((j - 1 : Nat) : Int) := by omega
      have hj2 : ((j - 1 : Nat) : Int) < (n : Int) := by omega
      obtain ⟨x, hx⟩ : ∃ x, l[j - 1]? = some x := ⟨l[j - 1]'(by have := HV.out.2; omega), List.getElem?_eq_getElem _⟩
      obtain ⟨g, off, rfl, hcell⟩ := HV.out.1.spot (by omega)
      have c1 := hcell (j - 1) _ (by rw [ints_get, hx]; rfl)
      have hun : cutN l least j = if x = 0 then cutN l least (j - 1) else j := by
        obtain ⟨m, rfl⟩ : ∃ m, j = m + 1 := ⟨j - 1, by omega⟩
        rw [cutN]
        rw [show m + 1 - 1 = m by omega] at hx ⊢
        rw [hx]
        simp only [Option.getD_some, hjl, true_and]
      clear hcell hx
      by_cases hx0 : x = 0
      · have hb2 : (x == 0) = true := by simp [hx0]
        rw [if_pos hx0] at hun
        have HE2 := hid (HE.out.trans hun)
        clear hun stop
        go_wp2
        go_roundg (gk - 1)
        case measure => omega
        case rel => exact ⟨j - 1, d, by omega, by omega, by go_num, HE2, rfl⟩
      · have hb2 : (x == 0) = false := by simp [hx0]
        rw [if_neg hx0] at hun
        have HF := stop hun
        clear hun stop
        go_wp2
        go_ret
        rw [HF.out]
        exact ⟨rfl, _, rfl⟩
    · have hb1 : decide ((least : Int) < (j : Int)) = false := by simp; omega
      have HF := stop (by
        cases j with
        | zero => rfl
        | succ m => rw [cutN, if_neg (fun h => hjl h.1)])
      clear stop
      go_wp2
      go_ret
      rw [HF.out]
      exact ⟨rfl, _, rfl⟩
end Go.Proofs.YtdmnfjicjjlnnaaGreatDoor
/-
  The lengths of the third code in the order in which they are written, by the package-level array 'order'.
-/
namespace Go.Proofs.YtdmnfjicjjlnnaaGreatDoor
set_option maxRecDepth 5000
open Go.RowKit
def Ordr (w : World) : Prop := ∀ i v, (nums .i64 orderF)[i]? = some v → w.cell? ⟨1, i, none⟩ = some v
theorem Ordr.kept {w w' : World} (h : Ordr w) (hm : Mod w w' (fun _ => False)) : Ordr w' := fun i v hv => by
  have hc := h i v hv
  rw [hm.cell (World.block_lt_of_cell? w _ hc) (fun h => h)]; exact hc
section
variable {P : Program} {w : World}
theorem run_loadVar_cells (g : Nat) (ty : TypeId) (cs : List Value) (d : TypeDesc) (hc : ∀ j u, cs[j]? = some u → w.cell? ⟨g, j, none⟩ = some u)
    (hu : P.underlying ty = some d) (hd : (match d with | .struct _ | .array _ _ => true | _ => false) = true) (hi : (P.info? ty).map (·.size) = some cs.length) :
    (loadVar ty ⟨g, 0, none⟩).run P w = .ok (.agg cs.toArray) w := by
  have hl : (loadCells ⟨g, 0, none⟩ cs.length).run P w = .ok cs.toArray w :=
    run_loadCells_list (P := P) w ⟨g, 0, none⟩ cs (fun j v hv => by
      have hadd : (⟨g, 0, none⟩ : Addr).add j = ⟨g, j, none⟩ := by unfold Addr.add; split <;> simp_all
      rw [hadd]
      exact hc j v hv)
  cases hq : P.info? ty with
  | none => simp [hq] at hi
  | some i =>
    have hs : i.size = cs.length := by simpa [hq] using hi
    have hagg : (isAgg ty).run P w = .ok true w := by
      unfold isAgg
      rw [Sem.run_bind, run_underlying hu w]
      cases d <;> simp_all
    simp [loadVar, typeInfo, hq, hs, hl, hagg, sizeOf]
theorem wpList_load_cells {ops : Array Oper} {rest : List Oper} {o : Oper} {ac : Act} {Q : Exit → Act → World → Prop} (hgd : o.guard = none) (t : TypeId) (x : Operand) (ho : o.op = .load t x)
    (g : Nat) (cs : List Value) (d : TypeDesc) (hx : ac.eval x = .pointer (some ⟨g, 0, none⟩)) (hc : ∀ j u, cs[j]? = some u → w.cell? ⟨g, j, none⟩ = some u)
    (hu : P.underlying t = some d) (hd : (match d with | .struct _ | .array _ _ => true | _ => false) = true) (hi : (P.info? t).map (·.size) = some cs.length)
    (h : wpList P ops Q rest (ac.put o.dst (.agg cs.toArray)) w) : wpList P ops Q (o :: rest) ac w :=
  wpList_plain hgd fun K hK => by
    have hr := run_loadVar_cells (P := P) (w := w) g t cs d hc hu hd hi
    unfold Oper.wp execOp
    simp only [ho, hx, Instr.loadAt, Instr.sureAddr, Sem.run_bind, Sem.run_pure, Result.andThen_ok, hr]
    exact hK _ _ h
end
theorem infoIntO : (Tryz.prog.info? 3).map (fun i => (i.zero, i.size, i.bytes)) = some (some (Value.int .i64 0), 1, 8) := by kernel_rfl
theorem infoIntO2 : (Tryz.prog.info? 3).map (·.size) = some 1 := by kernel_rfl
set_option maxHeartbeats 3200000 in
theorem inOrder_any (v : Value) (hd : List Int) (w : World) (hv : Rd w 1 v 19 (ints hd)) (hO : Ordr w) :
    Calls Tryz.prog 86 #[v] w fun e w' => ∃ ao cap, e = .returned (.slice ao 19 cap) ∧ Held w w' [ownT 3 1 (.slice ao 19 cap) 19 (ints (inOrd hd))] := by
  obtain ⟨i0, hi, hz0, hz1, hz2⟩ := info_parts infoIntO
  obtain ⟨ao, cap, rfl, _, _⟩ := hv.form
  have hln : hd.length = 19 := by have := hv.1; rw [ints_length] at this; omega
  have HV := hid (And.intro hv (And.intro hln hO))
  clear hv hln hO
  go_enter Tryz.func86, Tryz.ntmps86
  go_wp2_with first
    | ((with_reducible show wpList _ _ _ (⟨some 6, _, _, _, _, _⟩ :: _) _ _); refine wpList_make_own rfl 32 (.const (.int .i64 19)) (.const (.int .i64 19)) rfl 3 i0 (.int .i64 0) 1 Tryz.underlying32 hi hz0 hz1 .i64 19 rfl rfl (by rw [hz2]; omega) (by unfold maxLen; omega) ?_; intro v1 w2 zs ho1 hm1 hf1 hv1 hzs; rw [made_cellsB _ _ rfl] at hzs; subst hzs; subst hv1; have H1 := hid ((Held.start w).pushOwn ho1 hm1 hf1); have HO2 := hid (HV.out.2.2.kept hm1); clear hm1 hf1 ho1)
    | ((with_reducible show wpList _ _ _ (⟨some 7, _, _, _, _, _⟩ :: _) _ _); refine wpList_load_cells rfl 157 (.global 1) rfl 1 (nums .i64 orderF) _ rfl HO2.out Tryz.underlying157 rfl (by kernel_rfl) ?_)
    | fail
  have H2 : Hid (Held w w2 [ownT 3 1 (.slice (some ⟨w.heap.size, 0, none⟩) 19 19) 19 (ints ((inOrd hd).take 0 ++ List.replicate (19 - 0) 0))]) := by
    have h := H1.out
    rw [show List.replicate 19 (Value.int .i64 0) = ints ((inOrd hd).take 0 ++ List.replicate (19 - 0) 0) by simp [ints]] at h
    exact hid h
  clear H1 HO2
  go_loopg [8] 20 (fun k t8 wr => ∃ i : Nat, i ≤ 19 ∧ 19 - i < k ∧ t8 = .int .i64 (i : Int) ∧ Hid (Held w wr [ownT 3 1 (.slice (some ⟨w.heap.size, 0, none⟩) 19 19) 19 (ints ((inOrd hd).take i ++ List.replicate (19 - i) 0))]))
  case atStart => exact ⟨0, by omega, by omega, rfl, H2⟩
  case round =>
    obtain ⟨i, hi2, hk, rfl, HH⟩ := hrel
    have hi0 : (0 : Int) ≤ (i : Int) := Int.natCast_nonneg _
    by_cases hin : i < 19
    · have hiI : (i : Int) < 19 := by omega
      have hob : orderF[i]? = some (orderAt i) := by
        unfold orderAt
        have : i < orderF.length := hin
        rw [List.getElem?_eq_getElem this]; rfl
      have hol := orderAt_lt i hin
      obtain ⟨x, hx⟩ : ∃ x, hd[orderAt i]? = some x := ⟨hd[orderAt i]'(by have := HV.out.2.1; omega), List.getElem?_eq_getElem _⟩
      have hset : (ints ((inOrd hd).take i ++ List.replicate (19 - i) 0)).set i (.int .i64 x) = ints ((inOrd hd).take (i + 1) ++ List.replicate (19 - (i + 1)) 0) := by
        have h1 : (inOrd hd)[i]? = some x := by rw [inOrd_get hd hin, hx]; rfl
        have hl : ((inOrd hd).take i).length = i := by rw [List.length_take, inOrd_length]; omega
        have h2 : (ints ((inOrd hd).take i ++ List.replicate (19 - i) 0)).set i (.int .i64 x) = ints (((inOrd hd).take i ++ List.replicate (19 - i) 0).set i x) := by simp [ints, List.map_set]
        rw [h2, List.set_append_right _ _ (by omega), hl, Nat.sub_self, List.take_add_one, h1, show 19 - i = (19 - (i + 1)) + 1 by omega, List.replicate_succ]
        simp
      obtain ⟨g, off, rfl, hcell⟩ := (HH.out.old HV.out.1).spot (by omega)
      have c1 := hcell (orderAt i) _ (by rw [ints_get, hx]; rfl)
      obtain ⟨g2, off2, hg2, hc2, hfr, hput⟩ := HH.out.own.site (by omega)
      simp only [Option.some.injEq, Addr.mk.injEq, and_true] at hg2
      obtain ⟨rfl, rfl⟩ := hg2
      have f1 := hfr i
      have hcl : (ints ((inOrd hd).take i ++ List.replicate (19 - i) 0))[i]? = some (.int .i64 0) := by
        have hl : ((inOrd hd).take i).length = i := by rw [List.length_take, inOrd_length]; omega
        rw [ints_get, List.getElem?_append_right (by omega), hl, Nat.sub_self, List.getElem?_replicate, if_pos (by omega)]; rfl
      have h5 := HH.out.putOwn (hput i (.int .i64 x) hin) (Mod.set wr w.heap.size (0 + i) _)
      rw [hset] at h5
      obtain ⟨ob, hob2⟩ : ∃ ob, ob = orderAt i := ⟨_, rfl⟩
      rw [← hob2] at hob hol c1
      have hoI : (ob : Int) < 19 := by omega
      have ho0 : (0 : Int) ≤ (ob : Int) := Int.natCast_nonneg _
      have c2 := hc2 i _ hcl
      rw [Nat.zero_add] at c2 f1 h5
      have H5 := hid h5
      clear hcell hput hfr hcl hc2 hset hx h5 hob2
      go_wp2_with ((with_reducible show wpList _ _ _ (⟨some 11, _, _, _, _, _⟩ :: _) _ _); refine wpList_index_arr rfl 157 (.tmp 7) (.tmp 8) rfl 3 19 _ Tryz.underlying157 Tryz.underlying3 rfl infoIntO2 .i64 orderF .i64 i ob rfl rfl hin hob ?_)
      go_roundg (gk - 1)
      case measure => omega
      case rel => exact ⟨i + 1, by omega, by omega, by go_num, H5⟩
    · have hiI : ¬ (i : Int) < 19 := by omega
      have hE : Hid (Held w wr [ownT 3 1 (.slice (some ⟨w.heap.size, 0, none⟩) 19 19) 19 (ints (inOrd hd))]) := by
        have h := HH.out
        rw [List.take_of_length_le (by rw [inOrd_length]; omega), show 19 - i = 0 by omega, List.replicate_zero, List.append_nil] at h
        exact hid h
      go_wp2
      go_ret
      exact ⟨_, _, rfl, hE.out⟩
end Go.Proofs.YtdmnfjicjjlnnaaGreatDoor
/-
  The program's Cost.
-/
namespace Go.Proofs.YtdmnfjicjjlnnaaGreatDoor
set_option maxRecDepth 5000
open Go.RowKit
theorem valueOf_any (a : Int) (w : World) :
    Calls Tryz.prog 102 #[.int .i64 a] w fun e w' => e = .returned (.int .i64 ((valOf a : Nat) : Int)) ∧ w = w' := by
  have h3 : a < 0 ∨ 0 ≤ a ∧ 1048576 < a ∨ 0 ≤ a ∧ a ≤ 1048576 := by omega
  rcases h3 with h | ⟨h, h2⟩ | ⟨h, h2⟩
  · have HI : Hid (valOf a = 0) := by unfold Hid valOf; rw [if_neg (by omega)]
    go_enter Tryz.func102, Tryz.ntmps102
    go_wp2
    go_ret
    exact ⟨by rw [HI.out]; rfl, rfl⟩
  · have HI : Hid (valOf a = 0) := by unfold Hid valOf; rw [if_neg (by omega)]
    go_enter Tryz.func102, Tryz.ntmps102
    go_wp2
    go_ret
    exact ⟨by rw [HI.out]; rfl, rfl⟩
  · have HI : Hid ((valOf a : Int) = a) := by unfold Hid valOf; rw [if_pos ⟨h, h2⟩]; omega
    have h2' : ¬ 1048576 < a := by omega
    go_enter Tryz.func102, Tryz.ntmps102
    go_wp2
    go_ret
    exact ⟨by rw [HI.out]; rfl, rfl⟩
theorem valueOf_quiet (a : Int) (w : World) :
    Calls Tryz.prog 102 #[.int .i64 a] w fun e w' => e = .returned (.int .i64 ((valOf a : Nat) : Int)) ∧ w' = w :=
  (valueOf_any a w).mono fun _ _ ⟨h1, h2⟩ => ⟨h1, h2.symm⟩
set_option maxHeartbeats 1600000 in
theorem cost_any (v u : Value) (l f : List Int) (w : World) (hv : Rd w 1 v l.length (ints l)) (hu : Rd w 1 u f.length (ints f)) (hl : l.length < 1000000) :
    Calls Tryz.prog 76 #[v, u] w fun e w' => e = .returned (.int .i64 ((costTo l f (min l.length f.length) : Nat) : Int)) ∧ ∃ c, w' = w.drewN c := by
  obtain ⟨ao, cap, rfl, _, _⟩ := hv.form
  obtain ⟨bo, cap2, rfl, _, _⟩ := hu.form
  obtain ⟨n, hn⟩ : ∃ n, n = l.length := ⟨_, rfl⟩
  obtain ⟨m, hm⟩ : ∃ m, m = f.length := ⟨_, rfl⟩
  obtain ⟨q, hq⟩ : ∃ q, q = min l.length f.length := ⟨_, rfl⟩
  rw [← hq]
  rw [← hn] at hv hl hq ⊢
  rw [← hm] at hu hq ⊢
  have HN := hid hn
  have HM := hid hm
  have hqn : q ≤ n := by omega
  have hqm : q ≤ m := by omega
  have hmn : ((m : Int) < (n : Int) ∧ Hid ((m : Int) = (q : Int))) ∨ (¬ (m : Int) < (n : Int) ∧ Hid ((n : Int) = (q : Int))) := by unfold Hid; omega
  clear hn hm hq
  rcases hmn with ⟨hmn, HQ⟩ | ⟨hmn, HQ⟩
  all_goals
    go_enter Tryz.func76, Tryz.ntmps76
    go_wp2
    rw [HQ.out]
    go_loopg [5, 12] (q + 1) (fun k t5 t12 wr => ∃ (i s c : Nat), i ≤ q ∧ q - i < k ∧ t12 = .int .i64 (i : Int) ∧ t5 = .int .i64 (s : Int) ∧ Hid (s = costTo l f i) ∧ s ≤ 1099511627776 * i ∧ Hid (wr = w.drewN c))
    case atStart => exact ⟨0, 0, 0, by omega, by omega, rfl, rfl, rfl, by omega, rfl⟩
    case round =>
      obtain ⟨i, s, c, hi, hk, rfl, rfl, HS, hs, HW⟩ := hrel
      obtain rfl := HW.out
      by_cases hin : i < q
      · obtain ⟨g, off, rfl, hcell⟩ := hv.spot (by omega)
        obtain ⟨g2, off2, rfl, hcell2⟩ := hu.spot (by omega)
        obtain ⟨a, hai⟩ : ∃ a, l[i]? = some a := ⟨l[i]'(by have := HN.out; omega), List.getElem?_eq_getElem _⟩
        obtain ⟨b, hbi⟩ : ∃ b, f[i]? = some b := ⟨f[i]'(by have := HM.out; omega), List.getElem?_eq_getElem _⟩
        have hc1 : w.cell? ⟨g, off + i, none⟩ = some (.int .i64 a) := hcell i _ (by rw [ints_get, hai]; rfl)
        have hc2 : w.cell? ⟨g2, off2 + i, none⟩ = some (.int .i64 b) := hcell2 i _ (by rw [ints_get, hbi]; rfl)
        have hi0 : (0 : Int) ≤ (i : Int) := Int.natCast_nonneg _
        have hi1 : (i : Int) < (q : Int) := by omega
        have hi2 : (i : Int) < (n : Int) := by omega
        have hi3 : (i : Int) < (m : Int) := by omega
        have HST : Hid (costTo l f (i + 1) = costTo l f i + valOf a * valOf b) := by unfold Hid; rw [costTo, getD_of hai, getD_of hbi]
        have hle := val_mul a b
        obtain ⟨z, hz⟩ : ∃ z, z = valOf a * valOf b := ⟨_, rfl⟩
        rw [← hz] at hle HST
        have hzI : IntKind.i64.wrap ((valOf a : Int) * (valOf b : Int)) = (z : Int) := by
          rw [show ((valOf a : Int) * (valOf b : Int)) = ((z : Nat) : Int) by rw [hz]; simp]
          exact wrap_nat z (by omega)
        have hsI : IntKind.i64.wrap ((s : Int) + (z : Int)) = ((s : Int) + (z : Int)) := by
          have := wrap_nat (s + z) (by omega)
          simpa using this
        clear hcell hcell2 hai hbi hz
        go_wp2
        go_quiet ((go_at_call 102; exact (valueOf_quiet _ _).mono fun _ _ h => ⟨h.1, _, h.2⟩))
        go_wp2
        go_roundg (gk - 1)
        case measure => omega
        case rel => exact ⟨i + 1, s + z, _, by omega, by omega, by go_num, by go_num, by unfold Hid; rw [HST.out, ← HS.out], by omega, rfl⟩
      · have hi1 : ¬ (i : Int) < (q : Int) := by omega
        obtain rfl : i = q := by omega
        go_wp2
        go_ret
        exact ⟨ret_int (by rw [HS.out]), _, rfl⟩
end Go.Proofs.YtdmnfjicjjlnnaaGreatDoor
/-
  The contents of a block of tokens made: the two tables, and how many bits they take.
-/
namespace Go.Proofs.YtdmnfjicjjlnnaaGreatDoor
set_option maxRecDepth 5000
open Go.RowKit
theorem Blk.part {w : World} {C : Nat} {A B D : List Value} {T : TypeId} (h : Blk w C (A ++ (B ++ D)) T) (hB : B.length ≤ maxLen) : Rd w 1 (.slice (some ⟨C, A.length, none⟩) B.length B.length) B.length B :=
  ⟨by simp, _, _, rfl, Nat.le_refl _, hB, by simp, .inr ⟨C, A.length, rfl, fun j u hu => h.cell (by
    have hj := (List.getElem?_eq_some_iff.1 hu).1
    rw [List.getElem?_append_right (by omega), Nat.add_sub_cancel_left, List.getElem?_append_left hj]; exact hu)⟩⟩
theorem ret_cell1 {P : Program} {w : World} {fn : Func} {p : Tmp} {t : TypeId} (hf : fn.results = #[.cell p t]) {R : Ending → World → Prop} {a : Act}
    (d : TypeDesc) (n : Nat) (ht : P.underlying t = some d) (hd : isArr d = true) (hi : (P.info? t).map (·.size) = some n)
    (B : Nat) (cs : List Value) (T : TypeId) (hp : a.tmps.getD p undef = .pointer (some ⟨B, 0, none⟩)) (hl : cs.length = n) (hB : Blk w B cs T)
    (hdf : a.defers = []) (h : R (.returned (.agg cs.toArray)) w) : bodyPost P fn R .ret a w :=
  bodyPost_ret (v := .agg cs.toArray) (results_cell_row hf a.tmps w B T cs.toArray (0, 0) d hp hB ht (by cases d <;> simp_all [isArr]) (by rw [hi]; simp [hl])) hdf h
theorem nums_natI (l : List Nat) : nums .i64 l = ints (natI l) := by simp [nums, ints, natI]
section
variable {w : World} {C : Nat} {l : List Tok} {T : TypeId}
theorem cnt_lit (h : Blk w C (nums .i64 (cntE l)) T) : Rd w 1 (.slice (some ⟨C, 0, none⟩) 286 286) 286 (ints (natI (litF l))) := by
  have e : nums .i64 (cntE l) = [] ++ (ints (natI (litF l)) ++ nums .i64 (dstF l ++ [extN l])) := by
    rw [← nums_natI]; simp [cntE, nums]
  rw [e] at h
  have h2 := h.part (by simp [ints, natI, litF]; decide)
  have h3 : (ints (natI (litF l))).length = 286 := by rw [ints_length, natI_length, litF_length]
  rw [h3] at h2
  exact h2
theorem cnt_dst (h : Blk w C (nums .i64 (cntE l)) T) : Rd w 1 (.slice (some ⟨C, 286, none⟩) 30 30) 30 (ints (natI (dstF l))) := by
  have e : nums .i64 (cntE l) = nums .i64 (litF l) ++ (ints (natI (dstF l)) ++ nums .i64 [extN l]) := by
    rw [← nums_natI]; simp [cntE, nums]
  rw [e] at h
  have h2 := h.part (by simp [ints, natI, dstF]; decide)
  have h3 : (ints (natI (dstF l))).length = 30 := by rw [ints_length, natI_length, dstF_length]
  have h4 : (nums .i64 (litF l)).length = 286 := by simp [nums, litF_length]
  rw [h3, h4] at h2
  exact h2
theorem cnt_ext (h : Blk w C (nums .i64 (cntE l)) T) : w.cell? ⟨C, 316, none⟩ = some (.int .i64 (extN l : Int)) := h.cell (by
  have e : nums .i64 (cntE l) = (nums .i64 (litF l) ++ nums .i64 (dstF l)) ++ nums .i64 [extN l] := by simp [cntE, nums]
  have h4 : (nums .i64 (litF l) ++ nums .i64 (dstF l)).length = 316 := by simp [nums, litF_length, dstF_length]
  rw [e, List.getElem?_append_right (by omega), h4]; rfl)
theorem extN_le : ∀ L : List Tok, (∀ t ∈ L, soundB t = true) → extN L ≤ 18 * L.length
  | [], _ => Nat.le_refl _
  | t :: L, h => by
    have h1 := extN_le L fun s hs => h s (List.mem_cons_of_mem _ hs)
    have h2 := xtra_le (h t (List.mem_cons_self ..))
    simp only [extN, List.map_cons, List.sum_cons, List.length_cons] at h1 ⊢
    omega
set_option maxHeartbeats 3200000 in
theorem newCoded_any (lo : Option Addr) (ln lc : Nat) (litv dv : Value) (l : List Tok) (n1 n2 C : Nat) (lit dist : List Int) (hC : Blk w C (nums .i64 (cntE l)) 130) (h1 : Rd w 1 litv n1 (ints lit)) (h2 : Rd w 1 dv n2 (ints dist)) (c1 : checkOf lit 15 = 0) (c2 : checkOf dist 15 = 0) (hl : l.length < 1048576) (hs : ∀ t ∈ l, soundB t = true) (hb : byteOK l) :
    Calls Tryz.prog 61 #[.slice lo ln lc, .pointer (some ⟨C, 0, none⟩), litv, dv] w fun e w' => ∃ B1 B2, e = .returned (codV (.slice lo ln lc) B1 B2 (toksB lit dist l).length) ∧ Held w w' [tabT lit B1, tabT dist B2] := by
  have k1 := check_is (m := 15) c1
  have k2 := check_is (m := 15) c2
  have hn1 : n1 = lit.length := by have := h1.1; rw [ints_length] at this; omega
  have hn2 : n2 = dist.length := by have := h2.1; rw [ints_length] at this; omega
  have hlen := toksB_length (lit := lit) (dist := dist) hs hb
  have hsh := toksB_short (lit := lit) (dist := dist) k1.2.1 k2.2.1 hs
  have he := extN_le l hs
  subst hn1
  subst hn2
  have e1 : costTo lit (natI (litF l)) (min lit.length (natI (litF l)).length) = csum lit (litE l) 286 := by
    have h := cost_csum (l := lit) (g := litE l) (N := 286) k1.2.1 fun k _ => Nat.le_trans (litE_le l k) (by omega)
    unfold natI litF
    exact h
  have e2 : costTo dist (natI (dstF l)) (min dist.length (natI (dstF l)).length) = csum dist (dstN l) 30 := by
    have h := cost_csum (l := dist) (g := dstN l) (N := 30) k2.2.1 fun k _ => Nat.le_trans (dstN_le l k) (by omega)
    unfold natI dstF
    exact h
  obtain ⟨x, hx⟩ : ∃ x, x = csum lit (litE l) 286 := ⟨_, rfl⟩
  obtain ⟨y, hy⟩ : ∃ y, y = csum dist (dstN l) 30 := ⟨_, rfl⟩
  obtain ⟨u, hu⟩ : ∃ u, u = extN l := ⟨_, rfl⟩
  rw [← hx, ← hy, ← hu] at hlen
  rw [← hx] at e1
  rw [← hy] at e2
  obtain ⟨ao, cap, rfl, _, _⟩ := h1.form
  obtain ⟨bo, cap2, rfl, _, _⟩ := h2.form
  have HA := (Held.start w).newObj [.slice none 0 0, .pointer none, .pointer none, .int .i64 0] 108
  have HB1 := hid (build_any (.slice ao lit.length cap) lit.length lit 15 _ (h1.kept HA.mod (fun _ _ h => h)) (by omega))
  rw [c1] at HB1
  have HA2 := hid HA
  have HR := hid (And.intro h1 (And.intro h2 hC))
  have HE := hid (And.intro e1 e2)
  have HK := hid (And.intro c2 (And.intro k1.1 k2.1))
  have hxs : x < 100000000 := by omega
  have hys : y < 100000000 := by omega
  have hus : u < 100000000 := by omega
  have HLN := hid hlen
  have HU := hid hu
  clear HA h1 h2 hC e1 e2 k1 k2 c1 c2 hx hy hu hs hb hlen hsh he
  go_enter Tryz.func61, Tryz.ntmps61
  go_wp2_with fail
  refine HB1.out.mono ?_
  rintro e w1 (⟨h0, _⟩ | ⟨_, B1, rfl, hh⟩)
  · exact absurd rfl h0
  have H1 := hid (HA2.out.frame hh)
  have HB2 := hid (build_any (.slice bo dist.length cap2) dist.length dist 15 _ (HR.out.2.1.kept H1.out.mod (fun _ _ h => h)) (by have := HK.out.2.2; omega))
  rw [HK.out.1] at HB2
  clear hh HB1 HA2
  go_wp2_with fail
  refine HB2.out.mono ?_
  rintro e w2 (⟨h0, _⟩ | ⟨_, B2, rfl, hh⟩)
  · exact absurd rfl h0
  have H2 := hid (H1.out.frame hh)
  have hC2 := HR.out.2.2.kept H2.out.mod (fun h => h)
  have kx := cnt_ext hC2
  rw [← HU.out] at kx
  have HC1 := hid (fun k => cost_any (.slice ao lit.length cap) (.slice (some ⟨C, 0, none⟩) (natI (litF l)).length 286) lit (natI (litF l)) (w2.drewN k) ((HR.out.1.kept H2.out.mod (fun _ _ h => h)).drewTo rfl) ((by have h := cnt_lit hC2; rw [natI_length, litF_length]; exact h : Rd w2 1 (.slice (some ⟨C, 0, none⟩) (natI (litF l)).length 286) (natI (litF l)).length (ints (natI (litF l)))).drewTo rfl) (by have := HK.out.2.1; omega))
  have HC2 := hid (fun k => cost_any (.slice bo dist.length cap2) (.slice (some ⟨C, 286, none⟩) (natI (dstF l)).length 30) dist (natI (dstF l)) (w2.drewN k) ((HR.out.2.1.kept H2.out.mod (fun _ _ h => h)).drewTo rfl) ((by have h := cnt_dst hC2; rw [natI_length, dstF_length]; exact h : Rd w2 1 (.slice (some ⟨C, 286, none⟩) (natI (dstF l)).length 30) (natI (dstF l)).length (ints (natI (dstF l)))).drewTo rfl) (by have := HK.out.2.2; omega))
  rw [HE.out.1, show (natI (litF l)).length = 286 by rw [natI_length, litF_length]] at HC1
  rw [HE.out.2, show (natI (dstF l)).length = 30 by rw [natI_length, dstF_length]] at HC2
  clear hh HB2 H1 hC2
  go_wp2_with fail
  go_quiet ((go_at_call 76; first | ((with_reducible show Calls _ _ #[.slice ao _ _, _] _ _); exact (HC1.out _).mono fun _ _ h => ⟨h.1, _, h.2.choose_spec.trans (drew_add _ _ _)⟩) | exact (HC2.out _).mono fun _ _ h => ⟨h.1, _, h.2.choose_spec.trans (drew_add _ _ _)⟩))
  have h3 : Held w (w2.drewN nq) (objT w.heap.size [.slice none 0 0, .pointer none, .pointer none, .int .i64 0] 108 :: [tabT dist B2, tabT lit B1]) := (H2.out.drewN nq).third
  generalize w2.drewN nq = w3 at h3 ⊢
  have f0 := h3.obj.frozen 0
  have f1 := h3.obj.frozen 1
  have f2 := h3.obj.frozen 2
  have f3 := h3.obj.frozen 3
  have k0 := h3.obj.cell (i := 0) rfl
  have k1 := h3.obj.cell (i := 1) rfl
  have k2 := h3.obj.cell (i := 2) rfl
  have k3 := h3.obj.cell (i := 3) rfl
  have H5 := hid ((((h3.setObj 0 (.slice lo ln lc)).setObj 1 (.pointer (some ⟨B1, 0, none⟩))).setObj 2 (.pointer (some ⟨B2, 0, none⟩))).setObj 3 (.int .i64 ((x : Int) + (y : Int) + (u : Int))))
  clear h3 H2 HC1 HC2 kx
  go_wp2
  try simp only [Exit.inBlock, Exit.then]
  refine ret_cell1 rfl _ 4 Tryz.underlying108 rfl (by kernel_rfl) w.heap.size [.slice lo ln lc, .pointer (some ⟨B1, 0, none⟩), .pointer (some ⟨B2, 0, none⟩), .int .i64 ((x : Int) + (y : Int) + (u : Int))] 108 rfl rfl H5.out.obj rfl ?_
  refine ⟨B1, B2, ?_, H5.out.drop.swap⟩
  rw [HLN.out]; rfl
end
end Go.Proofs.YtdmnfjicjjlnnaaGreatDoor
/-
  A range over a function whose rounds come in a known order and never leave the loop: what holds when k rounds are over. No program is named here.
-/
namespace Go.Proofs.YtdmnfjicjjlnnaaGreatDoor
set_option maxRecDepth 5000
open Go.RowKit
def oneRound (B : Nat) (W : World) (R : World → Prop) : Exit → Act → World → Prop
  | .normal, _, W' => KeepsFrom B W W' ∧ R W'
  | _, _, _ => False
theorem range_rounds {F : Fence} {n : Nat} {P : Program} {g : Operand} {ps : Array Tmp} {assign body : Code} {Q : Exit → Act → World → Prop} {a : Act} {w : World}
    (hro : F.round = none) (h1 : 1 ≤ n) {gf : Nat} {lb : Array Value} (hg : a.eval g = .func (.func gf) #[] lb) (hFg : F.fn gf) (eg : ∀ args w, (callFunc gf args).run P w = .ok (.enter gf args) w)
    (N : Nat) (args : Nat → Array Value) (hps : ∀ k, (args k).size = ps.size) (I : Nat → World → Prop) (hI : ∀ k W W', I k W → Below w.heap.size W W' → I k W') (h0 : I 0 w)
    (hit : ∀ (l : Nat) (J : Nat → World → Prop) (W : World), (∀ k W, J k W → I k W) → (∀ k W, k < N → J k W → YieldAt F (n - 1 - 1) P l (args k) W fun e W' => e = .returned (.bool true) ∧ J (k + 1) W') → J 0 W →
      CallsIn F (n - 1) P gf (#[.func (.yield l) #[] #[]] ++ lb) W fun e W' => (∃ v, e = .returned v) ∧ J N W')
    (a₁ : Nat → Act)
    (hassign : ∀ (l k : Nat) (W : World) (K : Act → World → Prop), K (a₁ k) W →
      assign.wpIn (F.inRound l) (n - 1 - 1) P (Exit.then K (fun _ _ _ => False)) { tmps := (ps.zip (args k)).foldl (fun t (p, v) => t.setIfInBounds p v) a.tmps, defers := [] } W)
    (hbody : ∀ (l k : Nat) (W : World), k < N → I k W → w.heap.size ≤ W.heap.size → body.wpIn (F.inRound l) (n - 1 - 1) P (oneRound w.heap.size W (I (k + 1))) (a₁ k) W)
    (hdone : ∀ (D : Nat) (W : World), w.heap.size ≤ D → I N W → W.heap[D]? = some (.deferred (some [])) → Q .normal { a with defers := { target := .collected D, args := #[] } :: a.defers } W) :
    (Code.rangeFunc g ps assign body).wpIn F n P Q a w := by
  refine wpIn_rangeFunc fun fn hfn => ?_
  obtain ⟨book, hbook⟩ : ∃ book : LoopState → Loop, book = fun s => { state := s, pending := none, fn, tmps := a.tmps, params := ps, assign, body, defers := w.heap.size } := ⟨_, rfl⟩
  obtain ⟨b, hb⟩ : ∃ b, b = w.heap.size := ⟨_, rfl⟩
  have hsz : (w.alloc (.deferred (some []))).heap.size = b + 1 := by rw [hb]; simp
  obtain ⟨V, hV⟩ : ∃ V, V = (w.alloc (.deferred (some []))).alloc (.loop (book .ready)) := ⟨_, rfl⟩
  have hVd : V.heap[b]? = some (.deferred (some [])) := by
    rw [hV, Below.heap_alloc _ _ _ (by omega), hb]; exact World.alloc_heap_new w _
  have hVl : V.heap[b + 1]? = some (.loop (book .ready)) := by
    have := World.alloc_heap_new (w.alloc (.deferred (some []))) (.loop (book .ready))
    rw [hsz] at this; rw [hV]; exact this
  have hVI : I 0 V := hI 0 w V h0 (by
    rw [hV]
    exact ((Below.refl _ w).alloc (Nat.le_refl _) _).alloc (by simp) _)
  -- a step on the record is a step behind the loop's start
  have far : ∀ (W : World) (o : Obj), b + 1 < W.heap.size → Below w.heap.size W (W.putObj (b + 1) o) := fun W o h =>
    ⟨rfl, rfl, rfl, by simp, fun j hj => World.putObj_heap_other (by omega)⟩
  refine ⟨b + 1, [{ target := .collected b, args := #[] }], V, { target := .fn (.func gf) lb, args := #[.func (.yield (b + 1)) #[] #[]] }, V, gf, #[.func (.yield (b + 1)) #[] #[]] ++ lb, V, ?_, ?_, ?_, ?_, fun _ => h1, ?_⟩
  · rw [hro, hV, hbook, hb]; exact run_enterLoop_outer _ _ _ _ _
  · simp only [resolve, hg]
    simp [go_sem]
  · intro f' hf'
    simp [Target.leads] at hf'
    rw [← hf']; exact hFg
  · simp [invoke, go_sem, eg]
  · refine (hit (b + 1) (fun k W => I k W ∧ W.heap[b + 1]? = some (.loop (book .ready)) ∧ W.heap[b]? = some (.deferred (some []))) V (fun k W h => h.1) ?_ ⟨hVI, hVl, hVd⟩).mono ?_
    · rintro k W hk ⟨hi, hl, hd⟩
      have hlt : b + 1 < W.heap.size := (Array.getElem?_eq_some_iff.1 hl).1
      have hy := run_yield (P := P) (args := args k) hl (by rw [hbook]; exact hps k)
      rw [hbook] at hy
      have hbr := run_beginRound (P := P) hl (by rw [hbook])
      refine ⟨fn, _, assign, body, hy, roundIn_of_wpIn hfn (hassign _ k W _ ⟨_, hbr, ?_⟩)⟩
      refine wpIn_mono (hbody (b + 1) k _ hk (hI k W _ hi (far W _ hlt)) (by rw [World.putObj_size]; omega)) ?_
      rintro e a3 W3 hp
      cases e with
      | normal =>
        obtain ⟨hk3, hi3⟩ := hp
        have hl3 := hk3.same (b + 1) _ (by omega) (World.putObj_heap_same hlt) rfl
        have hd3 := hk3.same b _ (by omega) ((World.putObj_heap_other (by omega)).trans hd) rfl
        have hlt3 : b + 1 < W3.heap.size := (Array.getElem?_eq_some_iff.1 hl3).1
        have her := run_endRound (P := P) none hl3
        refine ⟨_, _, her, rfl, hI _ _ _ hi3 (far W3 _ hlt3), ?_, (World.putObj_heap_other (by omega)).trans hd3⟩
        rw [World.putObj_heap_same hlt3, hbook]; rfl
      | ret => exact hp.elim
      | exit id => exact hp.elim
      | goto t => exact hp.elim
      | panic ch => exact hp.elim
      | outgrown => exact hp.elim
    · rintro e W2 ⟨⟨v, rfl⟩, hi, hl, hd⟩
      have hlt : b + 1 < W2.heap.size := (Array.getElem?_eq_some_iff.1 hl).1
      have hel := run_endLoop (P := P) hl (by rw [hbook]; simp)
      refine ⟨none, _, by rw [hel, hbook], ?_⟩
      exact hdone b _ (by omega) (hI _ _ _ hi (far W2 _ hlt)) ((World.putObj_heap_other (by omega)).trans hd)
end Go.Proofs.YtdmnfjicjjlnnaaGreatDoor
/-
  The least cost by how many codes there are of each length: what the reference's table holds. No program is named here.
-/
namespace Go.Proofs.YtdmnfjicjjlnnaaGreatDoor
set_option maxRecDepth 5000
theorem total_append (a b : List Nat) : total (a ++ b) = total a + total b := by
  induction a with
  | nil => simp [total]
  | cons x a ih => rw [List.cons_append, total, total, ih]; omega
def Up : List Nat → Prop
  | [] => True
  | a :: l => (∀ b ∈ l, a ≤ b) ∧ Up l
end Go.Proofs.YtdmnfjicjjlnnaaGreatDoor
/-
  Frequencies in their order: lengths for them are lengths for the symbols, and the other way round. No program is named here.
-/
namespace Go.Proofs.YtdmnfjicjjlnnaaGreatDoor
set_option maxRecDepth 5000
theorem kr_perm {l l2 : List Nat} (h : l.Perm l2) : kr l = kr l2 := by
  induction h with
  | nil => rfl
  | cons x _ ih => rw [kr, kr, ih]
  | swap x y l => simp only [kr]; omega
  | trans _ _ ih1 ih2 => rw [ih1, ih2]
theorem carry {p q : List Nat} (h : p.Perm q) : ∀ lp : List Nat, lp.length = p.length → ∃ lq : List Nat, lq.length = q.length ∧ lq.Perm lp ∧ cst lq q = cst lp p := by
  induction h with
  | nil => intro lp hl; exact ⟨lp, hl, List.Perm.refl _, rfl⟩
  | cons x _ ih =>
    intro lp hl
    match lp, hl with
    | a :: lp, hl =>
      obtain ⟨lq, h1, h2, h3⟩ := ih lp (by simpa using hl)
      exact ⟨a :: lq, by simp [h1], h2.cons a, by rw [cst, cst, h3]⟩
  | swap x y l =>
    intro lp hl
    match lp, hl with
    | a :: b :: lp, hl => exact ⟨b :: a :: lp, by simpa using hl, List.Perm.swap a b lp, by simp only [cst]; omega⟩
  | trans _ _ ih1 ih2 =>
    intro lp hl
    obtain ⟨lq, h1, h2, h3⟩ := ih1 lp hl
    obtain ⟨lr, k1, k2, k3⟩ := ih2 lq h1
    exact ⟨lr, k1, k2.trans h2, by rw [k3, h3]⟩
def came (f : List Nat) : List Nat := f.filter fun b => decide (0 < b)
theorem gather : ∀ (f l : List Nat), l.length = f.length → (∀ (i a b : Nat), l[i]? = some a → f[i]? = some b → (0 < a ↔ 0 < b)) →
    ∃ lq : List Nat, lq.length = (came f).length ∧ (∀ a ∈ lq, 0 < a ∧ a ∈ l) ∧ kr lq = kr l ∧ cst lq (came f) = cst l f
  | [], l, h, _ => by
    obtain rfl : l = [] := List.eq_nil_of_length_eq_zero (by simpa using h)
    exact ⟨[], rfl, by simp, rfl, rfl⟩
  | b :: f, l, h, hs => by
    match l, h, hs with
    | a :: l, h, hs =>
      obtain ⟨lq, h1, h2, h3, h4⟩ := gather f l (by simpa using h) fun i x y hx hy => hs (i + 1) x y (by simpa using hx) (by simpa using hy)
      have h0 := hs 0 a b rfl rfl
      by_cases hb : 0 < b
      · have hc : came (b :: f) = b :: came f := by simp [came, hb]
        rw [hc]
        refine ⟨a :: lq, by simp [h1], fun x hx => ?_, by rw [kr, kr, h3], by rw [cst, cst, h4]⟩
        rcases List.mem_cons.1 hx with hx | hx
        · subst hx; exact ⟨h0.2 hb, List.mem_cons_self⟩
        · exact ⟨(h2 x hx).1, List.mem_cons_of_mem _ (h2 x hx).2⟩
      · have hc : came (b :: f) = came f := by simp [came, hb]
        rw [hc]
        obtain rfl : b = 0 := by omega
        obtain rfl : a = 0 := by
          have : ¬ 0 < a := fun h => by have := h0.1 h; omega
          omega
        exact ⟨lq, h1, fun x hx => ⟨(h2 x hx).1, List.mem_cons_of_mem _ (h2 x hx).2⟩, by rw [kr, wtN_zero, h3]; omega, by rw [cst, h4]; omega⟩
end Go.Proofs.YtdmnfjicjjlnnaaGreatDoor
