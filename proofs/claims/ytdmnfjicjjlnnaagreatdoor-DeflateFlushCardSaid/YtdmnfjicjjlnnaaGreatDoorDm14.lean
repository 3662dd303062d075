/-
  The library's Repeat of one number and Concat of slices of numbers, as the program calls them.
-/
import Derived.Test.YtdmnfjicjjlnnaaGreatDoorProg
import Derived.Test.YtdmnfjicjjlnnaaGreatDoorDm05
import Derived.Test.YtdmnfjicjjlnnaaGreatDoorDm03
import Derived.Test.YtdmnfjicjjlnnaaGreatDoorDm04
import Derived.StillTailTactics
import Derived.Lib.AppendZerosOnto
import Derived.Test.YtdmnfjicjjlnnaaGreatDoorDm07
import Derived.Test.YtdmnfjicjjlnnaaGreatDoorDm02
namespace Go.Proofs.YtdmnfjicjjlnnaaGreatDoor
set_option maxRecDepth 5000
open Go.RowKit
theorem infoIntB : (Tryz.prog.info? 3).map (fun i => (i.zero, i.size, i.bytes)) = some (some (.int .i64 0), 1, 8) := by kernel_rfl
/-! ### A copy into an own slice, from a place on -/
section
variable {P : Program} {w : World}
theorem run_copy_in (dT sT ty e : TypeId) (i : TypeInfo) (ht : P.underlying dT = some (.slice e)) (hi : P.info? e = some i) (hs : i.size = 1) (g n cap L m capd : Nat) (xs ys : List Value) (hown : Own w e 1 (.slice (some ⟨g, 0, none⟩) n cap) n xs) (hLm : L + m = n)
    (s : Value) (k : Nat) (hsrc : Rd w 1 s k ys) (h1 : ∀ u ∈ ys, u.oneCell' = true) (hq : 0 < min k m) :
    ∃ w', (Builtin.copy_ #[dT, sT] ty #[.slice (some ⟨g, L, none⟩) m capd, s]).run P w = .ok (goInt ((min k m : Nat) : Int)) w' ∧ Own w' e 1 (.slice (some ⟨g, 0, none⟩) n cap) n (xs.take L ++ (ys.take (min k m) ++ xs.drop (L + min k m))) ∧ Mod w w' (fun k => k = g) := by
  obtain ⟨hyl, sa, scap, rfl, hmc, hsm, hs0, hsrd⟩ := hsrc
  rcases hown.2 with ⟨hv, hn0⟩ | ⟨g', off, cap', cur, hv, hg, hn, hc, hcs, hx⟩
  · cases hv
  simp only [Value.slice.injEq, Option.some.injEq, Addr.mk.injEq, and_true, true_and] at hv
  obtain ⟨⟨rfl, rfl⟩, rfl⟩ := hv
  rcases hsrd with hm0 | ⟨b, so, rfl, hcl0⟩
  · omega
  have hxl : xs.length = n := by rw [hown.1]; omega
  have hyl1 : ys.length = k := by rw [hyl]; omega
  have hcl : (ys.take (min k m)).length = min k m := by rw [List.length_take, hyl1]; omega
  have hl := run_loadCells_list (P := P) w ⟨b, so, none⟩ (ys.take (min k m)) (fun j u hu => by
    rw [Addr.add_lit]
    refine hcl0 j u ?_
    rw [List.getElem?_take] at hu
    split at hu
    · exact hu
    · cases hu)
  rw [hcl] at hl
  have hst := run_storeCells_at P g L e (ys.take (min k m)) 0 cur w hg (by rw [hcl]; omega) (fun u hu => h1 u (List.mem_of_mem_take hu))
  rw [hcl, Nat.add_zero] at hst
  have hpre : cur.toList.take L = xs.take L := by
    refine List.ext_getElem? fun j => ?_
    rw [List.getElem?_take, List.getElem?_take]
    by_cases hj : j < L
    · rw [if_pos hj, if_pos hj]
      have h2 : j < xs.length := by omega
      have h3 := hx j _ (List.getElem?_eq_getElem h2)
      rw [Nat.zero_add] at h3
      rw [Array.getElem?_toList, h3, List.getElem?_eq_getElem h2]
    · rw [if_neg hj, if_neg hj]
  have hvl : (xs.take L ++ ys.take (min k m)).length = L + min k m := by rw [List.length_append, List.length_take, hcl]; omega
  obtain ⟨H1, H2⟩ := Own.splice (vs := xs.take L ++ ys.take (min k m)) (w' := w.setRow g (cur.toList.take L ++ ys.take (min k m) ++ cur.toList.drop (L + min k m)).toArray) hown.1 hg hn hc hcs hx (by rw [hvl]; omega) (by rw [hvl, hpre]; simp)
  rw [hvl, List.append_assoc] at H1
  rw [List.append_assoc] at H1 H2 hst
  refine ⟨_, ?_, H1, H2⟩
  have hmin : Nat.min m k = min k m := Nat.min_comm m k
  have hmin2 : Nat.min k m = min k m := rfl
  simp [Builtin.copy_, run_underlying ht, Builtin.lenOf, Builtin.firstCells, sizeOf, typeInfo, hi, hs, hmin2, hl, hst]
theorem step_copy_in {ops : Array Oper} {o : Oper} {ac : Act} {K : Act → World → Prop} {Q : Exit → Act → World → Prop} {E : Prop} (hgd : o.guard = none) (d s : Operand) (dT sT : TypeId)
    (ho : o.op = .call { callee := .builtin .copy, args := #[d, s], argTypes := #[dT, sT] }) (e : TypeId) (i : TypeInfo) (ht : P.underlying dT = some (.slice e)) (hi : P.info? e = some i) (hs : i.size = 1)
    (g n cap L m capd : Nat) (xs ys : List Value) (hd : ac.eval d = .slice (some ⟨g, L, none⟩) m capd) (hown : Own w e 1 (.slice (some ⟨g, 0, none⟩) n cap) n xs) (hLm : L + m = n) (y : Value) (k : Nat) (hy : ac.eval s = y) (hsrc : Rd w 1 y k ys) (h1 : ∀ u ∈ ys, u.oneCell' = true) (hq : 0 < min k m)
    (h : ∀ w', Own w' e 1 (.slice (some ⟨g, 0, none⟩) n cap) n (xs.take L ++ (ys.take (min k m) ++ xs.drop (L + min k m))) → Mod w w' (fun k => k = g) → K (ac.put o.dst (goInt ((min k m : Nat) : Int))) w') :
    if Region.wanted o (yielded ops ac.tmps) = true then Oper.wp P o ac w K Q else E := by
  rw [if_pos (by simp [Region.wanted, hgd])]
  obtain ⟨w', hr, H1, H2⟩ := run_copy_in (P := P) dT sT o.type e i ht hi hs g n cap L m capd xs ys hown hLm y k hsrc h1 hq
  unfold Oper.wp execOp
  simp only [ho, resolve, invoke, builtin, Sem.run_bind, Sem.run_pure, Result.andThen_ok, List.map_toArray, List.map_cons, List.map_nil, hd, hy, hr]
  exact h w' H1 H2
end
/-! ### Repeat -/
theorem mul_one_of (c : Nat) (hc : c = 144 ∨ c = 112 ∨ c = 24 ∨ c = 8 ∨ c = 32) (w : World) :
    Calls Tryz.prog 97 #[.int .u64 1, .int .u64 (c : Int)] w fun e w' => e = .returned (.tuple #[.int .u64 0, .int .u64 (c : Int)]) ∧ w = w' := by
  rcases hc with rfl | rfl | rfl | rfl | rfl
  all_goals
    go_enter Tryz.func97, Tryz.ntmps97
    go_wp2
    go_ret2
    exact ⟨rfl, rfl⟩
theorem made_cellsB (z : Value) (n : Nat) (hz : z.cells = #[z]) : (madeCells z.cells (n * 1)).toList = List.replicate n z := by
  rw [Nat.mul_one, hz]
  refine List.ext_getElem? fun j => ?_
  by_cases hj : j < n
  · simp [madeCells, hj, Nat.mod_one]
  · rw [List.getElem?_eq_none (by simp [madeCells]; omega), List.getElem?_eq_none (by simp; omega)]
theorem reps (a : Int) (n c : Nat) : ints (List.replicate n a ++ List.replicate (c - n) 0) = ints (List.replicate n a) ++ List.replicate (c - n) (.int .i64 0) := by simp [ints]
set_option maxHeartbeats 1600000 in
theorem repeat_one (x : Value) (a : Int) (c : Nat) (w : World) (hx : Rd w 1 x 1 (ints [a])) (hc : c = 144 ∨ c = 112 ∨ c = 24 ∨ c = 8 ∨ c = 32) :
    Calls Tryz.prog 74 #[x, .int .i64 (c : Int)] w fun e w' => ∃ v, e = .returned v ∧ Held w w' [ownT 3 1 v c (ints (List.replicate c a))] := by
  obtain ⟨i, hi, hz0, hz1, hz2⟩ := info_parts infoIntB
  obtain ⟨ao, cap, rfl, _, _⟩ := hx.form
  have HM := hid (mul_one_of c hc w)
  have hcb : 1 ≤ c ∧ c ≤ 144 := by omega
  obtain ⟨hc1, hc2⟩ := hcb
  have hc0 : (0 : Int) ≤ (c : Int) := Int.natCast_nonneg _
  have hcp : (0 : Int) < (c : Int) := by omega
  have hw1 : IntKind.u64.wrap (c : Int) = (c : Int) := by
    rcases hc with rfl | rfl | rfl | rfl | rfl <;> decide
  have hw2 : IntKind.i64.wrap (c : Int) = (c : Int) := wrap_nat c (by omega)
  have hb1 : decide ((9223372036854775807 : Int) < (c : Int)) = false := by simp; omega
  clear hc
  go_enter Tryz.func74, Tryz.ntmps74
  go_wp2_with fail
  refine HM.out.mono ?_
  rintro e w1 ⟨rfl, rfl⟩
  go_wp2_with first
    | ((with_reducible show wpList _ _ _ (⟨some 30, _, _, _, _, _⟩ :: _) _ _); refine wpList_make_own rfl 32 (.tmp 29) (.tmp 29) rfl 3 i (.int .i64 0) 1 Tryz.underlying32 hi hz0 hz1 .i64 c rfl rfl (by rw [hz2]; omega) (by unfold maxLen; omega) ?_; intro v1 w2 zs ho1 hm1 hf1 hv1 hzs; subst hv1; have H1 := hid ((Held.start w).pushOwn ho1 hm1 hf1); have HX1 := hid (hx.kept hm1 (fun _ _ h => h)); clear hm1 hf1 ho1)
    | ((with_reducible show wpList _ _ _ (⟨some 33, _, _, _, _, _⟩ :: _) _ _); refine wpList_copy_own' rfl (.tmp 31) (.tmp 32) 32 32 rfl 3 i 1 Tryz.underlying32 hi hz1 (.slice (some ⟨w.heap.size, 0, none⟩) c c) _ c 1 zs (ints [a]) rfl rfl H1.out.own HX1.out (ints_one _) ?_; intro w3 ho2 hm2; have H2 := hid (H1.out.putOwn ho2 (hm2.mono fun k _ hk => by simp [Value.ownBlock] at hk; omega)); rw [show min 1 c = 1 by omega]; clear ho2 hm2)
    | fail
  have hzs2 : Hid ((ints [a]).take (min 1 c * 1) ++ zs.drop (min 1 c * 1) = ints (List.replicate 1 a ++ List.replicate (c - 1) 0)) := by
    rw [hzs, made_cellsB _ _ rfl, show min 1 c = 1 by omega, reps, Nat.mul_one]
    refine hid ?_
    rw [List.take_of_length_le (by simp [ints]), List.drop_replicate]; rfl
  rw [hzs2.out] at H2
  have hb := hi
  clear hzs hzs2 H1 HX1 hx HM
  go_loopg [8] 1000 (fun k t8 wr => ∃ n : Nat, 1 ≤ n ∧ n ≤ c ∧ c - n < k ∧ t8 = .int .i64 (n : Int) ∧ Hid (Held w wr [ownT 3 1 (.slice (some ⟨w.heap.size, 0, none⟩) c c) c (ints (List.replicate n a ++ List.replicate (c - n) 0))]))
  case atStart => exact ⟨1, by omega, by omega, by omega, rfl, H2⟩
  case round =>
    obtain ⟨n, hn1, hn2, hk, rfl, HH⟩ := hrel
    have hn0 : (0 : Int) ≤ (n : Int) := Int.natCast_nonneg _
    by_cases hnc : n < c
    · have hncI : (n : Int) < (c : Int) := by omega
      have hcut1 : ∀ wg, (Instr.sliceAt 32 (.slice (some ⟨w.heap.size, 0, none⟩) c c) (some (.int .i64 (n : Int))) none none).run Tryz.prog wg = .ok (.slice (some ⟨w.heap.size, n, none⟩) (c - n) (c - n)) wg := fun wg => by
        have h := run_cut (P := Tryz.prog) (w := wg) 32 3 i 1 Tryz.underlying32 hi hz1 (some ⟨w.heap.size, 0, none⟩) c c n c (some (.int .i64 (n : Int))) none ⟨_, rfl⟩ rfl (by omega) (Nat.le_refl _)
        rw [h]
        unfold sliced
        rw [if_neg (by omega)]
        simp [Addr.add_lit]
      have hcut2 : ∀ wg, (Instr.sliceAt 32 (.slice (some ⟨w.heap.size, 0, none⟩) c c) none (some (.int .i64 (n : Int))) none).run Tryz.prog wg = .ok (.slice (some ⟨w.heap.size, 0, none⟩) n c) wg := fun wg => by
        have h := run_cut (P := Tryz.prog) (w := wg) 32 3 i 1 Tryz.underlying32 hi hz1 (some ⟨w.heap.size, 0, none⟩) c c 0 n none (some (.int .i64 (n : Int))) rfl ⟨_, rfl⟩ (by omega) (by omega)
        rw [h, sliced_front _ _ _ _ (fun x hx => by simp at hx; rw [← hx])]
      have HRd : Hid (Rd wr 1 (.slice (some ⟨w.heap.size, 0, none⟩) n c) n (ints (List.replicate n a))) := by
        have h := HH.out.own.rd.front (H := n) (by omega)
        rw [reps, Nat.mul_one, List.take_left' (by simp [ints])] at h
        exact hid h
      have hcnI : (c : Int) - (n : Int) = ((c - n : Nat) : Int) := by omega
      go_wp2
      go_region_held3 (fun _ => True) (trivial) ((first | skip; refine step_copy_in (by rfl) (.tmp 41) (.tmp 44) 32 32 (by rfl) 3 i Tryz.underlying32 hi hz1 w.heap.size c c n (c - n) (c - n) (ints (List.replicate n a ++ List.replicate (c - n) 0)) (ints (List.replicate n a)) (by rfl) (by exact HH.out.own.drew) (by omega) (.slice (some ⟨w.heap.size, 0, none⟩) n c) n (by rfl) (by exact HRd.out.drew) (ints_one _) (by omega) ?_; intro w4 ho4 hm4; have H4 := hid (HH.out.drew.putOwn ho4 hm4); clear ho4 hm4))
      obtain ⟨q, hq⟩ : ∃ q, q = min n (c - n) := ⟨_, rfl⟩
      have hq1 : 1 ≤ q ∧ n + q ≤ c := by omega
      have hE : Hid ((ints (List.replicate n a ++ List.replicate (c - n) 0)).take n ++ ((ints (List.replicate n a)).take (min n (c - n)) ++ (ints (List.replicate n a ++ List.replicate (c - n) 0)).drop (n + min n (c - n))) = ints (List.replicate (n + q) a ++ List.replicate (c - (n + q)) 0)) := by
        rw [← hq, reps, reps, List.take_left' (by simp [ints])]
        have h1 : (ints (List.replicate n a)).take q = ints (List.replicate q a) := by
          simp only [ints, List.map_replicate, List.take_replicate]
          rw [Nat.min_eq_left (by omega)]
        have h2 : (ints (List.replicate n a) ++ List.replicate (c - n) (Value.int .i64 0)).drop (n + q) = List.replicate (c - (n + q)) (.int .i64 0) := by
          rw [List.drop_append, List.drop_of_length_le (by simp [ints]), List.nil_append, List.drop_replicate]
          simp [ints]
          omega
        rw [h1, h2, ← List.append_assoc]
        refine hid ?_
        rw [← ints_append, List.replicate_append_replicate]
      have hqI : IntKind.i64.wrap ((n : Int) + ((min n (c - n) : Nat) : Int)) = ((n + q : Nat) : Int) := by
        rw [← hq, ← Int.natCast_add]; exact wrap_nat _ (by omega)
      rw [hE.out] at H4
      simp only [goInt, hqI]
      go_wp2
      go_roundg (gk - 1)
      case measure => omega
      case rel => exact ⟨n + q, by omega, by omega, by omega, rfl, H4⟩
    · have hncI : ¬ (n : Int) < (c : Int) := by omega
      obtain rfl : n = c := by omega
      have hE : Hid (ints (List.replicate n a ++ List.replicate (n - n) 0) = ints (List.replicate n a)) := by
        rw [Nat.sub_self, List.replicate_zero, List.append_nil]
        exact hid rfl
      rw [hE.out] at HH
      go_wp2
      go_ret
      exact ⟨_, rfl, HH.out⟩
/-! ### Concat -/
set_option maxHeartbeats 800000 in
theorem growI_nil (n : Nat) (w0 w : World) (Rs : List Thing) (h : Held w0 w Rs) (hn : 0 < n) (hN2 : n ≤ 100000) :
    Calls Tryz.prog 96 #[.slice none 0 0, .int .i64 (n : Int)] w fun e w' => ∃ v, e = .returned v ∧ Held w0 w' (ownT 3 1 v 0 [] :: Rs) := by
  obtain ⟨i, hi, hz0, hz1, hz2⟩ := info_parts infoIntB
  obtain ⟨G, hG⟩ : ∃ G, G = grownCap w (0 + n) 0 3 := ⟨_, rfl⟩
  have hrz : ∀ ty, (Builtin.append_ #[32, 3] ty #[.slice none 0 0, .int .i64 (n : Int)]).run Tryz.prog w =
      .ok (.slice (some ⟨w.heap.size, 0, none⟩) n G) (w.drew.alloc (.cells (#[] ++ Builtin.zeroCells (#[.int .i64 0]) n ++ Builtin.zeroCells (#[.int .i64 0]) (G - n)) 3)) := fun ty => by
    have h := Lib.run_append_grow_zeros w 32 3 ty 3 i (.int .i64 0) .i64 .i64 Tryz.underlying32 Tryz.underlying3 hi hz0 none 0 0 [] (by simp [Builtin.firstCells]) n hn (by rw [hz1]; decide) (by omega) (by omega) (by rw [hz2]; omega) (growslice_fits (by omega) (by rw [hz2]; omega))
    rw [← hG, Nat.zero_add] at h
    exact h
  have hGn : n ≤ G := by rw [hG]; have := grownCap_ge w (0 + n) 0 3; omega
  have hGm : G ≤ maxLen := by rw [hG]; exact grownCap_le_maxLen w (0 + n) 0 _ (by unfold maxLen; omega)
  have H := hid h
  have h0 : (0 : Int) ≤ (n : Int) := Int.natCast_nonneg _
  have h1 : ¬ (n : Int) < 0 := by omega
  have h2 : (0 : Int) < (n : Int) := by omega
  clear h hG
  go_enter Tryz.func96, Tryz.ntmps96
  go_wp2_with (at_builtin; refine Lib.wpList_append_run _ rfl _ _ _ _ rfl _ _ rfl rfl _ _ (hrz _) ?_)
  go_ret
  refine ⟨_, rfl, ?_⟩
  have hown : Own ((w.alloc (.cells (Builtin.zeroCells #[.int .i64 0] n ++ Builtin.zeroCells #[.int .i64 0] (G - n)) 3)).drew) 3 1 (.slice (some ⟨w.heap.size, 0, none⟩) 0 G) 0 [] :=
    ⟨rfl, .inr ⟨w.heap.size, 0, G, _, rfl, heap_alloc_new w _, Nat.zero_le _, hGm, by simp [size_zeroCells]; omega, fun j u hu => by simp at hu⟩⟩
  exact H.out.pushOwn hown (((Mod.refl w _).alloc _).drew) (fun k hk => by simp [Value.ownBlock] at hk; omega)
theorem flat_snoc (ls : List (List Int)) (i : Nat) (l : List Int) (h : ls[i]? = some l) : (ls.take (i + 1)).flatten = (ls.take i).flatten ++ l := by
  rw [List.take_add_one, h]; simp
theorem flat_le (ls : List (List Int)) (i : Nat) : (ls.take i).flatten.length ≤ ls.flatten.length := by
  conv => rhs; rw [← List.take_append_drop i ls, List.flatten_append, List.length_append]
  omega
set_option maxHeartbeats 3200000 in
theorem concatI_any (vs : List Value) (ls : List (List Int)) (u : Value) (n : Nat) (w : World) (hu : Rd w 1 u n vs) (hn : vs.length = n) (hl : ls.length = n) (hR : ∀ (i : Nat) (v : Value) (l : List Int), vs[i]? = some v → ls[i]? = some l → Rd w 1 v l.length (ints l)) (hpos : 0 < ls.flatten.length) (htot : ls.flatten.length ≤ 100000) (hn2 : n ≤ 1000) :
    Calls Tryz.prog 73 #[u] w fun e w' => ∃ v, e = .returned v ∧ Held w w' [ownT 3 1 v ls.flatten.length (ints ls.flatten)] := by
  obtain ⟨i0, hi, hz0, hz1, hz2⟩ := info_parts infoIntB
  obtain ⟨uo, uc, rfl, _, _⟩ := hu.form
  have HU := hid hu
  have HR := hid hR
  have HL := hid (And.intro hn hl)
  have hn0 : (0 : Int) ≤ (n : Int) := Int.natCast_nonneg _
  obtain ⟨N, hN⟩ : ∃ N, N = ls.flatten.length := ⟨_, rfl⟩
  rw [← hN] at hpos htot ⊢
  have HN := hid hN
  clear hu hR hn hl hN
  go_enter Tryz.func73, Tryz.ntmps73
  go_wp2
  go_loopg [3, 11] (n + 1) (fun k t3 t11 wr => ∃ (i s : Nat), i ≤ n ∧ n - i < k ∧ t11 = .int .i64 (i : Int) ∧ t3 = .int .i64 (s : Int) ∧ s ≤ N ∧ Hid (s = (ls.take i).flatten.length) ∧ wr = w)
  case atStart => exact ⟨0, 0, by omega, by omega, rfl, rfl, by omega, hid rfl, rfl⟩
  case round =>
    obtain ⟨i, s, hi2, hk, rfl, rfl, hs, HS, hwr⟩ := hrel
    obtain rfl := hwr.symm
    have hi0 : (0 : Int) ≤ (i : Int) := Int.natCast_nonneg _
    have hs0 : (0 : Int) ≤ (s : Int) := Int.natCast_nonneg _
    by_cases hin : i < n
    · have hinI : (i : Int) < (n : Int) := by omega
      obtain ⟨g, off, rfl, hcell⟩ := HU.out.spot (by omega)
      have hvl : i < vs.length := by have := HL.out.1; omega
      have hll : i < ls.length := by have := HL.out.2; omega
      have hrd := HR.out i _ _ (List.getElem?_eq_getElem hvl) (List.getElem?_eq_getElem hll)
      obtain ⟨ao, cap, hve, hx1, hx2⟩ := hrd.form
      have hc1 := hcell i _ (List.getElem?_eq_getElem hvl)
      rw [hve] at hc1
      obtain ⟨q, hq⟩ : ∃ q, q = (ls[i]'hll).length := ⟨_, rfl⟩
      rw [← hq] at hc1
      have hsn : s + q = (ls.take (i + 1)).flatten.length := by rw [flat_snoc ls i _ (List.getElem?_eq_getElem hll), List.length_append, ← HS.out, ← hq]
      have hsN : s + q ≤ N := by rw [hsn, HN.out]; exact flat_le ls _
      have HSN := hid hsn
      have hq0 : (0 : Int) ≤ (q : Int) := Int.natCast_nonneg _
      have hge : ¬ (s : Int) + (q : Int) < 0 := by omega
      clear hcell hrd hve hq hsn hx1 hx2
      go_wp2
      go_roundg (gk - 1)
      case measure => omega
      case rel => exact ⟨i + 1, s + q, by omega, by omega, by go_num, by go_num, hsN, HSN, rfl⟩
    · have hinI : ¬ (i : Int) < (n : Int) := by omega
      have hsN : s = N := by
        rw [HS.out, HN.out, List.take_of_length_le (by have := HL.out.2; omega)]
      subst hsN
      have HG := hid (growI_nil s w w [] (Held.start w) hpos htot)
      go_wp2_with fail
      refine HG.out.mono ?_
      rintro e w1 ⟨v, rfl, hh⟩
      have HH := hid hh
      clear hh HG
      go_wp2
      go_loopg [6, 27] (n + 1) (fun k t6 t27 wq => ∃ (j L : Nat) (ao : Option Addr) (cap : Nat), j ≤ n ∧ n - j < k ∧ t27 = .int .i64 (j : Int) ∧ t6 = .slice ao L cap ∧ L ≤ s ∧ Hid (L = (ls.take j).flatten.length) ∧
        Hid (Held w wq [ownT 3 1 (.slice ao L cap) L (ints (ls.take j).flatten)]))
      case atStart =>
        obtain ⟨ao, cap, rfl, _, _⟩ := HH.out.own.form
        exact ⟨0, 0, ao, cap, by omega, by omega, rfl, rfl, by omega, hid rfl, HH⟩
      case round =>
        obtain ⟨j, L, ao, cap, hj2, hk2, rfl, rfl, hLs, HJ, HH2⟩ := hrel
        have hj0 : (0 : Int) ≤ (j : Int) := Int.natCast_nonneg _
        by_cases hjn : j < n
        · have hjnI : (j : Int) < (n : Int) := by omega
          have HU2 := HH2.out.old HU.out
          obtain ⟨g, off, rfl, hcell⟩ := HU2.spot (by omega)
          have hvl : j < vs.length := by have := HL.out.1; omega
          have hll : j < ls.length := by have := HL.out.2; omega
          have hrd := HH2.out.old (HR.out j _ _ (List.getElem?_eq_getElem hvl) (List.getElem?_eq_getElem hll))
          obtain ⟨bo, bc, hve, hx1, hx2⟩ := hrd.form
          have hc1 := hcell j _ (List.getElem?_eq_getElem hvl)
          rw [hve] at hc1 hrd
          obtain ⟨q, hq⟩ : ∃ q, q = (ls[j]'hll).length := ⟨_, rfl⟩
          rw [← hq] at hc1 hrd
          have hsn : L + q = (ls.take (j + 1)).flatten.length := by rw [flat_snoc ls j _ (List.getElem?_eq_getElem hll), List.length_append, ← HJ.out, ← hq]
          have hsN : L + q ≤ s := by rw [hsn, HN.out]; exact flat_le ls _
          have hE : Hid (ints (ls.take j).flatten ++ ints (ls[j]'hll) = ints (ls.take (j + 1)).flatten) := by
            rw [flat_snoc ls j _ (List.getElem?_eq_getElem hll), ints_append]; exact hid rfl
          have HSN := hid hsn
          have HRD := hid hrd
          clear hcell hrd hve hq hsn HU2 hx1 hx2
          go_wp2_with ((with_reducible show wpList _ _ _ (⟨some 33, _, _, _, _, _⟩ :: _) _ _); refine wpList_app_held rfl (.tmp 31) (.tmp 32) 32 rfl 3 i0 (.int .i64 0) 1 8 Tryz.underlying32 hi hz0 hz1 hz2 rfl (by decide) _ _ (ints (ls.take j).flatten) rfl HH2.out _ q (ints (ls[j]'hll)) rfl HRD.out (ints_one _) (L + q) rfl (by unfold maxLen; omega) (by omega) ?_; intro ao1 cap1 w4 h1; rw [hE.out] at h1; have HJ2 := hid h1; clear h1)
          go_roundg (gk - 1)
          case measure => omega
          case rel => exact ⟨j + 1, L + q, ao1, cap1, by omega, by omega, by go_num, rfl, hsN, HSN, HJ2⟩
        · have hjnI : ¬ (j : Int) < (n : Int) := by omega
          have hE : Hid (Held w wr [ownT 3 1 (.slice ao L cap) s (ints ls.flatten)]) := by
            have h := HH2.out
            have hLs2 := HJ.out
            rw [List.take_of_length_le (by have := HL.out.2; omega)] at h hLs2
            rw [HN.out]
            rw [hLs2] at h ⊢
            exact hid h
          go_wp2
          go_ret
          exact ⟨_, rfl, hE.out⟩
end Go.Proofs.YtdmnfjicjjlnnaaGreatDoor
/-
  What the program writes as a block, told as a function: the bits of tokens by two codes, how often symbols come, what they cost. No program is named here.
-/
namespace Go.Proofs.YtdmnfjicjjlnnaaGreatDoor
set_option maxRecDepth 5000
/-! ### The code of a length or a distance -/
def lcF (B : Nat → Nat) (v : Nat) : Nat → Nat
  | 0 => 0
  | m + 1 => if B m ≤ v then m else lcF B v m
theorem lcF_is {B : Nat → Nat} {v : Nat} (h0 : B 0 ≤ v) : ∀ m, 0 < m → CodeIs B m v (lcF B v m)
  | 0, h => by omega
  | m + 1, _ => by
    unfold lcF
    by_cases c : B m ≤ v
    · rw [if_pos c]; exact ⟨by omega, c, fun d h1 h2 => by omega⟩
    · rw [if_neg c]
      have hm : 0 < m := by
        cases m with
        | zero => exact absurd h0 c
        | succ m => omega
      obtain ⟨h1, h2, h3⟩ := lcF_is h0 m hm
      exact ⟨by omega, h2, fun d h4 h5 => if h6 : d = m then by subst h6; omega else h3 d h4 (by omega)⟩
def lenC (t : Tok) : Nat := lcF lB t.2.1.toNat 29
def dstC (t : Tok) : Nat := lcF dB t.2.2.toNat 30
section
variable {t : Tok}
theorem lenC_is (hs : soundB t = true) (h0 : t.2.1 ≠ 0) : CodeIs lB 29 t.2.1.toNat (lenC t) := by
  have h := sound_match hs h0
  exact lcF_is (by have : lB 0 = 3 := by decide
                   omega) 29 (by decide)
theorem dstC_is (hs : soundB t = true) (h0 : t.2.1 ≠ 0) : CodeIs dB 30 t.2.2.toNat (dstC t) := by
  have h := sound_match hs h0
  exact lcF_is (by have : dB 0 = 1 := by decide
                   omega) 30 (by decide)
end
def symOf (t : Tok) : Nat := if t.2.1 = 0 then t.1.toNat else 257 + lenC t
def xtra (t : Tok) : Nat := if t.2.1 = 0 then 0 else lX (lenC t) + dX (dstC t)
theorem symOf_lt {t : Tok} (hs : soundB t = true) (hb : 0 ≤ t.1 ∧ t.1 ≤ 255) : symOf t < 286 := by
  unfold symOf
  split
  · omega
  · rename_i h
    have := (lenC_is hs h).1
    omega
def tokB (lit dist : List Int) (t : Tok) : List Nat :=
  if t.2.1 = 0 then symBits lit t.1.toNat
  else symBits lit (257 + lenC t) ++ (bitsOf (lX (lenC t)) (t.2.1.toNat - lB (lenC t)) ++ (symBits dist (dstC t) ++ bitsOf (dX (dstC t)) (t.2.2.toNat - dB (dstC t))))
def toksB (lit dist : List Int) (l : List Tok) : List Nat := l.flatMap (tokB lit dist) ++ symBits lit 256
theorem toksB_cons (lit dist : List Int) (t : Tok) (l : List Tok) : toksB lit dist (t :: l) = tokB lit dist t ++ toksB lit dist l := by simp [toksB]
def Covers (lit dist : List Int) (l : List Tok) : Prop := HasSym lit 256 ∧ ∀ t ∈ l, HasSym lit (symOf t) ∧ (t.2.1 ≠ 0 → HasSym dist (dstC t))
theorem tokB_is {lit dist : List Int} {t : Tok} (hs : soundB t = true) (hb : 0 ≤ t.1 ∧ t.1 ≤ 255) (h1 : HasSym lit (symOf t)) (h2 : t.2.1 ≠ 0 → HasSym dist (dstC t)) : TokBits lit dist t (tokB lit dist t) := by
  obtain ⟨a, n, d⟩ := t
  unfold tokB
  by_cases h0 : n = 0
  · have hd := sound_lit hs h0
    have hd2 : d = 0 := hd
    subst h0
    subst hd2
    rw [if_pos rfl]
    unfold symOf at h1
    rw [if_pos rfl] at h1
    have h3 := TokBits.lit (lit := lit) (dist := dist) a.toNat (by show a.toNat < 256; have : a ≤ 255 := hb.2; omega) h1
    have e : ((a.toNat : Nat) : Int) = a := by have : 0 ≤ a := hb.1; omega
    rw [e] at h3
    exact h3
  · rw [if_neg h0]
    obtain ⟨ha, ⟨hn1, hn2⟩, hd1, hd2⟩ := sound_match hs h0
    have hn1 : 3 ≤ n := hn1
    have hn2 : n ≤ 258 := hn2
    have hd1 : 1 ≤ d := hd1
    have hd2 : d ≤ 32768 := hd2
    have ha : a = 0 := ha
    subst ha
    unfold symOf at h1
    rw [if_neg h0] at h1
    have h3 := TokBits.ref (lit := lit) (dist := dist) n.toNat d.toNat (lenC (0, n, d)) (dstC (0, n, d)) (lenC_is hs h0) (by omega) (by omega) (dstC_is hs h0) (by omega) (by omega) h1 (h2 h0)
    have e1 : ((n.toNat : Nat) : Int) = n := by omega
    have e2 : ((d.toNat : Nat) : Int) = d := by omega
    rw [e1, e2] at h3
    exact h3
theorem toksB_is {lit dist : List Int} : ∀ {l : List Tok}, (∀ t ∈ l, soundB t = true) → byteOK l → Covers lit dist l → ToksBits lit dist l (toksB lit dist l)
  | [], _, _, hc => by
    show ToksBits lit dist [] (symBits lit 256)
    exact .nil hc.1
  | t :: l, hs, hb, hc => by
    rw [toksB_cons]
    have h1 := hc.2 t (List.mem_cons_self ..)
    exact .cons _ _ _ _ (tokB_is (hs t (List.mem_cons_self ..)) (hb t (List.mem_cons_self ..)) h1.1 h1.2)
      (toksB_is (fun s h => hs s (List.mem_cons_of_mem _ h)) (fun s h => hb s (List.mem_cons_of_mem _ h)) ⟨hc.1, fun s h => hc.2 s (List.mem_cons_of_mem _ h)⟩)
/-! ### How often symbols come -/
def litN (l : List Tok) (k : Nat) : Nat := l.countP fun t => decide (symOf t = k)
def dstN (l : List Tok) (k : Nat) : Nat := l.countP fun t => decide (t.2.1 ≠ 0 ∧ dstC t = k)
def extN (l : List Tok) : Nat := (l.map xtra).sum
def litE (l : List Tok) (k : Nat) : Nat := litN l k + (if 256 = k then 1 else 0)
def litF (l : List Tok) : List Nat := (List.range 286).map (litE l)
def dstF (l : List Tok) : List Nat := (List.range 30).map (dstN l)
theorem litN_le (l : List Tok) (k : Nat) : litN l k ≤ l.length := List.countP_le_length
theorem dstN_le (l : List Tok) (k : Nat) : dstN l k ≤ l.length := List.countP_le_length
theorem litE_le (l : List Tok) (k : Nat) : litE l k ≤ l.length + 1 := by have := litN_le l k; unfold litE; split <;> omega
theorem litF_le {l : List Tok} (h : l.length < 1048576) : ∀ a ∈ litF l, a ≤ 1048576 := fun a ha => by
  obtain ⟨k, _, rfl⟩ := List.mem_map.1 ha
  have := litE_le l k; omega
theorem dstF_le {l : List Tok} (h : l.length < 1048576) : ∀ a ∈ dstF l, a ≤ 1048576 := fun a ha => by
  obtain ⟨k, _, rfl⟩ := List.mem_map.1 ha
  have := dstN_le l k; omega
theorem litF_length (l : List Tok) : (litF l).length = 286 := by simp [litF]
theorem dstF_length (l : List Tok) : (dstF l).length = 30 := by simp [dstF]
theorem litF_get (l : List Tok) {k : Nat} (h : k < 286) : (litF l)[k]? = some (litE l k) := by simp [litF, h]
theorem dstF_get (l : List Tok) {k : Nat} (h : k < 30) : (dstF l)[k]? = some (dstN l k) := by simp [dstF, h]
theorem litE_end (l : List Tok) : 0 < litE l 256 := by unfold litE; rw [if_pos rfl]; omega
theorem litE_pos {l : List Tok} {t : Tok} (h : t ∈ l) : 0 < litE l (symOf t) := by
  have : 0 < litN l (symOf t) := List.countP_pos_iff.2 ⟨t, h, by simp⟩
  unfold litE; omega
theorem dstN_pos {l : List Tok} {t : Tok} (h : t ∈ l) (h0 : t.2.1 ≠ 0) : 0 < dstN l (dstC t) := List.countP_pos_iff.2 ⟨t, h, by simp [h0]⟩
theorem litN_snoc (l : List Tok) (t : Tok) (k : Nat) : litN (l ++ [t]) k = litN l k + (if symOf t = k then 1 else 0) := by
  simp only [litN, List.countP_append, List.countP_cons, List.countP_nil, decide_eq_true_eq]; omega
theorem dstN_snoc (l : List Tok) (t : Tok) (k : Nat) : dstN (l ++ [t]) k = dstN l k + (if t.2.1 ≠ 0 ∧ dstC t = k then 1 else 0) := by
  simp only [dstN, List.countP_append, List.countP_cons, List.countP_nil, decide_eq_true_eq]; omega
theorem extN_snoc (l : List Tok) (t : Tok) : extN (l ++ [t]) = extN l + xtra t := by simp [extN]
/-! ### What they cost -/
def lenAt (l : List Int) (k : Nat) : Nat := (l[k]?.getD 0).toNat
def csum (l : List Int) (g : Nat → Nat) : Nat → Nat
  | 0 => 0
  | n + 1 => csum l g n + lenAt l n * g n
theorem csum_add (l : List Int) (g h : Nat → Nat) : ∀ n, csum l (fun k => g k + h k) n = csum l g n + csum l h n
  | 0 => rfl
  | n + 1 => by rw [csum, csum, csum, csum_add l g h n, Nat.mul_add]; omega
theorem csum_zero (l : List Int) (g : Nat → Nat) : ∀ n, (∀ k, k < n → g k = 0) → csum l g n = 0
  | 0, _ => rfl
  | n + 1, h => by rw [csum, csum_zero l g n (fun k hk => h k (by omega)), h n (by omega)]; rfl
theorem csum_one (l : List Int) (s : Nat) : ∀ n, s < n → csum l (fun k => if s = k then 1 else 0) n = lenAt l s
  | 0, h => by omega
  | n + 1, h => by
    rw [csum]
    by_cases c : s = n
    · subst c
      rw [csum_zero l _ s (fun k hk => if_neg (by omega)), if_pos rfl]; omega
    · rw [csum_one l s n (by omega), if_neg c]; omega
theorem symBits_length (l : List Int) (k : Nat) : (symBits l k).length = lenAt l k := by unfold symBits lenAt; rw [hiBits_length]
theorem tokB_length (lit dist : List Int) (t : Tok) : (tokB lit dist t).length = lenAt lit (symOf t) + (if t.2.1 ≠ 0 then lenAt dist (dstC t) else 0) + xtra t := by
  unfold tokB symOf xtra
  by_cases h : t.2.1 = 0
  · rw [if_pos h, if_pos h, if_pos h, if_neg (fun c => c h), symBits_length]; omega
  · rw [if_neg h, if_neg h, if_neg h, if_pos h]
    simp only [List.length_append, symBits_length, bitsOf_length]; omega
theorem toksB_length {lit dist : List Int} : ∀ {l : List Tok}, (∀ t ∈ l, soundB t = true) → byteOK l → (toksB lit dist l).length = csum lit (litE l) 286 + csum dist (dstN l) 30 + extN l
  | [], _, _ => by
    rw [toksB, List.flatMap_nil, List.nil_append, symBits_length]
    have e : litE [] = fun k => if 256 = k then 1 else 0 := by funext k; simp [litE, litN]
    rw [e, csum_one _ _ _ (by decide), csum_zero dist (dstN []) 30 (fun k _ => rfl)]; rfl
  | t :: l, hs, hb => by
    have hs1 := hs t (List.mem_cons_self ..)
    have hb1 := hb t (List.mem_cons_self ..)
    rw [toksB_cons, List.length_append, toksB_length (fun s h => hs s (List.mem_cons_of_mem _ h)) (fun s h => hb s (List.mem_cons_of_mem _ h)), tokB_length]
    have e1 : litE (t :: l) = fun k => litE l k + (if symOf t = k then 1 else 0) := by
      funext k
      simp only [litE, litN, List.countP_cons, decide_eq_true_eq]; omega
    have e2 : dstN (t :: l) = fun k => dstN l k + (if t.2.1 ≠ 0 ∧ dstC t = k then 1 else 0) := by
      funext k
      simp only [dstN, List.countP_cons, decide_eq_true_eq]
    have e3 : extN (t :: l) = xtra t + extN l := by simp [extN]
    rw [e1, e2, e3, csum_add, csum_add, csum_one _ _ _ (symOf_lt hs1 hb1)]
    by_cases h0 : t.2.1 = 0
    · rw [csum_zero dist (fun k => if t.2.1 ≠ 0 ∧ dstC t = k then 1 else 0) 30 (fun k _ => if_neg fun h => h.1 h0), if_neg (fun h => h h0)]; omega
    · have e4 : (fun k => if t.2.1 ≠ 0 ∧ dstC t = k then 1 else 0) = fun k => if dstC t = k then 1 else 0 := by funext k; simp [h0]
      rw [e4, csum_one _ _ _ (dstC_is hs1 h0).1, if_pos h0]; omega
theorem costTo_csum {l : List Int} {g : Nat → Nat} {N : Nat} (hl : ∀ a ∈ l, 0 ≤ a ∧ a ≤ 15) (hg : ∀ k, k < N → g k ≤ 1048576) : ∀ k, k ≤ N → k ≤ l.length → costTo l (((List.range N).map g).map fun (n : Nat) => (n : Int)) k = csum l g k
  | 0, _, _ => rfl
  | k + 1, h1, h2 => by
    rw [costTo, csum, costTo_csum hl hg k (by omega) (by omega)]
    have e1 : l.getD k 0 = l[k]?.getD 0 := by simp [List.getD]
    have e2 : (((List.range N).map g).map fun (n : Nat) => (n : Int)).getD k 0 = ((g k : Nat) : Int) := by
      have hk : k < N := by omega
      simp [List.getD, hk]
    have e3 := hl _ (List.mem_of_getElem? (List.getElem?_eq_getElem (show k < l.length by omega)))
    rw [e1, e2, List.getElem?_eq_getElem (show k < l.length by omega)]
    unfold valOf lenAt
    rw [List.getElem?_eq_getElem (show k < l.length by omega)]
    simp only [Option.getD_some]
    have := hg k (by omega)
    rw [if_pos ⟨e3.1, by omega⟩, if_pos ⟨Int.natCast_nonneg _, by omega⟩, Int.toNat_natCast]
theorem csum_past {l : List Int} {g : Nat → Nat} {n : Nat} (h : l.length ≤ n) : ∀ d, csum l g (n + d) = csum l g n
  | 0 => rfl
  | d + 1 => by
    rw [← Nat.add_assoc, csum, csum_past h d]
    have : lenAt l (n + d) = 0 := by unfold lenAt; rw [List.getElem?_eq_none (by omega)]; rfl
    rw [this, Nat.zero_mul, Nat.add_zero]
theorem cost_csum {l : List Int} {g : Nat → Nat} {N : Nat} (hl : ∀ a ∈ l, 0 ≤ a ∧ a ≤ 15) (hg : ∀ k, k < N → g k ≤ 1048576) : costTo l (((List.range N).map g).map fun (n : Nat) => (n : Int)) (min l.length (((List.range N).map g).map fun (n : Nat) => (n : Int)).length) = csum l g N := by
  have hlen : (((List.range N).map g).map fun (n : Nat) => (n : Int)).length = N := by simp
  rw [hlen]
  by_cases h : l.length ≤ N
  · rw [Nat.min_eq_left h, costTo_csum hl hg _ h (Nat.le_refl _)]
    have := csum_past (g := g) (Nat.le_refl l.length) (N - l.length)
    rw [show l.length + (N - l.length) = N by omega] at this
    exact this.symm
  · rw [Nat.min_eq_right (by omega), costTo_csum hl hg _ (Nat.le_refl _) (by omega)]
theorem lenAt_le {l : List Int} {m : Nat} (h : ∀ a ∈ l, 0 ≤ a ∧ a ≤ (m : Int)) (k : Nat) : lenAt l k ≤ m := by
  unfold lenAt
  cases e : l[k]? with
  | none => exact Nat.zero_le _
  | some a => have := h a (List.mem_of_getElem? e); show a.toNat ≤ m; omega
theorem xtra_le {t : Tok} (hs : soundB t = true) : xtra t ≤ 18 := by
  unfold xtra
  split
  · omega
  · rename_i h
    have h1 := lX_le _ (lenC_is hs h).1
    have h2 := dX_le _ (dstC_is hs h).1
    omega
theorem toksB_short {lit dist : List Int} (hl : ∀ a ∈ lit, 0 ≤ a ∧ a ≤ 15) (hd : ∀ a ∈ dist, 0 ≤ a ∧ a ≤ 15) : ∀ {l : List Tok}, (∀ t ∈ l, soundB t = true) → (toksB lit dist l).length ≤ 48 * l.length + 15
  | [], _ => by
    rw [toksB, List.flatMap_nil, List.nil_append, symBits_length]
    have := lenAt_le (m := 15) hl 256
    simpa using this
  | t :: l, hs => by
    have ih := toksB_short hl hd (l := l) fun s h => hs s (List.mem_cons_of_mem _ h)
    have h1 := lenAt_le (m := 15) hl (symOf t)
    have h2 := lenAt_le (m := 15) hd (dstC t)
    have h3 := xtra_le (hs t (List.mem_cons_self ..))
    rw [toksB_cons, List.length_append, tokB_length, List.length_cons]
    split <;> omega
end Go.Proofs.YtdmnfjicjjlnnaaGreatDoor
/-
  The reference's MayLimit.
-/
namespace Go.Proofs.YtdmnfjicjjlnnaaGreatDoor
set_option maxRecDepth 5000
open Go.RowKit
def frqIn (f : List Int) : Bool := f.all fun a => decide (0 ≤ a ∧ a ≤ 1048576)
theorem frqIn_iff (f : List Int) : frqIn f = true ↔ ∀ a ∈ f, 0 ≤ a ∧ a ≤ 1048576 := by simp [frqIn]
theorem frqIn_snoc (l : List Int) (a : Int) : frqIn (l ++ [a]) = (frqIn l && decide (0 ≤ a ∧ a ≤ 1048576)) := by simp [frqIn]
theorem frqIn_take (l : List Int) (i : Nat) (h : frqIn (l.take i) = false) : frqIn l = false := by
  rw [← List.take_append_drop i l]
  unfold frqIn at *
  rw [List.all_append, h]; rfl
end Go.Proofs.YtdmnfjicjjlnnaaGreatDoor
/-
  Lengths of least cost within a limit: what follows from being the least, whatever way they were found. No program is named here.
-/
namespace Go.Proofs.YtdmnfjicjjlnnaaGreatDoor
set_option maxRecDepth 5000
def wtN (n : Nat) : Nat := if 1 ≤ n ∧ n ≤ 15 then 2 ^ (15 - n) else 0
def kr : List Nat → Nat
  | [] => 0
  | n :: l => wtN n + kr l
def cst : List Nat → List Nat → Nat
  | a :: l, b :: f => a * b + cst l f
  | _, _ => 0
theorem wtN_int (n : Nat) : wtTo 15 (n : Int) = wtN n := by
  unfold wtTo wtN
  by_cases h : 1 ≤ n ∧ n ≤ 15
  · rw [if_pos (by omega), if_pos h]; simp
  · rw [if_neg (by omega), if_neg h]
theorem kr_sum (l : List Nat) : sumOf (l.map fun (n : Nat) => (n : Int)) = kr l := by
  induction l with
  | nil => simp [sumOf, tot_nil, kr]
  | cons a l ih => rw [List.map_cons, sum_cons, wtN_int, ih, kr]
theorem wtN_zero : wtN 0 = 0 := by decide
structure FitL (f : List Nat) (m : Nat) (l : List Nat) : Prop where
  len : l.length = f.length
  sup : ∀ (i a b : Nat), l[i]? = some a → f[i]? = some b → (0 < a ↔ 0 < b)
  le : ∀ a ∈ l, a ≤ m
  whole : kr l = 32768
structure OptL (f : List Nat) (m : Nat) (l : List Nat) : Prop where
  good : FitL f m l
  least : ∀ l2, FitL f m l2 → cst l f ≤ cst l2 f
theorem get_some {l : List Nat} {i : Nat} (h : i < l.length) : ∃ a, l[i]? = some a := ⟨_, List.getElem?_eq_getElem h⟩
/-! ### lengths that leave room, made whole -/
def total : List Nat → Nat
  | [] => 0
  | a :: l => a + total l
def codedN : List Nat → Nat
  | [] => 0
  | a :: l => (if 0 < a then 1 else 0) + codedN l
theorem wtN_pos (n : Nat) (h1 : 1 ≤ n) (h : n ≤ 15) : wtN n = 2 ^ (15 - n) := by unfold wtN; rw [if_pos ⟨h1, h⟩]
/-! ### equal frequencies -/
end Go.Proofs.YtdmnfjicjjlnnaaGreatDoor
/-
  What Lengths is to return, as a statement that the program's own text must show ('LengthsOK'); the laws' own example.
-/
namespace Go.Proofs.YtdmnfjicjjlnnaaGreatDoor
set_option maxRecDepth 5000
open Go.RowKit
structure LenOK (f : List Nat) (m : Nat) (l : List Nat) : Prop where
  len : l.length = f.length
  few : codedN f < 2 → ∀ (i a b : Nat), l[i]? = some a → f[i]? = some b → a = if 0 < b then 1 else 0
  best : 2 ≤ codedN f → OptL f m l
section
variable {w0 w : World} {Rs : List Thing}
end
end Go.Proofs.YtdmnfjicjjlnnaaGreatDoor
/-
  What the program writes as a dynamic block, told as a function: the codes without their last zeros, the items that stand for their lengths, the third code; each block is one that is read as what it means. No program is named here.
-/
namespace Go.Proofs.YtdmnfjicjjlnnaaGreatDoor
set_option maxRecDepth 5000
/-! ### Lengths as a code that Check takes -/
def natI (l : List Nat) : List Int := l.map fun (n : Nat) => (n : Int)
theorem natI_length (l : List Nat) : (natI l).length = l.length := by simp [natI]
theorem natI_get (l : List Nat) (k : Nat) : (natI l)[k]? = (l[k]?).map fun (n : Nat) => (n : Int) := by simp [natI]
theorem check_of {l : List Int} {m : Nat} (hm : 1 ≤ m) (hm2 : m ≤ 15) (hl : l.length ≤ 288) (ha : ∀ a ∈ l, 0 ≤ a ∧ a ≤ (m : Int)) (hs : sumOf l = 0 ∨ sumOf l = 32768 ∨ sumOf l = 16384 ∧ l.count 1 = 1) : checkOf l (m : Int) = 0 := by
  unfold checkOf argBad
  rw [if_neg, if_pos hs]
  have h1 : decide ((m : Int) < 1 ∨ 15 < (m : Int) ∨ 288 < l.length) = false := by rw [decide_eq_false_iff_not]; omega
  have h2 : allIn l (m : Int) = true := (allIn_iff l m).2 ha
  rw [h1, h2]; decide
theorem check_is {l : List Int} {m : Nat} (h : checkOf l (m : Int) = 0) : l.length ≤ 288 ∧ (∀ a ∈ l, 0 ≤ a ∧ a ≤ (m : Int)) ∧ (sumOf l = 0 ∨ sumOf l = 32768 ∨ sumOf l = 16384 ∧ l.count 1 = 1) := by
  unfold checkOf at h
  split at h
  · cases h
  · rename_i hb
    split at h
    · rename_i hs
      simp only [argBad, Bool.or_eq_true, decide_eq_true_eq, Bool.not_eq_true', not_or, Bool.not_eq_false] at hb
      exact ⟨by omega, (allIn_iff l m).1 hb.2, hs⟩
    · cases h
structure LenFor (f : List Nat) (m : Nat) (l : List Nat) : Prop where
  len : l.length = f.length
  le : ∀ a ∈ l, a ≤ m
  sup : ∀ (i a b : Nat), l[i]? = some a → f[i]? = some b → (0 < a ↔ 0 < b)
  sum : kr l = 0 ∧ codedN f = 0 ∨ kr l = 32768 ∨ kr l = 16384 ∧ (natI l).count 1 = 1
theorem few_kr : ∀ (l f : List Nat), l.length = f.length → (∀ (i a b : Nat), l[i]? = some a → f[i]? = some b → a = if 0 < b then 1 else 0) → kr l = 16384 * codedN f ∧ (natI l).count 1 = codedN f ∧ ∀ a ∈ l, a ≤ 1
  | [], [], _, _ => ⟨rfl, rfl, fun _ h => by cases h⟩
  | [], _ :: _, h, _ => by simp at h
  | _ :: _, [], h, _ => by simp at h
  | a :: l, b :: f, h, hh => by
    obtain ⟨h1, h2, h3⟩ := few_kr l f (by simpa using h) fun i x y hx hy => hh (i + 1) x y hx hy
    have h0 := hh 0 a b rfl rfl
    have e : (natI (a :: l)).count 1 = (natI l).count 1 + (if a = 1 then 1 else 0) := by
      simp only [natI, List.map_cons, List.count_cons, beq_iff_eq]
      congr 1
      by_cases c : a = 1
      · subst c; rfl
      · rw [if_neg (by omega), if_neg c]
    rw [kr, codedN, h1, e, h2]
    by_cases c : 0 < b
    · rw [if_pos c] at h0 ⊢
      subst h0
      rw [show wtN 1 = 16384 by decide, if_pos rfl]
      exact ⟨by omega, by omega, fun x hx => by rcases List.mem_cons.1 hx with rfl | hx; exact Nat.le_refl _; exact h3 x hx⟩
    · rw [if_neg c] at h0 ⊢
      subst h0
      rw [wtN_zero, if_neg (by decide)]
      exact ⟨by omega, by omega, fun x hx => by rcases List.mem_cons.1 hx with rfl | hx; exact Nat.zero_le _; exact h3 x hx⟩
theorem LenOK.for {f l : List Nat} {m : Nat} (h : LenOK f m l) (hm : 1 ≤ m) : LenFor f m l := by
  by_cases hc : codedN f < 2
  · obtain ⟨h1, h2, h3⟩ := few_kr l f h.len (h.few hc)
    refine ⟨h.len, fun a ha => Nat.le_trans (h3 a ha) hm, fun i a b ha hb => ?_, ?_⟩
    · have := h.few hc i a b ha hb
      rw [this]
      split <;> omega
    · have h4 : codedN f = 0 ∨ codedN f = 1 := by omega
      rcases h4 with h4 | h4
      · exact .inl ⟨by rw [h1, h4], h4⟩
      · exact .inr (.inr ⟨by rw [h1, h4], by rw [h2, h4]⟩)
  · have hg := (h.best (by omega)).good
    exact ⟨hg.len, hg.le, hg.sup, .inr (.inl hg.whole)⟩
section
variable {f l : List Nat} {m : Nat}
theorem LenFor.all (h : LenFor f m l) : ∀ a ∈ natI l, 0 ≤ a ∧ a ≤ (m : Int) := fun a ha => by
  obtain ⟨n, hn, rfl⟩ := List.mem_map.1 ha
  have := h.le n hn
  exact ⟨Int.natCast_nonneg _, by omega⟩
theorem LenFor.check (h : LenFor f m l) (hm : 1 ≤ m) (hm2 : m ≤ 15) (hf : f.length ≤ 288) : checkOf (natI l) (m : Int) = 0 := by
  refine check_of hm hm2 (by rw [natI_length, h.len]; exact hf) h.all ?_
  have e : sumOf (natI l) = kr l := kr_sum l
  rw [e]
  rcases h.sum with h1 | h1 | h1
  · exact .inl h1.1
  · exact .inr (.inl h1)
  · exact .inr (.inr h1)
theorem LenFor.has (h : LenFor f m l) {k b : Nat} (hb : f[k]? = some b) (h0 : 0 < b) : HasSym (natI l) k := by
  have hk : k < l.length := by rw [h.len]; exact (List.getElem?_eq_some_iff.1 hb).1
  refine ⟨((l[k] : Nat) : Int), by rw [natI_get, List.getElem?_eq_getElem hk]; rfl, ?_⟩
  have := (h.sup k l[k] b (List.getElem?_eq_getElem hk) hb).2 h0
  omega
end
/-! ### The last zeros -/
def cutN (l : List Int) (least : Nat) : Nat → Nat
  | 0 => 0
  | n + 1 => if least < n + 1 ∧ l[n]?.getD 0 = 0 then cutN l least n else n + 1
def cutL (l : List Int) (least : Nat) : List Int := l.take (cutN l least l.length)
section
variable {l : List Int} {least : Nat}
theorem cutN_le : ∀ n, cutN l least n ≤ n
  | 0 => Nat.le_refl _
  | n + 1 => by unfold cutN; have := cutN_le n; split <;> omega
theorem cutN_ge : ∀ n, least ≤ n → least ≤ cutN l least n
  | 0, h => h
  | n + 1, h => by
    unfold cutN
    split
    · exact cutN_ge n (by omega)
    · exact h
theorem cutN_zero : ∀ n k, cutN l least n ≤ k → k < n → l[k]?.getD 0 = 0
  | 0, k, _, h => by omega
  | n + 1, k, h, h2 => by
    unfold cutN at h
    split at h
    · rename_i hc
      by_cases e : k = n
      · subst e; exact hc.2
      · exact cutN_zero n k h (by omega)
    · omega
theorem cutL_length : (cutL l least).length = cutN l least l.length := by
  have := cutN_le (l := l) (least := least) l.length
  simp [cutL]; omega
theorem cutL_get (k : Nat) : (cutL l least)[k]?.getD 0 = l[k]?.getD 0 := by
  unfold cutL
  rw [List.getElem?_take]
  split
  · rfl
  · rename_i h
    by_cases hk : k < l.length
    · exact (cutN_zero (least := least) l.length k (by omega) hk).symm
    · rw [List.getElem?_eq_none (by omega)]
theorem cutL_has {k : Nat} (h : HasSym l k) : HasSym (cutL l least) k := by
  obtain ⟨a, h1, h2⟩ := h
  have h3 := cutL_get (l := l) (least := least) k
  rw [h1] at h3
  cases e : (cutL l least)[k]? with
  | none => rw [e] at h3; simp at h3; omega
  | some b => rw [e] at h3; simp at h3; exact ⟨b, e, by omega⟩
theorem cutL_split (l : List Int) (least : Nat) : ∃ z, l = cutL l least ++ List.replicate z 0 := by
  refine ⟨l.length - cutN l least l.length, ?_⟩
  have hd : l.drop (cutN l least l.length) = List.replicate (l.length - cutN l least l.length) 0 := by
    refine List.ext_getElem? fun j => ?_
    rw [List.getElem?_drop, List.getElem?_replicate]
    by_cases hj : j < l.length - cutN l least l.length
    · rw [if_pos hj]
      have h1 := cutN_zero (l := l) (least := least) l.length (cutN l least l.length + j) (by omega) (by omega)
      rw [List.getElem?_eq_getElem (by omega)] at h1 ⊢
      simp at h1
      rw [h1]
    · rw [if_neg hj, List.getElem?_eq_none (by omega)]
  conv => lhs; rw [← List.take_append_drop (cutN l least l.length) l, hd]
  rfl
theorem sum_zeros : ∀ z : Nat, sumOf (List.replicate z 0) = 0
  | 0 => rfl
  | z + 1 => by
    rw [List.replicate_succ, sum_cons, sum_zeros z]
    decide
theorem cutL_check {m : Nat} (h : checkOf l (m : Int) = 0) (hm : 1 ≤ m) (hm2 : m ≤ 15) : checkOf (cutL l least) (m : Int) = 0 := by
  obtain ⟨h1, h2, h3⟩ := check_is h
  obtain ⟨z, hz⟩ := cutL_split l least
  have hle : (cutL l least).length ≤ l.length := by rw [cutL_length]; exact cutN_le _
  have hmem : ∀ a ∈ cutL l least, a ∈ l := fun a ha => List.mem_of_mem_take ha
  have hs : sumOf l = sumOf (cutL l least) := by
    have e : sumOf l = sumOf (cutL l least ++ List.replicate z 0) := congrArg sumOf hz
    rw [e]
    show tot _ 15 = tot _ 15
    rw [tot_append]
    have := sum_zeros z
    unfold sumOf at this
    rw [this, Nat.add_zero]
  have hc : l.count 1 = (cutL l least).count 1 := by
    have e : l.count 1 = (cutL l least ++ List.replicate z 0).count 1 := congrArg (List.count 1) hz
    rw [e, List.count_append, List.count_replicate]
    simp
  rw [hs, hc] at h3
  exact check_of hm hm2 (by omega) (fun a ha => h2 a (hmem a ha)) h3
end
/-! ### What stands for the lengths -/
def eqRun (v : Int) : List Int → Nat
  | [] => 0
  | a :: r => if a = v then eqRun v r + 1 else 0
theorem eqRun_le (v : Int) : ∀ l : List Int, eqRun v l ≤ l.length
  | [] => Nat.le_refl _
  | a :: r => by unfold eqRun; have := eqRun_le v r; split <;> simp <;> omega
theorem eqRun_get (v : Int) : ∀ (l : List Int) (k : Nat), k < eqRun v l → l[k]? = some v
  | [], k, h => by simp [eqRun] at h
  | a :: r, k, h => by
    unfold eqRun at h
    split at h
    · rename_i e
      cases k with
      | zero => rw [List.getElem?_cons_zero, e]
      | succ k => exact eqRun_get v r k (by omega)
    · omega
theorem eqRun_stop (v : Int) : ∀ (l : List Int) (a : Int), l[eqRun v l]? = some a → a ≠ v
  | [], _, h => by simp at h
  | b :: r, a, h => by
    unfold eqRun at h
    split at h
    · rw [List.getElem?_cons_succ] at h; exact eqRun_stop v r a h
    · rename_i e
      rw [List.getElem?_cons_zero, Option.some.injEq] at h
      rw [← h]; exact e
theorem eqRun_pos {v : Int} {l : List Int} (h : l[0]? = some v) : 1 ≤ eqRun v l := by
  cases l with
  | nil => cases h
  | cons a r =>
    simp at h
    unfold eqRun
    rw [if_pos h]; omega
abbrev Item := Nat × Nat × Nat
def nextI (all : List Int) (a : Nat) : Item × Nat :=
  if all[a]?.getD 0 = 0 ∧ 11 ≤ eqRun (all[a]?.getD 0) (all.drop a) then ((18, 7, min (eqRun (all[a]?.getD 0) (all.drop a)) 138 - 11), min (eqRun (all[a]?.getD 0) (all.drop a)) 138)
  else if all[a]?.getD 0 = 0 ∧ 3 ≤ eqRun (all[a]?.getD 0) (all.drop a) then ((17, 3, min (eqRun (all[a]?.getD 0) (all.drop a)) 10 - 3), min (eqRun (all[a]?.getD 0) (all.drop a)) 10)
  else if 0 < a ∧ all[a - 1]?.getD 0 = all[a]?.getD 0 ∧ 3 ≤ eqRun (all[a]?.getD 0) (all.drop a) then ((16, 2, min (eqRun (all[a]?.getD 0) (all.drop a)) 6 - 3), min (eqRun (all[a]?.getD 0) (all.drop a)) 6)
  else (((all[a]?.getD 0).toNat, 0, 0), 1)
def itemsF (all : List Int) : Nat → Nat → List Item
  | 0, _ => []
  | f + 1, a => if a < all.length then (nextI all a).1 :: itemsF all f (a + (nextI all a).2) else []
def itemB (hd : List Int) (x : Item) : List Nat := symBits hd x.1 ++ bitsOf x.2.1 x.2.2
section
variable {all : List Int}
theorem nextI_fits {a : Nat} (h : a < all.length) : 1 ≤ (nextI all a).2 ∧ a + (nextI all a).2 ≤ all.length := by
  have h1 := eqRun_le (all[a]?.getD 0) (all.drop a)
  rw [List.length_drop] at h1
  unfold nextI
  split
  · simp only; omega
  · split
    · simp only; omega
    · split
      · simp only; omega
      · simp only; omega
theorem nextI_sym (hA : ∀ x ∈ all, 0 ≤ x ∧ x ≤ 15) (a : Nat) : (nextI all a).1.1 < 19 ∧ (nextI all a).1.2.1 ≤ 7 ∧ (nextI all a).1.2.2 < 2 ^ (nextI all a).1.2.1 := by
  unfold nextI
  split
  · simp only; omega
  · split
    · simp only; omega
    · split
      · simp only; omega
      · refine ⟨?_, Nat.zero_le _, Nat.lt_succ_self 0⟩
        show (all[a]?.getD 0).toNat < 19
        cases e : all[a]? with
        | none => decide
        | some v => have := hA v (List.mem_of_getElem? e); show v.toNat < 19; omega
theorem itemsF_sym (hA : ∀ x ∈ all, 0 ≤ x ∧ x ≤ 15) : ∀ f a, ∀ x ∈ itemsF all f a, x.1 < 19 ∧ x.2.1 ≤ 7 ∧ x.2.2 < 2 ^ x.2.1
  | 0, _, x, h => by cases h
  | f + 1, a, x, h => by
    unfold itemsF at h
    split at h
    · rcases List.mem_cons.1 h with rfl | h
      · exact nextI_sym hA a
      · exact itemsF_sym hA f _ x h
    · cases h
theorem itemsF_length : ∀ f a, (itemsF all f a).length ≤ f
  | 0, _ => Nat.le_refl _
  | f + 1, a => by
    unfold itemsF
    split
    · rw [List.length_cons]; have := itemsF_length f (a + (nextI all a).2); omega
    · exact Nat.zero_le _
theorem take_run {a n : Nat} {v : Int} (h : n ≤ eqRun v (all.drop a)) : all.take a ++ List.replicate n v = all.take (a + n) := by
  rw [List.take_add]
  congr 1
  refine List.ext_getElem? fun j => ?_
  rw [List.getElem?_replicate, List.getElem?_take]
  by_cases hj : j < n
  · rw [if_pos hj, if_pos hj, eqRun_get v _ j (by omega)]
  · rw [if_neg hj, if_neg hj]
theorem items_lens {hd : List Int} (hA : ∀ x ∈ all, 0 ≤ x ∧ x ≤ 15) : ∀ f a, a ≤ all.length → all.length - a ≤ f → (∀ x ∈ itemsF all f a, HasSym hd x.1) → LenBits hd (all.take a) ((itemsF all f a).flatMap (itemB hd)) all
  | 0, a, h1, h2, _ => by
    have e : all.take a = all := List.take_of_length_le (by omega)
    rw [e]
    exact .done all
  | f + 1, a, h1, h2, hs => by
    unfold itemsF at hs ⊢
    by_cases h : a < all.length
    · rw [if_pos h] at hs ⊢
      obtain ⟨g1, g2⟩ := nextI_fits h
      have ih := items_lens hA f (a + (nextI all a).2) g2 (by omega) fun x hx => hs x (List.mem_cons_of_mem _ hx)
      have hs1 := hs _ (List.mem_cons_self ..)
      rw [List.flatMap_cons]
      generalize hR : (itemsF all f (a + (nextI all a).2)).flatMap (itemB hd) = R at ih ⊢
      have hv : all[a]? = some (all[a]?.getD 0) := by rw [List.getElem?_eq_getElem h]; rfl
      have hvm := hA _ (List.mem_of_getElem? hv)
      generalize hvv : all[a]?.getD 0 = v at hv hvm
      have hrun : (all.drop a)[0]? = some v := by rw [List.getElem?_drop]; exact hv
      have hpos := eqRun_pos hrun
      unfold nextI at ih hs1 ⊢
      rw [hvv] at ih hs1 ⊢
      unfold itemB
      split
      · rename_i c
        rw [if_pos c] at ih hs1
        obtain ⟨rfl, c2⟩ := c
        have e := take_run (all := all) (a := a) (n := min (eqRun 0 (all.drop a)) 138) (v := 0) (by omega)
        rw [← e] at ih
        have hm : 11 + (min (eqRun 0 (all.drop a)) 138 - 11) = min (eqRun 0 (all.drop a)) 138 := by omega
        simp only [List.append_assoc]
        refine .many _ _ _ _ (by omega) hs1 ?_
        rw [hm]; exact ih
      · rename_i c
        rw [if_neg c] at ih hs1
        split
        · rename_i c1
          rw [if_pos c1] at ih hs1
          obtain ⟨rfl, c2⟩ := c1
          have e := take_run (all := all) (a := a) (n := min (eqRun 0 (all.drop a)) 10) (v := 0) (by omega)
          rw [← e] at ih
          have hm : 3 + (min (eqRun 0 (all.drop a)) 10 - 3) = min (eqRun 0 (all.drop a)) 10 := by omega
          simp only [List.append_assoc]
          refine .zeros _ _ _ _ (by omega) hs1 ?_
          rw [hm]; exact ih
        · rename_i c1
          rw [if_neg c1] at ih hs1
          split
          · rename_i c2
            rw [if_pos c2] at ih hs1
            obtain ⟨c3, c4, c5⟩ := c2
            have e := take_run (all := all) (a := a) (n := min (eqRun v (all.drop a)) 6) (v := v) (by omega)
            rw [← e] at ih
            have hm : 3 + (min (eqRun v (all.drop a)) 6 - 3) = min (eqRun v (all.drop a)) 6 := by omega
            simp only [List.append_assoc]
            refine .same _ v _ _ _ ?_ (by omega) hs1 ?_
            · rw [List.getLast?_eq_getElem?, List.getElem?_take, List.length_take, if_pos (by omega), show min a all.length - 1 = a - 1 by omega]
              rw [List.getElem?_eq_getElem (by omega)] at c4 ⊢
              simp at c4
              rw [c4]
            · rw [hm]; exact ih
          · rename_i c2
            rw [if_neg c2] at ih hs1
            have e := take_run (all := all) (a := a) (n := 1) (v := v) (by omega)
            rw [← e] at ih
            have hz : bitsOf 0 0 = [] := rfl
            simp only [hz, List.append_nil]
            refine .one _ _ _ _ (by omega) hs1 ?_
            have e2 : ((v.toNat : Nat) : Int) = v := by omega
            rw [e2]
            exact ih
    · rw [if_neg h]
      have e : all.take a = all := List.take_of_length_le (by omega)
      rw [e]
      exact .done all
end
end Go.Proofs.YtdmnfjicjjlnnaaGreatDoor
