/-
  Bytes that are put out at once are that many steps of the machine; the decoder's answer then.
-/
import Derived.Test.YtbkbkmgogbgofaaDoorZh13
import Derived.Test.YtbkbkmgogbgofaaDoorProg
import Derived.Test.YtbkbkmgogbgofaaDoorZh06
import Derived.Test.YtbkbkmgogbgofaaDoorZh04
import Derived.StillTailTactics
import Derived.Lib.AppendZerosOnto
namespace Go.Proofs.YtbkbkmgogbgofaaDoor
set_option maxRecDepth 5000
open Go.RowKit
theorem bytesOf_cons {l : List Nat} (h : 8 ≤ l.length) : bytesOf l = numOf (l.take 8) :: bytesOf (l.drop 8) := by
  unfold bytesOf
  rw [List.length_drop, show l.length / 8 = (l.length - 8) / 8 + 1 by omega, List.range_succ_eq_map, List.map_cons, List.map_map]
  congr 1
  refine List.map_congr_left fun i _ => ?_
  simp only [Function.comp]
  rw [List.drop_drop]
  rw [show 8 * (i + 1) = 8 + 8 * i by omega]
theorem sto_runs {M : Nat} {b : Bool} : ∀ (m n : Nat) (l o : List Nat), 8 * m ≤ l.length → m ≤ n → o.length + m ≤ M → Reach M (.sto b n) l o (.sto b (n - m)) (l.drop (8 * m)) (o ++ (bytesOf l).take m)
  | 0, n, l, o, _, _, _ => by simpa using Reach.refl
  | m + 1, n, l, o, h8, hn, hM => by
    have hst : stepM M l o (.sto b n) = .go (.sto b (n - 1)) (l.drop 8) (o ++ [numOf (l.take 8)]) := by
      show stoM M b n l o = _
      unfold stoM
      rw [if_neg (by omega), if_neg (by omega), if_neg (by omega)]
    have ih := sto_runs (M := M) (b := b) m (n - 1) (l.drop 8) (o ++ [numOf (l.take 8)]) (by rw [List.length_drop]; omega) (by omega) (by rw [List.length_append]; simp; omega)
    rw [List.drop_drop, show 8 + 8 * m = 8 * (m + 1) by omega, show n - 1 - m = n - (m + 1) by omega, List.append_assoc] at ih
    rw [bytesOf_cons (by omega), List.take_succ_cons]
    exact .step hst ih
theorem ROut.outs {w0 w' : World} {p : Place} {v : Value} {bs : List Nat} {M : Nat} {c c' : DC} {ls ls' : List Int} {Ts Ts' : List (List Int × Nat)} {ph ph' : Ph} {l l' o got t : List Nat} {Rs : List Thing} (hi : DInv M c ls Ts ph l o got) (hr : Reach M ph l o ph' l' (o ++ t)) (ht : t ≠ [])
    (H : Held w0 w' (decM p c' v bs l' (o ++ t) (got ++ t) ls' Ts' Rs)) (hc : PhC c' ls' Ts' ph') (hf : FxC c' Ts') (hm : c'.most + t.length = c.most) (hroom : c'.room + t.length = c.room) (hr0 : 0 ≤ c'.room) : ROut w0 w' p v bs M ph c l o got ls Ts Rs 0 := by
  obtain ⟨h1, _, h3⟩ := hi.ok.reach hr
  have hinv : DInv M c' ls' Ts' ph' l' (o ++ t) (got ++ t) := ⟨hc, hf, h1, by rw [List.length_append]; have := hi.most; omega, hi.big, Nat.lt_of_le_of_lt h3 hi.len, by rw [List.length_append, List.length_append]; have := hi.got; omega, hr0, by have := hi.top; omega⟩
  generalize he : o ++ t = o' at hr H hinv
  cases hr with
  | refl =>
    have h4 := congrArg List.length he
    rw [List.length_append] at h4
    exact absurd (List.eq_nil_of_length_eq_zero (by omega)) ht
  | step hs hr => exact .go H hinv hs hr he.symm hroom
end Go.Proofs.YtbkbkmgogbgofaaDoor
/-
  The library's Repeat of one number and Concat of slices of numbers, as the program calls them.
-/
namespace Go.Proofs.YtbkbkmgogbgofaaDoor
set_option maxRecDepth 5000
open Go.RowKit
theorem infoIntB : (Tryd.prog.info? 3).map (fun i => (i.zero, i.size, i.bytes)) = some (some (.int .i64 0), 1, 8) := by kernel_rfl
/-! ### A copy into an own slice, from a place on -/
section
variable {P : Program} {w : World}
theorem run_copy_in (dT sT ty e : TypeId) (i : TypeInfo) (ht : P.underlying dT = some (.slice e)) (hi : P.info? e = some i) (hs : i.size = 1) (g n cap L m capd : Nat) (xs ys : List Value) (hown : Own w e 1 (.slice (some ⟨g, 0, none⟩) n cap) n xs) (hLm : L + m = n)
    (s : Value) (k : Nat) (hsrc : Rd w 1 s k ys) (h1 : ∀ u ∈ ys, u.oneCell' = true) (hq : 0 < min k m) :
    ∃ w', (Builtin.copy_ #[dT, sT] ty #[.slice (some ⟨g, L, none⟩) m capd, s]).run P w = .ok (goInt ((min k m : Nat) : Int)) w' ∧ Own w' e 1 (.slice (some ⟨g, 0, none⟩) n cap) n (xs.take L ++ (ys.take (min k m) ++ xs.drop (L + min k m))) ∧ Mod w w' (fun k => k = g) := by
  obtain ⟨hyl, sa, scap, rfl, hmc, hsm, hs0, hsrd⟩ := hsrc
  rcases hown.2 with ⟨hv, hn0⟩ | ⟨g', off, cap', cur, hv, hg, hn, hc, hcs, hx⟩
  · cases hv
  simp only [Value.slice.injEq, Option.some.injEq, Addr.mk.injEq, and_true, true_and] at hv
  obtain ⟨⟨rfl, rfl⟩, rfl⟩ := hv
  rcases hsrd with hm0 | ⟨b, so, rfl, hcl0⟩
  · omega
  have hxl : xs.length = n := by rw [hown.1]; omega
  have hyl1 : ys.length = k := by rw [hyl]; omega
  have hcl : (ys.take (min k m)).length = min k m := by rw [List.length_take, hyl1]; omega
  have hl := run_loadCells_list (P := P) w ⟨b, so, none⟩ (ys.take (min k m)) (fun j u hu => by
    rw [Addr.add_lit]
    refine hcl0 j u ?_
    rw [List.getElem?_take] at hu
    split at hu
    · exact hu
    · cases hu)
  rw [hcl] at hl
  have hst := run_storeCells_at P g L e (ys.take (min k m)) 0 cur w hg (by rw [hcl]; omega) (fun u hu => h1 u (List.mem_of_mem_take hu))
  rw [hcl, Nat.add_zero] at hst
  have hpre : cur.toList.take L = xs.take L := by
    refine List.ext_getElem? fun j => ?_
    rw [List.getElem?_take, List.getElem?_take]
    by_cases hj : j < L
    · rw [if_pos hj, if_pos hj]
      have h2 : j < xs.length := by omega
      have h3 := hx j _ (List.getElem?_eq_getElem h2)
      rw [Nat.zero_add] at h3
      rw [Array.getElem?_toList, h3, List.getElem?_eq_getElem h2]
    · rw [if_neg hj, if_neg hj]
  have hvl : (xs.take L ++ ys.take (min k m)).length = L + min k m := by rw [List.length_append, List.length_take, hcl]; omega
  obtain ⟨H1, H2⟩ := Own.splice (vs := xs.take L ++ ys.take (min k m)) (w' := w.setRow g (cur.toList.take L ++ ys.take (min k m) ++ cur.toList.drop (L + min k m)).toArray) hown.1 hg hn hc hcs hx (by rw [hvl]; omega) (by rw [hvl, hpre]; simp)
  rw [hvl, List.append_assoc] at H1
  rw [List.append_assoc] at H1 H2 hst
  refine ⟨_, ?_, H1, H2⟩
  have hmin : Nat.min m k = min k m := Nat.min_comm m k
  have hmin2 : Nat.min k m = min k m := rfl
  simp [Builtin.copy_, run_underlying ht, Builtin.lenOf, Builtin.firstCells, sizeOf, typeInfo, hi, hs, hmin2, hl, hst]
theorem step_copy_in {ops : Array Oper} {o : Oper} {ac : Act} {K : Act → World → Prop} {Q : Exit → Act → World → Prop} {E : Prop} (hgd : o.guard = none) (d s : Operand) (dT sT : TypeId)
    (ho : o.op = .call { callee := .builtin .copy, args := #[d, s], argTypes := #[dT, sT] }) (e : TypeId) (i : TypeInfo) (ht : P.underlying dT = some (.slice e)) (hi : P.info? e = some i) (hs : i.size = 1)
    (g n cap L m capd : Nat) (xs ys : List Value) (hd : ac.eval d = .slice (some ⟨g, L, none⟩) m capd) (hown : Own w e 1 (.slice (some ⟨g, 0, none⟩) n cap) n xs) (hLm : L + m = n) (y : Value) (k : Nat) (hy : ac.eval s = y) (hsrc : Rd w 1 y k ys) (h1 : ∀ u ∈ ys, u.oneCell' = true) (hq : 0 < min k m)
    (h : ∀ w', Own w' e 1 (.slice (some ⟨g, 0, none⟩) n cap) n (xs.take L ++ (ys.take (min k m) ++ xs.drop (L + min k m))) → Mod w w' (fun k => k = g) → K (ac.put o.dst (goInt ((min k m : Nat) : Int))) w') :
    if Region.wanted o (yielded ops ac.tmps) = true then Oper.wp P o ac w K Q else E := by
  rw [if_pos (by simp [Region.wanted, hgd])]
  obtain ⟨w', hr, H1, H2⟩ := run_copy_in (P := P) dT sT o.type e i ht hi hs g n cap L m capd xs ys hown hLm y k hsrc h1 hq
  unfold Oper.wp execOp
  simp only [ho, resolve, invoke, builtin, Sem.run_bind, Sem.run_pure, Result.andThen_ok, List.map_toArray, List.map_cons, List.map_nil, hd, hy, hr]
  exact h w' H1 H2
end
/-! ### Repeat -/
theorem mul_one_any (c : Nat) (hc : c < 4294967296) (w : World) :
    Calls Tryd.prog 73 #[.int .u64 1, .int .u64 (c : Int)] w fun e w' => e = .returned (.tuple #[.int .u64 0, .int .u64 (c : Int)]) ∧ w = w' := by
  have hc0 : (0 : Int) ≤ (c : Int) := Int.natCast_nonneg _
  have h1 : bits .and .u64 1 4294967295 = 1 := by decide
  have h2 : bits .and .u64 (c : Int) 4294967295 = (c : Int) := by
    have h := bits_and_u64_nat c 4294967295 (by omega) (by decide)
    rw [show (4294967295 : Nat) = 2 ^ 32 - 1 from rfl, Nat.and_two_pow_sub_one_eq_mod, Nat.mod_eq_of_lt (by omega)] at h
    exact h
  have h3 : (c : Int) / 4294967296 = 0 := by omega
  have h4 : IntKind.u64.wrap (c : Int) = (c : Int) := IntWalk.u64_in _ (by omega)
  have h5 : IntKind.u64.wrap 0 = 0 := rfl
  have h6 : bits .and .u64 0 4294967295 = 0 := by decide
  go_enter Tryd.func73, Tryd.ntmps73
  go_wp2
  go_ret2
  exact ⟨rfl, rfl⟩
theorem made_cellsB (z : Value) (n : Nat) (hz : z.cells = #[z]) : (madeCells z.cells (n * 1)).toList = List.replicate n z := by
  rw [Nat.mul_one, hz]
  refine List.ext_getElem? fun j => ?_
  by_cases hj : j < n
  · simp [madeCells, hj, Nat.mod_one]
  · rw [List.getElem?_eq_none (by simp [madeCells]; omega), List.getElem?_eq_none (by simp; omega)]
theorem reps (a : Int) (n c : Nat) : ints (List.replicate n a ++ List.replicate (c - n) 0) = ints (List.replicate n a) ++ List.replicate (c - n) (.int .i64 0) := by simp [ints]
set_option maxHeartbeats 1600000 in
theorem repeat_one (x : Value) (a : Int) (c : Nat) (w : World) (hx : Rd w 1 x 1 (ints [a])) (hc : 1 ≤ c ∧ c ≤ 144) :
    Calls Tryd.prog 57 #[x, .int .i64 (c : Int)] w fun e w' => ∃ v, e = .returned v ∧ Held w w' [ownT 3 1 v c (ints (List.replicate c a))] := by
  obtain ⟨i, hi, hz0, hz1, hz2⟩ := info_parts infoIntB
  obtain ⟨ao, cap, rfl, _, _⟩ := hx.form
  have HM := hid (mul_one_any c (by omega) w)
  obtain ⟨hc1, hc2⟩ := id hc
  have hc0 : (0 : Int) ≤ (c : Int) := Int.natCast_nonneg _
  have hcp : (0 : Int) < (c : Int) := by omega
  have hw1 : IntKind.u64.wrap (c : Int) = (c : Int) := IntWalk.u64_in _ (by omega)
  have hw2 : IntKind.i64.wrap (c : Int) = (c : Int) := wrap_nat c (by omega)
  have hb1 : decide ((9223372036854775807 : Int) < (c : Int)) = false := by simp; omega
  clear hc
  go_enter Tryd.func57, Tryd.ntmps57
  go_wp2_with fail
  refine HM.out.mono ?_
  rintro e w1 ⟨rfl, rfl⟩
  go_wp2_with first
    | ((with_reducible show wpList _ _ _ (⟨some 30, _, _, _, _, _⟩ :: _) _ _); refine wpList_make_own rfl 46 (.tmp 29) (.tmp 29) rfl 3 i (.int .i64 0) 1 Tryd.underlying46 hi hz0 hz1 .i64 c rfl rfl (by rw [hz2]; omega) (by unfold maxLen; omega) ?_; intro v1 w2 zs ho1 hm1 hf1 hv1 hzs; subst hv1; have H1 := hid ((Held.start w).pushOwn ho1 hm1 hf1); have HX1 := hid (hx.kept hm1 (fun _ _ h => h)); clear hm1 hf1 ho1)
    | ((with_reducible show wpList _ _ _ (⟨some 33, _, _, _, _, _⟩ :: _) _ _); refine wpList_copy_own' rfl (.tmp 31) (.tmp 32) 46 46 rfl 3 i 1 Tryd.underlying46 hi hz1 (.slice (some ⟨w.heap.size, 0, none⟩) c c) _ c 1 zs (ints [a]) rfl rfl H1.out.own HX1.out (ints_one _) ?_; intro w3 ho2 hm2; have H2 := hid (H1.out.putOwn ho2 (hm2.mono fun k _ hk => by simp [Value.ownBlock] at hk; omega)); rw [show min 1 c = 1 by omega]; clear ho2 hm2)
    | fail
  have hzs2 : Hid ((ints [a]).take (min 1 c * 1) ++ zs.drop (min 1 c * 1) = ints (List.replicate 1 a ++ List.replicate (c - 1) 0)) := by
    rw [hzs, made_cellsB _ _ rfl, show min 1 c = 1 by omega, reps, Nat.mul_one]
    refine hid ?_
    rw [List.take_of_length_le (by simp [ints]), List.drop_replicate]; rfl
  rw [hzs2.out] at H2
  have hb := hi
  clear hzs hzs2 H1 HX1 hx HM
  go_loopg [8] 1000 (fun k t8 wr => ∃ n : Nat, 1 ≤ n ∧ n ≤ c ∧ c - n < k ∧ t8 = .int .i64 (n : Int) ∧ Hid (Held w wr [ownT 3 1 (.slice (some ⟨w.heap.size, 0, none⟩) c c) c (ints (List.replicate n a ++ List.replicate (c - n) 0))]))
  case atStart => exact ⟨1, by omega, by omega, by omega, rfl, H2⟩
  case round =>
    obtain ⟨n, hn1, hn2, hk, rfl, HH⟩ := hrel
    have hn0 : (0 : Int) ≤ (n : Int) := Int.natCast_nonneg _
    by_cases hnc : n < c
    · have hncI : (n : Int) < (c : Int) := by omega
      have hcut1 : ∀ wg, (Instr.sliceAt 46 (.slice (some ⟨w.heap.size, 0, none⟩) c c) (some (.int .i64 (n : Int))) none none).run Tryd.prog wg = .ok (.slice (some ⟨w.heap.size, n, none⟩) (c - n) (c - n)) wg := fun wg => by
        have h := run_cut (P := Tryd.prog) (w := wg) 46 3 i 1 Tryd.underlying46 hi hz1 (some ⟨w.heap.size, 0, none⟩) c c n c (some (.int .i64 (n : Int))) none ⟨_, rfl⟩ rfl (by omega) (Nat.le_refl _)
        rw [h]
        unfold sliced
        rw [if_neg (by omega)]
        simp [Addr.add_lit]
      have hcut2 : ∀ wg, (Instr.sliceAt 46 (.slice (some ⟨w.heap.size, 0, none⟩) c c) none (some (.int .i64 (n : Int))) none).run Tryd.prog wg = .ok (.slice (some ⟨w.heap.size, 0, none⟩) n c) wg := fun wg => by
        have h := run_cut (P := Tryd.prog) (w := wg) 46 3 i 1 Tryd.underlying46 hi hz1 (some ⟨w.heap.size, 0, none⟩) c c 0 n none (some (.int .i64 (n : Int))) rfl ⟨_, rfl⟩ (by omega) (by omega)
        rw [h, sliced_front _ _ _ _ (fun x hx => by simp at hx; rw [← hx])]
      have HRd : Hid (Rd wr 1 (.slice (some ⟨w.heap.size, 0, none⟩) n c) n (ints (List.replicate n a))) := by
        have h := HH.out.own.rd.front (H := n) (by omega)
        rw [reps, Nat.mul_one, List.take_left' (by simp [ints])] at h
        exact hid h
      have hcnI : (c : Int) - (n : Int) = ((c - n : Nat) : Int) := by omega
      go_wp2
      go_region_held3 (fun _ => True) (trivial) ((first | skip; refine step_copy_in (by rfl) (.tmp 41) (.tmp 44) 46 46 (by rfl) 3 i Tryd.underlying46 hi hz1 w.heap.size c c n (c - n) (c - n) (ints (List.replicate n a ++ List.replicate (c - n) 0)) (ints (List.replicate n a)) (by rfl) (by exact HH.out.own.drew) (by omega) (.slice (some ⟨w.heap.size, 0, none⟩) n c) n (by rfl) (by exact HRd.out.drew) (ints_one _) (by omega) ?_; intro w4 ho4 hm4; have H4 := hid (HH.out.drew.putOwn ho4 hm4); clear ho4 hm4))
      obtain ⟨q, hq⟩ : ∃ q, q = min n (c - n) := ⟨_, rfl⟩
      have hq1 : 1 ≤ q ∧ n + q ≤ c := by omega
      have hE : Hid ((ints (List.replicate n a ++ List.replicate (c - n) 0)).take n ++ ((ints (List.replicate n a)).take (min n (c - n)) ++ (ints (List.replicate n a ++ List.replicate (c - n) 0)).drop (n + min n (c - n))) = ints (List.replicate (n + q) a ++ List.replicate (c - (n + q)) 0)) := by
        rw [← hq, reps, reps, List.take_left' (by simp [ints])]
        have h1 : (ints (List.replicate n a)).take q = ints (List.replicate q a) := by
          simp only [ints, List.map_replicate, List.take_replicate]
          rw [Nat.min_eq_left (by omega)]
        have h2 : (ints (List.replicate n a) ++ List.replicate (c - n) (Value.int .i64 0)).drop (n + q) = List.replicate (c - (n + q)) (.int .i64 0) := by
          rw [List.drop_append, List.drop_of_length_le (by simp [ints]), List.nil_append, List.drop_replicate]
          simp [ints]
          omega
        rw [h1, h2, ← List.append_assoc]
        refine hid ?_
        rw [← ints_append, List.replicate_append_replicate]
      have hqI : IntKind.i64.wrap ((n : Int) + ((min n (c - n) : Nat) : Int)) = ((n + q : Nat) : Int) := by
        rw [← hq, ← Int.natCast_add]; exact wrap_nat _ (by omega)
      rw [hE.out] at H4
      simp only [goInt, hqI]
      go_wp2
      go_roundg (gk - 1)
      case measure => omega
      case rel => exact ⟨n + q, by omega, by omega, by omega, rfl, H4⟩
    · have hncI : ¬ (n : Int) < (c : Int) := by omega
      obtain rfl : n = c := by omega
      have hE : Hid (ints (List.replicate n a ++ List.replicate (n - n) 0) = ints (List.replicate n a)) := by
        rw [Nat.sub_self, List.replicate_zero, List.append_nil]
        exact hid rfl
      rw [hE.out] at HH
      go_wp2
      go_ret
      exact ⟨_, rfl, HH.out⟩
/-! ### Concat -/
set_option maxHeartbeats 800000 in
theorem growI_nil (n : Nat) (w0 w : World) (Rs : List Thing) (h : Held w0 w Rs) (hn : 0 < n) (hN2 : n ≤ 100000) :
    Calls Tryd.prog 93 #[.slice none 0 0, .int .i64 (n : Int)] w fun e w' => ∃ v, e = .returned v ∧ Held w0 w' (ownT 3 1 v 0 [] :: Rs) := by
  obtain ⟨i, hi, hz0, hz1, hz2⟩ := info_parts infoIntB
  obtain ⟨G, hG⟩ : ∃ G, G = grownCap w (0 + n) 0 3 := ⟨_, rfl⟩
  have hrz : ∀ ty, (Builtin.append_ #[46, 3] ty #[.slice none 0 0, .int .i64 (n : Int)]).run Tryd.prog w =
      .ok (.slice (some ⟨w.heap.size, 0, none⟩) n G) (w.drew.alloc (.cells (#[] ++ Builtin.zeroCells (#[.int .i64 0]) n ++ Builtin.zeroCells (#[.int .i64 0]) (G - n)) 3)) := fun ty => by
    have h := Lib.run_append_grow_zeros w 46 3 ty 3 i (.int .i64 0) .i64 .i64 Tryd.underlying46 Tryd.underlying3 hi hz0 none 0 0 [] (by simp [Builtin.firstCells]) n hn (by rw [hz1]; decide) (by omega) (by omega) (by rw [hz2]; omega) (growslice_fits (by omega) (by rw [hz2]; omega))
    rw [← hG, Nat.zero_add] at h
    exact h
  have hGn : n ≤ G := by rw [hG]; have := grownCap_ge w (0 + n) 0 3; omega
  have hGm : G ≤ maxLen := by rw [hG]; exact grownCap_le_maxLen w (0 + n) 0 _ (by unfold maxLen; omega)
  have H := hid h
  have h0 : (0 : Int) ≤ (n : Int) := Int.natCast_nonneg _
  have h1 : ¬ (n : Int) < 0 := by omega
  have h2 : (0 : Int) < (n : Int) := by omega
  clear h hG
  go_enter Tryd.func93, Tryd.ntmps93
  go_wp2_with (at_builtin; refine Lib.wpList_append_run _ rfl _ _ _ _ rfl _ _ rfl rfl _ _ (hrz _) ?_)
  go_ret
  refine ⟨_, rfl, ?_⟩
  have hown : Own ((w.alloc (.cells (Builtin.zeroCells #[.int .i64 0] n ++ Builtin.zeroCells #[.int .i64 0] (G - n)) 3)).drew) 3 1 (.slice (some ⟨w.heap.size, 0, none⟩) 0 G) 0 [] :=
    ⟨rfl, .inr ⟨w.heap.size, 0, G, _, rfl, heap_alloc_new w _, Nat.zero_le _, hGm, by simp [size_zeroCells]; omega, fun j u hu => by simp at hu⟩⟩
  exact H.out.pushOwn hown (((Mod.refl w _).alloc _).drew) (fun k hk => by simp [Value.ownBlock] at hk; omega)
theorem flat_snoc (ls : List (List Int)) (i : Nat) (l : List Int) (h : ls[i]? = some l) : (ls.take (i + 1)).flatten = (ls.take i).flatten ++ l := by
  rw [List.take_add_one, h]; simp
theorem flat_le (ls : List (List Int)) (i : Nat) : (ls.take i).flatten.length ≤ ls.flatten.length := by
  conv => rhs; rw [← List.take_append_drop i ls, List.flatten_append, List.length_append]
  omega
set_option maxHeartbeats 3200000 in
theorem concatI_any (vs : List Value) (ls : List (List Int)) (u : Value) (n : Nat) (w : World) (hu : Rd w 1 u n vs) (hn : vs.length = n) (hl : ls.length = n) (hR : ∀ (i : Nat) (v : Value) (l : List Int), vs[i]? = some v → ls[i]? = some l → Rd w 1 v l.length (ints l)) (hpos : 0 < ls.flatten.length) (htot : ls.flatten.length ≤ 100000) (hn2 : n ≤ 1000) :
    Calls Tryd.prog 82 #[u] w fun e w' => ∃ v, e = .returned v ∧ Held w w' [ownT 3 1 v ls.flatten.length (ints ls.flatten)] := by
  obtain ⟨i0, hi, hz0, hz1, hz2⟩ := info_parts infoIntB
  obtain ⟨uo, uc, rfl, _, _⟩ := hu.form
  have HU := hid hu
  have HR := hid hR
  have HL := hid (And.intro hn hl)
  have hn0 : (0 : Int) ≤ (n : Int) := Int.natCast_nonneg _
  obtain ⟨N, hN⟩ : ∃ N, N = ls.flatten.length := ⟨_, rfl⟩
  rw [← hN] at hpos htot ⊢
  have HN := hid hN
  clear hu hR hn hl hN
  go_enter Tryd.func82, Tryd.ntmps82
  go_wp2
  go_loopg [3, 11] (n + 1) (fun k t3 t11 wr => ∃ (i s : Nat), i ≤ n ∧ n - i < k ∧ t11 = .int .i64 (i : Int) ∧ t3 = .int .i64 (s : Int) ∧ s ≤ N ∧ Hid (s = (ls.take i).flatten.length) ∧ wr = w)
  case atStart => exact ⟨0, 0, by omega, by omega, rfl, rfl, by omega, hid rfl, rfl⟩
  case round =>
    obtain ⟨i, s, hi2, hk, rfl, rfl, hs, HS, hwr⟩ := hrel
    obtain rfl := hwr.symm
    have hi0 : (0 : Int) ≤ (i : Int) := Int.natCast_nonneg _
    have hs0 : (0 : Int) ≤ (s : Int) := Int.natCast_nonneg _
    by_cases hin : i < n
    · have hinI : (i : Int) < (n : Int) := by omega
      obtain ⟨g, off, rfl, hcell⟩ := HU.out.spot (by omega)
      have hvl : i < vs.length := by have := HL.out.1; omega
      have hll : i < ls.length := by have := HL.out.2; omega
      have hrd := HR.out i _ _ (List.getElem?_eq_getElem hvl) (List.getElem?_eq_getElem hll)
      obtain ⟨ao, cap, hve, hx1, hx2⟩ := hrd.form
      have hc1 := hcell i _ (List.getElem?_eq_getElem hvl)
      rw [hve] at hc1
      obtain ⟨q, hq⟩ : ∃ q, q = (ls[i]'hll).length := ⟨_, rfl⟩
      rw [← hq] at hc1
      have hsn : s + q = (ls.take (i + 1)).flatten.length := by rw [flat_snoc ls i _ (List.getElem?_eq_getElem hll), List.length_append, ← HS.out, ← hq]
      have hsN : s + q ≤ N := by rw [hsn, HN.out]; exact flat_le ls _
      have HSN := hid hsn
      have hq0 : (0 : Int) ≤ (q : Int) := Int.natCast_nonneg _
      have hge : ¬ (s : Int) + (q : Int) < 0 := by omega
      clear hcell hrd hve hq hsn hx1 hx2
      go_wp2
      go_roundg (gk - 1)
      case measure => omega
      case rel => exact ⟨i + 1, s + q, by omega, by omega, by go_num, by go_num, hsN, HSN, rfl⟩
    · have hinI : ¬ (i : Int) < (n : Int) := by omega
      have hsN : s = N := by
        rw [HS.out, HN.out, List.take_of_length_le (by have := HL.out.2; omega)]
      subst hsN
      have HG := hid (growI_nil s w w [] (Held.start w) hpos htot)
      go_wp2_with fail
      refine HG.out.mono ?_
      rintro e w1 ⟨v, rfl, hh⟩
      have HH := hid hh
      clear hh HG
      go_wp2
      go_loopg [6, 27] (n + 1) (fun k t6 t27 wq => ∃ (j L : Nat) (ao : Option Addr) (cap : Nat), j ≤ n ∧ n - j < k ∧ t27 = .int .i64 (j : Int) ∧ t6 = .slice ao L cap ∧ L ≤ s ∧ Hid (L = (ls.take j).flatten.length) ∧
        Hid (Held w wq [ownT 3 1 (.slice ao L cap) L (ints (ls.take j).flatten)]))
      case atStart =>
        obtain ⟨ao, cap, rfl, _, _⟩ := HH.out.own.form
        exact ⟨0, 0, ao, cap, by omega, by omega, rfl, rfl, by omega, hid rfl, HH⟩
      case round =>
        obtain ⟨j, L, ao, cap, hj2, hk2, rfl, rfl, hLs, HJ, HH2⟩ := hrel
        have hj0 : (0 : Int) ≤ (j : Int) := Int.natCast_nonneg _
        by_cases hjn : j < n
        · have hjnI : (j : Int) < (n : Int) := by omega
          have HU2 := HH2.out.old HU.out
          obtain ⟨g, off, rfl, hcell⟩ := HU2.spot (by omega)
          have hvl : j < vs.length := by have := HL.out.1; omega
          have hll : j < ls.length := by have := HL.out.2; omega
          have hrd := HH2.out.old (HR.out j _ _ (List.getElem?_eq_getElem hvl) (List.getElem?_eq_getElem hll))
          obtain ⟨bo, bc, hve, hx1, hx2⟩ := hrd.form
          have hc1 := hcell j _ (List.getElem?_eq_getElem hvl)
          rw [hve] at hc1 hrd
          obtain ⟨q, hq⟩ : ∃ q, q = (ls[j]'hll).length := ⟨_, rfl⟩
          rw [← hq] at hc1 hrd
          have hsn : L + q = (ls.take (j + 1)).flatten.length := by rw [flat_snoc ls j _ (List.getElem?_eq_getElem hll), List.length_append, ← HJ.out, ← hq]
          have hsN : L + q ≤ s := by rw [hsn, HN.out]; exact flat_le ls _
          have hE : Hid (ints (ls.take j).flatten ++ ints (ls[j]'hll) = ints (ls.take (j + 1)).flatten) := by
            rw [flat_snoc ls j _ (List.getElem?_eq_getElem hll), ints_append]; exact hid rfl
          have HSN := hid hsn
          have HRD := hid hrd
          clear hcell hrd hve hq hsn HU2 hx1 hx2
          go_wp2_with ((with_reducible show wpList _ _ _ (⟨some 33, _, _, _, _, _⟩ :: _) _ _); refine wpList_app_held rfl (.tmp 31) (.tmp 32) 46 rfl 3 i0 (.int .i64 0) 1 8 Tryd.underlying46 hi hz0 hz1 hz2 rfl (by decide) _ _ (ints (ls.take j).flatten) rfl HH2.out _ q (ints (ls[j]'hll)) rfl HRD.out (ints_one _) (L + q) rfl (by unfold maxLen; omega) (by omega) ?_; intro ao1 cap1 w4 h1; rw [hE.out] at h1; have HJ2 := hid h1; clear h1)
          go_roundg (gk - 1)
          case measure => omega
          case rel => exact ⟨j + 1, L + q, ao1, cap1, by omega, by omega, by go_num, rfl, hsN, HSN, HJ2⟩
        · have hjnI : ¬ (j : Int) < (n : Int) := by omega
          have hE : Hid (Held w wr [ownT 3 1 (.slice ao L cap) s (ints ls.flatten)]) := by
            have h := HH2.out
            have hLs2 := HJ.out
            rw [List.take_of_length_le (by have := HL.out.2; omega)] at h hLs2
            rw [HN.out]
            rw [hLs2] at h ⊢
            exact hid h
          go_wp2
          go_ret
          exact ⟨_, rfl, hE.out⟩
end Go.Proofs.YtbkbkmgogbgofaaDoor
