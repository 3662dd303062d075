/-
  How often the symbols of tokens come, counted by the program.
-/
import Derived.Test.YtdmnfjicjjlnnaaGreatDoorDm16
import Derived.Test.YtdmnfjicjjlnnaaGreatDoorDm04
import Derived.StillTailTactics
import Derived.Test.YtdmnfjicjjlnnaaGreatDoorDm15
import Derived.Handy
namespace Go.Proofs.YtdmnfjicjjlnnaaGreatDoor
set_option maxRecDepth 5000
open Go.RowKit
def cntC (l : List Tok) : List Nat := (List.range 286).map (litN l) ++ (dstF l ++ [extN l])
def cntE (l : List Tok) : List Nat := litF l ++ (dstF l ++ [extN l])
theorem cntC_length (l : List Tok) : (cntC l).length = 317 := by simp [cntC, dstF]
theorem cntE_length (l : List Tok) : (cntE l).length = 317 := by simp [cntE, dstF, litF]
theorem cntC_lit (l : List Tok) {k : Nat} (h : k < 286) : (cntC l)[k]? = some (litN l k) := by
  unfold cntC
  rw [List.getElem?_append_left (by simpa using h), List.getElem?_map, List.getElem?_range h]; rfl
theorem cntC_dst (l : List Tok) {k : Nat} (h : k < 30) : (cntC l)[286 + k]? = some (dstN l k) := by
  unfold cntC
  rw [List.getElem?_append_right (by simp), List.length_map, List.length_range, Nat.add_sub_cancel_left, List.getElem?_append_left (by rw [dstF_length]; exact h), dstF_get l h]
theorem cntC_ext (l : List Tok) : (cntC l)[316]? = some (extN l) := by
  unfold cntC
  rw [List.getElem?_append_right (by simp), List.length_map, List.length_range, List.getElem?_append_right (by rw [dstF_length]; decide), dstF_length]; rfl
theorem get_eq_of {a b : List Nat} (hl : a.length = b.length) (h : ∀ k, k < b.length → a[k]? = b[k]?) : a = b := by
  refine List.ext_getElem? fun k => ?_
  by_cases hk : k < b.length
  · exact h k hk
  · rw [List.getElem?_eq_none (by omega), List.getElem?_eq_none (by omega)]
theorem cntC_cases {P : Nat → Prop} (h1 : ∀ k, k < 286 → P k) (h2 : ∀ k, k < 30 → P (286 + k)) (h3 : P 316) : ∀ k, k < 317 → P k := fun k hk => by
  by_cases c : k < 286
  · exact h1 k c
  · by_cases c2 : k < 316
    · have := h2 (k - 286) (by omega)
      rwa [show 286 + (k - 286) = k by omega] at this
    · obtain rfl : k = 316 := by omega
      exact h3
theorem cntC_one (l : List Tok) (t : Tok) (h0 : t.2.1 = 0) (hs : symOf t < 286) : (cntC l).set (symOf t) (litN l (symOf t) + 1) = cntC (l ++ [t]) := by
  refine get_eq_of (by simp [cntC_length]) ?_
  rw [cntC_length]
  refine cntC_cases (fun k hk => ?_) (fun k hk => ?_) ?_
  · rw [List.getElem?_set, cntC_lit _ hk, cntC_lit _ hk, litN_snoc, cntC_length]
    by_cases c : symOf t = k
    · subst c
      rw [if_pos rfl, if_pos (by omega), if_pos rfl]
    · rw [if_neg c, if_neg c, Nat.add_zero]
  · rw [List.getElem?_set, if_neg (by omega), cntC_dst _ hk, cntC_dst _ hk, dstN_snoc, if_neg (fun h => h.1 h0), Nat.add_zero]
  · rw [List.getElem?_set, if_neg (by omega), cntC_ext, cntC_ext, extN_snoc, xtra, if_pos h0, Nat.add_zero]
theorem cntC_match (l : List Tok) (t : Tok) (h0 : t.2.1 ≠ 0) (hs : symOf t < 286) (hq : dstC t < 30) :
    (((cntC l).set (symOf t) (litN l (symOf t) + 1)).set (286 + dstC t) (dstN l (dstC t) + 1)).set 316 (extN l + xtra t) = cntC (l ++ [t]) := by
  refine get_eq_of (by simp [cntC_length]) ?_
  rw [cntC_length]
  refine cntC_cases (fun k hk => ?_) (fun k hk => ?_) ?_
  · rw [List.getElem?_set, if_neg (by omega), List.getElem?_set, if_neg (by omega), List.getElem?_set, cntC_lit _ hk, cntC_lit _ hk, litN_snoc, cntC_length]
    by_cases c : symOf t = k
    · subst c
      rw [if_pos rfl, if_pos (by omega), if_pos rfl]
    · rw [if_neg c, if_neg c, Nat.add_zero]
  · rw [List.getElem?_set, if_neg (by omega), List.getElem?_set, dstN_snoc l t k |> fun e => cntC_dst (l ++ [t]) hk |>.trans (congrArg some e)]
    rw [List.length_set, cntC_length]
    by_cases c : dstC t = k
    · subst c
      rw [if_pos rfl, if_pos (by omega), if_pos ⟨h0, rfl⟩]
    · rw [if_neg (by omega), List.getElem?_set, if_neg (by omega), cntC_dst _ hk, if_neg (fun h => c h.2), Nat.add_zero]
  · rw [List.getElem?_set, if_pos rfl, if_pos (by simp [cntC_length]), cntC_ext, extN_snoc]
theorem cntC_end (l : List Tok) : (cntC l).set 256 (litN l 256 + 1) = cntE l := by
  refine get_eq_of (by simp [cntC_length, cntE_length]) ?_
  rw [cntE_length]
  have hr : ∀ k, 286 ≤ k → (cntE l)[k]? = (cntC l)[k]? := fun k hk => by
    have e : ∀ a b : List Nat, a.length = 286 → (a ++ b)[k]? = b[k - 286]? := fun a b ha => by rw [List.getElem?_append_right (by omega), ha]
    unfold cntE cntC
    rw [e _ _ (litF_length l), e _ _ (by simp)]
  refine cntC_cases (fun k hk => ?_) (fun k hk => ?_) ?_
  · have e : (cntE l)[k]? = some (litE l k) := by
      unfold cntE
      rw [List.getElem?_append_left (by rw [litF_length]; exact hk), litF_get l hk]
    rw [e, List.getElem?_set, cntC_lit _ hk, cntC_length]
    unfold litE
    by_cases c : 256 = k
    · subst c; rfl
    · rw [if_neg c, if_neg c, Nat.add_zero]
  · rw [hr _ (by omega), List.getElem?_set, if_neg (by omega)]
  · rw [hr _ (by omega), List.getElem?_set, if_neg (by omega)]
/-! ### A struct of zeros -/
section
variable {P : Program} {w : World}
theorem run_build_zero (t : TypeId) (z : Array Value) (fields : Array Field) (hz : (P.info? t).map (·.zero) = some (some (.agg z))) (ht : P.underlying t = some (.struct fields))
    (ps : Array (Nat × Nat)) (hp : (fields.mapM (m := Sem) fun f => do pure (f.offset, ← sizeOf f.type)).run P w = .ok ps w) : (Instr.build t #[]).run P w = .ok (.agg z) w := by
  cases hq : P.info? t with
  | none => simp [hq] at hz
  | some i =>
    have hi : i.zero = some (.agg z) := by simpa [hq] using hz
    have hz2 : (zeroValue t).run P w = .ok (.agg z) w := by
      unfold zeroValue
      simp [typeInfo, hq, hi]
    unfold Instr.build
    simp only [Sem.run_bind, hz2, Result.andThen_ok, run_underlying ht w, hp, Instr.fill, Value.cells, Sem.run_pure]
theorem wpList_build_zero {ops : Array Oper} {rest : List Oper} {o : Oper} {ac : Act} {Q : Exit → Act → World → Prop} (hgd : o.guard = none) (t : TypeId) (ho : o.op = .build t #[])
    (z : Array Value) (fields : Array Field) (hz : (P.info? t).map (·.zero) = some (some (.agg z))) (ht : P.underlying t = some (.struct fields))
    (ps : Array (Nat × Nat)) (hp : (fields.mapM (m := Sem) fun f => do pure (f.offset, ← sizeOf f.type)).run P w = .ok ps w)
    (h : wpList P ops Q rest (ac.put o.dst (.agg z)) w) : wpList P ops Q (o :: rest) ac w :=
  wpList_plain hgd fun _ hK => by
    have hr := run_build_zero (P := P) (w := w) t z fields hz ht ps hp
    unfold Oper.wp execOp
    simp only [ho, Sem.run_bind, Sem.run_pure, List.map_toArray, List.map_nil, hr, Result.andThen_ok]
    exact hK _ _ h
end
theorem cntZero : (Tryz.prog.info? 130).map (·.zero) = some (some (.agg (nums .i64 (cntC [])).toArray)) := by kernel_rfl
set_option maxHeartbeats 3200000 in
theorem count_blk (v : Value) (n : Nat) (l : List Tok) (w : World) (hv : Rd w 3 v n (toksV l)) (hn : n < 1048576) (hs : ∀ t ∈ l, soundB t = true) (hb : byteOK l) :
    Calls Tryz.prog 62 #[v] w fun e w' => ∃ B, e = .returned (.pointer (some ⟨B, 0, none⟩)) ∧ Held w w' [objT B (nums .i64 (cntE l)) 130] := by
  obtain ⟨ao, cap, rfl, _, _⟩ := hv.form
  have HL := hid hv.toks_len
  have HV := hid hv
  have HP := hid (And.intro hs hb)
  have hn0 : (0 : Int) ≤ (n : Int) := Int.natCast_nonneg _
  clear hv hs hb
  go_enter Tryz.func62, Tryz.ntmps62
  go_wp2_with first
    | ((with_reducible show wpList _ _ _ (⟨some 12, _, _, _, _, _⟩ :: _) _ _); refine wpList_build_zero rfl 130 rfl (nums .i64 (cntC [])).toArray _ cntZero Tryz.underlying130 _ (by kernel_rfl) ?_)
    | ((with_reducible show wpList _ _ _ (⟨some 13, _, _, _, _, _⟩ :: _) _ _); refine wpList_box_arr rfl 130 (.tmp 12) rfl .i64 (cntC []) rfl ?_)
    | fail
  have H0 : Hid (Held w (w.alloc (.cells (nums .i64 (cntC [])).toArray 130)) [objT w.heap.size (nums .i64 (cntC [])) 130]) := hid ((Held.start w).newObj _ _)
  go_loopg [16] (n + 1) (fun k t16 wr => ∃ i : Nat, i ≤ n ∧ n - i < k ∧ t16 = .int .i64 (i : Int) ∧ Hid (Held w wr [objT w.heap.size (nums .i64 (cntC (l.take i))) 130]))
  case atStart => exact ⟨0, by omega, by omega, rfl, H0⟩
  case round =>
    obtain ⟨i, hi, hk, rfl, HH⟩ := hrel
    have hi0 : (0 : Int) ≤ (i : Int) := Int.natCast_nonneg _
    by_cases hin : i < n
    · have hiI : (i : Int) < (n : Int) := by omega
      obtain ⟨⟨ta, tl, td⟩, ht⟩ : ∃ t, l[i]? = some t := ⟨l[i]'(by have := HL.out; omega), List.getElem?_eq_getElem _⟩
      obtain ⟨g, off, rfl, c0, c1, c2⟩ := (HH.out.old HV.out).tok ht
      have htm := List.mem_of_getElem? ht
      have hs1 := HP.out.1 _ htm
      have hb1 := HP.out.2 _ htm
      have htk : l.take (i + 1) = l.take i ++ [(ta, tl, td)] := by rw [List.take_add_one, ht]; rfl
      have hin2 : (l.take i).length ≤ 1048576 := by simp; omega
      have hsy := symOf_lt hs1 hb1
      have HA := hid (HH.out.newObj [.int .u8 ta, .int .i64 tl, .int .i64 td] 80)
      obtain ⟨K, hK⟩ : ∃ K, K = l.take i := ⟨_, rfl⟩
      rw [← hK] at HA htk hin2
      have hcI : ∀ k, litN K k ≤ 1048576 := fun k => Nat.le_trans (litN_le K k) hin2
      have hdI : ∀ k, dstN K k ≤ 1048576 := fun k => Nat.le_trans (dstN_le K k) hin2
      by_cases hl0 : tl = 0
      · subst hl0
        obtain ⟨z, rfl⟩ := Int.eq_ofNat_of_zero_le hb1.1
        have hz : z ≤ 255 := by have : (z : Int) ≤ 255 := hb1.2; omega
        have hsz : symOf ((z : Int), 0, td) = z := by unfold symOf; rw [if_pos rfl]; rfl
        have hone := cntC_one K ((z : Int), 0, td) rfl hsy
        rw [hsz, ← htk] at hone
        obtain ⟨x, hx⟩ : ∃ x, x = litN K z := ⟨_, rfl⟩
        have hxI := hcI z
        have hcx := cntC_lit K (k := z) (by omega)
        rw [← hx] at hone hxI hcx
        have kx := HA.out.swap.obj.cell (i := z) (v := .int .i64 (x : Int)) (by simp [nums, hcx])
        have fx := HA.out.swap.obj.frozen z
        have t0 := HA.out.obj.cell (i := 0) rfl
        have hz2 : (z : Int) < 286 := by omega
        have hz0 : (0 : Int) ≤ (z : Int) := Int.natCast_nonneg _
        have H9 : Hid (Held w (((wr.alloc (.cells #[.int .u8 (z : Int), .int .i64 0, .int .i64 td] 80)).drew).setCell ⟨w.heap.size, z, none⟩ (.int .i64 ((x + 1 : Nat) : Int))) [objT w.heap.size (nums .i64 (cntC (l.take (i + 1)))) 130]) := by
          have h := (HA.out.swap.drew.setObj z (.int .i64 ((x + 1 : Nat) : Int))).one
          rw [nums_set, hone] at h
          exact hid h
        clear HA hone hcx hx hK htk ht htm hs1 hb1 hsy hsz hcI hdI
        go_wp2
        generalize wr.alloc (.cells #[.int .u8 (z : Int), .int .i64 0, .int .i64 td] 80) = w2 at kx fx t0 H9 ⊢
        go_still_tail 11, (by kernel_rfl)
        change wpList _ _ _ _ _ (World.drew _)
        go_wp2
        go_roundg (gk - 1)
        case measure => omega
        case rel => exact ⟨i + 1, by omega, by omega, by go_num, H9⟩
      · obtain ⟨hx0, ⟨hn1, hn2⟩, hd1, hd2⟩ := sound_match hs1 hl0
        have hx0 : ta = 0 := hx0
        have hn1 : 3 ≤ tl := hn1
        have hn2 : tl ≤ 258 := hn2
        have hd1 : 1 ≤ td := hd1
        have hd2 : td ≤ 32768 := hd2
        subst hx0
        have HLC := lenC_is hs1 hl0
        have HDC := dstC_is hs1 hl0
        have hmt := cntC_match K (0, tl, td) hl0 hsy HDC.1
        have hsz : symOf (0, tl, td) = 257 + lenC (0, tl, td) := by unfold symOf; rw [if_neg hl0]
        have hxt : xtra (0, tl, td) = lX (lenC (0, tl, td)) + dX (dstC (0, tl, td)) := by unfold xtra; rw [if_neg hl0]
        rw [hsz, hxt, ← htk] at hmt
        generalize lenC (0, tl, td) = c at HLC hmt hsz hxt
        generalize dstC (0, tl, td) = q at HDC hmt hxt
        obtain ⟨tl, rfl⟩ := Int.eq_ofNat_of_zero_le (show 0 ≤ tl by omega)
        obtain ⟨td, rfl⟩ := Int.eq_ofNat_of_zero_le (show 0 ≤ td by omega)
        simp only [Int.toNat_natCast] at HLC HDC
        have hlx := lX_le c HLC.1
        have hdx := dX_le q HDC.1
        have hc29 := HLC.1
        have hq30 := HDC.1
        have hL := hid (lenCode_any ((tl : Nat) : Int))
        have hD := hid (distCode_any ((td : Nat) : Int))
        obtain ⟨lx, hlx2⟩ : ∃ lx, lx = lX c := ⟨_, rfl⟩
        obtain ⟨dx, hdx2⟩ : ∃ dx, dx = dX q := ⟨_, rfl⟩
        obtain ⟨x, hx⟩ : ∃ x, x = litN K (257 + c) := ⟨_, rfl⟩
        obtain ⟨y, hy⟩ : ∃ y, y = dstN K q := ⟨_, rfl⟩
        obtain ⟨u, hu⟩ : ∃ u, u = extN K := ⟨_, rfl⟩
        rw [← hx, ← hy, ← hu, ← hlx2, ← hdx2] at hmt
        rw [← hlx2] at hlx
        rw [← hdx2] at hdx
        have hxI := hcI (257 + c)
        have hyI := hdI q
        have huI : u ≤ 18 * K.length := by
          rw [hu]
          have : ∀ L : List Tok, (∀ t ∈ L, soundB t = true) → extN L ≤ 18 * L.length := by
            intro L
            induction L with
            | nil => intro _; exact Nat.le_refl _
            | cons t L ih =>
              intro h
              have h1 := ih fun s hs => h s (List.mem_cons_of_mem _ hs)
              have h2 := xtra_le (h t (List.mem_cons_self ..))
              simp only [extN, List.map_cons, List.sum_cons, List.length_cons] at h1 ⊢
              omega
          refine this K fun t ht2 => HP.out.1 t ?_
          rw [hK] at ht2
          exact List.mem_of_mem_take ht2
        rw [← hx] at hxI
        rw [← hy] at hyI
        have g1 := cntC_lit K (k := 257 + c) (by omega)
        have g2 := cntC_dst K (k := q) hq30
        have g3 := cntC_ext K
        rw [← hx] at g1
        rw [← hy] at g2
        rw [← hu] at g3
        have hL1 : Hid (∀ v, IsLenCode ((tl : Nat) : Int) v → v = .tuple #[.int .i64 ((257 + c : Nat) : Int), .int .i64 (lx : Int), .int .i64 ((tl - lB c : Nat) : Int)]) := hid fun v hv => by
          rcases hv with ⟨h, _⟩ | ⟨k, c2, q2, x2, z2, e1, _, _, e2, rfl, rfl, rfl, rfl⟩
          · omega
          · obtain rfl : tl = k := by omega
            obtain rfl := e2.same HLC
            rw [hlx2]
        have hD1 : Hid (∀ v, IsDistCode ((td : Nat) : Int) v → v = .tuple #[.int .i64 (q : Int), .int .i64 (dx : Int), .int .i64 ((td - dB q : Nat) : Int)]) := hid fun v hv => by
          rcases hv with ⟨h, _⟩ | ⟨k, c2, q2, x2, z2, e1, _, _, e2, rfl, rfl, rfl, rfl⟩
          · omega
          · obtain rfl : td = k := by omega
            obtain rfl := e2.same HDC
            rw [hdx2, Nat.zero_add]
        obtain ⟨s, hs⟩ : ∃ s, s = 257 + c := ⟨_, rfl⟩
        rw [← hs] at hmt g1 hL1
        have hsI : (s : Int) < 286 := by omega
        have hqI : (q : Int) < 30 := by omega
        have hs0 : (0 : Int) ≤ (s : Int) := Int.natCast_nonneg _
        have hq0 : (0 : Int) ≤ (q : Int) := Int.natCast_nonneg _
        have hsn : s < 286 := by omega
        have HB := HA.out.swap
        have t1 := HA.out.obj.cell (i := 1) rfl
        have t2 := HA.out.obj.cell (i := 2) rfl
        have k1 := HB.obj.cell (i := s) (v := .int .i64 (x : Int)) (by simp [nums, g1])
        have k2 := HB.obj.cell (i := 286 + q) (v := .int .i64 (y : Int)) (by simp [nums, g2])
        have k3 := HB.obj.cell (i := 316) (v := .int .i64 (u : Int)) (by simp [nums, g3])
        have f1 := HB.obj.frozen s
        have f2 := HB.obj.frozen (286 + q)
        have f3 := HB.obj.frozen 316
        have hkb : u ≤ 18 * 1048576 := by omega
        have HBB := hid HB
        have HMT := hid hmt
        have G2 : Hid ((nums .i64 (cntC K))[286 + q]? = some (.int .i64 (y : Int)) ∧ (nums .i64 (cntC K))[316]? = some (.int .i64 (u : Int))) := hid ⟨by simp [nums, g2], by simp [nums, g3]⟩
        clear k2 k3 f2 f3
        clear HA HB hmt g1 g2 g3 hx hy hu hK htk ht htm hs1 hb1 hsy hsz hcI hdI HLC HDC hlx2 hdx2 hxt huI hs
        go_wp2_with fail
        refine (hL.out _).mono ?_
        rintro e w3 ⟨⟨v, rfl, hv⟩, rfl⟩
        obtain rfl := hL1.out v hv
        clear hv hL
        go_wp2_with fail
        refine (hD.out _).mono ?_
        rintro e w3 ⟨⟨v, rfl, hv⟩, rfl⟩
        obtain rfl := hD1.out v hv
        clear hv hD
        go_wp2
        generalize wr.alloc (.cells #[.int .u8 0, .int .i64 ((tl : Nat) : Int), .int .i64 ((td : Nat) : Int)] 80) = w2 at k1 f1 t1 t2 HBB ⊢
        go_still_tail 10, (by kernel_rfl)
        change wpList _ _ _ _ _ (World.drew _)
        go_wp2
        have h4 := (HBB.out.setObj s (.int .i64 ((x : Int) + 1))).drew
        generalize (w2.setCell ⟨w.heap.size, s, none⟩ (.int .i64 ((x : Int) + 1))).drew = w4 at h4 ⊢
        have k2 := h4.obj.cell (i := 286 + q) (v := .int .i64 (y : Int)) (by rw [List.getElem?_set, if_neg (by omega)]; exact G2.out.1)
        have f2 := h4.obj.frozen (286 + q)
        have H4 := hid h4
        clear h4 HBB k1 f1 t1 t2
        go_still_tail 10, (by kernel_rfl)
        change wpList _ _ _ _ _ (World.drew _)
        have h5 := (H4.out.setObj (286 + q) (.int .i64 ((y : Int) + 1))).drew
        have k3 := h5.obj.cell (i := 316) (v := .int .i64 (u : Int)) (by rw [List.getElem?_set, if_neg (by omega), List.getElem?_set, if_neg (by omega)]; exact G2.out.2)
        have f3 := h5.obj.frozen 316
        have h6 := h5.setObj 316 (.int .i64 ((u : Int) + ((lx : Int) + (dx : Int))))
        have H6 : Hid (Held w (((w4.setCell ⟨w.heap.size, 286 + q, none⟩ (.int .i64 ((y : Int) + 1))).drew).setCell ⟨w.heap.size, 316, none⟩ (.int .i64 ((u : Int) + ((lx : Int) + (dx : Int))))) [objT w.heap.size (nums .i64 (cntC (l.take (i + 1)))) 130]) := by
          have h7 : Held w _ [objT w.heap.size ((((nums .i64 (cntC K)).set s (.int .i64 ((x + 1 : Nat) : Int))).set (286 + q) (.int .i64 ((y + 1 : Nat) : Int))).set 316 (.int .i64 ((u + (lx + dx) : Nat) : Int))) 130] := h6.one
          rw [nums_set, nums_set, nums_set, HMT.out] at h7
          exact hid h7
        clear h5 h6
        go_wp2
        go_roundg (gk - 1)
        case measure => omega
        case rel => exact ⟨i + 1, by omega, by omega, by go_num, H6⟩
    · have hiI : ¬ (i : Int) < (n : Int) := by omega
      have hK : l.take i = l := List.take_of_length_le (by have := HL.out; omega)
      rw [hK] at HH
      have hxI : litN l 256 ≤ 1048576 := by have h1 := litN_le l 256; have := HL.out; omega
      have hg := cntC_lit l (k := 256) (by decide)
      have HEE := hid (cntC_end l)
      obtain ⟨x, hx⟩ : ∃ x, x = litN l 256 := ⟨_, rfl⟩
      rw [← hx] at hg HEE hxI
      have k1 := HH.out.obj.cell (i := 256) (v := .int .i64 (x : Int)) (by simp [nums, hg])
      have f1 := HH.out.obj.frozen 256
      clear hg hx hK
      go_wp2_with fail
      go_still_tail 9, (by kernel_rfl)
      change wpList _ _ _ _ _ (World.drew _)
      have h4 := HH.out.drew.setObj 256 (.int .i64 ((x : Int) + 1))
      have H4 : Hid (Held w (wr.drew.setCell ⟨w.heap.size, 256, none⟩ (.int .i64 ((x : Int) + 1))) [objT w.heap.size (nums .i64 (cntE l)) 130]) := by
        have h7 : Held w _ [objT w.heap.size ((nums .i64 (cntC l)).set 256 (.int .i64 ((x + 1 : Nat) : Int))) 130] := h4
        rw [nums_set, HEE.out] at h7
        exact hid h7
      clear h4
      go_wp2
      go_ret
      exact ⟨_, rfl, H4.out⟩
end Go.Proofs.YtdmnfjicjjlnnaaGreatDoor
/-
  The items that stand for lengths: how long a run is, one item, all of them; lengths without their last zeros.
-/
namespace Go.Proofs.YtdmnfjicjjlnnaaGreatDoor
set_option maxRecDepth 5000
open Go.RowKit
theorem drew_add (w : World) (a b : Nat) : (w.drewN a).drewN b = w.drewN (a + b) := by
  simp only [World.drewN, Nat.add_assoc]
set_option maxHeartbeats 1600000 in
theorem equal_run (v : Value) (n : Nat) (l : List Int) (w : World) (hv : Rd w 1 v n (ints l)) (hn : n < 1000000) (h1 : 1 ≤ n) :
    Calls Tryz.prog 124 #[v] w fun e w' => e = .returned (.int .i64 ((eqRun (l[0]?.getD 0) l : Nat) : Int)) ∧ ∃ c, w' = w.drewN c := by
  obtain ⟨g, off, hsp, hcell⟩ : ∃ g off, (∃ cap, v = .slice (some ⟨g, off, none⟩) n cap) ∧ ∀ j u, (ints l)[j]? = some u → w.cell? ⟨g, off + j, none⟩ = some u := by
    obtain ⟨ao, cap, rfl, _, _⟩ := hv.form
    obtain ⟨g, off, rfl, h⟩ := hv.spot (by omega)
    exact ⟨g, off, ⟨cap, rfl⟩, h⟩
  obtain ⟨cap, rfl⟩ := hsp
  have hln : l.length = n := by have := hv.1; rw [ints_length] at this; omega
  obtain ⟨z, hz⟩ : ∃ z, l[0]? = some z := ⟨l[0]'(by omega), List.getElem?_eq_getElem _⟩
  have HC := hid hcell
  have c0 := hcell 0 _ (by rw [ints_get, hz]; rfl)
  rw [Nat.add_zero] at c0
  rw [hz]
  simp only [Option.getD_some]
  have HLN := hid hln
  have hle := eqRun_le z l
  rw [hln] at hle
  obtain ⟨r, hr⟩ : ∃ r, r = eqRun z l := ⟨_, rfl⟩
  rw [← hr] at hle ⊢
  have HR := hid hr
  have hn0 : (0 : Int) ≤ (n : Int) := Int.natCast_nonneg _
  clear hv hcell hz hln hr
  go_enter Tryz.func124, Tryz.ntmps124
  go_wp2
  go_loopg [3] (n + 1) (fun k t3 wr => ∃ (i d : Nat), i ≤ r ∧ n - i < k ∧ t3 = .int .i64 (i : Int) ∧ wr = w.drewN d)
  case atStart => exact ⟨0, 0, by omega, by omega, rfl, rfl⟩
  case round =>
    obtain ⟨i, d, hi, hk, rfl, rfl⟩ := hrel
    have hi0 : (0 : Int) ≤ (i : Int) := Int.natCast_nonneg _
    by_cases hin : i < n
    · have hb1 : decide ((i : Int) < (n : Int)) = true := by simp; omega
      have hb1n : decide (i < n) = true := by simp; omega
      have hiI : (i : Int) < (n : Int) := by omega
      have h1I : (0 : Int) < (n : Int) := by omega
      obtain ⟨x, hx⟩ : ∃ x, l[i]? = some x := ⟨l[i]'(by have := HLN.out; omega), List.getElem?_eq_getElem _⟩
      have c1 := HC.out i _ (by rw [ints_get, hx]; rfl)
      by_cases hxz : x = z
      · have hri : i + 1 ≤ r := by
          refine Classical.byContradiction fun h => ?_
          obtain rfl : r = i := by omega
          have h2 := HR.out
          have h3 := eqRun_stop z l x (by rw [← h2]; exact hx)
          exact h3 hxz
        have hb2 : (x == z) = true := by simp [hxz]
        clear hx
        go_wp2_with fail
        go_quiet (fail)
        go_wp2
        go_roundg (gk - 1)
        case measure => omega
        case rel => exact ⟨i + 1, _, by omega, by omega, by go_num, rfl⟩
      · have hri : i = r := by
          refine Classical.byContradiction fun h => hxz ?_
          have h2 := eqRun_get z l i (by have := HR.out; omega)
          rw [hx] at h2
          simpa using h2
        have hb2 : (x == z) = false := by simp [hxz]
        clear hx
        subst hri
        go_wp2_with fail
        go_quiet (fail)
        go_wp2
        go_ret
        exact ⟨rfl, _, drew_add _ _ _⟩
    · have hb1 : decide ((i : Int) < (n : Int)) = false := by simp; omega
      have hb1n : decide (i < n) = false := by simp; omega
      have hri : i = r := by omega
      subst hri
      go_wp2_with fail
      go_quiet (fail)
      go_wp2
      go_ret
      exact ⟨rfl, _, drew_add _ _ _⟩
theorem repeat_any (sy ex le mx r : Nat) (hc : sy = 18 ∧ ex = 7 ∧ le = 11 ∧ mx = 138 ∨ sy = 17 ∧ ex = 3 ∧ le = 3 ∧ mx = 10 ∨ sy = 16 ∧ ex = 2 ∧ le = 3 ∧ mx = 6) (hr : le ≤ r) (hr2 : r < 1000000) (w : World) :
    Calls Tryz.prog 125 #[.int .i64 (sy : Int), .int .i64 (ex : Int), .int .i64 (le : Int), .int .i64 (r : Int)] w fun e w' => e = .returned (.tuple #[.agg #[.int .i64 (sy : Int), .int .i64 (ex : Int), .int .i64 ((min r mx - le : Nat) : Int)], .int .i64 ((min r mx : Nat) : Int)]) ∧ Mod w w' (fun _ => False) := by
  have h0 : (0 : Int) ≤ (r : Int) := Int.natCast_nonneg _
  rcases hc with ⟨rfl, rfl, rfl, rfl⟩ | ⟨rfl, rfl, rfl, rfl⟩ | ⟨rfl, rfl, rfl, rfl⟩
  · by_cases hm : r < 138
    · have h1 : (r : Int) < 138 := by omega
      have h2 : (r : Int) - 11 = ((r - 11 : Nat) : Int) := by omega
      rw [Nat.min_eq_left (by omega)]
      go_enter Tryz.func125, Tryz.ntmps125
      go_wp2
      go_returns
      exact ⟨rfl, (Mod.refl _ _).alloc _⟩
    · have h1 : ¬ (r : Int) < 138 := by omega
      have h2 : (if (r : Int) < 138 then (r : Int) else 138) = 138 := if_neg h1
      have h3 : (if (138 : Int) < (r : Int) then (138 : Int) else (r : Int)) = 138 := by
        split <;> omega
      rw [Nat.min_eq_right (by omega)]
      go_enter Tryz.func125, Tryz.ntmps125
      go_wp2
      go_returns
      exact ⟨rfl, (Mod.refl _ _).alloc _⟩
  · by_cases hm : r < 10
    · have h1 : (r : Int) < 10 := by omega
      have h2 : (r : Int) - 3 = ((r - 3 : Nat) : Int) := by omega
      rw [Nat.min_eq_left (by omega)]
      go_enter Tryz.func125, Tryz.ntmps125
      go_wp2
      go_returns
      exact ⟨rfl, (Mod.refl _ _).alloc _⟩
    · have h1 : ¬ (r : Int) < 10 := by omega
      have h2 : (if (r : Int) < 10 then (r : Int) else 10) = 10 := if_neg h1
      have h3 : (if (10 : Int) < (r : Int) then (10 : Int) else (r : Int)) = 10 := by
        split <;> omega
      rw [Nat.min_eq_right (by omega)]
      go_enter Tryz.func125, Tryz.ntmps125
      go_wp2
      go_returns
      exact ⟨rfl, (Mod.refl _ _).alloc _⟩
  · by_cases hm : r < 6
    · have h1 : (r : Int) < 6 := by omega
      have h2 : (r : Int) - 3 = ((r - 3 : Nat) : Int) := by omega
      rw [Nat.min_eq_left (by omega)]
      go_enter Tryz.func125, Tryz.ntmps125
      go_wp2
      go_returns
      exact ⟨rfl, (Mod.refl _ _).alloc _⟩
    · have h1 : ¬ (r : Int) < 6 := by omega
      have h2 : (if (r : Int) < 6 then (r : Int) else 6) = 6 := if_neg h1
      have h3 : (if (6 : Int) < (r : Int) then (6 : Int) else (r : Int)) = 6 := by
        split <;> omega
      rw [Nat.min_eq_right (by omega)]
      go_enter Tryz.func125, Tryz.ntmps125
      go_wp2
      go_returns
      exact ⟨rfl, (Mod.refl _ _).alloc _⟩
theorem results_cell_tmp {P : Program} {fn : Func} {p q : Tmp} {ty : TypeId} (h : fn.results = #[.cell p ty, .tmp q]) (tmps : Array Value) (w : World) (g : Nat) (t : TypeId) (cs : Array Value) (fr : Nat × Nat) (d : TypeDesc)
    (hp : tmps.getD p undef = .pointer (some ⟨g, 0, none⟩)) (hg : w.heap[g]? = some (.cells cs t fr))
    (hu : P.underlying ty = some d) (hd : (match d with | .struct _ | .array _ _ => true | _ => false) = true) (hi : (P.info? ty).map (·.size) = some cs.size) :
    (results fn tmps).run P w = .ok (.tuple #[.agg cs, tmps.getD q undef]) w := by
  have hp' : tmps[p]?.getD undef = .pointer (some ⟨g, 0, none⟩) := by simpa using hp
  simp [results, h, hp', asAddr, run_loadVar_row w g t ty cs fr d hg hu hd hi]
theorem ret_cell_tmp {P : Program} {w : World} {fn : Func} {p q : Tmp} {t : TypeId} (hf : fn.results = #[.cell p t, .tmp q]) {R : Ending → World → Prop} {a : Act}
    (d : TypeDesc) (n : Nat) (ht : P.underlying t = some d) (hd : isArr d = true) (hi : (P.info? t).map (·.size) = some n)
    (B : Nat) (cs : List Value) (T : TypeId) (u : Value) (hp : a.tmps.getD p undef = .pointer (some ⟨B, 0, none⟩)) (hq : a.tmps.getD q undef = u) (hl : cs.length = n) (hB : Blk w B cs T)
    (hdf : a.defers = []) (h : R (.returned (.tuple #[.agg cs.toArray, u])) w) : bodyPost P fn R .ret a w :=
  bodyPost_ret (v := .tuple #[.agg cs.toArray, u]) (by rw [← hq]; exact results_cell_tmp hf a.tmps w B T cs.toArray (0, 0) d hp hB ht (by cases d <;> simp_all [isArr]) (by rw [hi]; simp [hl])) hdf h
def itV (x : Item) : Value := .agg #[.int .i64 (x.1 : Int), .int .i64 (x.2.1 : Int), .int .i64 (x.2.2 : Int)]
set_option maxHeartbeats 3200000 in
theorem nextItem_any (v : Value) (n a : Nat) (all : List Int) (w : World) (hv : Rd w 1 v n (ints all)) (hn : n < 100000) (ha : a < n) (hA : ∀ x ∈ all, 0 ≤ x ∧ x ≤ 15) :
    Calls Tryz.prog 111 #[v, .int .i64 (a : Int)] w fun e w' => e = .returned (.tuple #[itV (nextI all a).1, .int .i64 (((nextI all a).2 : Nat) : Int)]) ∧ Mod w w' (fun _ => False) := by
  obtain ⟨i, hi, hz0, hz1, hz2⟩ := info_parts infoIntB
  obtain ⟨ao, cap, rfl, hnc, hcm⟩ := hv.form
  have hln : all.length = n := by have := hv.1; rw [ints_length] at this; omega
  have hrd := (hv.cut (L := a) (H := n) (by omega) (Nat.le_refl _))
  have hcut : ∀ wg, (Instr.sliceAt 32 (.slice ao n cap) (some (.int .i64 (a : Int))) none none).run Tryz.prog wg = .ok (sliced ao a n cap 1) wg := fun wg =>
    run_cut (P := Tryz.prog) 32 3 i 1 Tryz.underlying32 hi hz1 ao n cap a n (some (.int .i64 (a : Int))) none ⟨_, rfl⟩ rfl (by omega) hnc
  have e2 : ((ints all).drop (a * 1)).take ((n - a) * 1) = ints (all.drop a) := by
    rw [Nat.mul_one, Nat.mul_one, List.take_of_length_le (by rw [List.length_drop, ints_length]; omega)]
    simp [ints, List.map_drop]
  rw [e2] at hrd
  generalize sliced ao a n cap 1 = sv at hcut hrd
  obtain ⟨g, off, rfl, hcell⟩ := hv.spot (by omega)
  obtain ⟨z, hz⟩ : ∃ z, all[a]? = some z := ⟨all[a]'(by omega), List.getElem?_eq_getElem _⟩
  have c0 := hcell a _ (by rw [ints_get, hz]; rfl)
  have HQ := hid (fun k => equal_run sv (n - a) (all.drop a) ((w.alloc (.cells #[.int .i64 0, .int .i64 0, .int .i64 0] 159)).drewN k) ((hrd.kept ((Mod.refl w (fun _ => False)).alloc _) (fun _ _ h => h)).drewTo rfl) (by omega) (by omega))
  have h00 : (all.drop a)[0]?.getD 0 = z := by rw [List.getElem?_drop, Nat.add_zero, hz]; rfl
  rw [h00] at HQ
  have hA1 := hA z (List.mem_of_getElem? hz)
  have hrl := eqRun_le z (all.drop a)
  rw [List.length_drop, hln] at hrl
  have hE : Hid (nextI all a = if z = 0 ∧ 11 ≤ eqRun z (all.drop a) then ((18, 7, min (eqRun z (all.drop a)) 138 - 11), min (eqRun z (all.drop a)) 138) else if z = 0 ∧ 3 ≤ eqRun z (all.drop a) then ((17, 3, min (eqRun z (all.drop a)) 10 - 3), min (eqRun z (all.drop a)) 10)
      else if 0 < a ∧ all[a - 1]?.getD 0 = z ∧ 3 ≤ eqRun z (all.drop a) then ((16, 2, min (eqRun z (all.drop a)) 6 - 3), min (eqRun z (all.drop a)) 6) else ((z.toNat, 0, 0), 1)) := by
    unfold Hid nextI
    rw [hz]; rfl
  generalize eqRun z (all.drop a) = r at hE HQ hrl
  have ha0 : (0 : Int) ≤ (a : Int) := Int.natCast_nonneg _
  have haI : (a : Int) < (n : Int) := by omega
  have hr0 : (0 : Int) ≤ (r : Int) := Int.natCast_nonneg _
  have HC0 := hid (((hv.kept ((Mod.refl w (fun _ => False)).alloc (.cells #[.int .i64 0, .int .i64 0, .int .i64 0] 159)) (fun _ _ h => h)).at (u := .int .i64 z) (j := a) (by rw [ints_get, hz]; rfl)))
  have HP : Hid (0 < a → w.cell? ⟨g, off + (a - 1), none⟩ = some (.int .i64 (all[a - 1]?.getD 0))) := hid fun h => hcell (a - 1) _ (by rw [ints_get, List.getElem?_eq_getElem (by omega)]; rfl)
  clear hcell hv hrd e2 h00 hz hln
  go_enter Tryz.func111, Tryz.ntmps111
  go_wp2_with fail
  have c0' : (w.alloc (.cells #[.int .i64 0, .int .i64 0, .int .i64 0] 159)).cell? ⟨g, off + a, none⟩ = some (.int .i64 z) := HC0.out
  go_quiet ((go_at_call 124; exact (HQ.out _).mono fun _ _ h => ⟨h.1, _, h.2.choose_spec.trans (drew_add _ _ _)⟩))
  obtain ⟨w1, hw1⟩ : ∃ w1, w1 = (w.alloc (.cells #[.int .i64 0, .int .i64 0, .int .i64 0] 159)).drewN nq := ⟨_, rfl⟩
  have H1 : Hid (Held w w1 [objT w.heap.size [.int .i64 0, .int .i64 0, .int .i64 0] 159]) := by
    rw [hw1]; exact hid (((Held.start w).newObj [.int .i64 0, .int .i64 0, .int .i64 0] 159).drewN _)
  have HP1 : Hid (0 < a → w1.cell? ⟨g, off + (a - 1), none⟩ = some (.int .i64 (all[a - 1]?.getD 0))) := hid fun h => by
    have h2 := HP.out h
    rw [H1.out.mod.cell (World.block_lt_of_cell? w _ h2) (fun h => h)]; exact h2
  rw [← hw1]
  clear HQ hcut HC0 c0' c0 HP hw1
  generalize all[a - 1]?.getD 0 = p at hE HP1
  have hpr : Hid (0 < a → w1.cell? ⟨g, off + (a - 1), none⟩ = some (.int .i64 p)) := HP1
  by_cases hz0 : z = 0
  · have b1 : (z == 0) = true := by simp [hz0]
    by_cases h11 : 11 ≤ r
    · have b2 : decide ((11 : Int) ≤ (r : Int)) = true := by simp; omega
      have HX := hid (repeat_any 18 7 11 138 r (.inl ⟨rfl, rfl, rfl, rfl⟩) h11 (by omega) w1)
      have hE2 : Hid (nextI all a = ((18, 7, min r 138 - 11), min r 138)) := by
        unfold Hid; rw [hE.out, if_pos ⟨hz0, h11⟩]
      go_wp2_with fail
      refine HX.out.mono ?_
      rintro e w2 ⟨rfl, hm⟩
      have h2 := H1.out.same hm
      have f0 := h2.obj.frozen 0
      have f1 := h2.obj.frozen 1
      have f2 := h2.obj.frozen 2
      have k0 := h2.obj.cell (i := 0) rfl
      have k1 := h2.obj.cell (i := 1) rfl
      have k2 := h2.obj.cell (i := 2) rfl
      have H5 := hid (((h2.setObj 0 (.int .i64 ((18 : Nat) : Int))).setObj 1 (.int .i64 ((7 : Nat) : Int))).setObj 2 (.int .i64 ((min r 138 - 11 : Nat) : Int)))
      have HM := hid h2.mod
      clear h2 hm HX
      go_wp2
      try simp only [Exit.inBlock, Exit.then]
      refine ret_cell_tmp rfl _ 3 Tryz.underlying159 rfl (by kernel_rfl) w.heap.size [.int .i64 ((18 : Nat) : Int), .int .i64 ((7 : Nat) : Int), .int .i64 ((min r 138 - 11 : Nat) : Int)] 159 _ rfl rfl rfl H5.out.obj rfl ?_
      rw [hE2.out]
      exact ⟨rfl, ((HM.out.setCell (.inl (Nat.le_refl _)) _).setCell (.inl (Nat.le_refl _)) _).setCell (.inl (Nat.le_refl _)) _⟩
    · have b2 : decide ((11 : Int) ≤ (r : Int)) = false := by simp; omega
      by_cases h3 : 3 ≤ r
      · have b3 : decide ((3 : Int) ≤ (r : Int)) = true := by simp; omega
        have HX := hid (repeat_any 17 3 3 10 r (.inr (.inl ⟨rfl, rfl, rfl, rfl⟩)) h3 (by omega) w1)
        have hE2 : Hid (nextI all a = ((17, 3, min r 10 - 3), min r 10)) := by
          unfold Hid; rw [hE.out, if_neg (fun h => h11 h.2), if_pos ⟨hz0, h3⟩]
        go_wp2_with fail
        refine HX.out.mono ?_
        rintro e w2 ⟨rfl, hm⟩
        have h2 := H1.out.same hm
        have f0 := h2.obj.frozen 0
        have f1 := h2.obj.frozen 1
        have f2 := h2.obj.frozen 2
        have k0 := h2.obj.cell (i := 0) rfl
        have k1 := h2.obj.cell (i := 1) rfl
        have k2 := h2.obj.cell (i := 2) rfl
        have H5 := hid (((h2.setObj 0 (.int .i64 ((17 : Nat) : Int))).setObj 1 (.int .i64 ((3 : Nat) : Int))).setObj 2 (.int .i64 ((min r 10 - 3 : Nat) : Int)))
        have HM := hid h2.mod
        clear h2 hm HX
        go_wp2
        try simp only [Exit.inBlock, Exit.then]
        refine ret_cell_tmp rfl _ 3 Tryz.underlying159 rfl (by kernel_rfl) w.heap.size [.int .i64 ((17 : Nat) : Int), .int .i64 ((3 : Nat) : Int), .int .i64 ((min r 10 - 3 : Nat) : Int)] 159 _ rfl rfl rfl H5.out.obj rfl ?_
        rw [hE2.out]
        exact ⟨rfl, ((HM.out.setCell (.inl (Nat.le_refl _)) _).setCell (.inl (Nat.le_refl _)) _).setCell (.inl (Nat.le_refl _)) _⟩
      · have b3 : decide ((3 : Int) ≤ (r : Int)) = false := by simp; omega
        by_cases ha1 : 0 < a
        · have b4 : decide ((0 : Int) < (a : Int)) = true := by simp; omega
          have ha2 : (a : Int) - 1 = ((a - 1 : Nat) : Int) := by omega
          have ha3 : ((a - 1 : Nat) : Int) < (n : Int) := by omega
          have kp := hpr.out ha1
          by_cases hpz : p = z
          · have b5 : (p == z) = true := by simp [hpz]
            have hE2 : Hid (nextI all a = ((z.toNat, 0, 0), 1)) := by
              unfold Hid; rw [hE.out, if_neg (fun h => h11 h.2), if_neg (fun h => h3 h.2), if_neg (fun h => h3 h.2.2)]
            have hzn : Hid (((z.toNat : Nat) : Int) = z) := hid (by have := hA1.1; omega)
            have h2 := H1.out
            have f0 := h2.obj.frozen 0
            have f1 := h2.obj.frozen 1
            have f2 := h2.obj.frozen 2
            have k0 := h2.obj.cell (i := 0) rfl
            have k1 := h2.obj.cell (i := 1) rfl
            have k2 := h2.obj.cell (i := 2) rfl
            have H5 := hid (((h2.setObj 0 (.int .i64 z)).setObj 1 (.int .i64 0)).setObj 2 (.int .i64 0))
            have HM := hid h2.mod
            clear h2 H1
            go_wp2
            try simp only [Exit.inBlock, Exit.then]
            rw [hz0] at H5
            refine ret_cell_tmp rfl _ 3 Tryz.underlying159 rfl (by kernel_rfl) w.heap.size [.int .i64 0, .int .i64 0, .int .i64 0] 159 _ rfl rfl rfl H5.out.obj rfl ?_
            rw [hE2.out]
            unfold itV
            simp only [hz0]
            exact ⟨rfl, ((HM.out.setCell (.inl (Nat.le_refl _)) _).setCell (.inl (Nat.le_refl _)) _).setCell (.inl (Nat.le_refl _)) _⟩
          · have b5 : (p == z) = false := by simp [hpz]
            have hE2 : Hid (nextI all a = ((z.toNat, 0, 0), 1)) := by
              unfold Hid; rw [hE.out, if_neg (fun h => h11 h.2), if_neg (fun h => h3 h.2), if_neg (fun h => h3 h.2.2)]
            have hzn : Hid (((z.toNat : Nat) : Int) = z) := hid (by have := hA1.1; omega)
            have h2 := H1.out
            have f0 := h2.obj.frozen 0
            have f1 := h2.obj.frozen 1
            have f2 := h2.obj.frozen 2
            have k0 := h2.obj.cell (i := 0) rfl
            have k1 := h2.obj.cell (i := 1) rfl
            have k2 := h2.obj.cell (i := 2) rfl
            have H5 := hid (((h2.setObj 0 (.int .i64 z)).setObj 1 (.int .i64 0)).setObj 2 (.int .i64 0))
            have HM := hid h2.mod
            clear h2 H1
            go_wp2
            try simp only [Exit.inBlock, Exit.then]
            rw [hz0] at H5
            refine ret_cell_tmp rfl _ 3 Tryz.underlying159 rfl (by kernel_rfl) w.heap.size [.int .i64 0, .int .i64 0, .int .i64 0] 159 _ rfl rfl rfl H5.out.obj rfl ?_
            rw [hE2.out]
            unfold itV
            simp only [hz0]
            exact ⟨rfl, ((HM.out.setCell (.inl (Nat.le_refl _)) _).setCell (.inl (Nat.le_refl _)) _).setCell (.inl (Nat.le_refl _)) _⟩
        · have b4 : decide ((0 : Int) < (a : Int)) = false := by simp; omega
          have hE2 : Hid (nextI all a = ((z.toNat, 0, 0), 1)) := by
            unfold Hid; rw [hE.out, if_neg (fun h => h11 h.2), if_neg (fun h => h3 h.2), if_neg (fun h => h3 h.2.2)]
          have hzn : Hid (((z.toNat : Nat) : Int) = z) := hid (by have := hA1.1; omega)
          have h2 := H1.out
          have f0 := h2.obj.frozen 0
          have f1 := h2.obj.frozen 1
          have f2 := h2.obj.frozen 2
          have k0 := h2.obj.cell (i := 0) rfl
          have k1 := h2.obj.cell (i := 1) rfl
          have k2 := h2.obj.cell (i := 2) rfl
          have H5 := hid (((h2.setObj 0 (.int .i64 z)).setObj 1 (.int .i64 0)).setObj 2 (.int .i64 0))
          have HM := hid h2.mod
          clear h2 H1
          go_wp2
          try simp only [Exit.inBlock, Exit.then]
          rw [hz0] at H5
          refine ret_cell_tmp rfl _ 3 Tryz.underlying159 rfl (by kernel_rfl) w.heap.size [.int .i64 0, .int .i64 0, .int .i64 0] 159 _ rfl rfl rfl H5.out.obj rfl ?_
          rw [hE2.out]
          unfold itV
          simp only [hz0]
          exact ⟨rfl, ((HM.out.setCell (.inl (Nat.le_refl _)) _).setCell (.inl (Nat.le_refl _)) _).setCell (.inl (Nat.le_refl _)) _⟩
  · have b1 : (z == 0) = false := by simp [hz0]
    by_cases ha1 : 0 < a
    · have b4 : decide ((0 : Int) < (a : Int)) = true := by simp; omega
      have ha2 : (a : Int) - 1 = ((a - 1 : Nat) : Int) := by omega
      have ha3 : ((a - 1 : Nat) : Int) < (n : Int) := by omega
      have kp := hpr.out ha1
      by_cases hpz : p = z
      · have b5 : (p == z) = true := by simp [hpz]
        by_cases h3 : 3 ≤ r
        · have b3 : decide ((3 : Int) ≤ (r : Int)) = true := by simp; omega
          have HX := hid (repeat_any 16 2 3 6 r (.inr (.inr ⟨rfl, rfl, rfl, rfl⟩)) h3 (by omega) w1)
          have hE2 : Hid (nextI all a = ((16, 2, min r 6 - 3), min r 6)) := by
            unfold Hid; rw [hE.out, if_neg (fun h => hz0 h.1), if_neg (fun h => hz0 h.1), if_pos ⟨ha1, hpz, h3⟩]
          go_wp2_with fail
          refine HX.out.mono ?_
          rintro e w2 ⟨rfl, hm⟩
          have h2 := H1.out.same hm
          have f0 := h2.obj.frozen 0
          have f1 := h2.obj.frozen 1
          have f2 := h2.obj.frozen 2
          have k0 := h2.obj.cell (i := 0) rfl
          have k1 := h2.obj.cell (i := 1) rfl
          have k2 := h2.obj.cell (i := 2) rfl
          have H5 := hid (((h2.setObj 0 (.int .i64 ((16 : Nat) : Int))).setObj 1 (.int .i64 ((2 : Nat) : Int))).setObj 2 (.int .i64 ((min r 6 - 3 : Nat) : Int)))
          have HM := hid h2.mod
          clear h2 hm HX
          go_wp2
          try simp only [Exit.inBlock, Exit.then]
          refine ret_cell_tmp rfl _ 3 Tryz.underlying159 rfl (by kernel_rfl) w.heap.size [.int .i64 ((16 : Nat) : Int), .int .i64 ((2 : Nat) : Int), .int .i64 ((min r 6 - 3 : Nat) : Int)] 159 _ rfl rfl rfl H5.out.obj rfl ?_
          rw [hE2.out]
          exact ⟨rfl, ((HM.out.setCell (.inl (Nat.le_refl _)) _).setCell (.inl (Nat.le_refl _)) _).setCell (.inl (Nat.le_refl _)) _⟩
        · have b3 : decide ((3 : Int) ≤ (r : Int)) = false := by simp; omega
          have hE2 : Hid (nextI all a = ((z.toNat, 0, 0), 1)) := by
            unfold Hid; rw [hE.out, if_neg (fun h => hz0 h.1), if_neg (fun h => hz0 h.1), if_neg (fun h => h3 h.2.2)]
          have hzn : Hid (((z.toNat : Nat) : Int) = z) := hid (by have := hA1.1; omega)
          have h2 := H1.out
          have f0 := h2.obj.frozen 0
          have f1 := h2.obj.frozen 1
          have f2 := h2.obj.frozen 2
          have k0 := h2.obj.cell (i := 0) rfl
          have k1 := h2.obj.cell (i := 1) rfl
          have k2 := h2.obj.cell (i := 2) rfl
          have H5 := hid (((h2.setObj 0 (.int .i64 z)).setObj 1 (.int .i64 0)).setObj 2 (.int .i64 0))
          have HM := hid h2.mod
          clear h2 H1
          go_wp2
          try simp only [Exit.inBlock, Exit.then]
          refine ret_cell_tmp rfl _ 3 Tryz.underlying159 rfl (by kernel_rfl) w.heap.size [.int .i64 z, .int .i64 0, .int .i64 0] 159 _ rfl rfl rfl H5.out.obj rfl ?_
          rw [hE2.out]
          unfold itV
          simp only [hzn.out]
          exact ⟨rfl, ((HM.out.setCell (.inl (Nat.le_refl _)) _).setCell (.inl (Nat.le_refl _)) _).setCell (.inl (Nat.le_refl _)) _⟩
      · have b5 : (p == z) = false := by simp [hpz]
        have hE2 : Hid (nextI all a = ((z.toNat, 0, 0), 1)) := by
          unfold Hid; rw [hE.out, if_neg (fun h => hz0 h.1), if_neg (fun h => hz0 h.1), if_neg (fun h => hpz h.2.1)]
        have hzn : Hid (((z.toNat : Nat) : Int) = z) := hid (by have := hA1.1; omega)
        have h2 := H1.out
        have f0 := h2.obj.frozen 0
        have f1 := h2.obj.frozen 1
        have f2 := h2.obj.frozen 2
        have k0 := h2.obj.cell (i := 0) rfl
        have k1 := h2.obj.cell (i := 1) rfl
        have k2 := h2.obj.cell (i := 2) rfl
        have H5 := hid (((h2.setObj 0 (.int .i64 z)).setObj 1 (.int .i64 0)).setObj 2 (.int .i64 0))
        have HM := hid h2.mod
        clear h2 H1
        go_wp2
        try simp only [Exit.inBlock, Exit.then]
        refine ret_cell_tmp rfl _ 3 Tryz.underlying159 rfl (by kernel_rfl) w.heap.size [.int .i64 z, .int .i64 0, .int .i64 0] 159 _ rfl rfl rfl H5.out.obj rfl ?_
        rw [hE2.out]
        unfold itV
        simp only [hzn.out]
        exact ⟨rfl, ((HM.out.setCell (.inl (Nat.le_refl _)) _).setCell (.inl (Nat.le_refl _)) _).setCell (.inl (Nat.le_refl _)) _⟩
    · have b4 : decide ((0 : Int) < (a : Int)) = false := by simp; omega
      have hE2 : Hid (nextI all a = ((z.toNat, 0, 0), 1)) := by
        unfold Hid; rw [hE.out, if_neg (fun h => hz0 h.1), if_neg (fun h => hz0 h.1), if_neg (fun h => ha1 h.1)]
      have hzn : Hid (((z.toNat : Nat) : Int) = z) := hid (by have := hA1.1; omega)
      have h2 := H1.out
      have f0 := h2.obj.frozen 0
      have f1 := h2.obj.frozen 1
      have f2 := h2.obj.frozen 2
      have k0 := h2.obj.cell (i := 0) rfl
      have k1 := h2.obj.cell (i := 1) rfl
      have k2 := h2.obj.cell (i := 2) rfl
      have H5 := hid (((h2.setObj 0 (.int .i64 z)).setObj 1 (.int .i64 0)).setObj 2 (.int .i64 0))
      have HM := hid h2.mod
      clear h2 H1
      go_wp2
      try simp only [Exit.inBlock, Exit.then]
      refine ret_cell_tmp rfl _ 3 Tryz.underlying159 rfl (by kernel_rfl) w.heap.size [.int .i64 z, .int .i64 0, .int .i64 0] 159 _ rfl rfl rfl H5.out.obj rfl ?_
      rw [hE2.out]
      unfold itV
      simp only [hzn.out]
      exact ⟨rfl, ((HM.out.setCell (.inl (Nat.le_refl _)) _).setCell (.inl (Nat.le_refl _)) _).setCell (.inl (Nat.le_refl _)) _⟩
end Go.Proofs.YtdmnfjicjjlnnaaGreatDoor
