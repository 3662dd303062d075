/-
  What is written is read: the bits of a symbol, of a token, of a block's tokens, of stored bytes, of the codes that a dynamic block has, and what the model of reading makes of them. No program is named here.
-/
import Derived.Test.YtbkbkmgogbgofaaDoorZh06
import Derived.Test.YtbkbkmgogbgofaaDoorZh14
import Derived.Test.YtbkbkmgogbgofaaDoorZh05
namespace Go.Proofs.YtbkbkmgogbgofaaDoor
set_option maxRecDepth 5000
/-! ### Numbers and symbols -/
def symBits (l : List Int) (k : Nat) : List Nat := hiBits (l[k]?.getD 0).toNat (codeAt l k)
structure GoodCode (l : List Int) : Prop where
  lens : ∀ a ∈ l, 0 ≤ a ∧ a ≤ 15
  sum : sumOf l ≤ 32768
def HasSym (l : List Int) (k : Nat) : Prop := ∃ a, l[k]? = some a ∧ 0 < a
theorem sym_read {l : List Int} {k : Nat} (hl : GoodCode l) (hs : HasSym l k) {post : List Nat} (hb : isBits post) : symF l (symBits l k ++ post) = (k, (symBits l k).length, 0) := by
  obtain ⟨a, h1, h2⟩ := hs
  have h3 := hl.lens a (List.mem_of_getElem? h1)
  have h4 : l[k]? = some ((a.toNat : Nat) : Int) := by rw [h1]; congr 1; omega
  have hh := Hit.written hl.sum h4 (by omega) (by omega) post
  have e : symBits l k = hiBits a.toNat (codeAt l k) := by unfold symBits; rw [h1]; rfl
  rw [e, hiBits_length]
  exact symF_of (isBits_append (hiBits_isBits _ _) hb) hl.lens (.inl ⟨rfl, hh⟩)
/-! ### Tokens -/
/-! ### Stored bytes -/
end Go.Proofs.YtbkbkmgogbgofaaDoor
/-
  What is written is read: a dynamic block's codes; a block of each kind. No program is named here.
-/
namespace Go.Proofs.YtbkbkmgogbgofaaDoor
set_option maxRecDepth 5000
/-! ### The lengths of the third code -/
def orderAt (i : Nat) : Nat := orderF[i]?.getD 0
theorem orderAt_lt : ∀ i, i < 19 → orderAt i < 19 := by decide
/-! ### A dynamic block's codes -/
theorem good_of {l : List Int} (h : checkOf l 15 = 0) : GoodCode l := by
  obtain ⟨h1, _, h2⟩ := check_ok h
  exact ⟨h1, by omega⟩
/-! ### Blocks -/
theorem fix_check : checkOf fixLit 15 = 0 ∧ checkOf fixDist 15 = 0 := by decide +kernel
end Go.Proofs.YtbkbkmgogbgofaaDoor
/-
  The package-level arrays 'order' and 'runs' of the landed decoder; when the third code has a length.
-/
namespace Go.Proofs.YtbkbkmgogbgofaaDoor
set_option maxRecDepth 5000
open Go.RowKit
def runsF : List Nat := [2, 3, 3, 3, 7, 11]
structure GlobI (w : World) : Prop where
  ord : ∀ (i : Nat) (v : Value), (nums .i64 orderF)[i]? = some v → w.cell? ⟨0, i, none⟩ = some v
  run : ∀ (i : Nat) (v : Value), (nums .i64 runsF)[i]? = some v → w.cell? ⟨1, i, none⟩ = some v
theorem GlobI.kept {w w' : World} (h : GlobI w) (hm : Mod w w' (fun _ => False)) : GlobI w' :=
  ⟨fun i v hv => by
    have hc := h.ord i v hv
    rw [hm.cell (World.block_lt_of_cell? w _ hc) (fun h => h)]; exact hc, fun i v hv => by
    have hc := h.run i v hv
    rw [hm.cell (World.block_lt_of_cell? w _ hc) (fun h => h)]; exact hc⟩
theorem GlobI.at {w0 w : World} {Rs : List Thing} (h : GlobI w0) (H : Held w0 w Rs) {i o : Nat} (ho : orderF[i]? = some o) : w.cell? ⟨0, i, none⟩ = some (.int .i64 (o : Int)) :=
  (h.kept H.mod).ord i _ (by rw [nums_get, ho]; rfl)
theorem orderI_at {i : Nat} (h : i < 19) : orderF[i]? = some (orderAt i) := by
  unfold orderAt
  have : i < orderF.length := h
  rw [List.getElem?_eq_getElem this]; rfl
theorem wt_zero : wtTo 15 0 = 0 := by decide
theorem wt_pos {a : Nat} (h : 0 < a) (h2 : a < 8) : 0 < wtTo 15 (a : Int) := by
  unfold wtTo
  rw [if_pos (by omega)]
  exact Nat.two_pow_pos _
theorem sum_set : ∀ (l : List Int) (k : Nat) (a : Int), l[k]? = some 0 → sumOf (l.set k a) = sumOf l + wtTo 15 a
  | [], k, a, h => by simp at h
  | b :: l, 0, a, h => by
    simp only [List.getElem?_cons_zero, Option.some.injEq] at h
    subst h
    rw [List.set_cons_zero, sum_cons, sum_cons, wt_zero]; omega
  | b :: l, k + 1, a, h => by
    rw [List.set_cons_succ, sum_cons, sum_cons, sum_set l k a (by simpa using h)]; omega
theorem order_ne : ∀ i, i < 19 → ∀ j, j < 19 → i ≠ j → orderAt i ≠ orderAt j := by decide
theorem head_zero (bs : List Nat) (a : Nat) : ∀ C, C ≤ 19 → ∀ j, C ≤ j → j < 19 → (headF bs a C)[orderAt j]? = some 0
  | 0, _, j, _, hj => by
    rw [headF, List.getElem?_replicate, if_pos (orderAt_lt j hj)]
  | C + 1, hC, j, h1, hj => by
    rw [headF, List.getElem?_set_ne (by
      have := order_ne C (by omega) j hj (by omega)
      rw [orderI_at (by omega : C < 19)]
      exact this)]
    exact head_zero bs a C (by omega) j (by omega) hj
theorem head_sum (bs : List Nat) (hb : isBits bs) (a : Nat) : ∀ C, C ≤ 19 → (sumOf (headF bs a C) = 0 ↔ anyF bs a C = false)
  | 0, _ => by
    refine ⟨fun _ => rfl, fun _ => by rw [headF]; decide⟩
  | C + 1, hC => by
    have ih := head_sum bs hb a C (by omega)
    have h0 := head_zero bs a C (by omega) C (Nat.le_refl _) (by omega)
    have h8 : numOf ((bs.drop (a + 3 * C)).take 3) < 8 := num16_lt hb _ 3
    rw [headF, anyF, orderI_at (by omega : C < 19)]
    show sumOf ((headF bs a C).set (orderAt C) _) = 0 ↔ _
    rw [sum_set _ _ _ h0]
    by_cases hz : numOf ((bs.drop (a + 3 * C)).take 3) = 0
    · rw [hz, show (((0 : Nat) : Int)) = 0 from rfl, wt_zero, Nat.add_zero, ih]
      simp
    · have := wt_pos (Nat.pos_of_ne_zero hz) h8
      constructor
      · intro h; omega
      · intro h
        simp only [Bool.or_eq_false_iff, decide_eq_false_iff_not] at h
        omega
theorem head_in (bs : List Nat) (hb : isBits bs) (a : Nat) : ∀ C, ∀ y ∈ headF bs a C, 0 ≤ y ∧ y ≤ 7
  | 0, y, hy => by
    rw [headF] at hy
    have := List.eq_of_mem_replicate hy
    omega
  | C + 1, y, hy => by
    rw [headF] at hy
    have h8 : numOf ((bs.drop (a + 3 * C)).take 3) < 8 := num16_lt hb _ 3
    rcases List.mem_or_eq_of_mem_set hy with h | h
    · exact head_in bs hb a C y h
    · omega
theorem check_3 {l : List Int} {mm : Int} (h1 : 1 ≤ mm) (h15 : mm ≤ 15) (hl : l.length ≤ 288) (hin : ∀ y ∈ l, 0 ≤ y ∧ y ≤ mm) (hc : checkOf l mm ≠ 0) : checkOf l mm = 3 := by
  have hb : argBad l mm = false := by
    unfold argBad
    rw [(allIn_iff l mm).2 hin]
    simp
    omega
  unfold checkOf at hc ⊢
  rw [hb] at hc ⊢
  simp only [Bool.false_eq_true, if_false] at hc ⊢
  split at hc
  · exact absurd rfl hc
  · rename_i h
    rw [if_neg h]
end Go.Proofs.YtbkbkmgogbgofaaDoor
/-
  The landed decoder's readRun, makeCodes, readLengths.
-/
namespace Go.Proofs.YtbkbkmgogbgofaaDoor
set_option maxRecDepth 5000
open Go.RowKit
def wdF (k : Nat) : Nat := if k = 17 then 3 else if k = 18 then 7 else 2
def baF (k : Nat) : Nat := if k = 18 then 11 else 3
def yF (k : Nat) (ls : List Int) : Int := if k = 16 then ls.getLast?.getD 0 else 0
inductive RunOut (k : Nat) (l : List Nat) (ls : List Int) : List Nat → Int → Nat → Nat → Prop
  | one (h : k < 16) : RunOut k l ls l (k : Int) 1 0
  | none (h : k = 16) (hl : ls = []) : RunOut k l ls l 0 0 2
  | few (h : ¬ k < 16) (hl : ¬ (k = 16 ∧ ls = [])) (ht : takeL l (wdF k) = .none) : RunOut k l ls l 0 0 5
  | run (h : ¬ k < 16) (hl : ¬ (k = 16 ∧ ls = [])) {more : Nat} (ht : takeL l (wdF k) = some more) : RunOut k l ls (l.drop (wdF k)) (yF k ls) (baF k + more) 0
section
variable {w0 w : World} {Rs : List Thing} {p : Place} {c : DC} {v : Value} {bs l : List Nat} {ls : List Int} {M : Nat}
theorem run_low (k : Nat) (hk : k < 16) (h : Held w0 w (rdmT (decP p c) v bs l :: ownT 3 1 c.hv ls.length (ints ls) :: Rs)) :
    Calls Tryd.prog 56 #[.pointer (some ⟨p.b, p.o, none⟩), .int .i64 (k : Int)] w fun e w' => ∃ l' y n er, e = .returned (.tuple #[.int .i64 y, .int .i64 ((n : Nat) : Int), .int .i64 ((er : Nat) : Int)]) ∧ RunOut k l ls l' y n er ∧
      Held w0 w' (rdmT (decP p c) v bs l' :: ownT 3 1 c.hv ls.length (ints ls) :: Rs) := by
  have hkI : (k : Int) < 16 := by omega
  have HH := hid h
  clear h
  go_enter Tryd.func56, Tryd.ntmps56
  go_wp2
  go_ret3
  exact ⟨l, k, 1, 0, rfl, .one hk, HH.out⟩
theorem GlobI.runAt {w0 w : World} {Rs : List Thing} (h : GlobI w0) (H : Held w0 w Rs) {i o : Nat} (ho : runsF[i]? = some o) : w.cell? ⟨1, i, none⟩ = some (.int .i64 (o : Int)) :=
  (h.kept H.mod).run i _ (by rw [nums_get, ho]; rfl)
set_option maxHeartbeats 3200000 in
theorem run_high (k : Nat) (hk : k = 17 ∨ k = 18) (hG : GlobI w0) (hlen : l.length < bigD) (hb : isBits l) (h : Held w0 w (rdmT (decP p c) v bs l :: ownT 3 1 c.hv ls.length (ints ls) :: Rs)) :
    Calls Tryd.prog 56 #[.pointer (some ⟨p.b, p.o, none⟩), .int .i64 (k : Int)] w fun e w' => ∃ l' y n er, e = .returned (.tuple #[.int .i64 y, .int .i64 ((n : Nat) : Int), .int .i64 ((er : Nat) : Int)]) ∧ RunOut k l ls l' y n er ∧
      Held w0 w' (rdmT (decP p c) v bs l' :: ownT 3 1 c.hv ls.length (ints ls) :: Rs) := by
  have r0 := hG.runAt h (i := 2) rfl
  have r1 := hG.runAt h (i := 3) rfl
  have r2 := hG.runAt h (i := 4) rfl
  have r3 := hG.runAt h (i := 5) rfl
  rcases hk with rfl | rfl
  · have H1 := hid (h.newObj [.int .i64 3, .int .i64 3] 110)
    cases ht : takeL l 3 with
    | none =>
      have HG := hid (dget_no H1.out.drew.swap 3 3 rfl (by decide) (takeL_none ht))
      have HT := hid ht
      have e0 := H1.out.obj.cell (i := 0) rfl
      have e1 := H1.out.obj.cell (i := 1) rfl
      clear ht h
      go_enter Tryd.func56, Tryd.ntmps56
      go_wp2
      go_region_held3 (fun w' => w'.cell? ⟨w.heap.size, 0, none⟩ = some (.int .i64 3)) (first | exact d0 | exact e0 | go_keep)
        ((go_at_call 47; go_must (refine HG.out.mono ?_); rintro e' w4 ⟨rfl, hh⟩; have d0 := hh.swap.obj.cell (i := 0) rfl; have H5 := hid hh; clear hh))
      all_goals
        go_wp2
        go_ret3
        exact ⟨l, 0, 0, 5, rfl, .few (by decide) (by simp) HT.out, H5.out.swap.drop⟩
    | some x =>
      obtain ⟨h1, h2⟩ := takeL_some ht
      have HG := dget_yes H1.out.drew.swap 3 3 rfl (by decide) h1 hlen
      rw [← h2] at HG
      have HG := hid HG
      have HT := hid ht
      have hx : x < 128 := by
        rw [h2]; exact Nat.lt_of_lt_of_le (num_lt hb 3) (by decide)
      obtain ⟨n, hn⟩ : ∃ n, n = 3 + x := ⟨_, rfl⟩
      have hnI : (3 : Int) + (x : Int) = (n : Int) := by omega
      have HN := hid hn
      have e0 := H1.out.obj.cell (i := 0) rfl
      have e1 := H1.out.obj.cell (i := 1) rfl
      clear ht h hn h2
      go_enter Tryd.func56, Tryd.ntmps56
      go_wp2
      go_region_held3 (fun w' => w'.cell? ⟨w.heap.size, 0, none⟩ = some (.int .i64 3)) (first | exact d0 | exact e0 | go_keep)
        ((go_at_call 47; go_must (refine HG.out.mono ?_); rintro e' w4 ⟨rfl, hh⟩; have d0 := hh.swap.obj.cell (i := 0) rfl; have d1 := hh.swap.obj.cell (i := 1) rfl; have H5 := hid hh; clear hh))
      all_goals
        go_wp2
        go_quiet (fail)
        go_wp2
        go_ret3
        exact ⟨l.drop 3, 0, n, 0, rfl, by rw [HN.out]; exact RunOut.run (k := 17) (by decide) (by simp) HT.out, (H5.out.swap.drop.drewN _)⟩
  · have H1 := hid (h.newObj [.int .i64 7, .int .i64 11] 110)
    cases ht : takeL l 7 with
    | none =>
      have HG := hid (dget_no H1.out.drew.swap 7 7 rfl (by decide) (takeL_none ht))
      have HT := hid ht
      have e0 := H1.out.obj.cell (i := 0) rfl
      have e1 := H1.out.obj.cell (i := 1) rfl
      clear ht h
      go_enter Tryd.func56, Tryd.ntmps56
      go_wp2
      go_region_held3 (fun w' => w'.cell? ⟨w.heap.size, 0, none⟩ = some (.int .i64 7)) (first | exact d0 | exact e0 | go_keep)
        ((go_at_call 47; go_must (refine HG.out.mono ?_); rintro e' w4 ⟨rfl, hh⟩; have d0 := hh.swap.obj.cell (i := 0) rfl; have H5 := hid hh; clear hh))
      all_goals
        go_wp2
        go_ret3
        exact ⟨l, 0, 0, 5, rfl, .few (by decide) (by simp) HT.out, H5.out.swap.drop⟩
    | some x =>
      obtain ⟨h1, h2⟩ := takeL_some ht
      have HG := dget_yes H1.out.drew.swap 7 7 rfl (by decide) h1 hlen
      rw [← h2] at HG
      have HG := hid HG
      have HT := hid ht
      have hx : x < 128 := by
        rw [h2]; exact Nat.lt_of_lt_of_le (num_lt hb 7) (by decide)
      obtain ⟨n, hn⟩ : ∃ n, n = 11 + x := ⟨_, rfl⟩
      have hnI : (11 : Int) + (x : Int) = (n : Int) := by omega
      have HN := hid hn
      have e0 := H1.out.obj.cell (i := 0) rfl
      have e1 := H1.out.obj.cell (i := 1) rfl
      clear ht h hn h2
      go_enter Tryd.func56, Tryd.ntmps56
      go_wp2
      go_region_held3 (fun w' => w'.cell? ⟨w.heap.size, 0, none⟩ = some (.int .i64 7)) (first | exact d0 | exact e0 | go_keep)
        ((go_at_call 47; go_must (refine HG.out.mono ?_); rintro e' w4 ⟨rfl, hh⟩; have d0 := hh.swap.obj.cell (i := 0) rfl; have d1 := hh.swap.obj.cell (i := 1) rfl; have H5 := hid hh; clear hh))
      all_goals
        go_wp2
        go_quiet (fail)
        go_wp2
        go_ret3
        exact ⟨l.drop 7, 0, n, 0, rfl, by rw [HN.out]; exact RunOut.run (k := 18) (by decide) (by simp) HT.out, (H5.out.swap.drop.drewN _)⟩
set_option maxHeartbeats 3200000 in
theorem run_last (hG : GlobI w0) (hlen : l.length < bigD) (hb : isBits l) (hls : ls.length < 1000) (h : Held w0 w (rdmT (decP p c) v bs l :: ownT 3 1 c.hv ls.length (ints ls) :: Rs)) :
    Calls Tryd.prog 56 #[.pointer (some ⟨p.b, p.o, none⟩), .int .i64 16] w fun e w' => ∃ l' y n er, e = .returned (.tuple #[.int .i64 y, .int .i64 ((n : Nat) : Int), .int .i64 ((er : Nat) : Int)]) ∧ RunOut 16 l ls l' y n er ∧
      Held w0 w' (rdmT (decP p c) v bs l' :: ownT 3 1 c.hv ls.length (ints ls) :: Rs) := by
  have r0 := hG.runAt h (i := 0) rfl
  have r1 := hG.runAt h (i := 1) rfl
  obtain ⟨wv, most, room, lv, st, last, left, dist, hA, hB, hC, ht, hv, cl, cd, fl, fd, en⟩ := c
  dsimp only at h ⊢
  obtain ⟨N, hN⟩ : ∃ N, N = ls.length := ⟨_, rfl⟩
  rw [← hN] at h hls ⊢
  obtain ⟨ao, cap, rfl, hnc, hcm⟩ := h.swap.own.form
  have c15 : w.cell? ⟨p.b, p.o + 8 + 3 + 4, none⟩ = some (.slice ao N cap) := dcell h 15 _ rfl
  by_cases h0 : N = 0
  · subst h0
    have HH := hid h
    have HL : Hid (ls = []) := hid (List.eq_nil_of_length_eq_zero hN.symm)
    clear h hN
    go_enter Tryd.func56, Tryd.ntmps56
    go_wp2
    go_ret3
    exact ⟨l, 0, 0, 2, rfl, .none rfl HL.out, HH.out⟩
  · have hNB : ((N : Int) == 0) = false := by simp; omega
    have hNI : ¬ (N : Int) = 0 := by omega
    obtain ⟨q, hq⟩ : ∃ q, q = N - 1 := ⟨_, rfl⟩
    have hqI : (N : Int) - 1 = (q : Int) := by omega
    have hqN : q < N := by omega
    have hq0 : (0 : Int) ≤ (q : Int) := Int.natCast_nonneg _
    have hqNI : (q : Int) < (N : Int) := by omega
    obtain ⟨g, off, rfl, hcell⟩ := h.swap.own.rd.spot (by omega)
    obtain ⟨y, hy⟩ : ∃ y, ls[q]? = some y := ⟨ls[q]'(by omega), List.getElem?_eq_getElem _⟩
    have cq := hcell q (.int .i64 y) (by rw [ints_get, hy]; rfl)
    have hY : Hid (yF 16 ls = y) := by
      refine hid ?_
      unfold yF
      rw [if_pos rfl, List.getLast?_eq_getElem?, ← hN, ← hq, hy]; rfl
    have hne : Hid (ls ≠ []) := hid (fun h => by rw [h] at hN; simp at hN; omega)
    have H1 := hid (h.newObj [.int .i64 2, .int .i64 3] 110)
    clear hN hq hcell hy
    cases ht : takeL l 2 with
    | none =>
      have HG := hid (dget_no H1.out.drew.swap 2 2 rfl (by decide) (takeL_none ht))
      have HT := hid ht
      have e0 := H1.out.obj.cell (i := 0) rfl
      have e1 := H1.out.obj.cell (i := 1) rfl
      clear ht h
      go_enter Tryd.func56, Tryd.ntmps56
      go_wp2
      go_region_held3 (fun w' => w'.cell? ⟨w.heap.size, 0, none⟩ = some (.int .i64 2)) (first | exact d0 | exact e0 | go_keep)
        ((go_at_call 47; go_must (refine HG.out.mono ?_); rintro e' w4 ⟨rfl, hh⟩; have d0 := hh.swap.obj.cell (i := 0) rfl; have H5 := hid hh; clear hh))
      all_goals
        go_wp2
        go_ret3
        exact ⟨l, 0, 0, 5, rfl, .few (by decide) (fun h => hne.out h.2) HT.out, H5.out.swap.drop⟩
    | some x =>
      obtain ⟨h1, h2⟩ := takeL_some ht
      have HG := dget_yes H1.out.drew.swap 2 2 rfl (by decide) h1 hlen
      rw [← h2] at HG
      have HG := hid HG
      have HT := hid ht
      have hx : x < 128 := by
        rw [h2]; exact Nat.lt_of_lt_of_le (num_lt hb 2) (by decide)
      obtain ⟨n, hn⟩ : ∃ n, n = 3 + x := ⟨_, rfl⟩
      have hnI : (3 : Int) + (x : Int) = (n : Int) := by omega
      have HN := hid hn
      have e0 := H1.out.obj.cell (i := 0) rfl
      have e1 := H1.out.obj.cell (i := 1) rfl
      clear ht h hn h2
      go_enter Tryd.func56, Tryd.ntmps56
      go_wp2
      go_region_held3 (fun w' => w'.cell? ⟨w.heap.size, 0, none⟩ = some (.int .i64 2)) (first | exact d0 | exact e0 | go_keep)
        ((go_at_call 47; go_must (refine HG.out.mono ?_); rintro e' w4 ⟨rfl, hh⟩; have d0 := hh.swap.obj.cell (i := 0) rfl; have d1 := hh.swap.obj.cell (i := 1) rfl; have H5 := hid hh; clear hh))
      all_goals
        go_wp2
        go_quiet (fail)
        go_wp2
        go_ret3
        exact ⟨l.drop 2, y, n, 0, rfl, by rw [HN.out]; rw [← hY.out]; exact RunOut.run (k := 16) (by decide) (fun h => hne.out h.2) HT.out, (H5.out.swap.drop.drewN _)⟩
end
end Go.Proofs.YtbkbkmgogbgofaaDoor
/-
  The landed decoder's readThird.
-/
namespace Go.Proofs.YtbkbkmgogbgofaaDoor
set_option maxRecDepth 5000
open Go.RowKit
theorem infoIntI : (Tryd.prog.info? 3).map (fun i => (i.zero, i.size, i.bytes)) = some (some (Value.int .i64 0), 1, 8) := by kernel_rfl
section
variable {w0 w : World} {Rs : List Thing} {p : Place} {c : DC} {v : Value} {bs l o got : List Nat} {ls : List Int} {Ts : List (List Int × Nat)} {M : Nat}
set_option maxHeartbeats 3200000 in
theorem third_any (b : Bool) (A B C : Nat) (hG : GlobI w0) (h : Held w0 w (decM p c v bs l o got ls Ts Rs)) (hi : DInv M c ls Ts (.thd b A B C) l o got) :
    Calls Tryd.prog 42 #[.pointer (some ⟨p.b, p.o, none⟩)] w fun e w' => RAns w0 w' p v bs M (.thd b A B C) c l o got ls Ts Rs e := by
  obtain ⟨i0, hi0, hz0, hz1, hz2⟩ := info_parts infoIntI
  have hcell := hi.cell
  have hfx := hi.fx
  obtain ⟨_, _, _, _, hC4, hC19⟩ := hi.ok.ph
  have hb := hi.ok.bits
  have hlen := hi.len
  have HI := hid hi
  obtain ⟨wv, most, room, lv, st, last, left, dist, hA, hB, hC, ht, hv, cl, cd, fl, fd, en⟩ := c
  obtain ⟨rfl, rfl, rfl, rfl, rfl, rfl⟩ : st = 4 ∧ last = b ∧ hA = A ∧ hB = B ∧ hC = C ∧ ls = [] := hcell
  unfold decM at h
  have hst : stepM M l o (.thd last hA hB hC) = thdM last hA hB hC l o := rfl
  unfold thdM at hst
  have HS := hid hst
  have HFX := hid hfx
  have H0 := hid h
  have HB := hid (And.intro hb hlen)
  have c13 : w.cell? ⟨p.b, p.o + 8 + 3 + 2, none⟩ = some (.int .i64 (hC : Int)) := dcell h 13 _ rfl
  have hC0 : (0 : Int) ≤ (hC : Int) := Int.natCast_nonneg _
  clear h hi hst hfx hb hlen
  go_enter Tryd.func42, Tryd.ntmps42
  go_wp2_with ((with_reducible show wpList _ _ _ (⟨some 9, _, _, _, _, _⟩ :: _) _ _); refine wpList_make_own rfl 46 (.const (.int .i64 19)) (.const (.int .i64 19)) rfl 3 i0 (.int .i64 0) 1 Tryd.underlying46 hi0 hz0 hz1 .i64 19 rfl rfl (by rw [hz2]; omega) (by unfold maxLen; omega) ?_; intro v1 w2 zs ho1 hm1 hf1 hv1 hzs; subst hv1; have H1 := hid (H0.out.pushOwn ho1 hm1 hf1); have c13 : w2.cell? ⟨p.b, p.o + 8 + 3 + 2, none⟩ = some (.int .i64 (hC : Int)) := dcell (H0.out.pushOwn ho1 hm1 hf1).swap 13 _ rfl; clear ho1 hm1 hf1)
  have hE0 : zs = ints (headF l 0 0) := by rw [hzs, made_cellsB _ _ rfl, headF]; simp [ints]
  rw [hE0] at H1
  have H1' : Hid (Held w0 w2 (rdmT (decP p ⟨wv, most, room, lv, 4, last, left, dist, hA, hB, hC, ht, hv, cl, cd, fl, fd, en⟩) v bs (l.drop (3 * 0)) :: ownT 3 1 (.slice (some ⟨w.heap.size, 0, none⟩) 19 19) 19 (ints (headF l 0 0)) :: _)) := hid H1.out.swap
  clear H0 H1 hzs hE0 c13
  go_loopg [16] (hC + 2) (fun gg t16 wr => ∃ i : Nat, i ≤ hC ∧ hC - i < gg ∧ t16 = .int .i64 (i : Int) ∧
    Hid (Held w0 wr (rdmT (decP p ⟨wv, most, room, lv, 4, last, left, dist, hA, hB, hC, ht, hv, cl, cd, fl, fd, en⟩) v bs (l.drop (3 * i)) :: ownT 3 1 (.slice (some ⟨w.heap.size, 0, none⟩) 19 19) 19 (ints (headF l 0 i)) :: ownT 5 1 wv (keep o).length (u8s (keep o)) :: ownT 5 1 lv got.length (u8s got) :: ownT 3 1 hv ([] : List Int).length (ints []) :: tabsT Ts :: Rs)) ∧ Hid (3 * i ≤ l.length))
  case atStart => exact ⟨0, by omega, by omega, rfl, H1', hid (by omega)⟩
  case round =>
    obtain ⟨i, hi2, hk, rfl, HH, HL⟩ := hrel
    have hi0 : (0 : Int) ≤ (i : Int) := Int.natCast_nonneg _
    by_cases hin : i < hC
    · have hiI : (i : Int) < (hC : Int) := by omega
      by_cases h3 : (l.drop (3 * i)).length < 3
      · have HGE := hid (dget_no HH.out 3 3 rfl (by decide) h3)
        have HE := HS.out
        rw [if_pos (by rw [List.length_drop] at h3; omega)] at HE
        have HE := hid HE
        go_wp2_with fail
        with_reducible refine HGE.out.mono ?_
        rintro e w3 ⟨rfl, h4⟩
        have H4 := hid h4
        clear h4 HGE
        go_wp2
        go_ret
        exact ⟨5, rfl, .bad H4.out.swap.drop HE.out (fun _ => ⟨rfl, rfl, rfl⟩) ⟨rfl, rfl⟩⟩
      · have hl3 : 3 * i + 3 ≤ l.length := by rw [List.length_drop] at h3; omega
        have HGE := dget_yes HH.out 3 3 rfl (by decide) (by omega) (by rw [List.length_drop]; have := HB.out.2; omega)
        obtain ⟨x, hx⟩ : ∃ x, x = numOf ((l.drop (3 * i)).take 3) := ⟨_, rfl⟩
        have hx8 : x < 8 := by rw [hx]; exact num16_lt HB.out.1 _ 3
        rw [← hx, List.drop_drop, show 3 * i + 3 = 3 * (i + 1) by omega] at HGE
        have HGE := hid HGE
        have hor := orderI_at (show i < 19 by omega)
        have hol := orderAt_lt i (by omega)
        have hE : headF l 0 (i + 1) = (headF l 0 i).set (orderAt i) (x : Int) := by
          rw [headF, hor, Nat.zero_add, ← hx]; rfl
        obtain ⟨q, hq⟩ : ∃ q, q = orderAt i := ⟨_, rfl⟩
        rw [← hq] at hor hol hE
        have HE := hid hE
        have HOR := hid hor
        have hq0 : (0 : Int) ≤ (q : Int) := Int.natCast_nonneg _
        have hq19 : (q : Int) < 19 := by omega
        have hi19 : (i : Int) < 19 := by omega
        clear hx h3 hor hE hq
        go_wp2_with fail
        with_reducible refine HGE.out.mono ?_
        rintro e w3 ⟨rfl, h4⟩
        have H4 := hid h4
        obtain ⟨g2, off2, hg2, hc2, hfr, hput⟩ := h4.swap.own.site (by omega)
        simp only [Option.some.injEq, Addr.mk.injEq, and_true] at hg2
        obtain ⟨rfl, rfl⟩ := hg2
        obtain ⟨y, hy⟩ : ∃ y, (headF l 0 i)[q]? = some y := ⟨(headF l 0 i)[q]'(by rw [headF_length]; exact hol), List.getElem?_eq_getElem _⟩
        have g1 := hG.at h4 HOR.out
        have g2c := hc2 q (.int .i64 y) (by rw [ints_get, hy]; rfl)
        have g3 := hfr q
        have h5 := h4.swap.putOwn (hput q (.int .i64 (x : Int)) hol) (Mod.set w3 w.heap.size (0 + q) _)
        rw [show (ints (headF l 0 i)).set q (.int .i64 (x : Int)) = ints (headF l 0 (i + 1)) by rw [HE.out]; simp [ints, List.map_set]] at h5
        rw [Nat.zero_add] at g2c g3 h5
        have H5 := hid h5.swap
        clear h4 HGE hc2 hfr hput hy h5 HH
        go_wp2
        go_roundg (gk - 1)
        case measure => omega
        case rel => exact ⟨i + 1, by omega, by omega, by go_num, H5, hid (by omega)⟩
    · obtain rfl : i = hC := by omega
      have hiI : ¬ (i : Int) < (i : Int) := by omega
      have hL3 := HL.out
      have hst := HS.out
      rw [if_neg (by omega)] at hst
      have HSM := hid (sum_any (.slice (some ⟨w.heap.size, 0, none⟩) 19 19) (headF l 0 i) wr (by rw [headF_length]; exact HH.out.swap.own.rd) (by rw [headF_length]; decide))
      have hzs := head_sum l HB.out.1 0 i (by omega)
      have hin := head_in l HB.out.1 0 i
      have hck := check_3 (l := headF l 0 i) (mm := 7) (by decide) (by decide) (by rw [headF_length]; decide) hin
      obtain ⟨z, hz⟩ : ∃ z, z = sumOf (headF l 0 i) := ⟨_, rfl⟩
      rw [← hz] at HSM hzs
      have hz0 : (0 : Int) ≤ (z : Int) := Int.natCast_nonneg _
      by_cases h0 : z = 0
      · rw [if_pos (.inr (hzs.1 h0))] at hst
        have HS2 := hid hst
        subst h0
        clear hst hzs hin hck hz
        go_wp2_with fail
        with_reducible refine HSM.out.mono ?_
        rintro e w3 ⟨rfl, hm⟩
        have H4 := hid (HH.out.same hm)
        clear HSM hm
        go_wp2
        go_ret
        exact ⟨3, rfl, .bad H4.out.swap.drop HS2.out (fun h => by cases h) ⟨rfl, rfl⟩⟩
      · have hzB : ((z : Int) == 0) = false := by simp; omega
        have hzI : ¬ (z : Int) = 0 := by omega
        have hany : anyF l 0 i ≠ false := fun h => h0 (hzs.2 h)
        have HCK := hid (And.intro hst (And.intro hany hck))
        clear hst hzs hin hck hz h0 hany
        go_wp2_with fail
        with_reducible refine HSM.out.mono ?_
        rintro e w3 ⟨rfl, hm⟩
        have H4 := hid (HH.out.same hm)
        have HBD := hid (build_any (.slice (some ⟨w.heap.size, 0, none⟩) 19 19) 19 (headF l 0 i) 7 w3 H4.out.swap.own.rd (by decide))
        clear HSM hm
        go_wp2_with fail
        with_reducible refine HBD.out.mono ?_
        rintro e w4 (⟨hc, rfl, h5⟩ | ⟨hc, B1, rfl, h5⟩)
        · obtain ⟨hst, _, hck⟩ := HCK.out
          rw [if_pos (.inl hc)] at hst
          have HS2 := hid hst
          rw [hck hc]
          have H6 := hid (H4.out.same h5.mod)
          clear hc hst hck HBD h5
          go_wp2
          go_ret
          exact ⟨3, rfl, .bad H6.out.swap.drop HS2.out (fun h => by cases h) ⟨rfl, rfl⟩⟩
        · obtain ⟨hst, hany, hck⟩ := HCK.out
          rw [if_neg (not_or.2 ⟨not_not_intro hc, hany⟩)] at hst
          have HS2 := hid hst
          have h7 : Held w0 w4 (rdmT (decP p ⟨wv, most, room, lv, 4, last, left, dist, hA, hB, i, ht, hv, cl, cd, fl, fd, en⟩) v bs (l.drop (3 * i)) :: tabT (headF l 0 i) B1 :: _) := Held.swap (Held.frame H4.out h5)
          have H7 := hid (tab_new h7.third.drop)
          have c14 : w4.cell? ⟨p.b, p.o + 8 + 3 + 3, none⟩ = some (.pointer ht) := dcell h7 14 _ rfl
          have f14 : w4.frozen? ⟨p.b, p.o + 8 + 3 + 3, none⟩ = false := dfroz h7 14
          have c7 : w4.cell? ⟨p.b, p.o + 7, none⟩ = some (.int .i64 4) := dcell h7 7 _ rfl
          have f7 : w4.frozen? ⟨p.b, p.o + 7, none⟩ = false := dfroz h7 7
          clear hst hany hck hc h5 h7 HBD HCK H4
          go_wp2
          go_ret
          have h8 := dset (dset H7.out 14 (.pointer (some ⟨B1, 0, none⟩)) ⟨wv, most, room, lv, 4, last, left, dist, hA, hB, i, some ⟨B1, 0, none⟩, hv, cl, cd, fl, fd, en⟩ rfl) 7 (.int .i64 5) ⟨wv, most, room, lv, 5, last, left, dist, hA, hB, i, some ⟨B1, 0, none⟩, hv, cl, cd, fl, fd, en⟩ rfl
          refine ⟨0, rfl, .on HI.out HS2.out h8 ⟨rfl, rfl, rfl, rfl, rfl, B1, rfl, by simp⟩ ?_ rfl rfl⟩
          rcases HFX.out with hx | ⟨t1, t2, g1, g2, g3, g4⟩
          · exact .inl hx
          · exact .inr ⟨t1, t2, g1, g2, by simp [g3], by simp [g4]⟩
end
end Go.Proofs.YtbkbkmgogbgofaaDoor
