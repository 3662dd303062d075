/-
  The landed ParseHeader: what any bytes are as a header.
-/
import Derived.Test.YtkdmdbojcdonpaaGreatDoorHdrP2
namespace Go.Proofs.YtkdmdbojcdonpaaGreatDoor
set_option maxRecDepth 5000
open Go.RowKit

theorem infoHdr : (Tryz.prog.info? 29).map (·.size) = some 11 := by kernel_rfl
theorem hdrC_one (h : Hdr) (ao : Option Addr) (n c : Nat) : ∀ u ∈ hdrC h (.slice ao n c), u.oneCell' = true := by
  intro u hu
  simp only [hdrC, List.mem_cons, List.not_mem_nil, or_false] at hu
  rcases hu with rfl | rfl | rfl | rfl | rfl | rfl | rfl | rfl | rfl | rfl | rfl <;> rfl
theorem runS_ok {α : Type} {p : Rdr α} {l : List Nat} {m0 m : Nat} {d : α} (h : runS p l (.ok m0) = .ok m) : p l m0 = .ok (runV p l (.ok m0) d, m) := by
  unfold runS at h
  unfold runV
  dsimp only at h ⊢
  split at h
  · cases h
  · rename_i a k hk
    cases h
    rw [hk]
theorem runS_bad {α : Type} {p : Rdr α} {l : List Nat} {m0 x : Nat} (h : runS p l (.ok m0) = .error x) : p l m0 = .error x := by
  unfold runS at h
  dsimp only at h
  split at h
  · rename_i y hk
    cases h
    exact hk
  · cases h
section
variable {w0 w : World} {Rs : List Thing} {S : Thing} {B : Nat} {v : Value} {l : List Nat} {r : Except Nat Nat}
section
variable {P : Program} {ops : Array Oper} {rest : List Oper} {o : Oper} {ac : Act} {Q : Exit → Act → World → Prop}
theorem wpList_load_hdr (hgd : o.guard = none) (t : TypeId) (x : Operand) (ho : o.op = .load t x) (d : TypeDesc) (n : Nat) (ht : P.underlying t = some d) (hd : isArr d = true) (hi : (P.info? t).map (·.size) = some n)
    (cs : List Value) (T : TypeId) (hx : ac.eval x = .pointer (some ⟨B, 0, none⟩)) (hl : cs.length = n) (hB : Blk w B cs T) (h : wpList P ops Q rest (ac.put o.dst (.agg cs.toArray)) w) : wpList P ops Q (o :: rest) ac w :=
  wpList_load_row hgd t x ho B hx T cs.toArray (0, 0) d hB ht (by cases d <;> simp_all [isArr]) (by rw [hi]; simp [hl]) h
theorem wpList_store_hdr (hgd : o.guard = none) (t : TypeId) (x y : Operand) (ho : o.op = .store t x y) (n : Nat) (hi : (P.info? t).map (·.size) = some n)
    (cs cs2 : List Value) (T : TypeId) (hx : ac.eval x = .pointer (some ⟨B, 0, none⟩)) (hy : ac.eval y = .agg cs2.toArray) (hl : cs.length = n) (hl2 : cs2.length = n) (h1 : ∀ u ∈ cs2, u.oneCell' = true) (hB : Held w0 w (objT B cs T :: Rs))
    (h : ∀ w', Held w0 w' (objT B cs2 T :: Rs) → wpList P ops Q rest (ac.put o.dst undef) w') : wpList P ops Q (o :: rest) ac w :=
  wpList_store_row hgd t x y ho B cs2.toArray hx hy T cs.toArray hB.obj (by rw [hi]; simp [hl2]) (by simp [hl, hl2])
    (by rw [Array.all_eq_true_iff_forall_mem]; intro u hu; exact h1 u (by simpa using hu))
    (h _ (hB.putObj (setRow_heap w B _ _ T (0, 0) hB.obj) ⟨rfl, rfl, rfl, by simp, fun j _ hne => setRow_other w B j _ hne⟩))
theorem results_cell_tmp2 {fn : Func} {p q s : Tmp} {ty : TypeId} (h : fn.results = #[.cell p ty, .tmp q, .tmp s]) (tmps : Array Value) (w : World) (g : Nat) (t : TypeId) (cs : Array Value) (fr : Nat × Nat) (d : TypeDesc)
    (hp : tmps.getD p undef = .pointer (some ⟨g, 0, none⟩)) (hg : w.heap[g]? = some (.cells cs t fr))
    (hu : P.underlying ty = some d) (hd : (match d with | .struct _ | .array _ _ => true | _ => false) = true) (hi : (P.info? ty).map (·.size) = some cs.size) :
    (results fn tmps).run P w = .ok (.tuple #[.agg cs, tmps.getD q undef, tmps.getD s undef]) w := by
  have hp' : tmps[p]?.getD undef = .pointer (some ⟨g, 0, none⟩) := by simpa using hp
  simp [results, h, hp', asAddr, run_loadVar_row w g t ty cs fr d hg hu hd hi]
theorem ret_cell_tmp2 {fn : Func} {p q s : Tmp} {t : TypeId} (hf : fn.results = #[.cell p t, .tmp q, .tmp s]) {R : Ending → World → Prop} {a : Act}
    (d : TypeDesc) (n : Nat) (ht : P.underlying t = some d) (hd : isArr d = true) (hi : (P.info? t).map (·.size) = some n)
    (cs : List Value) (T : TypeId) (u x : Value) (hp : a.tmps.getD p undef = .pointer (some ⟨B, 0, none⟩)) (hq : a.tmps.getD q undef = u) (hs : a.tmps.getD s undef = x) (hl : cs.length = n) (hB : Blk w B cs T)
    (hdf : a.defers = []) (h : R (.returned (.tuple #[.agg cs.toArray, u, x])) w) : bodyPost P fn R .ret a w :=
  bodyPost_ret (v := .tuple #[.agg cs.toArray, u, x]) (by rw [← hq, ← hs]; exact results_cell_tmp2 hf a.tmps w B T cs.toArray (0, 0) d hp hB ht (by cases d <;> simp_all [isArr]) (by rw [hi]; simp [hl])) hdf h
end
theorem take_len (k : Nat) (l : List Nat) (r : Except Nat Nat) : (runV (takeR k) l r []).length ≤ l.length := by
  unfold runV
  split
  · exact Nat.zero_le _
  · split
    · exact Nat.zero_le _
    · rename_i m a q hq
      unfold takeR at hq
      split at hq
      · cases hq
        rw [List.length_take, List.length_drop]
        omega
      · cases hq
theorem extra_len (c : Bool) (l : List Nat) (r : Except Nat Nat) : (runV (whenR c ((numR 2).bind takeR) []) l r []).length ≤ l.length := by
  rw [runV_when]
  split
  · rw [runV_bind _ _ l r 0]
    exact take_len _ _ _
  · exact Nat.zero_le _
/-- what ParseHeader answers -/
def HeadOut (w0 : World) (Rs : List Thing) (l : List Nat) (en : Ending) (w' : World) : Prop :=
  (∃ h n ev, headR l 0 = .ok (h, n) ∧ en = .returned (.tuple #[hdrV h ev, .int .i64 (n : Int), .int .i64 0]) ∧ Held w0 w' (ownT 5 1 ev h.extra.length (u8s h.extra) :: Rs)) ∨
  ∃ e, headR l 0 = .error e ∧ en = .returned (.tuple #[hdrV (flagsH 0) (.slice none 0 0), .int .i64 0, .int .i64 (e : Int)]) ∧ Held w0 w' Rs
/-- the header's object on the way -/
def HdrAt (w0 w : World) (Rs : List Thing) (S : Thing) (Bp Bh : Nat) (v : Value) (l : List Nat) (r : Except Nat Nat) (f t fl sy : Nat) (ex nm nt : List Nat) : Prop :=
  ∃ u, Reads w0 S 1 u ex.length (u8s ex) ∧
    Held w0 w (parT Bp v l r :: S :: objT Bh (hdrC ⟨bitB f 0, bitB f 1, t, fl, sy, ex, bitB f 2, nm, nt, bitB f 3, bitB f 4⟩ u) 29 :: Rs)
section
variable {Bp Bh f t fl sy : Nat} {ex nm nt : List Nat}
/-- what stands in the header's cells -/
structure HdrCells (w : World) (Bh f : Nat) : Prop where
  c1 : w.cell? ⟨Bh, 1, none⟩ = some (.bool (bitB f 1))
  c6 : w.cell? ⟨Bh, 6, none⟩ = some (.bool (bitB f 2))
  c9 : w.cell? ⟨Bh, 9, none⟩ = some (.bool (bitB f 3))
  c10 : w.cell? ⟨Bh, 10, none⟩ = some (.bool (bitB f 4))
theorem HdrAt.cells (h : HdrAt w0 w Rs S Bp Bh v l r f t fl sy ex nm nt) : HdrCells w Bh f := by
  obtain ⟨u, _, h1⟩ := h
  have h2 := h1.third.obj
  exact ⟨h2.cell (i := 1) rfl, h2.cell (i := 6) rfl, h2.cell (i := 9) rfl, h2.cell (i := 10) rfl⟩
end
set_option maxRecDepth 100000 in
set_option maxHeartbeats 6400000 in
theorem parse_any (h : Held w0 w (S :: Rs)) (hv : Reads w0 S 1 v l.length (u8s l)) (hb : ∀ b ∈ l, b < 256) (hl : l.length < 1000000000) :
    Calls Tryz.prog 76 #[v] w fun en w' => HeadOut w0 (S :: Rs) l en w' := by
  have h1 := (h.newObj (hdrC (flagsH 0) (.slice none 0 0)) 29).newObj [v, .int .i64 ((0 : Nat) : Int), .int .i64 ((0 : Nat) : Int)] 142
  have h2 := par_shut (l := l) (r := .ok 0) ⟨Nat.zero_le _, rfl, rfl⟩ h1
  have hsz : (w.alloc (.cells (hdrC (flagsH 0) (.slice none 0 0)).toArray 29)).heap.size = w.heap.size + 1 := by simp
  rw [hsz] at h2
  obtain ⟨ao, cap, rfl, _, _⟩ := (hv.rd h).form
  obtain ⟨n, hn⟩ : ∃ n, n = l.length := ⟨_, rfl⟩
  rw [← hn] at hv h2 ⊢
  have HV := hid (And.intro hv (And.intro hb (And.intro hl hn)))
  have H1 : Hid (Held w0 ((w.alloc (.cells #[.bool false, .bool false, .int .u32 0, .int .u8 0, .int .u8 0, .slice none 0 0, .bool false, .string ⟨#[]⟩, .string ⟨#[]⟩, .bool false, .bool false] 29)).alloc (.cells #[.slice ao n cap, .int .i64 0, .int .i64 0] 142)) _) := hid h2.mid
  have HRd : ∀ {r : Except Nat Nat} {Bp : Nat}, Reads w0 S 1 (.slice ao n cap) l.length (u8s l) := fun {_ _} => by rw [← HV.out.2.2.2]; exact HV.out.1
  have HRD := hid (@HRd (.ok 0) 0)
  clear hv hb hl hn h h1 h2 hsz HRd
  go_enter Tryz.func76, Tryz.ntmps76
  go_wp2_with fail
  have H2 := hid (begin_any H1.out HRD.out HV.out.2.1 HV.out.2.2.1)
  clear H1
  generalize ((w.alloc (.cells #[.bool false, .bool false, .int .u32 0, .int .u8 0, .int .u8 0, .slice none 0 0, .bool false, .string ⟨#[]⟩, .string ⟨#[]⟩, .bool false, .bool false] 29)).alloc (.cells #[.slice ao n cap, .int .i64 0, .int .i64 0] 142)) = w1 at H2 ⊢
  obtain ⟨Bh, hBh⟩ : ∃ Bh, Bh = w.heap.size := ⟨_, rfl⟩
  obtain ⟨Bp, hBp⟩ : ∃ Bp, Bp = w.heap.size + 1 := ⟨_, rfl⟩
  rw [← hBp, ← hBh] at H2 ⊢
  clear hBh hBp
  with_reducible refine H2.out.mono ?_
  rintro en w2 ⟨rfl, h2⟩
  obtain ⟨r1, hr1⟩ : ∃ r1, r1 = runS beginR l (.ok 0) := ⟨_, rfl⟩
  rw [← hr1] at h2
  have HR1 := hid hr1
  clear hr1
  have H3 := hid (flags_any h2 HRD.out HV.out.2.1 HV.out.2.2.1)
  clear h2 H2
  go_wp2_with fail
  with_reducible refine H3.out.mono ?_
  rintro en w3 ⟨rfl, h3⟩
  obtain ⟨f, hf⟩ : ∃ f, f = runV flagR l r1 0 := ⟨_, rfl⟩
  obtain ⟨r2, hr2⟩ : ∃ r2, r2 = runS flagR l r1 := ⟨_, rfl⟩
  rw [← hr2, ← hf] at h3
  have HR2 := hid (And.intro hf hr2)
  clear hf hr2
  have H4 := hid (hnumber_any 4 h3 HRD.out HV.out.2.1 HV.out.2.2.1 (by decide) 4 rfl)
  clear h3 H3
  go_wp2_with fail
  with_reducible refine H4.out.mono ?_
  rintro en w4 ⟨rfl, h4⟩
  obtain ⟨t, ht⟩ : ∃ t, t = runV (numR 4) l r2 0 := ⟨_, rfl⟩
  obtain ⟨r3, hr3⟩ : ∃ r3, r3 = runS (numR 4) l r2 := ⟨_, rfl⟩
  rw [← ht]
  rw [← hr3] at h4
  have HR3 := hid (And.intro ht hr3)
  clear ht hr3
  have f2 := h4.third.obj.frozen 2
  have c2 := h4.third.obj.cell (i := 2) rfl
  have h5 := (h4.third.setObj 2 (.int .u32 (t : Int))).swap.mid
  have H5 := hid (hnumber_any 1 h5 HRD.out HV.out.2.1 HV.out.2.2.1 (by decide) 1 rfl)
  clear h4 H4 h5
  go_wp2_with fail
  with_reducible refine H5.out.mono ?_
  rintro en w5 ⟨rfl, h5⟩
  obtain ⟨fl, hfl⟩ : ∃ fl, fl = runV (numR 1) l r3 0 := ⟨_, rfl⟩
  obtain ⟨r4, hr4⟩ : ∃ r4, r4 = runS (numR 1) l r3 := ⟨_, rfl⟩
  rw [← hfl]
  rw [← hr4] at h5
  have hfl8 : fl < 256 := by rw [hfl]; exact runV_lt 1 HV.out.2.1
  have HR4 := hid (And.intro hfl hr4)
  clear hfl hr4
  have hflw : IntKind.u8.wrap (fl : Int) = (fl : Int) := IntWalk.u8_in _ (by omega)
  have f3 := h5.third.obj.frozen 3
  have c3 := h5.third.obj.cell (i := 3) rfl
  have h6 := (h5.third.setObj 3 (.int .u8 (fl : Int))).swap.mid
  have H6 := hid (hnumber_any 1 h6 HRD.out HV.out.2.1 HV.out.2.2.1 (by decide) 1 rfl)
  clear h5 H5 h6 f2 c2
  go_wp2_with fail
  with_reducible refine H6.out.mono ?_
  rintro en w6 ⟨rfl, h6⟩
  obtain ⟨sy, hsy⟩ : ∃ sy, sy = runV (numR 1) l r4 0 := ⟨_, rfl⟩
  obtain ⟨r5, hr5⟩ : ∃ r5, r5 = runS (numR 1) l r4 := ⟨_, rfl⟩
  rw [← hsy]
  rw [← hr5] at h6
  have hsy8 : sy < 256 := by rw [hsy]; exact runV_lt 1 HV.out.2.1
  have HR5 := hid (And.intro hsy hr5)
  clear hsy hr5
  have hsyw : IntKind.u8.wrap (sy : Int) = (sy : Int) := IntWalk.u8_in _ (by omega)
  have f4 := h6.third.obj.frozen 4
  have c4 := h6.third.obj.cell (i := 4) rfl
  obtain ⟨x2, hx2⟩ : ∃ x2, x2 = bitB f 2 := ⟨_, rfl⟩
  have c6 : w6.cell? ⟨Bh, 6, none⟩ = some (.bool x2) := by rw [hx2]; exact h6.third.obj.cell (i := 6) rfl
  have HX2 := hid hx2
  clear hx2
  have H7 : Hid (HdrAt w0 (w6.setCell ⟨Bh, 4, none⟩ (.int .u8 (sy : Int))) Rs S Bp Bh (.slice ao n cap) l r5 f t fl sy [] [] []) :=
    hid ⟨.slice none 0 0, reads_nil 1, (h6.third.setObj 4 (.int .u8 (sy : Int))).swap.mid⟩
  clear h6 H6 f3 c3
  go_upto_if 19 with (fail)
  go_cut [] (fun wx => Hid (HdrAt w0 wx Rs S Bp Bh (.slice ao n cap) l (runS (whenR (bitB f 2) ((numR 2).bind takeR) []) l r5) f t fl sy (runV (whenR (bitB f 2) ((numR 2).bind takeR) []) l r5 []) [] []))
  case first =>
    generalize w6.setCell ⟨Bh, 4, none⟩ (.int .u8 (sy : Int)) = w7 at H7 ⊢
    cases x2 with
    | true =>
      obtain ⟨k, hk⟩ : ∃ k, k = runV (numR 2) l r5 0 := ⟨_, rfl⟩
      have hk16 : k < 65536 := by rw [hk]; exact runV_lt 2 HV.out.2.1
      have hkw : IntKind.i64.wrap (k : Int) = (k : Int) := IntWalk.i64_in _ (by omega)
      obtain ⟨u, hu, h7⟩ := H7.out
      have H8 := hid (hnumber_any 2 h7 HRD.out HV.out.2.1 HV.out.2.2.1 (by decide) 2 rfl)
      rw [← hk] at H8
      have HK := hid hk
      clear hk h7 hu f4 c4 c6
      go_wp2_with fail
      with_reducible refine H8.out.mono ?_
      rintro en w8 ⟨rfl, h8⟩
      have H9 := hid (htake_any k h8 HRD.out HV.out.2.2.1 (by omega))
      clear h8 H8
      go_wp2_with fail
      with_reducible refine H9.out.mono ?_
      rintro en w9 ⟨u2, bs, rfl, hbs, hu2, h9⟩
      have f5 := h9.third.obj.frozen 5
      have c5 := h9.third.obj.cell (i := 5) rfl
      obtain ⟨uo, uc, rfl, _, _⟩ := (hu2.rd h9.drop).form
      have H10 : Hid (HdrAt w0 (w9.setCell ⟨Bh, 5, none⟩ (.slice uo bs.length uc)) Rs S Bp Bh (.slice ao n cap) l (runS (takeR k) l (runS (numR 2) l r5)) f t fl sy bs [] []) := hid ⟨_, hu2, (h9.third.setObj 5 (.slice uo bs.length uc)).swap.mid⟩
      have HBS := hid hbs
      clear h9 H9 hu2 hbs
      go_wp2
      go_meet
      case rel =>
        refine hid ?_
        rw [← HX2.out]
        show HdrAt w0 _ Rs S Bp Bh _ l (runS ((numR 2).bind takeR) l r5) f t fl sy (runV ((numR 2).bind takeR) l r5 []) [] []
        rw [runS_bind _ _ l r5 0, runV_bind _ _ l r5 0, ← HK.out, ← HBS.out]
        exact H10.out
    | false =>
      clear f4 c4 c6
      go_wp2
      go_meet
      case rel =>
        refine hid ?_
        rw [← HX2.out, runS_when, runV_when, if_neg (by decide), if_neg (by decide)]
        exact H7.out
  case rest =>
    have HE := hid hcut.out
    clear hcut H7 f4 c4 c6
    obtain ⟨r6, hr6⟩ : ∃ r6, r6 = runS (whenR (bitB f 2) ((numR 2).bind takeR) []) l r5 := ⟨_, rfl⟩
    obtain ⟨ex, hex⟩ : ∃ ex, ex = runV (whenR (bitB f 2) ((numR 2).bind takeR) []) l r5 [] := ⟨_, rfl⟩
    rw [← hr6, ← hex] at HE
    have HR6 := hid (And.intro hex hr6)
    clear hex hr6
    obtain ⟨x3, hx3⟩ : ∃ x3, x3 = bitB f 3 := ⟨_, rfl⟩
    have d9 := HE.out.cells.c9
    rw [← hx3] at d9
    have HX3 := hid hx3
    clear hx3
    go_upto_if 25 with (fail)
    go_cut [] (fun wx => Hid (HdrAt w0 wx Rs S Bp Bh (.slice ao n cap) l (runS (whenR (bitB f 3) textR []) l r6) f t fl sy ex (runV (whenR (bitB f 3) textR []) l r6 []) []))
    case first =>
      cases x3 with
      | true =>
        obtain ⟨u, hu, h7⟩ := HE.out
        have H8 := hid (text_any h7 HRD.out HV.out.2.1 HV.out.2.2.1)
        have HU := hid hu
        clear h7 hu
        go_wp2_with fail
        with_reducible refine H8.out.mono ?_
        rintro en w9 ⟨rfl, h9⟩
        have f7 := h9.third.obj.frozen 7
        have c7 := h9.third.obj.cell (i := 7) rfl
        have H10 : Hid (HdrAt w0 (w9.setCell ⟨Bh, 7, none⟩ (strV (runV textR l r6 []))) Rs S Bp Bh (.slice ao n cap) l (runS textR l r6) f t fl sy ex (runV textR l r6 []) []) := hid ⟨_, HU.out, (h9.third.setObj 7 (strV (runV textR l r6 []))).swap.mid⟩
        unfold strV at c7 H10 ⊢
        clear h9 H8
        go_wp2
        go_meet
        case rel =>
          refine hid ?_
          rw [← HX3.out]
          exact H10.out
      | false =>
        go_wp2
        go_meet
        case rel =>
          refine hid ?_
          rw [← HX3.out, runS_when, runV_when, if_neg (by decide), if_neg (by decide)]
          exact HE.out
    case rest =>
      have HE2 := hid hcut.out
      clear hcut HE d9
      obtain ⟨r7, hr7⟩ : ∃ r7, r7 = runS (whenR (bitB f 3) textR []) l r6 := ⟨_, rfl⟩
      obtain ⟨nm, hnm⟩ : ∃ nm, nm = runV (whenR (bitB f 3) textR []) l r6 [] := ⟨_, rfl⟩
      rw [← hr7, ← hnm] at HE2
      have HR7 := hid (And.intro hnm hr7)
      clear hnm hr7
      obtain ⟨x4, hx4⟩ : ∃ x4, x4 = bitB f 4 := ⟨_, rfl⟩
      have d10 := HE2.out.cells.c10
      rw [← hx4] at d10
      have HX4 := hid hx4
      clear hx4
      go_upto_if 29 with (fail)
      go_cut [] (fun wx => Hid (HdrAt w0 wx Rs S Bp Bh (.slice ao n cap) l (runS (whenR (bitB f 4) textR []) l r7) f t fl sy ex nm (runV (whenR (bitB f 4) textR []) l r7 [])))
      case first =>
        cases x4 with
        | true =>
          obtain ⟨u, hu, h7⟩ := HE2.out
          have H8 := hid (text_any h7 HRD.out HV.out.2.1 HV.out.2.2.1)
          have HU := hid hu
          clear h7 hu
          go_wp2_with fail
          with_reducible refine H8.out.mono ?_
          rintro en w9 ⟨rfl, h9⟩
          have f8 := h9.third.obj.frozen 8
          have c8 := h9.third.obj.cell (i := 8) rfl
          have H10 : Hid (HdrAt w0 (w9.setCell ⟨Bh, 8, none⟩ (strV (runV textR l r7 []))) Rs S Bp Bh (.slice ao n cap) l (runS textR l r7) f t fl sy ex nm (runV textR l r7 [])) := hid ⟨_, HU.out, (h9.third.setObj 8 (strV (runV textR l r7 []))).swap.mid⟩
          unfold strV at c8 H10 ⊢
          clear h9 H8
          go_wp2
          go_meet
          case rel =>
            refine hid ?_
            rw [← HX4.out]
            exact H10.out
        | false =>
          go_wp2
          go_meet
          case rel =>
            refine hid ?_
            rw [← HX4.out, runS_when, runV_when, if_neg (by decide), if_neg (by decide)]
            exact HE2.out
      case rest =>
        have HE3 := hid hcut.out
        clear hcut HE2 d10
        obtain ⟨r8, hr8⟩ : ∃ r8, r8 = runS (whenR (bitB f 4) textR []) l r7 := ⟨_, rfl⟩
        obtain ⟨nt, hnt⟩ : ∃ nt, nt = runV (whenR (bitB f 4) textR []) l r7 [] := ⟨_, rfl⟩
        rw [← hr8, ← hnt] at HE3
        have HR8 := hid (And.intro hnt hr8)
        clear hnt hr8
        obtain ⟨x1, hx1⟩ : ∃ x1, x1 = bitB f 1 := ⟨_, rfl⟩
        have d1 := HE3.out.cells.c1
        rw [← hx1] at d1
        have HX1 := hid hx1
        clear hx1
        go_upto_if 33 with (fail)
        go_cut [] (fun wx => Hid (HdrAt w0 wx Rs S Bp Bh (.slice ao n cap) l (runS (whenR (bitB f 1) sumR ()) l r8) f t fl sy ex nm nt))
        case first =>
          cases x1 with
          | true =>
            obtain ⟨u, hu, h7⟩ := HE3.out
            have H8 := hid (hsum_any h7 HRD.out HV.out.2.1 HV.out.2.2.1)
            have HU := hid hu
            clear h7 hu
            go_wp2_with fail
            with_reducible refine H8.out.mono ?_
            rintro en w9 ⟨rfl, h9⟩
            have H10 : Hid (HdrAt w0 w9 Rs S Bp Bh (.slice ao n cap) l (runS sumR l r8) f t fl sy ex nm nt) := hid ⟨_, HU.out, h9⟩
            clear h9 H8
            go_wp2
            go_meet
            case rel =>
              refine hid ?_
              rw [← HX1.out]
              exact H10.out
          | false =>
            go_wp2
            go_meet
            case rel =>
              refine hid ?_
              rw [← HX1.out, runS_when, if_neg (by decide)]
              exact HE3.out
        case rest =>
          have HE4 := hid hcut.out
          clear hcut HE3 d1
          obtain ⟨r9, hr9⟩ : ∃ r9, r9 = runS (whenR (bitB f 1) sumR ()) l r8 := ⟨_, rfl⟩
          rw [← hr9] at HE4
          have hS : runS headR l (.ok 0) = r9 := by
            rw [hr9, HR8.out.2, HR7.out.2, HR6.out.2, HR5.out.2, HR4.out.2, HR3.out.2, HR2.out.2, HR1.out]
            unfold headR
            rw [runS_bind beginR _ l _ (), ← HR1.out, runS_bind flagR restR l _ 0, ← HR2.out.1]
            unfold restR
            rw [runS_bind (numR 4) _ l _ 0, runS_bind (numR 1) _ l _ 0, runS_bind (numR 1) _ l _ 0, runS_bind _ _ l _ [], runS_bind _ _ l _ [], runS_bind _ _ l _ [], runS_bind _ _ l _ ()]
            generalize runS (whenR (bitB f 1) sumR ()) l _ = y
            cases y <;> rfl
          have hV : ∀ m, r9 = .ok m → runV headR l (.ok 0) (flagsH 0) = ⟨bitB f 0, bitB f 1, t, fl, sy, ex, bitB f 2, nm, nt, bitB f 3, bitB f 4⟩ := fun m hm => by
            unfold headR
            rw [runV_bind beginR _ l _ () _, ← HR1.out, runV_bind flagR restR l _ 0 _, ← HR2.out.1, ← HR2.out.2]
            unfold restR
            rw [runV_bind (numR 4) _ l _ 0 _, ← HR3.out.1, ← HR3.out.2, runV_bind (numR 1) _ l _ 0 _, ← HR4.out.1, ← HR4.out.2, runV_bind (numR 1) _ l _ 0 _, ← HR5.out.1, ← HR5.out.2, runV_bind _ _ l _ [] _, ← HR6.out.1, ← HR6.out.2,
              runV_bind _ _ l _ [] _, ← HR7.out.1, ← HR7.out.2, runV_bind _ _ l _ [] _, ← HR8.out.1, ← HR8.out.2, runV_bind _ _ l _ () _, ← hr9, hm]
            rfl
          have hexl : ex.length < 1000000000 := by
            have h1 := extra_len (bitB f 2) l r5
            rw [← HR6.out.1] at h1
            have := HV.out.2.2.1
            omega
          clear HR1 HR2 HR3 HR4 HR5 HR6 HR7 HR8 hr9
          have HSV := hid (And.intro hS hV)
          clear hS hV
          obtain ⟨u, hu, h4⟩ := HE4.out
          obtain ⟨p9, e9, hq9, h5⟩ := par_open h4
          cases r9 with
          | error x =>
            obtain ⟨_, rfl, hx⟩ := id hq9
            have e2 := h5.obj.cell (i := 2) rfl
            have hB9 : ((e9 : Int) != 0) = true := by simp; omega
            have hI9 : ¬ (e9 : Int) = 0 := by omega
            have H5 := hid h5.third
            clear h4 h5 hq9 hx HE4 hu
            go_wp2_with ((with_reducible show wpList _ _ _ (⟨none, _, _, _, _, _⟩ :: _) _ _); refine wpList_store_hdr rfl 29 (.tmp 2) (.tmp 38) rfl 11 infoHdr _ (hdrC (flagsH 0) (.slice none 0 0)) 29 rfl rfl rfl rfl (hdrC_one _ _ _ _) H5.out ?_; intro w8 h8; have H8 := hid h8; clear h8)
            refine ret_cell_tmp2 rfl _ 11 Tryz.underlying29 rfl infoHdr (hdrC (flagsH 0) (.slice none 0 0)) 29 _ _ rfl rfl rfl rfl H8.out.obj rfl ?_
            exact .inr ⟨_, runS_bad HSV.out.1, rfl, H8.out.drop.drop⟩
          | ok m =>
            obtain ⟨_, rfl, rfl⟩ := id hq9
            have e1 := h5.obj.cell (i := 1) rfl
            have e2 := h5.obj.cell (i := 2) rfl
            have e5 := h5.third.obj.cell (i := 5) rfl
            have HCL := hid (clone8_any u ex.length ex h5 (hu.rd h4.drop) hexl)
            clear h4 HE4 hq9 h5 hu
            go_wp2_with fail
            with_reducible refine HCL.out.mono ?_
            rintro en w8 ⟨y, rfl, h8⟩
            obtain ⟨yo, yc, rfl, _, _⟩ := h8.own.form
            have g5 := h8.fourth.obj.frozen 5
            have e5' := h8.fourth.obj.cell (i := 5) rfl
            obtain ⟨N, hN⟩ : ∃ N, N = ex.length := ⟨_, rfl⟩
            have h9 := h8.fourth.setObj 5 (.slice yo ex.length yc)
            have HNX := hid hN
            rw [← hN] at h9 ⊢
            have e1' : (w8.setCell ⟨Bh, 5, none⟩ (.slice yo N yc)).cell? ⟨Bp, 1, none⟩ = some (.int .i64 (p9 : Int)) := h9.third.obj.cell (i := 1) rfl
            have H9 : Hid (Held w0 (w8.setCell ⟨Bh, 5, none⟩ (.slice yo N yc)) (objT Bh (hdrC ⟨bitB f 0, bitB f 1, t, fl, sy, ex, bitB f 2, nm, nt, bitB f 3, bitB f 4⟩ (.slice yo N yc)) 29 :: _)) := hid h9
            clear h8 h9 hN HCL e1 e2 e5
            go_wp2_with (first
              | ((with_reducible show wpList _ _ _ (⟨some 45, _, _, _, _, _⟩ :: _) _ _); refine wpList_load_hdr rfl 29 (.tmp 2) rfl _ 11 Tryz.underlying29 rfl infoHdr _ 29 rfl rfl H9.out.obj ?_)
              | ((with_reducible show wpList _ _ _ (⟨none, Op.store _ (Operand.tmp 2) (Operand.tmp 45), _, _, _, _⟩ :: _) _ _); refine wpList_store_hdr rfl 29 (.tmp 2) (.tmp 45) rfl 11 infoHdr _ _ 29 rfl rfl rfl rfl (hdrC_one _ _ _ _) H9.out ?_; intro w10 h10; have H10 := hid h10; clear h10))
            refine ret_cell_tmp2 rfl _ 11 Tryz.underlying29 rfl infoHdr (hdrC ⟨bitB f 0, bitB f 1, t, fl, sy, ex, bitB f 2, nm, nt, bitB f 3, bitB f 4⟩ (.slice yo N yc)) 29 _ _ rfl rfl rfl rfl H10.out.obj rfl ?_
            refine .inl ⟨_, _, _, (runS_ok (d := flagsH 0) HSV.out.1).trans (by rw [HSV.out.2 _ rfl]), rfl, ?_⟩
            show Held w0 _ (ownT 5 1 (.slice yo N yc) ex.length (u8s ex) :: S :: Rs)
            rw [← HNX.out]
            exact H10.out.drop.swap.drop
end
end Go.Proofs.YtkdmdbojcdonpaaGreatDoor
