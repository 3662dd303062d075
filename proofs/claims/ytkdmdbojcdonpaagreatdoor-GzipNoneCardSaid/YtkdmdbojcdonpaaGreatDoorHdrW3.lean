/-
  The landed PrintHeader: all of a header.
-/
import Derived.Test.YtkdmdbojcdonpaaGreatDoorHdrW2
import Derived.Lib.SlBytesConst
namespace Go.Proofs.YtkdmdbojcdonpaaGreatDoor
set_option maxRecDepth 5000
open Go.RowKit

section
variable {w0 w : World} {Rs : List Thing} {S : Thing}
/-- a row that bears a mark -/
def markT (g : Nat) (cs : List Value) (e : TypeId) (fr : Nat × Nat) : Thing where
  res := fun w F => w.heap[g]? = some (.cells cs.toArray e fr) ∧ ∀ k, F k ↔ k = g
  loc := fun _ _ _ _ h hm hS => ⟨(hm.block g (Array.getElem?_eq_some_iff.1 h.1).1 (hS g ((h.2 g).2 rfl))).trans h.1, h.2⟩
theorem Held.newMark (h : Held w0 w Rs) (cs : List Value) (e : TypeId) (fr : Nat × Nat) : Held w0 (w.alloc (.cells cs.toArray e fr)) (markT w.heap.size cs e fr :: Rs) :=
  h.push _ (fun k => k = w.heap.size) ⟨heap_alloc_new w _, fun _ => Iff.rfl⟩ ((Mod.refl w _).alloc _) (fun k hk => by subst hk; exact ⟨Nat.le_refl _, by simp⟩)
theorem Held.markRd {g : Nat} {cs : List Value} {e : TypeId} {fr : Nat × Nat} (h : Held w0 w (markT g cs e fr :: Rs)) (n : Nat) (hn : cs.length = n) (hm : n ≤ maxLen) : Rd w 1 (.slice (some ⟨g, 0, none⟩) n n) n cs := by
  obtain ⟨F, h1, _⟩ := h
  refine ⟨by rw [hn, Nat.mul_one], _, n, rfl, Nat.le_refl _, hm, (fun h => by cases h), .inr ⟨g, 0, rfl, fun j u hu => ?_⟩⟩
  rw [cell_of_row w g _ _ e fr h1.1, Nat.zero_add]
  simpa using hu
theorem run_app_full {P : Program} (t ty e : TypeId) (i : TypeInfo) (z : Value) (ht : P.underlying t = some (.slice e)) (hi : P.info? e = some i) (hz : i.zero = some z)
    (hsize : i.size = 1) (hby : i.bytes = 1) (hzs : z.cells.size = 1) (g n : Nat) (xs : List Value) (hbase : Rd w 1 (.slice (some ⟨g, 0, none⟩) n n) n xs) (hn0 : 0 < n)
    (y : Value) (m : Nat) (news : List Value) (hsrc : Rd w 1 y m news) (hm0 : 0 < m) (h63 : n + m ≤ 1000000000) :
    ∃ ao cap w', (Builtin.append_ #[t, t] ty #[.slice (some ⟨g, 0, none⟩) n n, y]).run P w = .ok (.slice ao (n + m) cap) w' ∧ Own w' e 1 (.slice ao (n + m) cap) (n + m) (xs ++ news) ∧ w.grownBy w' none ∧
      Value.ownBlock (.slice ao (n + m) cap) = some w.heap.size := by
  have hm : 1000000000 ≤ maxLen := by decide
  have hlb := hbase.1
  obtain ⟨b, off, hb, holds⟩ := hbase.spot hn0
  cases hb
  obtain ⟨hls, yo, yc, rfl, _, _⟩ := hsrc.1, hsrc.form
  obtain ⟨xb, xo, rfl, hnews⟩ := hsrc.spot hm0
  have holds' : ∀ j u, xs[j]? = some u → w.cell? ((⟨g, 0, none⟩ : Addr).add j) = some u := fun j u hu => by rw [Addr.add_lit]; exact holds j u hu
  have hnews' : ∀ j u, news[j]? = some u → w.cell? ((⟨xb, xo, none⟩ : Addr).add j) = some u := fun j u hu => by rw [Addr.add_lit]; exact hnews j u hu
  have hr := run_append_grow (P := P) w t ty e i z ht hi hz ⟨g, 0, none⟩ n n xs (by rw [hsize]; exact hlb) holds' ⟨xb, xo, none⟩ m yc news (by rw [hsize]; exact hls) hnews' (by omega) (by omega) (growslice_fits (by omega) (by rw [hby]; omega))
  have hge := grownCap_ge w (n + m) n e
  have hcm2 : grownCap w (n + m) n e ≤ maxLen := grownCap_le_maxLen w (n + m) n e (by omega)
  refine ⟨_, _, _, hr, ⟨by rw [List.length_append, hlb, hls]; omega, .inr ⟨w.heap.size, 0, _, _, rfl, heap_alloc_new w.drew _, hge, hcm2, ?_, fun j u hu => ?_⟩⟩, ⟨rfl, rfl, rfl, by simp, fun k hk _ => Below.heap_alloc w.drew _ k hk⟩, rfl⟩
  · simp only [Array.size_append, List.size_toArray, size_zeroCells, hzs, hlb, hls]
    omega
  · have hj : j < (xs ++ news).length := (List.getElem?_eq_some_iff.1 hu).1
    rw [Nat.zero_add, Array.getElem?_append_left (by simpa using hj), ← hu]
    simp
theorem wpList_app_full {P : Program} {ops : Array Oper} {rest : List Oper} {o : Oper} {a : Act} {Q : Exit → Act → World → Prop} (hgd : o.guard = none) (s x : Operand) (t : TypeId)
    (ho : o.op = .call { callee := .builtin .append, args := #[s, x], argTypes := #[t, t] })
    (e : TypeId) (i : TypeInfo) (z : Value) (ht : P.underlying t = some (.slice e)) (hi : P.info? e = some i) (hz : i.zero = some z)
    (hsize : i.size = 1) (hby : i.bytes = 1) (hzs : z.cells.size = 1)
    (g n : Nat) (xs : List Value) (hs : a.eval s = .slice (some ⟨g, 0, none⟩) n n) (hbase : Rd w 1 (.slice (some ⟨g, 0, none⟩) n n) n xs) (hn0 : 0 < n) (hh : Held w0 w Rs)
    (y : Value) (m : Nat) (news : List Value) (hx : a.eval x = y) (hsrc : Rd w 1 y m news) (hm0 : 0 < m) (N : Nat) (hN : N = n + m) (h63 : N ≤ 1000000000)
    (h : ∀ ao cap w', Held w0 w' (ownT e 1 (.slice ao N cap) N (xs ++ news) :: Rs) → wpList P ops Q rest (a.put o.dst (.slice ao N cap)) w') : wpList P ops Q (o :: rest) a w := by
  subst hN
  refine wpList_plain hgd fun K hK => ?_
  obtain ⟨ao, cap, w', hr, h2, h3, h4⟩ := run_app_full (P := P) t o.type e i z ht hi hz hsize hby hzs g n xs hbase hn0 y m news hsrc hm0 h63
  unfold Oper.wp execOp
  simp only [ho, resolve, invoke, builtin, Sem.run_bind, Sem.run_pure, Result.andThen_ok, List.map_toArray, List.map_cons, List.map_nil, hs, hx, hr]
  exact hK _ _ (h ao cap w' (hh.pushOwn h2 ((Mod.refl w _).grown h3 (fun k hk => by cases hk)) (fun k hk => by rw [h4] at hk; cases hk; exact Nat.le_refl _)))
/-- what PrintHeader answers -/
def PrintOut (w0 : World) (Rs : List Thing) (x : Hdr) (en : Ending) (w' : World) : Prop :=
  (GoodH x ∧ ∃ y, en = .returned (.tuple #[y, .int .i64 0]) ∧ Held w0 w' (ownT 5 1 y (printH x).length (u8s (printH x)) :: Rs)) ∨
  (¬ GoodH x ∧ en = .returned (.tuple #[.slice none 0 0, .int .i64 2]) ∧ Held w0 w' Rs)
/-- the bytes so far, and the header -/
def WAt (w0 w : World) (Rs : List Thing) (B : Nat) (cs : List Value) (P : List Nat) (yo : Option Addr) (m yc : Nat) : Prop :=
  m = P.length ∧ Held w0 w (ownT 5 1 (.slice yo m yc) m (u8s P) :: objT B cs 29 :: Rs)
theorem u8s_app (a b : List Nat) : u8s a ++ u8s b = u8s (a ++ b) := by unfold u8s; rw [List.map_append]
def preH (x : Hdr) : List Nat := [31, 139, 8] ++ [flagsOf x] ++ leB 4 x.time ++ [x.flags, x.sys]
def extraP (x : Hdr) : List Nat := if x.hasExtra = true then leB 2 x.extra.length ++ x.extra else []
def nameP (x : Hdr) : List Nat := if x.hasName = true then x.name ++ [0] else []
def noteP (x : Hdr) : List Nat := if x.hasNote = true then x.note ++ [0] else []
theorem bodyH_is (x : Hdr) : bodyH x = preH x ++ extraP x ++ nameP x ++ noteP x := by
  unfold bodyH preH extraP nameP noteP
  simp only [List.append_assoc, List.cons_append, List.nil_append]
theorem goodText_app (x : List Nat) (has : Bool) (hx : ∀ b ∈ x, b < 256) (hl : x.length < 4294967281) (h : Held w0 w Rs) :
    Calls Tryz.prog 37 #[strV x, .bool has] w fun e w' => e = .returned (.bool (goodTextB x has)) ∧ Held w0 w' Rs :=
  (goodText_any x has w hx hl).mono fun _ _ ⟨h1, h2⟩ => ⟨h1, by rw [h2]; exact h⟩
set_option maxRecDepth 100000 in
set_option maxHeartbeats 6400000 in
theorem print_any (x : Hdr) (ev : Value) (ho : OkH x) (h : Held w0 w Rs) (hv : ∀ w', Held w0 w' Rs → Rd w' 1 ev x.extra.length (u8s x.extra)) (hl : x.extra.length ≤ 1000000 ∧ x.name.length ≤ 1000000 ∧ x.note.length ≤ 1000000) :
    Calls Tryz.prog 24 #[hdrV x ev] w fun en w' => PrintOut w0 Rs x en w' := by
  obtain ⟨i0, hi0, hz0, hz1, hz2⟩ := info_parts infoByte13
  have HMX := hid (show 1000000000 ≤ maxLen by decide)
  obtain ⟨ao, cap, rfl, _, _⟩ := (hv w h).form
  have h1 := h.newObj (hdrC x (.slice ao x.extra.length cap)) 29
  have HE := hid (goodExtra_any x ao cap (w.alloc (.cells (hdrC x (.slice ao x.extra.length cap)).toArray 29)) (by omega))
  have HO := hid (And.intro ho (And.intro hv hl))
  have H1 := hid h1
  have hgood : GoodH x ↔ goodB x = true := goodB_iff.symm
  unfold goodB at hgood
  have HG := hid hgood
  clear h h1 hv hl ho hgood
  obtain ⟨gE, hgE⟩ : ∃ gE, gE = goodExtraB x := ⟨_, rfl⟩
  obtain ⟨gN, hgN⟩ : ∃ gN, gN = goodTextB x.name x.hasName := ⟨_, rfl⟩
  obtain ⟨gT, hgT⟩ : ∃ gT, gT = goodTextB x.note x.hasNote := ⟨_, rfl⟩
  rw [← hgE] at HE
  rw [← hgE, ← hgN, ← hgT] at HG
  have HGG := hid (And.intro hgN hgT)
  clear hgE hgN hgT
  obtain ⟨a, b, t, fl, sy, ex, c, nm, nt, d, g⟩ := x
  unfold hdrV hdrC at *
  dsimp only at *
  obtain ⟨n, hn⟩ : ∃ n, n = ex.length := ⟨_, rfl⟩
  rw [← hn] at HE H1 HO ⊢
  have HN := hid hn
  clear hn
  go_enter Tryz.func24, Tryz.ntmps24
  go_wp2_with fail
  with_reducible refine HE.out.mono ?_
  rintro en w2 ⟨rfl, hm⟩
  have H2 : Hid (Held w0 w2 (objT w.heap.size [.bool a, .bool b, .int .u32 (t : Int), .int .u8 (fl : Int), .int .u8 (sy : Int), .slice ao n cap, .bool c, strV nm, strV nt, .bool d, .bool g] 29 :: Rs)) := hid (H1.out.same hm)
  generalize w.heap.size = B1 at H2 ⊢
  clear H1 HE hm
  have c7 := H2.out.obj.cell (i := 7) rfl
  have c9 := H2.out.obj.cell (i := 9) rfl
  have c8 := H2.out.obj.cell (i := 8) rfl
  have c10 := H2.out.obj.cell (i := 10) rfl
  cases gE with
  | false =>
    go_wp2
    go_ret2
    refine .inr ⟨fun hg => ?_, rfl, H2.out.drop⟩
    have := HG.out.1 hg
    rw [Bool.false_and, Bool.false_and] at this
    cases this
  | true =>
    have HT1 := hid (goodText_app nm d HO.out.1.name (by have := HO.out.2.2.2.1; omega) H2.out)
    rw [← HGG.out.1] at HT1
    unfold strV at HT1 c7 c8 H2 ⊢
    go_wp2_with fail
    with_reducible refine HT1.out.mono ?_
    rintro en w3 ⟨rfl, h3⟩
    have H3 := hid h3
    clear h3 HT1 H2 c7 c9 c8 c10
    have c8 := H3.out.obj.cell (i := 8) rfl
    have c10 := H3.out.obj.cell (i := 10) rfl
    cases gN with
    | false =>
      go_wp2
      go_ret2
      refine .inr ⟨fun hg => ?_, rfl, H3.out.drop⟩
      have := HG.out.1 hg
      rw [Bool.true_and, Bool.false_and] at this
      cases this
    | true =>
      have HT2 := hid (goodText_app nt g HO.out.1.note (by have := HO.out.2.2.2.2; omega) H3.out)
      rw [← HGG.out.2] at HT2
      unfold strV at HT2
      go_wp2_with fail
      with_reducible refine HT2.out.mono ?_
      rintro en w4 ⟨rfl, h4⟩
      cases gT with
      | false =>
        have H4 := hid h4
        clear h4 HT2 H3 c8 c10
        go_wp2
        go_ret2
        refine .inr ⟨fun hg => ?_, rfl, H4.out.drop⟩
        have := HG.out.1 hg
        rw [Bool.true_and, Bool.true_and] at this
        cases this
      | true =>
        have HGood := hid (HG.out.2 rfl)
        have H4 : Hid (Held w0 w4 (objT B1 [.bool a, .bool b, .int .u32 (t : Int), .int .u8 (fl : Int), .int .u8 (sy : Int), .slice ao n cap, .bool c, strV nm, strV nt, .bool d, .bool g] 29 :: Rs)) := hid h4
        clear h4 HT2 H3 c8 c10 HG HGG
        have kc := fun (w : World) (C : Array Value) (n c : Nat) => Lib.run_convert_bytes_const (P := Tryz.prog) w 25 5 C n c Tryz.underlying25 Tryz.underlying5
        have hh : Held w0 (w4.alloc (.cells #[.int .u8 31, .int .u8 139, .int .u8 8] 5 (3, 4))) (markT w4.heap.size (u8s [31, 139, 8]) 5 (3, 4) :: objT B1 [.bool a, .bool b, .int .u32 (t : Int), .int .u8 (fl : Int), .int .u8 (sy : Int), .slice ao n cap, .bool c, strV nm, strV nt, .bool d, .bool g] 29 :: Rs) := H4.out.newMark (u8s [31, 139, 8]) 5 (3, 4)
        have HF := hid (flagsW_any (⟨a, b, t, fl, sy, ex, c, nm, nt, d, g⟩ : Hdr) ao n cap hh)
        have H5 := hid hh
        clear hh
        unfold hdrV hdrC at HF
        go_wp2_with (first
          | ((with_reducible show wpList _ _ _ (⟨some 26, _, _, _, _, _⟩ :: _) _ _); go_must (refine wpList_load_hdr rfl 29 (.tmp 1) rfl _ 11 Tryz.underlying29 rfl infoHdr _ 29 rfl rfl (H5.out.swap.obj) ?_))
          | fail)
        with_reducible refine HF.out.mono ?_
        rintro en w5 ⟨rfl, h5⟩
        obtain ⟨f, hf⟩ : ∃ f, f = flagsOf (⟨a, b, t, fl, sy, ex, c, nm, nt, d, g⟩ : Hdr) := ⟨_, rfl⟩
        rw [← hf]
        have HFL := hid hf
        have H6 : Hid (Rd (w5.alloc (.cells #[.int .u8 (f : Int)] 5)) 1 (.slice (some ⟨w4.heap.size, 0, none⟩) 3 3) 3 (u8s [31, 139, 8]) ∧ Rd (w5.alloc (.cells #[.int .u8 (f : Int)] 5)) 1 (.slice (some ⟨w5.heap.size, 0, none⟩) 1 1) 1 (u8s [f]) ∧ Held w0 (w5.alloc (.cells #[.int .u8 (f : Int)] 5)) (objT B1 [.bool a, .bool b, .int .u32 (t : Int), .int .u8 (fl : Int), .int .u8 (sy : Int), .slice ao n cap, .bool c, strV nm, strV nt, .bool d, .bool g] 29 :: Rs)) :=
          hid ⟨(h5.alloc _).markRd 3 rfl (by decide), Rd.lit w5 (u8s [f]) 5 1 1 (by decide) rfl, (h5.alloc _).drop⟩
        generalize w4.heap.size = g4 at H6 ⊢
        clear h5 hf H5 HF H4 kc
        go_wp2_with (first
          | ((with_reducible show wpList _ _ _ (⟨some 29, _, _, _, _, _⟩ :: _) _ _); go_must (refine wpList_app_full rfl (.tmp 25) (.tmp 28) 25 rfl 5 i0 (.int .u8 0) Tryz.underlying25 hi0 hz0 hz1 hz2 rfl g4 3 (u8s [31, 139, 8]) rfl H6.out.1 (by decide) H6.out.2.2 _ 1 (u8s [f]) rfl H6.out.2.1 (by decide) 4 rfl (by decide) ?_); intro yo yc w6 h6; have d2 := h6.swap.obj.cell (i := 2) rfl; have HA := hid (appNum_any (.slice yo 4 yc) 4 t 4 ([31, 139, 8] ++ [f]) h6 HO.out.1.time (by decide) (by decide) 4 rfl); clear h6)
          | fail)
        with_reducible refine HA.out.mono ?_
        rintro en w7 ⟨y, rfl, h7⟩
        obtain ⟨yo7, yc7, rfl, _, _⟩ := h7.own.form
        have d3 := h7.swap.obj.cell (i := 3) rfl
        have d4 := h7.swap.obj.cell (i := 4) rfl
        have H7 : Hid (Held w0 (w7.alloc (.cells #[.int .u8 (fl : Int), .int .u8 (sy : Int)] 5)) (ownT 5 1 (.slice yo7 8 yc7) 8 (u8s ([31, 139, 8] ++ [f] ++ leB 4 t)) :: objT B1 [.bool a, .bool b, .int .u32 (t : Int), .int .u8 (fl : Int), .int .u8 (sy : Int), .slice ao n cap, .bool c, strV nm, strV nt, .bool d, .bool g] 29 :: Rs) ∧ Rd (w7.alloc (.cells #[.int .u8 (fl : Int), .int .u8 (sy : Int)] 5)) 1 (.slice (some ⟨w7.heap.size, 0, none⟩) 2 2) 2 (u8s [fl, sy])) :=
          hid ⟨h7.alloc _, Rd.lit w7 (u8s [fl, sy]) 5 1 2 (by decide) rfl⟩
        clear h7 HA H6 d2
        go_upto_if 42 with (first
          | ((with_reducible show wpList _ _ _ (⟨some 40, _, _, _, _, _⟩ :: _) _ _); go_must (refine wpList_app_held rfl (.tmp 34) (.tmp 39) 25 rfl 5 i0 (.int .u8 0) 1 1 Tryz.underlying25 hi0 hz0 hz1 hz2 rfl (by decide) _ 8 _ rfl H7.out.1 _ 2 (u8s [fl, sy]) rfl H7.out.2 (u8s_one _) 10 rfl (by decide) (by decide) ?_); intro yo8 yc8 w8 h8; have c6 := h8.swap.obj.cell (i := 6) rfl; have HX8 := hid h8; clear h8)
          | fail)
        have HP2 : Hid (([31, 139, 8] ++ [f] ++ leB 4 t) ++ [fl, sy] = preH (⟨a, b, t, fl, sy, ex, c, nm, nt, d, g⟩ : Hdr)) := hid (by unfold preH; rw [← HFL.out])
        obtain ⟨P2, hP2⟩ : ∃ P2, P2 = preH (⟨a, b, t, fl, sy, ex, c, nm, nt, d, g⟩ : Hdr) := ⟨_, rfl⟩
        have HW2 : Hid (WAt w0 w8 Rs B1 [.bool a, .bool b, .int .u32 (t : Int), .int .u8 (fl : Int), .int .u8 (sy : Int), .slice ao n cap, .bool c, strV nm, strV nt, .bool d, .bool g] P2 yo8 10 yc8) := hid ⟨by rw [hP2, ← HP2.out]; rfl, by
          have h9 := HX8.out
          rw [u8s_app, HP2.out, ← hP2] at h9
          exact h9⟩
        have HPP := hid hP2
        clear hP2 HP2 HX8 H7 d3 d4
        go_cut [4] (fun s4 wx => ∃ (yo : Option Addr) (m yc : Nat), s4 = .slice yo m yc ∧ m ≤ 70000 ∧ Hid (WAt w0 wx Rs B1 [.bool a, .bool b, .int .u32 (t : Int), .int .u8 (fl : Int), .int .u8 (sy : Int), .slice ao n cap, .bool c, strV nm, strV nt, .bool d, .bool g] (P2 ++ (if c = true then leB 2 n ++ ex else [])) yo m yc))
        case first =>
          cases c with
          | false =>
            go_wp2
            go_meet
            case rel =>
              rw [if_neg (by decide), List.append_nil]
              exact ⟨yo8, 10, yc8, rfl, by decide, HW2⟩
          | true =>
            have hn65 : n ≤ 65535 := by rw [HN.out]; exact HGood.out.extra.1
            have hnw : IntKind.u32.wrap (n : Int) = (n : Int) := IntWalk.u32_in _ (by omega)
            have c5 := HW2.out.2.swap.obj.cell (i := 5) rfl
            have HA := hid (appNum_any (.slice yo8 10 yc8) 10 n 2 P2 HW2.out.2 (by omega) (by decide) (by decide) 2 rfl)
            go_wp2_with fail
            with_reducible refine HA.out.mono ?_
            rintro en w9 ⟨y, rfl, h9⟩
            obtain ⟨yo9, yc9, rfl, _, _⟩ := h9.own.form
            have e5 := h9.swap.obj.cell (i := 5) rfl
            obtain ⟨N, hN⟩ : ∃ N, N = 12 + n := ⟨_, rfl⟩
            have hN7 : N ≤ 70000 := by omega
            have H9 : Hid (Held w0 w9 (ownT 5 1 (.slice yo9 12 yc9) 12 (u8s (P2 ++ leB 2 n)) :: objT B1 _ 29 :: Rs) ∧ Rd w9 1 (.slice ao n cap) n (u8s ex) ∧ N = 12 + n) := hid ⟨h9, HO.out.2.1 _ h9.drop.drop, hN⟩
            clear h9 HA hN c5
            go_wp2_with (first
              | ((with_reducible show wpList _ _ _ (⟨some 52, _, _, _, _, _⟩ :: _) _ _); go_must (refine wpList_app_held rfl (.tmp 49) (.tmp 51) 25 rfl 5 i0 (.int .u8 0) 1 1 Tryz.underlying25 hi0 hz0 hz1 hz2 rfl (by decide) _ 12 _ rfl H9.out.1 _ n (u8s ex) rfl H9.out.2.1 (u8s_one _) N H9.out.2.2 (by have := HMX.out; omega) (by omega) ?_); intro yo10 yc10 w10 h10; have H10 := hid h10; clear h10)
              | fail)
            go_meet
            case rel =>
              rw [if_pos trivial]
              refine ⟨yo10, N, yc10, rfl, hN7, hid ⟨?_, ?_⟩⟩
              · rw [List.length_append, List.length_append, leB_length, ← HN.out, H9.out.2.2, ← HW2.out.1]
                omega
              · have h11 := H10.out
                rw [u8s_app, List.append_assoc] at h11
                exact h11
        case rest =>
          obtain ⟨yoA, mA, ycA, rfl, hmA, HWA⟩ := hcut
          clear HW2 c6
          obtain ⟨PA, hPA⟩ : ∃ PA, PA = P2 ++ (if c = true then leB 2 n ++ ex else []) := ⟨_, rfl⟩
          rw [← hPA] at HWA
          have HPA := hid hPA
          clear hPA
          have c9 := HWA.out.2.swap.obj.cell (i := 9) rfl
          have c7 := HWA.out.2.swap.obj.cell (i := 7) rfl
          go_upto_if 54 with (fail)
          go_cut [4] (fun s4 wx => ∃ (yo : Option Addr) (m yc : Nat), s4 = .slice yo m yc ∧ m ≤ 80000 ∧ Hid (WAt w0 wx Rs B1 [.bool a, .bool b, .int .u32 (t : Int), .int .u8 (fl : Int), .int .u8 (sy : Int), .slice ao n cap, .bool c, strV nm, strV nt, .bool d, .bool g] (PA ++ (if d = true then nm ++ [0] else [])) yo m yc))
          case first =>
            cases d with
            | false =>
              go_wp2
              go_meet
              case rel =>
                rw [if_neg (by decide), List.append_nil]
                exact ⟨yoA, mA, ycA, rfl, by omega, HWA⟩
            | true =>
              have hnm4 : nm.length ≤ 4096 := HGood.out.name.1
              obtain ⟨N, hN⟩ : ∃ N, N = mA + nm.length := ⟨_, rfl⟩
              obtain ⟨N2, hN2⟩ : ∃ N2, N2 = N + 1 := ⟨_, rfl⟩
              have hN7 : N2 ≤ 80000 := by omega
              have HNN := hid (And.intro hN hN2)
              have hmA0 : 0 < mA := by
                have h1 := HWA.out.1
                rw [HPA.out, HPP.out, List.length_append] at h1
                unfold preH at h1
                simp only [List.length_append, List.length_cons, List.length_nil] at h1
                omega
              have HM0 := hid hmA0
              clear hN hN2 hnm4 hmA0
              go_wp2_with (first
                | ((with_reducible show wpList _ _ _ (⟨some 58, _, _, _, _, _⟩ :: _) _ _); go_must (refine wpList_app_str rfl (.tmp 55) (.tmp 57) 25 9 rfl 5 i0 (.int .u8 0) Tryz.underlying25 Tryz.underlying9 hi0 hz0 hz1 hz2 rfl _ mA (u8s PA) rfl HWA.out.2 HM0.out nm rfl HO.out.1.name N HNN.out.1 (by have := HNN.out; omega) ?_); intro yo10 yc10 w10 h10; have H10 : Hid (Held w0 (w10.alloc (.cells #[.int .u8 0] 5)) (ownT 5 1 (.slice yo10 N yc10) N (u8s PA ++ u8s nm) :: objT B1 _ 29 :: Rs) ∧ Rd (w10.alloc (.cells #[.int .u8 0] 5)) 1 (.slice (some ⟨w10.heap.size, 0, none⟩) 1 1) 1 (u8s [0])) := hid ⟨h10.alloc _, Rd.lit w10 (u8s [0]) 5 1 1 (by decide) rfl⟩; clear h10)
                | ((with_reducible show wpList _ _ _ (⟨some 60, _, _, _, _, _⟩ :: _) _ _); go_must (refine wpList_app_held rfl (.tmp 58) (.tmp 59) 25 rfl 5 i0 (.int .u8 0) 1 1 Tryz.underlying25 hi0 hz0 hz1 hz2 rfl (by decide) _ N _ rfl H10.out.1 _ 1 (u8s [0]) rfl H10.out.2 (u8s_one _) N2 HNN.out.2 (by have := HMX.out; omega) (by omega) ?_); intro yo11 yc11 w11 h11; have H11 := hid h11; clear h11)
                | fail)
              go_meet
              case rel =>
                rw [if_pos trivial]
                refine ⟨yo11, N2, yc11, rfl, hN7, hid ⟨?_, ?_⟩⟩
                · rw [List.length_append, List.length_append, ← HWA.out.1, HNN.out.2, HNN.out.1]
                  rfl
                · have h12 := H11.out
                  rw [u8s_app, u8s_app, List.append_assoc] at h12
                  exact h12
          case rest =>
            obtain ⟨yoB, mB, ycB, rfl, hmB, HWB⟩ := hcut
            clear HWA hmA c9 c7
            obtain ⟨PB, hPB⟩ : ∃ PB, PB = PA ++ (if d = true then nm ++ [0] else []) := ⟨_, rfl⟩
            rw [← hPB] at HWB
            have HPB := hid hPB
            clear hPB
            have c10 := HWB.out.2.swap.obj.cell (i := 10) rfl
            have c8 := HWB.out.2.swap.obj.cell (i := 8) rfl
            go_upto_if 62 with (fail)
            go_cut [4] (fun s4 wx => ∃ (yo : Option Addr) (m yc : Nat), s4 = .slice yo m yc ∧ m ≤ 90000 ∧ Hid (WAt w0 wx Rs B1 [.bool a, .bool b, .int .u32 (t : Int), .int .u8 (fl : Int), .int .u8 (sy : Int), .slice ao n cap, .bool c, strV nm, strV nt, .bool d, .bool g] (PB ++ (if g = true then nt ++ [0] else [])) yo m yc))
            case first =>
              cases g with
              | false =>
                go_wp2
                go_meet
                case rel =>
                  rw [if_neg (by decide), List.append_nil]
                  exact ⟨yoB, mB, ycB, rfl, by omega, HWB⟩
              | true =>
                have hnm4 : nt.length ≤ 4096 := HGood.out.note.1
                obtain ⟨N, hN⟩ : ∃ N, N = mB + nt.length := ⟨_, rfl⟩
                obtain ⟨N2, hN2⟩ : ∃ N2, N2 = N + 1 := ⟨_, rfl⟩
                have hN7 : N2 ≤ 90000 := by omega
                have HNN := hid (And.intro hN hN2)
                have hmB0 : 0 < mB := by
                  have h1 := HWB.out.1
                  rw [HPB.out, HPA.out, HPP.out, List.length_append, List.length_append] at h1
                  unfold preH at h1
                  simp only [List.length_append, List.length_cons, List.length_nil] at h1
                  omega
                have HM0 := hid hmB0
                clear hN hN2 hnm4 hmB0
                go_wp2_with (first
                  | ((with_reducible show wpList _ _ _ (⟨some 66, _, _, _, _, _⟩ :: _) _ _); go_must (refine wpList_app_str rfl (.tmp 63) (.tmp 65) 25 9 rfl 5 i0 (.int .u8 0) Tryz.underlying25 Tryz.underlying9 hi0 hz0 hz1 hz2 rfl _ mB (u8s PB) rfl HWB.out.2 HM0.out nt rfl HO.out.1.note N HNN.out.1 (by have := HNN.out; omega) ?_); intro yo10 yc10 w10 h10; have H10 : Hid (Held w0 (w10.alloc (.cells #[.int .u8 0] 5)) (ownT 5 1 (.slice yo10 N yc10) N (u8s PB ++ u8s nt) :: objT B1 _ 29 :: Rs) ∧ Rd (w10.alloc (.cells #[.int .u8 0] 5)) 1 (.slice (some ⟨w10.heap.size, 0, none⟩) 1 1) 1 (u8s [0])) := hid ⟨h10.alloc _, Rd.lit w10 (u8s [0]) 5 1 1 (by decide) rfl⟩; clear h10)
                  | ((with_reducible show wpList _ _ _ (⟨some 68, _, _, _, _, _⟩ :: _) _ _); go_must (refine wpList_app_held rfl (.tmp 66) (.tmp 67) 25 rfl 5 i0 (.int .u8 0) 1 1 Tryz.underlying25 hi0 hz0 hz1 hz2 rfl (by decide) _ N _ rfl H10.out.1 _ 1 (u8s [0]) rfl H10.out.2 (u8s_one _) N2 HNN.out.2 (by have := HMX.out; omega) (by omega) ?_); intro yo11 yc11 w11 h11; have H11 := hid h11; clear h11)
                  | fail)
                go_meet
                case rel =>
                  rw [if_pos trivial]
                  refine ⟨yo11, N2, yc11, rfl, hN7, hid ⟨?_, ?_⟩⟩
                  · rw [List.length_append, List.length_append, ← HWB.out.1, HNN.out.2, HNN.out.1]
                    rfl
                  · have h12 := H11.out
                    rw [u8s_app, u8s_app, List.append_assoc] at h12
                    exact h12
            case rest =>
              obtain ⟨yoC, mC, ycC, rfl, hmC, HWC⟩ := hcut
              clear HWB hmB c10 c8
              obtain ⟨PC, hPC⟩ : ∃ PC, PC = PB ++ (if g = true then nt ++ [0] else []) := ⟨_, rfl⟩
              rw [← hPC] at HWC
              have hBody : PC = bodyH (⟨a, b, t, fl, sy, ex, c, nm, nt, d, g⟩ : Hdr) := by
                rw [bodyH_is, hPC, HPB.out, HPA.out, HPP.out, HN.out]
                rfl
              have HBody := hid hBody
              clear hPC hBody
              have c1 := HWC.out.2.swap.obj.cell (i := 1) rfl
              cases b with
              | false =>
                go_wp2
                go_ret2
                refine .inl ⟨HGood.out, _, rfl, ?_⟩
                have hpr : printH ⟨a, false, t, fl, sy, ex, c, nm, nt, d, g⟩ = PC := by
                  rw [HBody.out]
                  exact List.append_nil _
                rw [hpr, ← HWC.out.1]
                exact HWC.out.2.swap.drop
              | true =>
                have hPb : ∀ b ∈ PC, b < 256 := by
                  rw [HBody.out, bodyH_is]
                  intro y hy
                  simp only [List.mem_append] at hy
                  rcases hy with ((hy | hy) | hy) | hy
                  · unfold preH at hy
                    simp only [List.mem_append, List.mem_cons, List.not_mem_nil, or_false] at hy
                    rcases hy with (((rfl | rfl | rfl) | rfl) | hy) | rfl | rfl
                    · decide
                    · decide
                    · decide
                    · have := flagsOf_lt ⟨a, true, t, fl, sy, ex, c, nm, nt, d, g⟩
                      omega
                    · exact leB_byte _ _ _ hy
                    · exact HO.out.1.flags
                    · exact HO.out.1.sys
                  · unfold extraP at hy
                    split at hy
                    · rcases List.mem_append.1 hy with hy | hy
                      · exact leB_byte _ _ _ hy
                      · exact HO.out.1.extra y hy
                    · cases hy
                  · unfold nameP at hy
                    split at hy
                    · rcases List.mem_append.1 hy with hy | hy
                      · exact HO.out.1.name y hy
                      · simp only [List.mem_cons, List.not_mem_nil, or_false] at hy
                        rw [hy]; decide
                    · cases hy
                  · unfold noteP at hy
                    split at hy
                    · rcases List.mem_append.1 hy with hy | hy
                      · exact HO.out.1.note y hy
                      · simp only [List.mem_cons, List.not_mem_nil, or_false] at hy
                        rw [hy]; decide
                    · cases hy
                have hCR := crc0_any (.slice yoC mC ycC) PC wc (by have h1 := HWC.out.2.own.rd; rw [HWC.out.1] at h1 ⊢; exact h1) hPb (by rw [← HWC.out.1]; omega)
                obtain ⟨C, hC⟩ : ∃ C, C = crcOf 0 PC := ⟨_, rfl⟩
                rw [← hC] at hCR
                have hC32 : C < 4294967296 := by rw [hC]; exact crcH_lt (by decide) hPb
                have HCR := hid hCR
                have HC := hid hC
                clear hCR hC hPb
                go_wp2_with fail
                with_reducible refine HCR.out.mono ?_
                rintro en w9 ⟨rfl, hm⟩
                have HA := hid (appNum_any (.slice yoC mC ycC) mC C 2 PC (HWC.out.2.same hm) hC32 (by decide) (by omega) 2 rfl)
                clear hm HCR
                go_wp2_with fail
                with_reducible refine HA.out.mono ?_
                rintro en w10 ⟨y, rfl, h10⟩
                have H10 := hid h10
                clear h10 HA
                go_wp2
                go_ret2
                refine .inl ⟨HGood.out, _, rfl, ?_⟩
                have hpr : printH ⟨a, true, t, fl, sy, ex, c, nm, nt, d, g⟩ = PC ++ leB 2 C := by
                  rw [HC.out, HBody.out]
                  rfl
                have hlen : (PC ++ leB 2 C).length = mC + 2 := by rw [List.length_append, leB_length, ← HWC.out.1]
                rw [hpr, hlen]
                exact H10.out.swap.drop
end
end Go.Proofs.YtkdmdbojcdonpaaGreatDoor
