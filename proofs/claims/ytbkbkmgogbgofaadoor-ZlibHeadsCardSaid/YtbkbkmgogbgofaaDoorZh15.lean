/-
  The lengths of the fixed codes.
-/
import Derived.Test.YtbkbkmgogbgofaaDoorZh14
import Derived.Test.YtbkbkmgogbgofaaDoorZh06
import Derived.Test.YtbkbkmgogbgofaaDoorZh13
namespace Go.Proofs.YtbkbkmgogbgofaaDoor
set_option maxRecDepth 5000
open Go.RowKit
/-! ### The fixed codes -/
theorem fix_flat : [List.replicate 144 (8 : Int), List.replicate 112 9, List.replicate 24 7, List.replicate 8 8].flatten = fixLit := by decide +kernel
theorem Rd.lit1 (w : World) (v : Value) (e : TypeId) : Rd (w.alloc (.cells #[v] e)) 1 (.slice (some ⟨w.heap.size, 0, none⟩) 1 1) 1 [v] := Rd.lit w [v] e 1 1 (by decide) rfl
section
variable {w0 w : World} {Rs : List Thing}
theorem rep_at (h : Held w0 w Rs) (a : Int) (c : Nat) (hc : 1 ≤ c ∧ c ≤ 144) :
    Calls Tryd.prog 57 #[.slice (some ⟨w.heap.size, 0, none⟩) 1 1, .int .i64 (c : Int)] (w.alloc (.cells #[.int .i64 a] 3)) fun e w' => ∃ ao cap, e = .returned (.slice ao c cap) ∧ Held w0 w' (ownT 3 1 (.slice ao c cap) c (ints (List.replicate c a)) :: Rs) :=
  (repeat_one _ a c _ (Rd.lit1 w (.int .i64 a) 3) hc).mono fun e w' ⟨v, he, hh⟩ => by
    obtain ⟨ao, cap, rfl, _, _⟩ := hh.own.form
    exact ⟨ao, cap, he, (h.alloc _).pushOwn hh.own hh.mod hh.fresh⟩
set_option maxHeartbeats 1600000 in
theorem fixedL_any (h : Held w0 w Rs) :
    Calls Tryd.prog 62 #[] w fun e w' => ∃ ao cap bo cap2, e = .returned (.tuple #[.slice ao 288 cap, .slice bo 32 cap2]) ∧ Held w0 w' (ownT 3 1 (.slice ao 288 cap) 288 (ints fixLit) :: ownT 3 1 (.slice bo 32 cap2) 32 (ints fixDist) :: Rs) := by
  have R1 := hid (rep_at h 8 144 (by decide))
  clear h
  go_enter Tryd.func62, Tryd.ntmps62
  go_wp2_with fail
  refine R1.out.mono ?_
  rintro e w1 ⟨a1, k1, rfl, h⟩
  have R2 := hid (rep_at h 9 112 (by decide))
  clear h R1
  go_wp2_with fail
  refine R2.out.mono ?_
  rintro e w2 ⟨a2, k2, rfl, h⟩
  have R3 := hid (rep_at h 7 24 (by decide))
  clear h R2
  go_wp2_with fail
  refine R3.out.mono ?_
  rintro e w3 ⟨a3, k3, rfl, h⟩
  have R4 := hid (rep_at h 8 8 (by decide))
  clear h R3
  go_wp2_with fail
  refine R4.out.mono ?_
  rintro e w4 ⟨a4, k4, rfl, h⟩
  have hL : (ints (List.replicate 8 (8 : Int))).length = 8 := rfl
  have H5 := h.lit 46 1 [.slice a1 144 k1, .slice a2 112 k2, .slice a3 24 k3, .slice a4 8 k4] 4 (by decide) rfl
  have HC := hid (concatI_any [.slice a1 144 k1, .slice a2 112 k2, .slice a3 24 k3, .slice a4 8 k4] [List.replicate 144 (8 : Int), List.replicate 112 9, List.replicate 24 7, List.replicate 8 8] _ 4 _ H5.own.rd rfl rfl (fun i v l hv hl => by
    match i, hv, hl with
    | 0, hv, hl => simp at hv hl; subst hv; subst hl; exact H5.drop.drop.drop.drop.own.rd
    | 1, hv, hl => simp at hv hl; subst hv; subst hl; exact H5.drop.drop.drop.own.rd
    | 2, hv, hl => simp at hv hl; subst hv; subst hl; exact H5.drop.drop.own.rd
    | 3, hv, hl => simp at hv hl; subst hv; subst hl; exact H5.drop.own.rd
    | i + 4, hv, hl => simp at hv) (by rw [fix_flat]; decide) (by rw [fix_flat]; decide) (by decide))
  rw [fix_flat] at HC
  have H6 := hid H5.drop.drop.drop.drop.drop
  clear R4 h H5
  go_wp2_with fail
  refine HC.out.mono ?_
  rintro e w5 ⟨v, rfl, hh⟩
  have hfl : fixLit.length = 288 := by decide
  rw [hfl] at hh
  obtain ⟨a5, k5, rfl, _, _⟩ := hh.own.form
  have R7 := hid (rep_at (H6.out.pushOwn hh.own hh.mod hh.fresh) 5 32 (by decide))
  clear hh HC H6
  go_wp2_with fail
  refine R7.out.mono ?_
  rintro e w6 ⟨a6, k6, rfl, h⟩
  have HE := hid h.swap
  clear h R7
  go_wp2
  go_ret2
  exact ⟨_, _, _, _, rfl, HE.out⟩
end
end Go.Proofs.YtbkbkmgogbgofaaDoor
/-
  The landed decoder's fixedCodes.
-/
namespace Go.Proofs.YtbkbkmgogbgofaaDoor
set_option maxRecDepth 5000
open Go.RowKit
section
variable {w0 w : World} {Rs : List Thing} {p : Place} {c : DC} {v : Value} {bs l : List Nat} {Ts : List (List Int × Nat)}
set_option maxHeartbeats 1600000 in
theorem fixedC_any (h : Held w0 w (rdmT (decP p c) v bs l :: tabsT Ts :: Rs)) (hfx : FxC c Ts) :
    Calls Tryd.prog 48 #[.pointer (some ⟨p.b, p.o, none⟩)] w fun e w' => ∃ (t1 t2 : Nat) (Ts' : List (List Int × Nat)), e = .returned (codesV (ptrO t1) (ptrO t2)) ∧
      Held w0 w' (rdmT (decP p { c with fl := ptrO t1, fd := ptrO t2 }) v bs l :: tabsT Ts' :: Rs) ∧ (fixLit, t1) ∈ Ts' ∧ (fixDist, t2) ∈ Ts' ∧ ∀ t ∈ Ts, t ∈ Ts' := by
  obtain ⟨wv, most, room, lv, st, last, left, dist, hA, hB, hC, ht, hv, cl, cd, fl, fd, en⟩ := c
  dsimp only
  have h0 := (h.newObj [.pointer none, .pointer none] 50).swap
  have HB := hid h0
  have HH := hid h
  have c18 : (w.alloc (.cells #[.pointer none, .pointer none] 50)).cell? ⟨p.b, p.o + 18, none⟩ = some (.pointer fl) := dcell h0 18 _ rfl
  have c19 : (w.alloc (.cells #[.pointer none, .pointer none] 50)).cell? ⟨p.b, p.o + 18 + 1, none⟩ = some (.pointer fd) := dcell h0 19 _ rfl
  rcases hfx with ⟨h1, h2⟩ | ⟨t1, t2, h1, h2, h3, h4⟩
  · dsimp only at h1 h2
    subst h1 h2
    have HF := hid (fixedL_any h0)
    clear h h0
    go_enter Tryd.func48, Tryd.ntmps48
    go_wp2_with fail
    with_reducible refine HF.out.mono ?_
    rintro e w2 ⟨a1, k1, a2, k2, rfl, hh⟩
    have HN := hid (newCodes_any _ _ 288 32 fixLit fixDist w2 hh.own.rd hh.swap.own.rd (by decide) (by decide))
    have H2 := hid hh.drop.drop
    clear hh HF
    go_wp2_with fail
    with_reducible refine HN.out.mono ?_
    rintro e w3 hn
    obtain ⟨B1, B2, rfl, h3⟩ : ∃ B1 B2, e = .returned (.tuple #[codesV (some ⟨B1, 0, none⟩) (some ⟨B2, 0, none⟩), .int .i64 0]) ∧ Held w2 w3 [tabT fixDist B2, tabT fixLit B1] := by
      rcases hn with ⟨h1, _⟩ | ⟨_, h1, _⟩ | ⟨_, _, B1, B2, h1, h2⟩
      · exact absurd fix_checkM.1 h1
      · exact absurd fix_checkM.2.1 h1
      · exact ⟨B1, B2, h1, h2⟩
    have h4 : Held w0 w3 (tabT fixDist B2 :: tabT fixLit B1 :: rdmT (decP p ⟨wv, most, room, lv, st, last, left, dist, hA, hB, hC, ht, hv, cl, cd, none, none, en⟩) v bs l :: objT w.heap.size [.pointer none, .pointer none] 50 :: tabsT Ts :: Rs) := Held.frame H2.out h3
    have H4 := hid (h4.third)
    clear h3 h4 H2 HN hn c18 c19
    go_wp2_with ((with_reducible show wpList _ _ _ (⟨none, .store 50 (.tmp 18) (.tmp 15), _, _, _, _⟩ :: _) _ _); go_must (refine wpList_store_dec rfl 50 (.tmp 18) (.tmp 15) rfl H4.out 18 [.pointer (some ⟨B1, 0, none⟩), .pointer (some ⟨B2, 0, none⟩)] rfl rfl (by kernel_rfl) rfl ⟨wv, most, room, lv, st, last, left, dist, hA, hB, hC, ht, hv, cl, cd, some ⟨B1, 0, none⟩, some ⟨B2, 0, none⟩, en⟩ rfl ⟨by decide, Nat.le_of_ble_eq_true rfl⟩ ?_); intro w4 h5; have H5 := hid h5; have c18 : w4.cell? ⟨p.b, p.o + 18, none⟩ = some (.pointer (some ⟨B1, 0, none⟩)) := dcell h5 18 _ rfl; have c19 : w4.cell? ⟨p.b, p.o + 18 + 1, none⟩ = some (.pointer (some ⟨B2, 0, none⟩)) := dcell h5 19 _ rfl; have o0 := h5.fourth.obj.cell (i := 0) rfl; have o1 := h5.fourth.obj.cell (i := 1) rfl; have g0 := h5.fourth.obj.frozen 0; have g1 := h5.fourth.obj.frozen 1; clear h5)
    have h6 := (H5.out.fourth.setObj 0 (.pointer (some ⟨B1, 0, none⟩))).setObj 1 (.pointer (some ⟨B2, 0, none⟩))
    refine ret_obj rfl _ 2 Tryd.underlying50 rfl (by kernel_rfl) w.heap.size [.pointer (some ⟨B1, 0, none⟩), .pointer (some ⟨B2, 0, none⟩)] 50 rfl rfl h6.obj rfl ?_
    exact ⟨B1, B2, (fixDist, B2) :: (fixLit, B1) :: Ts, rfl, (tab_more (tab_more h6.drop.third.fourth.swap).third).swap, by simp, by simp, fun t ht => by simp [ht]⟩
  · dsimp only at h1 h2
    unfold ptrO at h1 h2
    subst h1 h2
    have o0 := HB.out.swap.obj.cell (i := 0) rfl
    have o1 := HB.out.swap.obj.cell (i := 1) rfl
    have g0 := HB.out.swap.obj.frozen 0
    have g1 := HB.out.swap.obj.frozen 1
    have HM := hid (And.intro h3 h4)
    clear h h0 h3 h4
    go_enter Tryd.func48, Tryd.ntmps48
    go_wp2
    have h6 := HH.out.newObj [.pointer (some ⟨t1, 0, none⟩), .pointer (some ⟨t2, 0, none⟩)] 50
    refine ret_obj rfl _ 2 Tryd.underlying50 rfl (by kernel_rfl) w.heap.size [.pointer (some ⟨t1, 0, none⟩), .pointer (some ⟨t2, 0, none⟩)] 50 rfl rfl h6.obj rfl ?_
    exact ⟨t1, t2, Ts, rfl, h6.drop, HM.out.1, HM.out.2, fun t ht => ht⟩
end
end Go.Proofs.YtbkbkmgogbgofaaDoor
/-
  The landed decoder's endBlock, readHeader.
-/
namespace Go.Proofs.YtbkbkmgogbgofaaDoor
set_option maxRecDepth 5000
open Go.RowKit
section
variable {w0 w : World} {Rs : List Thing} {p : Place} {c : DC} {v : Value} {bs l o got : List Nat} {ls : List Int} {Ts : List (List Int × Nat)} {M : Nat}
theorem endB_yes (h : Held w0 w (rdmT (decP p c) v bs l :: Rs)) (hb : c.last = true) :
    Calls Tryd.prog 49 #[.pointer (some ⟨p.b, p.o, none⟩)] w fun e w' => e = .returned (.int .i64 8) ∧ w' = w := by
  have c8 : w.cell? ⟨p.b, p.o + 8, none⟩ = some (.bool true) := by rw [← hb]; exact dcell h 8 _ rfl
  clear h
  go_enter Tryd.func49, Tryd.ntmps49
  go_wp2
  go_ret
  exact ⟨rfl, rfl⟩
theorem endB_no (h : Held w0 w (rdmT (decP p c) v bs l :: Rs)) (hb : c.last = false) :
    Calls Tryd.prog 49 #[.pointer (some ⟨p.b, p.o, none⟩)] w fun e w' => e = .returned (.int .i64 0) ∧ Held w0 w' (rdmT (decP p { c with st := 0 }) v bs l :: Rs) := by
  obtain ⟨wv, most, room, lv, st, last, left, dist, hA, hB, hC, ht, hv, cl, cd, fl, fd, en⟩ := c
  dsimp only at h hb ⊢
  subst hb
  have c8 : w.cell? ⟨p.b, p.o + 8, none⟩ = some (.bool false) := dcell h 8 _ rfl
  have c7 : w.cell? ⟨p.b, p.o + 7, none⟩ = some (.int .i64 (st : Int)) := dcell h 7 _ rfl
  have f7 : w.frozen? ⟨p.b, p.o + 7, none⟩ = false := dfroz h 7
  have HH := hid h
  clear h
  go_enter Tryd.func49, Tryd.ntmps49
  go_wp2
  go_ret
  exact ⟨rfl, dset HH.out 7 (.int .i64 0) ⟨wv, most, room, lv, 0, false, left, dist, hA, hB, hC, ht, hv, cl, cd, fl, fd, en⟩ rfl⟩
set_option maxHeartbeats 1600000 in
theorem header_any (h : Held w0 w (decM p c v bs l o got ls Ts Rs)) (hi : DInv M c ls Ts .hd l o got) :
    Calls Tryd.prog 38 #[.pointer (some ⟨p.b, p.o, none⟩)] w fun e w' => RAns w0 w' p v bs M .hd c l o got ls Ts Rs e := by
  obtain ⟨wv, most, room, lv, st, last, left, dist, hA, hB, hC, ht, hv, cl, cd, fl, fd, en⟩ := c
  unfold decM at h
  cases ht3 : takeL l 3 with
  | none =>
    have hst : stepM M l o .hd = .err 5 := by show hdM l o = _; unfold hdM; rw [ht3]
    have HG := hid (dget_no h 3 3 rfl (by decide) (takeL_none ht3))
    have HS := hid hst
    clear h hst ht3
    go_enter Tryd.func38, Tryd.ntmps38
    go_wp2_with fail
    with_reducible refine HG.out.mono ?_
    rintro e w1 ⟨rfl, h1⟩
    have H1 := hid h1
    clear h1 HG
    go_wp2
    go_ret
    exact ⟨5, rfl, .bad H1.out HS.out (fun _ => ⟨rfl, rfl, rfl⟩) ⟨rfl, rfl⟩⟩
  | some x =>
    obtain ⟨h3, hx⟩ := takeL_some ht3
    have HG := dget_yes h 3 3 rfl (by decide) h3 hi.len
    rw [← hx] at HG
    have hx8 : x < 8 := by rw [hx]; exact num_lt hi.ok.bits 3
    have hst : stepM M l o .hd = if x / 2 = 0 then .go (.sz (lastB x)) (l.drop 3) o else if x / 2 = 1 then .go (.tok (lastB x) fixLit fixDist) (l.drop 3) o else if x / 2 = 2 then .go (.cnt (lastB x)) (l.drop 3) o else .err 2 := by
      show hdM l o = _
      unfold hdM
      rw [ht3]
    have HI := hid hi
    have HG := hid HG
    obtain ⟨k, hk⟩ : ∃ k, k = x / 2 := ⟨_, rfl⟩
    have hdiv : (x : Int) / 2 = (k : Int) := by omega
    have hk4 : k = 0 ∨ k = 1 ∨ k = 2 ∨ k = 3 := by omega
    obtain ⟨b, hb⟩ : ∃ b, b = lastB x := ⟨_, rfl⟩
    have hand : (bits .and .u32 (x : Int) 1 == 1) = b := by
      have h1 := bits_and32 x 1 (by omega) (by decide)
      rw [show (1 : Nat) = 2 ^ 1 - 1 from rfl, Nat.and_two_pow_sub_one_eq_mod] at h1
      rw [hb, show ((1 : Nat) : Int) = 1 from rfl] at *
      rw [h1, lastB]
      have : x % 2 = 0 ∨ x % 2 = 1 := by omega
      rcases this with h | h <;> simp [h]
    rw [← hk, ← hb] at hst
    have HB := hid hb
    have hfx : FxC ⟨wv, most, room, lv, st, b, 0, 0, 0, 0, 0, none, .slice none 0 0, none, none, fl, fd, en⟩ Ts := hi.fx
    have HX := hid hfx
    clear h hx ht3 hi hk hb hfx
    have HS := hid hst
    clear hst
    rcases hk4 with rfl | rfl | rfl | rfl
    all_goals
      go_enter Tryd.func38, Tryd.ntmps38
      go_wp2_with fail
      with_reducible refine HG.out.mono ?_
      rintro e w1 ⟨rfl, h1⟩
      have H1 := hid h1
      clear h1 HG
      go_wp2_with ((with_reducible show wpList _ _ _ (⟨none, .store 52 _ _, _, _, _, _⟩ :: _) _ _); go_must (refine wpList_store_dec rfl 52 (.tmp 20) (.tmp 18) rfl H1.out 8 [.bool b, .int .i64 0, .int .i64 0, .int .i64 0, .int .i64 0, .int .i64 0, .pointer none, .slice none 0 0, .pointer none, .pointer none] rfl rfl (by kernel_rfl) rfl ⟨wv, most, room, lv, st, b, 0, 0, 0, 0, 0, none, .slice none 0 0, none, none, fl, fd, en⟩ rfl ⟨by decide, Nat.le_of_ble_eq_true rfl⟩ ?_); intro w2 h2; have H2 := hid h2; have c7 : w2.cell? ⟨p.b, p.o + 7, none⟩ = some (.int .i64 (st : Int)) := dcell h2 7 _ rfl; have f7 : w2.frozen? ⟨p.b, p.o + 7, none⟩ = false := dfroz h2 7; clear h2)
    · go_ret
      have h3 := dset (dec_nils H2.out) 7 (.int .i64 1) ⟨wv, most, room, lv, 1, b, 0, 0, 0, 0, 0, none, .slice none 0 0, none, none, fl, fd, en⟩ rfl
      exact ⟨0, rfl, .on HI.out HS.out h3 ⟨rfl, rfl⟩ HX.out rfl rfl⟩
    · have HF := hid (fixedC_any (dec_tabs (dec_nils H2.out)) HX.out)
      dsimp only at HF
      clear c7 f7
      with_reducible refine HF.out.mono ?_
      rintro e w3 ⟨t1, t2, Ts', rfl, h3, m1, m2, m3⟩
      have H3 := hid h3
      have HM := hid (And.intro m1 m2)
      clear h3 HF m1 m2
      unfold codesV ptrO
      go_wp2_with ((with_reducible show wpList _ _ _ (⟨none, .store 50 _ _, _, _, _, _⟩ :: _) _ _); go_must (refine wpList_store_dec rfl 50 (.tmp 35) (.tmp 32) rfl H3.out 16 [.pointer (some ⟨t1, 0, none⟩), .pointer (some ⟨t2, 0, none⟩)] rfl rfl (by kernel_rfl) rfl ⟨wv, most, room, lv, st, b, 0, 0, 0, 0, 0, none, .slice none 0 0, some ⟨t1, 0, none⟩, some ⟨t2, 0, none⟩, ptrO t1, ptrO t2, en⟩ rfl ⟨by decide, Nat.le_of_ble_eq_true rfl⟩ ?_); intro w4 h4; have H4 := hid h4; have c7 : w4.cell? ⟨p.b, p.o + 7, none⟩ = some (.int .i64 (st : Int)) := dcell h4 7 _ rfl; have f7 : w4.frozen? ⟨p.b, p.o + 7, none⟩ = false := dfroz h4 7; clear h4)
      go_ret
      have h5 := dec_tabs' (dset H4.out 7 (.int .i64 6) ⟨wv, most, room, lv, 6, b, 0, 0, 0, 0, 0, none, .slice none 0 0, some ⟨t1, 0, none⟩, some ⟨t2, 0, none⟩, ptrO t1, ptrO t2, en⟩ rfl)
      exact ⟨0, rfl, .on HI.out HS.out h5 ⟨rfl, rfl, t1, t2, rfl, rfl, HM.out.1, HM.out.2⟩ (.inr ⟨t1, t2, rfl, rfl, HM.out.1, HM.out.2⟩) rfl rfl⟩
    · go_ret
      have h3 := dset (dec_nils H2.out) 7 (.int .i64 3) ⟨wv, most, room, lv, 3, b, 0, 0, 0, 0, 0, none, .slice none 0 0, none, none, fl, fd, en⟩ rfl
      exact ⟨0, rfl, .on HI.out HS.out h3 ⟨rfl, rfl⟩ HX.out rfl rfl⟩
    · go_ret
      exact ⟨2, rfl, .bad (dec_nils H2.out) HS.out (fun h => by cases h) ⟨rfl, rfl⟩⟩
end
end Go.Proofs.YtbkbkmgogbgofaaDoor
/-
  The landed decoder's readStored, copyMatch.
-/
namespace Go.Proofs.YtbkbkmgogbgofaaDoor
set_option maxRecDepth 5000
open Go.RowKit
section
variable {w0 w : World} {Rs : List Thing} {p : Place} {c : DC} {v : Value} {bs l o got : List Nat} {ls : List Int} {Ts : List (List Int × Nat)} {M : Nat}
set_option maxHeartbeats 3200000 in
theorem stored_any' (b : Bool) (n : Nat) (h : Held w0 w (decM p c v bs l o got ls Ts Rs)) (hi : DInv M c ls Ts (.sto b n) l o got) (hr : 0 < c.room) :
    Calls Tryd.prog 40 #[.pointer (some ⟨p.b, p.o, none⟩)] w fun e w' => RAns w0 w' p v bs M (.sto b n) c l o got ls Ts Rs e := by
  have hcell := hi.cell
  have hfx := hi.fx
  have hph := hi.ok.ph
  have hmost := hi.most
  have hbig := hi.big
  have hlen := hi.len
  have hgl := hi.got
  have htop := hi.top
  have HI := hid hi
  obtain ⟨wv, most, room, lv, st, last, left, dist, hA, hB, hC, ht, hv, cl, cd, fl, fd, en⟩ := c
  dsimp only at hr hmost htop
  obtain ⟨rfl, rfl, rfl⟩ : st = 2 ∧ last = b ∧ left = n := hcell
  obtain ⟨h8, h64⟩ : l.length % 8 = 0 ∧ left ≤ 65535 := hph
  unfold decM at h
  have hst : stepM M l o (.sto last left) = stoM M last left l o := rfl
  unfold stoM at hst
  have c9 : w.cell? ⟨p.b, p.o + 8 + 1, none⟩ = some (.int .i64 (left : Int)) := dcell h 9 _ rfl
  by_cases h0 : left = 0
  · subst h0
    rw [if_pos rfl] at hst
    unfold endM at hst
    have c9' : w.cell? ⟨p.b, p.o + 8 + 1, none⟩ = some (.int .i64 0) := c9
    cases last with
    | true =>
      rw [if_pos rfl] at hst
      have HS := hid hst
      have HE := hid (endB_yes h rfl)
      have H1 := hid h
      clear h hi hst hfx hmost hbig hlen hgl htop h8 h64 hr c9
      go_enter Tryd.func40, Tryd.ntmps40
      go_wp2_with fail
      with_reducible refine HE.out.mono ?_
      rintro e w2 ⟨rfl, rfl⟩
      go_wp2
      go_ret
      exact ⟨8, rfl, .over H1.out HS.out ⟨rfl, rfl⟩⟩
    | false =>
      rw [if_neg (by decide)] at hst
      have HS := hid hst
      have HE := hid (endB_no h rfl)
      have HFX := hid hfx
      clear h hi hst hfx hmost hbig hlen hgl htop h8 h64 hr c9
      go_enter Tryd.func40, Tryd.ntmps40
      go_wp2_with fail
      with_reducible refine HE.out.mono ?_
      rintro e w2 ⟨rfl, h2⟩
      have H2 := hid h2
      clear h2 HE
      go_wp2
      go_ret
      exact ⟨0, rfl, .on HI.out HS.out H2.out rfl HFX.out rfl rfl⟩
  · rw [if_neg h0] at hst
    have hlB : ((left : Int) == 0) = false := by simp; omega
    have hlI : ¬ (left : Int) = 0 := by omega
    have HL := hid (dleft h hlen)
    obtain ⟨L, hL⟩ : ∃ L, L = l.length := ⟨_, rfl⟩
    rw [← hL] at HL
    by_cases hL0 : L = 0
    · rw [if_pos (by omega)] at hst
      have HS := hid hst
      rw [hL0] at HL
      clear h hi hst hfx hmost hbig hlen hgl htop h8 h64 hr hL hL0
      go_enter Tryd.func40, Tryd.ntmps40
      go_wp2_with fail
      with_reducible refine HL.out.mono ?_
      rintro e w2 ⟨rfl, h2⟩
      have H2 := hid h2
      clear h2 HL
      go_wp2
      go_ret
      exact ⟨5, rfl, .bad H2.out HS.out (fun _ => ⟨rfl, rfl, rfl⟩) ⟨rfl, rfl⟩⟩
    · rw [if_neg (by omega)] at hst
      have hLB : ((L : Int) == 0) = false := by simp; omega
      have hLI : ¬ (L : Int) = 0 := by omega
      by_cases hm : most = 0
      · subst hm
        rw [if_pos (by omega)] at hst
        have HS := hid hst
        clear h hi hst hfx hmost hbig hlen hgl htop h8 h64 hr hL hL0 h0
        go_enter Tryd.func40, Tryd.ntmps40
        go_wp2_with fail
        with_reducible refine HL.out.mono ?_
        rintro e w2 ⟨rfl, h2⟩
        have H2 := hid h2
        have d4 : w2.cell? ⟨p.b, p.o + 3 + 1, none⟩ = some (.int .i64 0) := dcell h2 4 _ rfl
        have d9 : w2.cell? ⟨p.b, p.o + 8 + 1, none⟩ = some (.int .i64 (left : Int)) := dcell h2 9 _ rfl
        have HQ := hid (fun k : Nat => share_no (w := w2.drewN k) p.b (p.o + 3) (left : Int) d4)
        clear h2 HL c9
        go_wp2
        go_quiet ((go_at_call 50; exact (HQ.out _).mono fun _ _ h => ⟨h.1, _, h.2.choose_spec.trans (drew_add _ _ _)⟩))
        go_wp2
        go_ret
        exact ⟨6, rfl, .bad (H2.out.drewN _) HS.out (fun h => by cases h) ⟨rfl, rfl⟩⟩
      · obtain ⟨r, rfl⟩ : ∃ r : Nat, room = (r : Int) := ⟨room.toNat, by omega⟩
        obtain ⟨S, hS⟩ : ∃ S, S = min (min left most) r := ⟨_, rfl⟩
        have hd0 : l.drop (l.length % 8) = l := by rw [h8]; rfl
        obtain ⟨m, hmm⟩ : ∃ m, m = readN l (S : Int) := ⟨_, rfl⟩
        have hm2 : m = min S (L / 8) := by rw [hmm, readN, hd0, hL]; simp
        have hm1 : 1 ≤ m := by omega
        have hmS : m ≤ left ∧ m ≤ most ∧ m ≤ r := by omega
        have hbl : (bytesOf l).length = L / 8 := by rw [hL, bytesOf]; simp
        obtain ⟨t, ht0⟩ : ∃ t, t = (bytesOf l).take m := ⟨_, rfl⟩
        have htl : t.length = m := by rw [ht0, List.length_take, hbl]; omega
        have hrun := sto_runs (M := M) (b := last) m left l o (by omega) hmS.1 (by omega)
        rw [← ht0] at hrun
        have HRD := fun (wz : World) (Rz : List Thing) (hz : Held w0 wz (rdmT (decP p ⟨wv, most, (r : Int), lv, 2, last, left, dist, hA, hB, hC, ht, hv, cl, cd, fl, fd, en⟩) v bs l :: Rz)) => dread hz (S : Int) hlen
        rw [hd0, ← hmm, ← ht0] at HRD
        have HRD := hid HRD
        have HT := hid htl
        have HRUN := hid hrun
        have HM := hid hmost
        have hgb : got.length < 1000000000 := by unfold bigD at hbig; omega
        have hmb : m < 1000000000 ∧ most < 1000000000 := by unfold bigD at hbig; omega
        have HFX := hid hfx
        have hml : (left : Int) - (m : Int) = ((left - m : Nat) : Int) := by omega
        clear h hi hst hfx hmost hbig hlen hgl h8 hL hL0 h0 hd0 hmm hm2 hbl ht0 htl hrun
        go_enter Tryd.func40, Tryd.ntmps40
        go_wp2_with fail
        with_reducible refine HL.out.mono ?_
        rintro e w2 ⟨rfl, h2⟩
        have H2 := hid h2
        have d4 : w2.cell? ⟨p.b, p.o + 3 + 1, none⟩ = some (.int .i64 (most : Int)) := dcell h2 4 _ rfl
        have d5 : w2.cell? ⟨p.b, p.o + 3 + 2, none⟩ = some (.int .i64 (r : Int)) := dcell h2 5 _ rfl
        have d9 : w2.cell? ⟨p.b, p.o + 8 + 1, none⟩ = some (.int .i64 (left : Int)) := dcell h2 9 _ rfl
        have HQ := fun k : Nat => share_yes (w := w2.drewN k) p.b (p.o + 3) left most r (by omega) d4 d5
        rw [← hS] at HQ
        have HQ := hid HQ
        clear h2 HL c9 hS
        go_wp2
        go_quiet ((go_at_call 50; exact (HQ.out _).mono fun _ _ h => ⟨h.1, _, h.2.choose_spec.trans (drew_add _ _ _)⟩))
        clear HQ d4 d5 d9
        generalize hw3 : w2.drewN _ = w3
        have H3 : Hid (Held w0 w3 _) := hid (by rw [← hw3]; exact H2.out.drewN _)
        have HRE := hid (HRD.out _ _ H3.out)
        clear H2 H3 hw3 HRD
        go_wp2_with fail
        with_reducible refine HRE.out.mono ?_
        rintro e w4 ⟨x, rfl, h4⟩
        obtain ⟨xo, xcap, rfl, _, _⟩ := h4.own.form
        have HA := hid (oadd_any o got t (.slice xo m xcap) m got.length (h4.perm (List.perm_middle (l₁ := [_, _, _])).symm) hgb hmS.2.1 (by dsimp only; omega) hmb.1 (by dsimp only; omega) (by dsimp only; omega))
        clear h4 HRE
        go_wp2_with fail
        with_reducible refine HA.out.mono ?_
        rintro e w5 ⟨rfl, wv', lv', h5⟩
        have H5 := hid h5
        have c9 : w5.cell? ⟨p.b, p.o + 8 + 1, none⟩ = some (.int .i64 (left : Int)) := dcell h5 9 _ rfl
        have f9 : w5.frozen? ⟨p.b, p.o + 8 + 1, none⟩ = false := dfroz h5 9
        clear h5 HA
        go_wp2
        go_ret
        have h6 := dset H5.out 9 (.int .i64 ((left - m : Nat) : Int)) ⟨wv', most - m, (r : Int) - m, lv', 2, last, left - m, dist, hA, hB, hC, ht, hv, cl, cd, fl, fd, en⟩ rfl
        refine ⟨0, rfl, ROut.outs (ls' := ls) (Ts' := Ts) (c' := ⟨wv', most - m, (r : Int) - m, lv', 2, last, left - m, dist, hA, hB, hC, ht, hv, cl, cd, fl, fd, en⟩) HI.out HRUN.out (by intro e; have := HT.out; rw [e] at this; simp at this; omega) ?_ ⟨rfl, rfl, rfl⟩ HFX.out (by rw [HT.out]; dsimp only; omega) (by rw [HT.out]; dsimp only; omega) (by dsimp only; omega)⟩
        unfold decM
        rw [List.length_append, HT.out]
        exact h6
set_option maxHeartbeats 3200000 in
theorem copyM_any (b : Bool) (lit dis : List Int) (n d : Nat) (h : Held w0 w (decM p c v bs l o got ls Ts Rs)) (hi : DInv M c ls Ts (.cop b lit dis n d) l o got) (hr : 0 < c.room) :
    Calls Tryd.prog 45 #[.pointer (some ⟨p.b, p.o, none⟩)] w fun e w' => RAns w0 w' p v bs M (.cop b lit dis n d) c l o got ls Ts Rs e := by
  have hcell := hi.cell
  have hfx := hi.fx
  have hph := hi.ok.ph
  have hmost := hi.most
  have hbig := hi.big
  have hgl := hi.got
  have htop := hi.top
  have HI := hid hi
  obtain ⟨wv, most, room, lv, st, last, left, dist, hA, hB, hC, ht, hv, cl, cd, fl, fd, en⟩ := c
  dsimp only at hr hmost htop
  obtain ⟨rfl, rfl, rfl, rfl, htb⟩ : st = 7 ∧ last = b ∧ left = n ∧ dist = d ∧ _ := hcell
  obtain ⟨_, h258, hd1, hd2, hd3⟩ := hph
  unfold decM at h
  have hst : stepM M l o (.cop last lit dis left dist) = copM M last lit dis left dist l o := rfl
  unfold copM at hst
  have c9 : w.cell? ⟨p.b, p.o + 8 + 1, none⟩ = some (.int .i64 (left : Int)) := dcell h 9 _ rfl
  have HFX := hid hfx
  by_cases h0 : left = 0
  · subst h0
    rw [if_pos rfl] at hst
    have HS := hid hst
    have c9' : w.cell? ⟨p.b, p.o + 8 + 1, none⟩ = some (.int .i64 0) := c9
    have c7 : w.cell? ⟨p.b, p.o + 7, none⟩ = some (.int .i64 7) := dcell h 7 _ rfl
    have f7 : w.frozen? ⟨p.b, p.o + 7, none⟩ = false := dfroz h 7
    have H1 := hid h
    have HTB := hid htb
    clear h hi hst hfx hmost hbig hgl htop hr c9 htb h258 hd1 hd2 hd3
    go_enter Tryd.func45, Tryd.ntmps45
    go_wp2
    go_ret
    have h3 := dset H1.out 7 (.int .i64 6) ⟨wv, most, room, lv, 6, last, 0, dist, hA, hB, hC, ht, hv, cl, cd, fl, fd, en⟩ rfl
    exact ⟨0, rfl, .on HI.out HS.out h3 ⟨rfl, rfl, HTB.out⟩ HFX.out rfl rfl⟩
  · rw [if_neg h0] at hst
    have hlB : ((left : Int) == 0) = false := by simp; omega
    have hlI : ¬ (left : Int) = 0 := by omega
    by_cases hm : most = 0
    · subst hm
      rw [if_pos (by omega)] at hst
      have HS := hid hst
      have H2 := hid h
      have d4 : w.cell? ⟨p.b, p.o + 3 + 1, none⟩ = some (.int .i64 0) := dcell h 4 _ rfl
      have HQ := hid (fun k : Nat => share_no (w := w.drewN k) p.b (p.o + 3) (left : Int) d4)
      clear h hi hst hfx hmost hbig hgl htop hr h0 htb h258 hd1 hd2 hd3
      go_enter Tryd.func45, Tryd.ntmps45
      go_wp2
      go_quiet ((go_at_call 50; exact (HQ.out _).mono fun _ _ h => ⟨h.1, _, h.2.choose_spec.trans (drew_add _ _ _)⟩))
      go_wp2
      go_ret
      exact ⟨6, rfl, .bad (H2.out.drewN _) HS.out (fun h => by cases h) ⟨rfl, rfl⟩⟩
    · obtain ⟨r, rfl⟩ : ∃ r : Nat, room = (r : Int) := ⟨room.toNat, by omega⟩
      obtain ⟨m, hS⟩ : ∃ S, S = min (min left most) r := ⟨_, rfl⟩
      have hmS : 1 ≤ m ∧ m ≤ left ∧ m ≤ most ∧ m ≤ r := by omega
      have d4 : w.cell? ⟨p.b, p.o + 3 + 1, none⟩ = some (.int .i64 (most : Int)) := dcell h 4 _ rfl
      have d5 : w.cell? ⟨p.b, p.o + 3 + 2, none⟩ = some (.int .i64 (r : Int)) := dcell h 5 _ rfl
      have HQ := fun k : Nat => share_yes (w := w.drewN k) p.b (p.o + 3) left most r (by omega) d4 d5
      rw [← hS] at HQ
      have HQ := hid HQ
      have hrun := cop_runs (M := M) (b := last) (lit := lit) (dist := dis) (d := dist) (l := l) (left - m) m o (by omega)
      rw [show left - m + m = left by omega, ext_out] at hrun
      have htl : (out o dist m).length = m := out_length o dist m
      have hgb : got.length < 1000000000 := by unfold bigD at hbig; omega
      have hmb : most < 4000000000000 := by unfold bigD at hbig; omega
      have hml : (left : Int) - (m : Int) = ((left - m : Nat) : Int) := by omega
      have HRP := hid (fun (wz : World) (Rz : List Thing) (hz : Held w0 wz (rdmT (decP p ⟨wv, most, (r : Int), lv, 7, last, left, dist, hA, hB, hC, ht, hv, cl, cd, fl, fd, en⟩) v bs l :: ownT 5 1 wv (keep o).length (u8s (keep o)) :: ownT 5 1 lv got.length (u8s got) :: Rz)) => orep_any o got got.length m dist hz hgb hmS.2.2.1 (by dsimp only; omega) hmS.1 (by omega) hd1 hd3 hd2 hmb (by dsimp only; omega))
      have HRUN := hid hrun
      have HT := hid htl
      have HM := hid hmost
      have HTB := hid htb
      have H1 := hid h
      have d10 : ∀ k, (w.drewN k).cell? ⟨p.b, p.o + 8 + 2, none⟩ = some (.int .i64 (dist : Int)) := fun k => dcell h 10 _ rfl
      clear h hi hst hfx hmost hbig hgl h0 htl hrun htb hS
      go_enter Tryd.func45, Tryd.ntmps45
      go_wp2
      go_quiet ((go_at_call 50; exact (HQ.out _).mono fun _ _ h => ⟨h.1, _, h.2.choose_spec.trans (drew_add _ _ _)⟩))
      clear HQ d4 d5
      go_wp2
      generalize hw3 : w.drewN _ = w3
      have e10 : w3.cell? ⟨p.b, p.o + 8 + 2, none⟩ = some (.int .i64 (dist : Int)) := by rw [← hw3]; exact d10 _
      have H3 : Hid (Held w0 w3 _) := hid (by rw [← hw3]; exact H1.out.drewN _)
      clear H1 d10 hw3
      go_still_tail 9, (by kernel_rfl)
      change wpList _ _ _ _ _ (World.drew _)
      have HRE := hid (HRP.out _ _ H3.out.drew)
      clear HRP H3 e10
      go_wp2_with fail
      with_reducible refine HRE.out.mono ?_
      rintro e w5 ⟨rfl, wv', lv', h5⟩
      have H5 := hid h5
      have c9 : w5.cell? ⟨p.b, p.o + 8 + 1, none⟩ = some (.int .i64 (left : Int)) := dcell h5 9 _ rfl
      have f9 : w5.frozen? ⟨p.b, p.o + 8 + 1, none⟩ = false := dfroz h5 9
      clear h5 HRE
      go_wp2
      go_ret
      have h6 := dset H5.out 9 (.int .i64 ((left - m : Nat) : Int)) ⟨wv', most - m, (r : Int) - m, lv', 7, last, left - m, dist, hA, hB, hC, ht, hv, cl, cd, fl, fd, en⟩ rfl
      refine ⟨0, rfl, ROut.outs (ls' := ls) (Ts' := Ts) (c' := ⟨wv', most - m, (r : Int) - m, lv', 7, last, left - m, dist, hA, hB, hC, ht, hv, cl, cd, fl, fd, en⟩) HI.out HRUN.out (by intro e; have := HT.out; rw [e] at this; simp at this; omega) ?_ ⟨rfl, rfl, rfl, rfl, HTB.out⟩ HFX.out (by rw [HT.out]; dsimp only; omega) (by rw [HT.out]; dsimp only; omega) (by dsimp only; omega)⟩
      unfold decM
      rw [List.length_append, HT.out, ← ext_out]
      exact h6
end
end Go.Proofs.YtbkbkmgogbgofaaDoor
