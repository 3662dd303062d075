/-
  The landed decoder's readToken.
-/
import Derived.Test.YtmmfkppkmgjljaaDoorZE23
import Derived.Test.YtmmfkppkmgjljaaDoorZE19
import Derived.Test.YtmmfkppkmgjljaaDoorZE20
import Derived.Test.YtmmfkppkmgjljaaDoorZE18
namespace Go.Proofs.YtmmfkppkmgjljaaDoor
set_option maxRecDepth 5000
open Go.RowKit
section
variable {w0 w : World} {Rs : List Thing} {p : Place} {c : DC} {v : Value} {bs l o got : List Nat} {ls : List Int} {Ts : List (List Int × Nat)} {M : Nat}
set_option maxHeartbeats 6400000 in
theorem token_any' (b : Bool) (lit dis : List Int) (h : Held w0 w (decM p c v bs l o got ls Ts Rs)) (hi : DInv M c ls Ts (.tok b lit dis) l o got) (hr : 0 < c.room) :
    Calls Tryd.prog 55 #[.pointer (some ⟨p.b, p.o, none⟩)] w fun e w' => RAns w0 w' p v bs M (.tok b lit dis) c l o got ls Ts Rs e := by
  have hcell := hi.cell
  have hfx := hi.fx
  have hph := hi.ok.ph
  have hb := hi.ok.bits
  have hlen := hi.len
  have hmost := hi.most
  have hbig := hi.big
  have hgl := hi.got
  have htop := hi.top
  have HI := hid hi
  have HMA := fun (k q : Nat) (l1 : List Nat) (hk : 256 < k) (hk2 : k < 288) (wz : World) (hz : Held w0 wz (decM p c v bs l1 o got ls Ts Rs)) (hl : l1 = l.drop q) (hst : stepM M l o (.tok b lit dis) = if 285 < k then .err 3 else matM b lit dis (k - 257) l1 o) => match_any b lit dis k q l hk hk2 hz hi hl hst
  have HMA := hid HMA
  obtain ⟨wv, most, room, lv, st, last, left, dist, hA, hB, hC, ht, hv, cl, cd, fl, fd, en⟩ := c
  dsimp only at hr hmost htop
  obtain ⟨rfl, rfl, t1, t2, rfl, rfl, m1, m2⟩ : st = 6 ∧ last = b ∧ ∃ t1 t2, cl = ptrO t1 ∧ cd = ptrO t2 ∧ (lit, t1) ∈ Ts ∧ (dis, t2) ∈ Ts := hcell
  obtain ⟨k1, k2, k3, k4⟩ := hph
  have HNX := hid (dnext lit t1 (dec_table m1 h.drew) (fine_of k1) hb hlen)
  have c16 : w.cell? ⟨p.b, p.o + 8 + 8, none⟩ = some (.pointer (some ⟨t1, 0, none⟩)) := dcell h 16 _ rfl
  have HB := hid (And.intro hb (And.intro hlen (And.intro (fine_of k1) k3)))
  have HM := hid (And.intro m1 m2)
  have HFX := hid hfx
  have HMO := hid (And.intro hmost (And.intro hbig (And.intro hgl htop)))
  clear h hi hfx hb hlen m1 m2 k1 k2 k3 k4 hmost hbig hgl htop
  go_enter Tryd.func55, Tryd.ntmps55
  go_wp2
  go_region_held3 (fun w' => w'.cell? ⟨p.b, p.o + 8 + 8, none⟩ = some (.pointer (some ⟨t1, 0, none⟩))) (first | exact d16 | exact c16 | go_keep)
    ((go_at_call 66; go_must (refine HNX.out.mono ?_); rintro e' w4 ⟨k, q, er, rfl, hh, HRI⟩; have H4 := hid (dec_table' HM.out.1 hh); have d16 : w4.cell? ⟨p.b, p.o + 8 + 8, none⟩ = some (.pointer (some ⟨t1, 0, none⟩)) := dcell hh 16 _ rfl; clear hh HNX))
  all_goals
    have hsy := symF_of HB.out.1 HB.out.2.2.1.1 HRI.out
    have hk0 : (0 : Int) ≤ (k : Int) := Int.natCast_nonneg _
    have hst := tok_sym (M := M) (b := last) (dist := dis) (out := o) hsy
    unfold tokR at hst
    dsimp only at hst
    clear d16
    by_cases he : er = 0
    · subst he
      have hk288 := (sym_facts hsy).1
      rw [if_neg (fun h => h rfl)] at hst
      clear hsy HRI
      by_cases h256 : k = 256
      · subst h256
        rw [if_pos rfl] at hst
        unfold endM at hst
        cases last with
        | true =>
          rw [if_pos rfl] at hst
          have HS := hid hst
          have HE := hid (endB_yes H4.out rfl)
          clear hst hk288 HMA
          go_wp2_with fail
          with_reducible refine HE.out.mono ?_
          rintro e w5 ⟨rfl, rfl⟩
          go_wp2
          go_ret
          exact ⟨8, rfl, .over H4.out HS.out ⟨rfl, rfl⟩⟩
        | false =>
          rw [if_neg (by decide)] at hst
          have HS := hid hst
          have HE := hid (endB_no H4.out rfl)
          clear hst hk288 HMA
          go_wp2_with fail
          with_reducible refine HE.out.mono ?_
          rintro e w5 ⟨rfl, h5⟩
          have H5 := hid h5
          clear h5 HE
          go_wp2
          go_ret
          exact ⟨0, rfl, .on HI.out HS.out H5.out rfl HFX.out rfl rfl⟩
      · have h256B : ((k : Int) == 256) = false := by simp; omega
        have h256I : ¬ (k : Int) = 256 := by omega
        rw [if_neg h256] at hst
        by_cases hlt : k < 256
        · have hgI : ¬ (256 : Int) < (k : Int) := by omega
          have hgB : decide ((256 : Int) < (k : Int)) = false := decide_eq_false hgI
          rw [if_pos hlt] at hst
          by_cases hm : most = 0
          · subst hm
            rw [if_pos (by have := HMO.out.1; omega)] at hst
            have HS := hid hst
            have d4 : w4.cell? ⟨p.b, p.o + 3 + 1, none⟩ = some (.int .i64 0) := dcell H4.out 4 _ rfl
            have HQ := hid (share_no (w := w4) p.b (p.o + 3) 1 d4)
            clear hst hlt h256 HMA hk288
            go_wp2_with fail
            with_reducible refine HQ.out.mono ?_
            rintro e w5 ⟨rfl, n5, rfl⟩
            go_wp2
            go_ret
            exact ⟨6, rfl, .bad (H4.out.drewN _) HS.out (fun h => by cases h) ⟨rfl, rfl⟩⟩
          · obtain ⟨r, rfl⟩ : ∃ r : Nat, room = (r : Int) := ⟨room.toNat, by omega⟩
            rw [if_neg (by have := HMO.out.1; omega)] at hst
            have HS := hid hst
            have d4 : w4.cell? ⟨p.b, p.o + 3 + 1, none⟩ = some (.int .i64 (most : Int)) := dcell H4.out 4 _ rfl
            have d5 : w4.cell? ⟨p.b, p.o + 3 + 2, none⟩ = some (.int .i64 (r : Int)) := dcell H4.out 5 _ rfl
            have HQ := share_yes (w := w4) p.b (p.o + 3) 1 most r (by omega) d4 d5
            rw [show min (min 1 most) r = 1 by omega, show ((1 : Nat) : Int) = 1 from rfl] at HQ
            have HQ := hid HQ
            have hmb : most < 4000000000000 ∧ got.length < 1000000000 := by have h1 := HMO.out; unfold bigD at h1; omega
            have hkw : IntKind.u8.wrap (k : Int) = (k : Int) := by simp [IntKind.wrap, IntKind.signed, IntKind.bits]; omega
            have hm1 : 1 ≤ most ∧ 1 ≤ r := by omega
            have htop2 := HMO.out.2.2.2
            clear hst hlt h256 HMA hk288 hm
            go_wp2_with fail
            with_reducible refine HQ.out.mono ?_
            rintro e w5 ⟨rfl, n5, rfl⟩
            have h5 : Held w0 ((w4.drewN n5).alloc (.cells #[.int .u8 (k : Int)] 5)) (ownT 5 1 (.slice (some ⟨w4.heap.size, 0, none⟩) 1 1) 1 (u8s [k]) :: _) := (H4.out.drewN n5).lit 5 1 (u8s [k]) 1 (by decide) rfl
            have HA := hid (oadd_any o got [k] (.slice (some ⟨w4.heap.size, 0, none⟩) 1 1) 1 got.length (h5.perm (List.perm_middle (l₁ := [_, _, _])).symm) hmb.2 hm1.1 (by dsimp only; omega) (by decide) hmb.1 (by dsimp only; exact htop2))
            clear h5 HQ d4 d5
            go_wp2_with fail
            with_reducible refine HA.out.mono ?_
            rintro e w6 ⟨rfl, wv', lv', h6⟩
            have H6 := hid h6
            clear h6 HA
            go_wp2
            go_ret
            refine ⟨0, rfl, ROut.outs (t := [k]) (ls' := ls) (Ts' := Ts) (c' := ⟨wv', most - 1, (r : Int) - ((1 : Nat) : Int), lv', 6, last, left, dist, hA, hB, hC, ht, hv, ptrO t1, ptrO t2, fl, fd, en⟩) HI.out (.one HS.out) (by simp) ?_ ⟨rfl, rfl, t1, t2, rfl, rfl, HM.out.1, HM.out.2⟩ HFX.out (by simp only [List.length_cons, List.length_nil]; omega) (by simp only [List.length_cons, List.length_nil]; omega) (by dsimp only; omega)⟩
            unfold decM
            rw [List.length_append]
            exact H6.out
        · have hgI : (256 : Int) < (k : Int) := by omega
          have hgB : decide ((256 : Int) < (k : Int)) = true := decide_eq_true hgI
          rw [if_neg hlt] at hst
          have HMX := hid (HMA.out k q _ (by omega) (by have := HB.out.2.2.2; omega) w4 H4.out rfl hst)
          clear hst hlt h256 HMA hk288
          go_wp2_with fail
          with_reducible refine HMX.out.mono ?_
          rintro e w5 ⟨er2, rfl, hR⟩
          have HR := hid hR
          clear hR HMX
          go_wp2
          go_ret
          exact ⟨er2, rfl, HR.out⟩
    · rw [if_pos he] at hst
      have HE := hid hst
      have heB : ((er : Int) == 0) = false := by simp; omega
      have heI : ¬ (er : Int) = 0 := by omega
      clear hsy he HRI hst HMA
      go_wp2
      go_ret
      exact ⟨er, rfl, .bad H4.out HE.out (fun _ => ⟨rfl, rfl, rfl⟩) ⟨rfl, rfl⟩⟩
end
end Go.Proofs.YtmmfkppkmgjljaaDoor
/-
  The landed decoder's read, failed, finish.
-/
namespace Go.Proofs.YtmmfkppkmgjljaaDoor
set_option maxRecDepth 5000
open Go.RowKit
section
variable {w0 w : World} {Rs : List Thing} {p : Place} {c : DC} {v : Value} {bs l o got : List Nat} {ls : List Int} {Ts : List (List Int × Nat)} {M : Nat}
set_option maxHeartbeats 3200000 in
theorem read_all (ph : Ph) (hG : GlobI w0) (h : Held w0 w (decM p c v bs l o got ls Ts Rs)) (hi : DInv M c ls Ts ph l o got) (hr : 0 < c.room) :
    Calls Tryd.prog 41 #[.pointer (some ⟨p.b, p.o, none⟩)] w fun e w' => RAns w0 w' p v bs M ph c l o got ls Ts Rs e := by
  have c7 : w.cell? ⟨p.b, p.o + 7, none⟩ = some (.int .i64 (c.st : Int)) := dcell h 7 _ rfl
  have hcell := hi.cell
  cases ph with
  | hd =>
    have HC := hid (header_any h hi)
    rw [show c.st = 0 from hcell] at c7
    clear h hi hr hcell
    go_enter Tryd.func41, Tryd.ntmps41
    go_wp2_with fail
    with_reducible refine HC.out.mono ?_
    rintro e w2 ⟨er, rfl, hR⟩
    have HR := hid hR
    clear hR HC
    go_wp2
    go_ret
    exact ⟨er, rfl, HR.out⟩
  | sz b =>
    have HC := hid (size_any' b h hi)
    rw [show c.st = 1 from hcell.1] at c7
    clear h hi hr hcell
    go_enter Tryd.func41, Tryd.ntmps41
    go_wp2_with fail
    with_reducible refine HC.out.mono ?_
    rintro e w2 ⟨er, rfl, hR⟩
    have HR := hid hR
    clear hR HC
    go_wp2
    go_ret
    exact ⟨er, rfl, HR.out⟩
  | sto b n =>
    have HC := hid (stored_any' b n h hi hr)
    rw [show c.st = 2 from hcell.1] at c7
    clear h hi hr hcell
    go_enter Tryd.func41, Tryd.ntmps41
    go_wp2_with fail
    with_reducible refine HC.out.mono ?_
    rintro e w2 ⟨er, rfl, hR⟩
    have HR := hid hR
    clear hR HC
    go_wp2
    go_ret
    exact ⟨er, rfl, HR.out⟩
  | cnt b =>
    have HC := hid (counts_any b h hi)
    rw [show c.st = 3 from hcell.1] at c7
    clear h hi hr hcell
    go_enter Tryd.func41, Tryd.ntmps41
    go_wp2_with fail
    with_reducible refine HC.out.mono ?_
    rintro e w2 ⟨er, rfl, hR⟩
    have HR := hid hR
    clear hR HC
    go_wp2
    go_ret
    exact ⟨er, rfl, HR.out⟩
  | thd b A B C =>
    have HC := hid (third_any b A B C hG h hi)
    rw [show c.st = 4 from hcell.1] at c7
    clear h hi hr hcell
    go_enter Tryd.func41, Tryd.ntmps41
    go_wp2_with fail
    with_reducible refine HC.out.mono ?_
    rintro e w2 ⟨er, rfl, hR⟩
    have HR := hid hR
    clear hR HC
    go_wp2
    go_ret
    exact ⟨er, rfl, HR.out⟩
  | len b A B head lx =>
    have HC := hid (lengths_any b A B head lx hG h hi)
    rw [show c.st = 5 from hcell.1] at c7
    clear h hi hr hcell
    go_enter Tryd.func41, Tryd.ntmps41
    go_wp2_with fail
    with_reducible refine HC.out.mono ?_
    rintro e w2 ⟨er, rfl, hR⟩
    have HR := hid hR
    clear hR HC
    go_wp2
    go_ret
    exact ⟨er, rfl, HR.out⟩
  | tok b lit dis =>
    have HC := hid (token_any' b lit dis h hi hr)
    rw [show c.st = 6 from hcell.1] at c7
    clear h hi hr hcell
    go_enter Tryd.func41, Tryd.ntmps41
    go_wp2_with fail
    with_reducible refine HC.out.mono ?_
    rintro e w2 ⟨er, rfl, hR⟩
    have HR := hid hR
    clear hR HC
    go_wp2
    go_ret
    exact ⟨er, rfl, HR.out⟩
  | cop b lit dis n d =>
    have HC := hid (copyM_any b lit dis n d h hi hr)
    rw [show c.st = 7 from hcell.1] at c7
    clear h hi hr hcell
    go_enter Tryd.func41, Tryd.ntmps41
    go_wp2_with fail
    with_reducible refine HC.out.mono ?_
    rintro e w2 ⟨er, rfl, hR⟩
    have HR := hid hR
    clear hR HC
    go_wp2
    go_ret
    exact ⟨er, rfl, HR.out⟩
def failB (c : DC) : Bool := decide (c.st = 8 ∧ c.en ≠ 8)
theorem failed_any (h : Held w0 w (rdmT (decP p c) v bs l :: Rs)) :
    Calls Tryd.prog 26 #[.pointer (some ⟨p.b, p.o, none⟩)] w fun e w' => e = .returned (.bool (failB c)) ∧ w' = w := by
  obtain ⟨wv, most, room, lv, st, last, left, dist, hA, hB, hC, ht, hv, cl, cd, fl, fd, en⟩ := c
  have c7 : w.cell? ⟨p.b, p.o + 7, none⟩ = some (.int .i64 (st : Int)) := dcell h 7 _ rfl
  have c20 : w.cell? ⟨p.b, p.o + 20, none⟩ = some (.int .i64 (en : Int)) := dcell h 20 _ rfl
  unfold failB
  dsimp only
  clear h
  by_cases h1 : st = 8
  · subst h1
    by_cases h2 : en = 8
    · subst h2
      have c7' : w.cell? ⟨p.b, p.o + 7, none⟩ = some (.int .i64 8) := c7
      have c20' : w.cell? ⟨p.b, p.o + 20, none⟩ = some (.int .i64 8) := c20
      rw [show decide ((8 : Nat) = 8 ∧ (8 : Nat) ≠ 8) = false from by decide]
      clear c7 c20
      go_enter Tryd.func26, Tryd.ntmps26
      go_wp2
      go_ret
      exact ⟨rfl, rfl⟩
    · have c7' : w.cell? ⟨p.b, p.o + 7, none⟩ = some (.int .i64 8) := c7
      have hB2 : ((en : Int) == 8) = false := by simp; omega
      have hI2 : ¬ (en : Int) = 8 := by omega
      have hN2 : ((en : Int) != 8) = true := by simp; omega
      have hD : decide ((8 : Nat) = 8 ∧ en ≠ 8) = true := by simp [h2]
      rw [hD]
      clear c7 h2 hD
      go_enter Tryd.func26, Tryd.ntmps26
      go_wp2
      go_ret
      exact ⟨rfl, rfl⟩
  · have hB1 : ((st : Int) == 8) = false := by simp; omega
    have hI1 : ¬ (st : Int) = 8 := by omega
    have hD : decide (st = 8 ∧ en ≠ 8) = false := by simp [h1]
    rw [hD]
    clear h1 hD
    go_enter Tryd.func26, Tryd.ntmps26
    go_wp2
    go_ret
    exact ⟨rfl, rfl⟩
/-! ### The reader's three cells -/
theorem rdm_remark {q : Place} (h : Held w0 w (rdmT q v bs l :: Rs)) : ∃ (ao : Option Addr) (cap s cc : Nat) (bs1 : List Nat), RdFact l bs1 s cc ∧ BlkP w q [.slice ao bs1.length cap, .int .u64 (s : Int), .int .i64 (cc : Int)] ∧ Held w0 w (rdmT q (.slice ao bs1.length cap) bs1 l :: Rs) := by
  obtain ⟨ao, n, cap, s, cc, h1⟩ := rdm_open h
  obtain ⟨bs1, hf, h2⟩ := rds_now h1.swap
  obtain ⟨a2, cap2, e, _, _⟩ := h2.own.form
  simp only [Value.slice.injEq] at e
  obtain ⟨_, rfl, _⟩ := e
  exact ⟨ao, cap, s, cc, bs1, hf, h1.objp, rdm_close (rds_mark hf h2).swap⟩
theorem rdm_restore {q : Place} {bs1 l1 : List Nat} {u : Value} {s cc : Nat} (hf : RdFact l bs1 s cc) (h : Held w0 w (rdmT q u bs1 l1 :: Rs)) : Held w0 (((w.setCell ⟨q.b, q.o, none⟩ u).setCell ⟨q.b, q.o + 1, none⟩ (.int .u64 (s : Int))).setCell ⟨q.b, q.o + 2, none⟩ (.int .i64 (cc : Int))) (rdmT q u bs1 l :: Rs) := by
  obtain ⟨ao, n, cap, s1, c1, h1⟩ := rdm_open h
  have h2 := rds_back h1.swap
  have h3 := ((h2.swap.setObjP0 u).setObjP 1 (.int .u64 (s : Int))).setObjP 2 (.int .i64 (cc : Int))
  exact rdm_close (rds_mark hf h3.swap).swap
theorem rdm_empty {q : Place} (h : Held w0 w (rdmT q v bs l :: Rs)) : Held w0 (((w.setCell ⟨q.b, q.o, none⟩ (.slice none 0 0)).setCell ⟨q.b, q.o + 1, none⟩ (.int .u64 0)).setCell ⟨q.b, q.o + 2, none⟩ (.int .i64 0)) (rdmT q (.slice none 0 0) [] [] :: Rs) := by
  obtain ⟨ao, n, cap, s1, c1, h1⟩ := rdm_open h
  have h3 := ((h1.setObjP0 (.slice none 0 0)).setObjP 1 (.int .u64 0)).setObjP 2 (.int .i64 0)
  have h4 := h3.swap.drop.nil 5 1
  have hf : RdFact [] [] 0 0 := ⟨by decide, (fun b hb => by cases hb), by decide, rfl⟩
  have h5 : Held w0 _ (rdsT (.slice none 0 0) [] (.slice none 0 0) [] 0 0 :: _) := rds_mark hf h4
  exact rdm_close (s := 0) (c := 0) h5.swap
def finC (c : DC) (e : Nat) : DC := ⟨.slice none 0 0, c.most, c.room, c.lv, 8, false, 0, 0, 0, 0, 0, none, .slice none 0 0, none, none, none, none, e⟩
set_option maxHeartbeats 3200000 in
theorem finish_any (er : Nat) (h : Held w0 w (rdmT (decP p c) v bs l :: Rs)) :
    Calls Tryd.prog 42 #[.pointer (some ⟨p.b, p.o, none⟩), .int .i64 (er : Int)] w fun e w' => e = .returned (.tuple #[]) ∧ ∃ v' bs', Held w0 w' (rdmT (decP p (finC c er)) v' bs' (if er = 8 then l else []) :: Rs) := by
  obtain ⟨wv, most, room, lv, st, last, left, dist, hA, hB, hC, ht, hv, cl, cd, fl, fd, en⟩ := c
  obtain ⟨lr, hlr⟩ : ∃ lr, lr = if er = 8 then l else [] := ⟨_, rfl⟩
  rw [← hlr]
  have HLR := hid hlr
  have c7 : w.cell? ⟨p.b, p.o + 7, none⟩ = some (.int .i64 (st : Int)) := dcell h 7 _ rfl
  have c20 : w.cell? ⟨p.b, p.o + 20, none⟩ = some (.int .i64 (en : Int)) := dcell h 20 _ rfl
  have f7 : w.frozen? ⟨p.b, p.o + 7, none⟩ = false := dfroz h 7
  have f20 : w.frozen? ⟨p.b, p.o + 20, none⟩ = false := dfroz h 20
  have h2 := dset (dset h 7 (.int .i64 8) ⟨wv, most, room, lv, 8, last, left, dist, hA, hB, hC, ht, hv, cl, cd, fl, fd, en⟩ rfl) 20 (.int .i64 (er : Int)) ⟨wv, most, room, lv, 8, last, left, dist, hA, hB, hC, ht, hv, cl, cd, fl, fd, er⟩ rfl
  have H2 := hid h2
  clear h h2 hlr
  go_enter Tryd.func42, Tryd.ntmps42
  go_wp2_with (first
    | ((with_reducible show wpList _ _ _ (⟨none, .store 65 _ _, _, _, _, _⟩ :: _) _ _); go_must (refine wpList_store_dec rfl 65 (.tmp 16) (.tmp 13) rfl H2.out 8 [.bool false, .int .i64 0, .int .i64 0, .int .i64 0, .int .i64 0, .int .i64 0, .pointer none, .slice none 0 0, .pointer none, .pointer none] rfl rfl (by kernel_rfl) rfl ⟨wv, most, room, lv, 8, false, 0, 0, 0, 0, 0, none, .slice none 0 0, none, none, fl, fd, er⟩ rfl ⟨by decide, Nat.le_of_ble_eq_true rfl⟩ ?_); intro w3 h3; have H3 := hid h3; clear h3)
    | ((with_reducible show wpList _ _ _ (⟨none, .store 63 _ _, _, _, _, _⟩ :: _) _ _); go_must (refine wpList_store_dec rfl 63 (.tmp 18) (.tmp 14) rfl H3.out 18 [.pointer none, .pointer none] rfl rfl (by kernel_rfl) rfl ⟨wv, most, room, lv, 8, false, 0, 0, 0, 0, 0, none, .slice none 0 0, none, none, none, none, er⟩ rfl ⟨by decide, Nat.le_of_ble_eq_true rfl⟩ ?_); intro w4 h4; have H4 := hid h4; clear h4)
    | fail)
  have HCL := hid (oclose_any H4.out)
  dsimp only at HCL
  clear c7 c20 f7 f20
  with_reducible refine HCL.out.mono ?_
  rintro e w5 ⟨rfl, h5⟩
  have H5 := hid h5
  have HFA := hid (failed_any h5)
  clear h5 HCL
  go_wp2_with fail
  with_reducible refine HFA.out.mono ?_
  rintro e w6 ⟨rfl, rfl⟩
  clear HFA
  unfold failB
  dsimp only
  by_cases h8 : er = 8
  · subst h8
    rw [show decide ((8 : Nat) = 8 ∧ (8 : Nat) ≠ 8) = false from by decide]
    go_wp2
    go_end0
    have e : lr = l := by have h := HLR.out; simpa using h
    exact ⟨rfl, v, bs, by rw [e]; exact H5.out⟩
  · rw [show decide ((8 : Nat) = 8 ∧ er ≠ 8) = true by simp [h8]]
    have HE : Hid (lr = []) := hid (HLR.out.trans (if_neg h8))
    obtain ⟨ao, cap, s, cc, bs1, hf, hblk, h7⟩ := rdm_remark H5.out
    have c0 := hblk.cell0 rfl
    have c1 := hblk.cell (i := 1) rfl
    have c2 := hblk.cell (i := 2) rfl
    have f0 := hblk.frozen0
    have f1 := hblk.frozen 1
    have f2 := hblk.frozen 2
    unfold decP at c0 c1 c2 f0 f1 f2
    dsimp only at c0 c1 c2 f0 f1 f2
    clear hf hblk h7 h8
    go_wp2
    go_end0
    exact ⟨rfl, .slice none 0 0, [], by rw [HE.out]; exact rdm_empty H5.out⟩
end
end Go.Proofs.YtmmfkppkmgjljaaDoor
/-
  The landed decoder's step.
-/
namespace Go.Proofs.YtmmfkppkmgjljaaDoor
set_option maxRecDepth 5000
open Go.RowKit
structure FInv (c : DC) (e : Nat) (l : List Nat) : Prop where
  st : c.st = 8
  en : c.en = e
  kind : e = 2 ∨ e = 3 ∨ e = 6 ∨ e = 8
  bits : isBits l
  len : l.length < bigD
  left : e ≠ 8 → l = []
inductive SOut (w0 w' : World) (p : Place) (M : Nat) (ph : Ph) (c : DC) (l o got : List Nat) (ls : List Int) (Ts : List (List Int × Nat)) (Rs : List Thing) : Nat → Prop
  | go {c' : DC} {v' : Value} {bs' l' o' t : List Nat} {ls' : List Int} {Ts' : List (List Int × Nat)} {ph' p1 : Ph} {l1 o1 : List Nat} (H : Held w0 w' (decM p c' v' bs' l' o' (got ++ t) ls' Ts' Rs)) (hi : DInv M c' ls' Ts' ph' l' o' (got ++ t))
      (hs : stepM M l o ph = .go p1 l1 o1) (hr : Reach M p1 l1 o1 ph' l' o') (ho : o' = o ++ t) (hroom : c'.room + t.length = c.room) : SOut w0 w' p M ph c l o got ls Ts Rs 0
  | wait {v' : Value} {bs' : List Nat} (H : Held w0 w' (decM p c v' bs' l o got ls Ts Rs)) (hs : stepM M l o ph = .err 5) : SOut w0 w' p M ph c l o got ls Ts Rs 5
  | fin {c' : DC} {v' : Value} {bs' l' : List Nat} {Ts' : List (List Int × Nat)} {e : Nat} (H : Held w0 w' (decM p c' v' bs' l' [] got [] Ts' Rs)) (hf : FInv c' e l') (hs : stepM M l o ph = .done l' ∧ e = 8 ∨ stepM M l o ph = .err e ∧ l' = []) (hroom : c'.room = c.room) : SOut w0 w' p M ph c l o got ls Ts Rs e
section
variable {w0 w : World} {Rs : List Thing} {p : Place} {c : DC} {v : Value} {bs l o got : List Nat} {ls : List Int} {Ts : List (List Int × Nat)} {M : Nat}
theorem step_fin (h : Held w0 w (decM p c v bs l o got ls Ts Rs)) (e : Nat) (hs : c.st = 8) (he : c.en = e) :
    Calls Tryd.prog 28 #[.pointer (some ⟨p.b, p.o, none⟩)] w fun e' w' => e' = .returned (.int .i64 (e : Int)) ∧ w' = w := by
  have c7 : w.cell? ⟨p.b, p.o + 7, none⟩ = some (.int .i64 8) := by
    have := dcell h 7 _ rfl
    rw [this, hs]; rfl
  have c20 : w.cell? ⟨p.b, p.o + 20, none⟩ = some (.int .i64 (e : Int)) := by
    rw [← he]; exact dcell h 20 _ rfl
  clear h hs he
  go_enter Tryd.func28, Tryd.ntmps28
  go_wp2
  go_ret
  exact ⟨rfl, rfl⟩
theorem endM_done {b : Bool} {l o l' : List Nat} (h : endM b l o = .done l') : l' = l := by
  unfold endM at h
  split at h
  · cases h; rfl
  · cases h
theorem done_bits {M : Nat} {ph : Ph} {l o l' : List Nat} (hb : isBits l) (h : stepM M l o ph = .done l') : isBits l' ∧ l'.length ≤ l.length := by
  have key : ∀ n, l' = l.drop n → isBits l' ∧ l'.length ≤ l.length := fun n e => by rw [e]; exact ⟨isBits_drop hb n, by rw [List.length_drop]; omega⟩
  cases ph with
  | hd =>
    have h' : hdM l o = .done l' := h
    unfold hdM at h'
    split at h'
    · cases h'
    · split at h'
      · cases h'
      · split at h'
        · cases h'
        · split at h' <;> cases h'
  | sz b =>
    have h' : szM b l o = .done l' := h
    unfold szM szR at h'
    split at h'
    · cases h'
    · split at h' <;> cases h'
  | sto b n =>
    have h' : stoM M b n l o = .done l' := h
    unfold stoM at h'
    split at h'
    · exact key 0 (by rw [endM_done h']; rfl)
    · split at h'
      · cases h'
      · split at h' <;> cases h'
  | cnt b =>
    have h' : cntM b l o = .done l' := h
    unfold cntM at h'
    split at h'
    · cases h'
    · split at h' <;> cases h'
  | thd b A B C =>
    have h' : thdM b A B C l o = .done l' := h
    unfold thdM at h'
    split at h'
    · cases h'
    · split at h' <;> cases h'
  | len b A B head ls =>
    have h' : lenM b A B head ls l o = .done l' := h
    unfold lenM lenR at h'
    split at h'
    · split at h' <;> cases h'
    · split at h' <;> cases h'
  | tok b lit dist =>
    have h' : tokR M b lit dist l o (symF lit l) = .done l' := h
    unfold tokR at h'
    split at h'
    · cases h'
    · split at h'
      · exact key _ (endM_done h')
      · split at h'
        · split at h' <;> cases h'
        · split at h'
          · cases h'
          · unfold matM at h'
            split at h'
            · cases h'
            · unfold matR at h'
              split at h'
              · cases h'
              · unfold farM at h'
                split at h'
                · cases h'
                · split at h'
                  · cases h'
                  · split at h' <;> cases h'
  | cop b lit dist n d =>
    have h' : copM M b lit dist n d l o = .done l' := h
    unfold copM at h'
    split at h'
    · cases h'
    · split at h' <;> cases h'
theorem fin_things {c' : DC} {v' : Value} {bs' l' : List Nat} {Ts' : List (List Int × Nat)} (hw : c'.wv = .slice none 0 0) (hh : c'.hv = .slice none 0 0) {wv hv : Value} {n m : Nat} {xs ys : List Value}
    (h : Held w0 w (rdmT (decP p c') v' bs' l' :: ownT 5 1 wv n xs :: ownT 5 1 c'.lv got.length (u8s got) :: ownT 3 1 hv m ys :: tabsT Ts' :: Rs)) : Held w0 w (decM p c' v' bs' l' [] got [] Ts' Rs) := by
  unfold decM
  rw [hw, hh]
  have h1 := dec_nils h
  have h2 := (h1.swap.drop.nil 5 1).swap
  exact h2
theorem reach_st {ph : Ph} (h : PhC c ls Ts ph) : c.st ≠ 8 := by
  cases ph with
  | hd => rw [show c.st = 0 from h]; decide
  | sz b => rw [show c.st = 1 from h.1]; decide
  | sto b n => rw [show c.st = 2 from h.1]; decide
  | cnt b => rw [show c.st = 3 from h.1]; decide
  | thd b A B C => rw [show c.st = 4 from h.1]; decide
  | len b A B head l => rw [show c.st = 5 from h.1]; decide
  | tok b lit dist => rw [show c.st = 6 from h.1]; decide
  | cop b lit dist n d => rw [show c.st = 7 from h.1]; decide
set_option maxHeartbeats 6400000 in
theorem step_run (ph : Ph) (hG : GlobI w0) (h : Held w0 w (decM p c v bs l o got ls Ts Rs)) (hi : DInv M c ls Ts ph l o got) (hr : 0 < c.room) :
    Calls Tryd.prog 28 #[.pointer (some ⟨p.b, p.o, none⟩)] w fun e w' => ∃ er : Nat, e = .returned (.int .i64 (er : Int)) ∧ SOut w0 w' p M ph c l o got ls Ts Rs er := by
  have h8 := reach_st hi.cell
  have hI8 : ¬ (c.st : Int) = 8 := by omega
  have hB8 : ((c.st : Int) == 8) = false := by simp; omega
  obtain ⟨ao, cap, s, cc, bs1, hf, hblk, h1⟩ := rdm_remark h
  obtain ⟨n1, hn1⟩ : ∃ n, n = bs1.length := ⟨_, rfl⟩
  rw [← hn1] at hblk h1
  have c0 := hblk.cell0 rfl
  have c1 := hblk.cell (i := 1) rfl
  have c2 := hblk.cell (i := 2) rfl
  unfold decP at c0 c1 c2
  dsimp only at c0 c1 c2
  have c7 : w.cell? ⟨p.b, p.o + 7, none⟩ = some (.int .i64 (c.st : Int)) := dcell h 7 _ rfl
  have h2 := h1.newObj [.slice ao n1 cap, .int .u64 (s : Int), .int .i64 (cc : Int)] 53
  have h3 : Held w0 (w.alloc (.cells #[.slice ao n1 cap, .int .u64 (s : Int), .int .i64 (cc : Int)] 53)) (decM p c (.slice ao n1 cap) bs1 l o got ls Ts (objT w.heap.size [.slice ao n1 cap, .int .u64 (s : Int), .int .i64 (cc : Int)] 53 :: Rs)) := by
    unfold decM
    exact h2.perm (List.perm_middle (l₁ := [_, _, _, _, _])).symm
  have HRD := hid (read_all ph hG h3 hi hr)
  have HF := hid hf
  have HI := hid hi
  have HN := hid hn1
  generalize c.st = st at *
  clear h h1 h2 h3 hi hf hblk hr h8 hn1
  go_enter Tryd.func28, Tryd.ntmps28
  go_wp2_with fail
  with_reducible refine HRD.out.mono ?_
  rintro e w2 ⟨er, rfl, hR⟩
  clear HRD c0 c1 c2 c7
  cases hR with
  | go H hi hs hr ho hroom =>
    rename_i c' l' o' t ls' Ts' ph' p1 l1 o1
    have HH := hid (And.intro H (And.intro hi (And.intro hs (And.intro hr (And.intro ho hroom)))))
    clear H hi hs hr ho hroom
    go_wp2
    go_ret
    obtain ⟨H, hi, hs, hr, ho, hroom⟩ := HH.out
    exact ⟨0, rfl, .go (H.perm (List.perm_middle (l₁ := [_, _, _, _, _]))).drop hi hs hr ho hroom⟩
  | over H hs hroom =>
    rename_i c' l'
    have HFI := finish_any 8 H
    rw [show (((8 : Nat)) : Int) = 8 from rfl, if_pos rfl] at HFI
    have HFI := hid HFI
    have HH := hid (And.intro hs hroom)
    clear H hs hroom
    go_wp2_with fail
    with_reducible refine HFI.out.mono ?_
    rintro e w3 ⟨rfl, v', bs', h3⟩
    have H3 := hid (fin_things (Rs := objT w.heap.size [.slice ao n1 cap, .int .u64 (s : Int), .int .i64 (cc : Int)] 53 :: Rs) (c' := finC c' 8) rfl rfl h3)
    clear h3 HFI
    go_wp2
    go_ret
    obtain ⟨hb, hl⟩ := done_bits HI.out.ok.bits HH.out.1
    exact ⟨8, rfl, .fin (c' := finC c' 8) (H3.out.perm (List.perm_middle (l₁ := [_, _, _, _, _]))).drop ⟨rfl, rfl, by decide, hb, Nat.lt_of_le_of_lt hl HI.out.len, fun h => absurd rfl h⟩ (.inl ⟨HH.out.1, rfl⟩) HH.out.2.1⟩
  | bad H hs h5 hroom =>
    rename_i c' l' ls' Ts'
    by_cases h : er = 5
    · subst h
      obtain ⟨rfl, rfl, rfl⟩ := h5 rfl
      have b0 := (H.at6 : Held w0 w2 (objT w.heap.size [.slice ao n1 cap, .int .u64 (s : Int), .int .i64 (cc : Int)] 53 :: _)).obj.cell (i := 0) rfl
      have b1 := (H.at6 : Held w0 w2 (objT w.heap.size [.slice ao n1 cap, .int .u64 (s : Int), .int .i64 (cc : Int)] 53 :: _)).obj.cell (i := 1) rfl
      have b2 := (H.at6 : Held w0 w2 (objT w.heap.size [.slice ao n1 cap, .int .u64 (s : Int), .int .i64 (cc : Int)] 53 :: _)).obj.cell (i := 2) rfl
      obtain ⟨a3, n3, cap3, s3, cc3, h6⟩ := rdm_open H
      have hblk := h6.objp
      have c0 := hblk.cell0 rfl
      have c1 := hblk.cell (i := 1) rfl
      have c2 := hblk.cell (i := 2) rfl
      have f0 := hblk.frozen0
      have f1 := hblk.frozen 1
      have f2 := hblk.frozen 2
      unfold decP at c0 c1 c2 f0 f1 f2
      dsimp only at c0 c1 c2 f0 f1 f2
      have H7 := hid (rdm_restore HF.out H)
      have HS := hid hs
      unfold decP at H7
      dsimp only at H7
      clear H hs h5 hroom h6 hblk
      go_wp2
      go_ret
      exact ⟨5, rfl, .wait (H7.out.perm (List.perm_middle (l₁ := [_, _, _, _, _]))).drop HS.out⟩
    · have hk := stepM_err hs
      have hz : er ≠ 0 := by omega
      have hB0 : ((er : Int) == 0) = false := by simp; omega
      have hB5 : ((er : Int) == 5) = false := by simp; omega
      have hI0 : ¬ (er : Int) = 0 := by omega
      have hI5 : ¬ (er : Int) = 5 := by omega
      have h88 : er ≠ 8 := by omega
      have HFI := finish_any er H
      rw [if_neg h88] at HFI
      have HFI := hid HFI
      have HH := hid (And.intro hs (And.intro hroom (And.intro hk h)))
      clear H hs h5 hroom h hk hz h88
      go_wp2_with fail
      with_reducible refine HFI.out.mono ?_
      rintro e w3 ⟨rfl, v', bs', h3⟩
      have H3 := hid (fin_things (Rs := objT w.heap.size [.slice ao n1 cap, .int .u64 (s : Int), .int .i64 (cc : Int)] 53 :: Rs) (c' := finC c' er) rfl rfl h3)
      clear h3 HFI
      go_wp2
      go_ret
      obtain ⟨hs, hroom, hk, h5⟩ := HH.out
      exact ⟨er, rfl, .fin (c' := finC c' er) (H3.out.perm (List.perm_middle (l₁ := [_, _, _, _, _]))).drop ⟨rfl, rfl, by omega, (fun b hb => by cases hb), by decide, (fun _ => rfl)⟩ (.inr ⟨hs, rfl⟩) hroom.1⟩
end
end Go.Proofs.YtmmfkppkmgjljaaDoor
