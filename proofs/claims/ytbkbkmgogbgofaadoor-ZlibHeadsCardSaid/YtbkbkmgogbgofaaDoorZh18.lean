/-
  The landed decoder's readNumber, readMatch.
-/
import Derived.Test.YtbkbkmgogbgofaaDoorZh17
import Derived.Test.YtbkbkmgogbgofaaDoorZh03
import Derived.Test.YtbkbkmgogbgofaaDoorZh14
import Derived.Test.YtbkbkmgogbgofaaDoorZh15
import Derived.Test.YtbkbkmgogbgofaaDoorZh13
namespace Go.Proofs.YtbkbkmgogbgofaaDoor
set_option maxRecDepth 5000
open Go.RowKit
section
variable {w0 w : World} {Rs : List Thing} {p : Place} {c : DC} {v : Value} {bs l o got : List Nat} {ls : List Int} {Ts : List (List Int × Nat)} {M : Nat}
theorem num_bad (b x : Int) :
    Calls Tryd.prog 74 #[.pointer (some ⟨p.b, p.o, none⟩), .int .i64 b, .int .i64 x, .bool false] w fun e w' => e = .returned (.tuple #[.int .i64 0, .int .i64 3]) ∧ w = w' := by
  go_enter Tryd.func74, Tryd.ntmps74
  go_wp2
  go_ret2
  exact ⟨rfl, rfl⟩
theorem num_few (b : Int) (x : Nat) (hx : x ≤ 32) (hl : l.length < x) (h : Held w0 w (rdmT (decP p c) v bs l :: Rs)) :
    Calls Tryd.prog 74 #[.pointer (some ⟨p.b, p.o, none⟩), .int .i64 b, .int .i64 (x : Int), .bool true] w fun e w' => e = .returned (.tuple #[.int .i64 0, .int .i64 5]) ∧ Held w0 w' (rdmT (decP p c) v bs l :: Rs) := by
  have HG := hid (dget_no h x (x : Int) rfl hx hl)
  clear h
  go_enter Tryd.func74, Tryd.ntmps74
  go_wp2_with fail
  with_reducible refine HG.out.mono ?_
  rintro e w2 ⟨rfl, h2⟩
  have H2 := hid h2
  clear h2 HG
  go_wp2
  go_ret2
  exact ⟨rfl, H2.out⟩
theorem num_yes (b x n : Nat) (hx : x ≤ 13) (hb : b < 100000) (ht : takeL l x = some n) (hbits : isBits l) (hlen : l.length < bigD) (h : Held w0 w (rdmT (decP p c) v bs l :: Rs)) :
    Calls Tryd.prog 74 #[.pointer (some ⟨p.b, p.o, none⟩), .int .i64 (b : Int), .int .i64 (x : Int), .bool true] w fun e w' => e = .returned (.tuple #[.int .i64 ((b + n : Nat) : Int), .int .i64 0]) ∧ Held w0 w' (rdmT (decP p c) v bs (l.drop x) :: Rs) := by
  obtain ⟨h1, h2⟩ := takeL_some ht
  have HG := dget_yes h x (x : Int) rfl (by omega) h1 hlen
  rw [← h2] at HG
  have HG := hid HG
  have hn : n < 8192 := by
    rw [h2]
    exact Nat.lt_of_lt_of_le (num_lt hbits x) (Nat.pow_le_pow_right (by decide) hx)
  obtain ⟨s, hs⟩ : ∃ s, s = b + n := ⟨_, rfl⟩
  rw [← hs]
  have hsI : (b : Int) + (n : Int) = (s : Int) := by omega
  clear h ht h2 hs
  go_enter Tryd.func74, Tryd.ntmps74
  go_wp2_with fail
  with_reducible refine HG.out.mono ?_
  rintro e w2 ⟨rfl, h2⟩
  have H2 := hid h2
  clear h2 HG
  go_wp2
  go_ret2
  exact ⟨rfl, H2.out⟩
theorem lens_ok {k c : Nat} (hk : 256 < k) (hk2 : k ≤ 285) (hc : c = k - 257) : lensOf (k : Int) = .tuple #[.int .i64 (lB c : Int), .int .i64 (lX c : Int), .bool true] := by
  subst hc
  unfold lensOf
  rw [if_neg (by omega), show ((k : Int) - 257).toNat = k - 257 by omega]
theorem lens_bad {k : Nat} (hk : 285 < k) : lensOf (k : Int) = .tuple #[.int .i64 0, .int .i64 0, .bool false] := if_pos (.inr (by omega))
theorem dists_ok {k : Nat} (hk : k < 30) : distsOf (k : Int) = .tuple #[.int .i64 (dB k : Int), .int .i64 (dX k : Int), .bool true] := by
  unfold distsOf
  rw [if_neg (by omega), show ((k : Int)).toNat = k by omega]
theorem dists_bad {k : Nat} (hk : 29 < k) : distsOf (k : Int) = .tuple #[.int .i64 0, .int .i64 0, .bool false] := if_pos (.inr (by omega))
theorem dlen_any (m : Nat) (hm : m = min o.length 32768) (h : Held w0 w (rdmT (decP p c) v bs l :: ownT 5 1 c.wv (keep o).length (u8s (keep o)) :: Rs)) :
    Calls Tryd.prog 77 #[.pointer (some ⟨p.b, p.o + 3, none⟩)] w fun e w' => e = .returned (.int .i64 (m : Int)) ∧ w = w' := by
  obtain ⟨ao, nn, cap, s, cc, h1⟩ := rdm_open h
  exact win_lenP o m (win_in h1.mid) hm
set_option maxHeartbeats 6400000 in
theorem match_any (b : Bool) (lit dis : List Int) (k q : Nat) (l0 : List Nat) (hk : 256 < k) (hk2 : k < 288) (h : Held w0 w (decM p c v bs l o got ls Ts Rs)) (hi : DInv M c ls Ts (.tok b lit dis) l0 o got) (hl : l = l0.drop q)
    (hst : stepM M l0 o (.tok b lit dis) = if 285 < k then .err 3 else matM b lit dis (k - 257) l o) :
    Calls Tryd.prog 58 #[.pointer (some ⟨p.b, p.o, none⟩), .int .i64 (k : Int)] w fun e w' => RAns w0 w' p v bs M (.tok b lit dis) c l0 o got ls Ts Rs e := by
  have hcell := hi.cell
  have hfx := hi.fx
  have hph := hi.ok.ph
  have hb : isBits l := by rw [hl]; exact isBits_drop hi.ok.bits q
  have hlen : l.length < bigD := by rw [hl, List.length_drop]; have := hi.len; omega
  have HI := hid hi
  obtain ⟨wv, most, room, lv, st, last, left, dist, hA, hB, hC, ht, hv, cl, cd, fl, fd, en⟩ := c
  obtain ⟨rfl, rfl, t1, t2, rfl, rfl, m1, m2⟩ : st = 6 ∧ last = b ∧ ∃ t1 t2, cl = ptrO t1 ∧ cd = ptrO t2 ∧ (lit, t1) ∈ Ts ∧ (dis, t2) ∈ Ts := hcell
  obtain ⟨k1, k2, k3, k4⟩ := hph
  have hk0 : (0 : Int) ≤ (k : Int) := Int.natCast_nonneg _
  have HLB := hid (fun w => lenBase_any (k : Int) w)
  have H1 := hid h
  by_cases h285 : 285 < k
  · rw [if_pos h285] at hst
    rw [lens_bad h285] at HLB
    have HE := hid hst
    have HNB := hid (fun w => num_bad (p := p) (w := w) 0 0)
    clear h hi hst hfx hb hlen m1 m2 h285
    go_enter Tryd.func58, Tryd.ntmps58
    go_wp2_with fail
    with_reducible refine (HLB.out _).mono ?_
    rintro e w2 ⟨rfl, rfl⟩
    go_wp2_with fail
    with_reducible refine (HNB.out _).mono ?_
    rintro e w2 ⟨rfl, rfl⟩
    go_wp2
    go_ret
    exact ⟨3, rfl, .bad H1.out HE.out (fun h => by cases h) ⟨rfl, rfl⟩⟩
  · rw [if_neg h285] at hst
    obtain ⟨cc, hcc⟩ : ∃ cc, cc = k - 257 := ⟨_, rfl⟩
    rw [lens_ok hk (by omega) hcc] at HLB
    rw [← hcc] at hst
    have hx13 := lX_le cc (by omega)
    have hb258 := lB_le cc (by omega)
    unfold matM at hst
    cases htk : takeL l (lX cc) with
    | none =>
      rw [htk] at hst
      have HE := hid hst
      have HNF := hid (num_few ((lB cc : Nat) : Int) (lX cc) (by omega) (takeL_none htk) h)
      clear h hi hst hfx hb hlen m1 m2 h285 htk hcc
      go_enter Tryd.func58, Tryd.ntmps58
      go_wp2_with fail
      with_reducible refine (HLB.out _).mono ?_
      rintro e w2 ⟨rfl, rfl⟩
      go_wp2_with fail
      with_reducible refine HNF.out.mono ?_
      rintro e w3 ⟨rfl, h3⟩
      have H3 := hid h3
      clear h3 HNF
      go_wp2
      go_ret
      exact ⟨5, rfl, .bad (l' := l) H3.out HE.out (fun _ => ⟨rfl, rfl, rfl⟩) ⟨rfl, rfl⟩⟩
    | some more =>
      rw [htk] at hst
      dsimp only at hst
      have hmore : more < 2 ^ lX cc := by rw [(takeL_some htk).2]; exact num_lt hb _
      have hlb := lB_more cc (by omega)
      have HNY := num_yes (lB cc) (lX cc) more (by omega) (by omega) htk hb hlen h
      obtain ⟨l1, hl1⟩ : ∃ l1, l1 = l.drop (lX cc) := ⟨_, rfl⟩
      obtain ⟨n, hn⟩ : ∃ n, n = lB cc + more := ⟨_, rfl⟩
      rw [← hl1, ← hn] at hst
      rw [← hl1, ← hn] at HNY
      have hb1 : isBits l1 := by rw [hl1]; exact isBits_drop hb _
      have hlen1 : l1.length < bigD := by rw [hl1, List.length_drop]; omega
      have hn258 : n ≤ 258 := by omega
      have hn0 : (0 : Int) ≤ (n : Int) := Int.natCast_nonneg _
      have HNY := hid HNY
      have HST := hid hst
      have HB := hid (And.intro hb1 (And.intro hlen1 (And.intro (fine_of k2) k4)))
      have HM := hid (And.intro m1 m2)
      have HFX := hid hfx
      clear h hi hst hfx hb hlen m1 m2 h285 htk hmore hlb hl hl1 hn hcc hb1 hlen1 k1 k2 k3 k4 H1 hx13 hb258
      go_enter Tryd.func58, Tryd.ntmps58
      go_wp2_with fail
      with_reducible refine (HLB.out _).mono ?_
      rintro e w2 ⟨rfl, rfl⟩
      go_wp2_with fail
      with_reducible refine HNY.out.mono ?_
      rintro e w3 ⟨rfl, h3⟩
      have H3 := hid h3
      have c17 : w3.cell? ⟨p.b, p.o + 8 + 8 + 1, none⟩ = some (.pointer (some ⟨t2, 0, none⟩)) := dcell h3 17 _ rfl
      have HNX := hid (dnext dis t2 (dec_table HM.out.2 h3.drew) HB.out.2.2.1 HB.out.1 HB.out.2.1)
      clear h3 HNY HLB
      go_wp2
      go_region_held3 (fun w' => w'.cell? ⟨p.b, p.o + 8 + 8 + 1, none⟩ = some (.pointer (some ⟨t2, 0, none⟩))) (first | exact d17 | exact c17 | go_keep)
        ((go_at_call 55; go_must (refine HNX.out.mono ?_); rintro e' w4 ⟨s, q2, er, rfl, hh, HRI⟩; have H4 := hid (dec_table' HM.out.2 hh); have d17 : w4.cell? ⟨p.b, p.o + 8 + 8 + 1, none⟩ = some (.pointer (some ⟨t2, 0, none⟩)) := dcell hh 17 _ rfl; clear hh HNX))
      all_goals
        have hsy := symF_of HB.out.1 HB.out.2.2.1.1 HRI.out
        have hs0 : (0 : Int) ≤ (s : Int) := Int.natCast_nonneg _
        clear d17 H3 c17
        by_cases he : er = 0
        · subst he
          have hs32 := (sym_facts hsy).1
          have hst2 := HST.out
          rw [hsy] at hst2
          unfold matR at hst2
          rw [if_neg (fun h => h rfl)] at hst2
          dsimp only at hst2
          unfold farM at hst2
          have HDB := hid (fun w => distBase_any (s : Int) w)
          obtain ⟨l2, hl2⟩ : ∃ l2, l2 = l1.drop q2 := ⟨_, rfl⟩
          rw [← hl2] at hst2 H4
          have hb2 : isBits l2 := by rw [hl2]; exact isBits_drop HB.out.1 _
          have hlen2 : l2.length < bigD := by rw [hl2, List.length_drop]; have := HB.out.2.1; omega
          clear hsy HRI hl2
          by_cases h29 : 29 < s
          · rw [if_pos h29] at hst2
            rw [dists_bad h29] at HDB
            have HE := hid hst2
            have HNB := hid (fun w => num_bad (p := p) (w := w) 0 0)
            clear hst2 h29 hb2 hlen2
            go_wp2_with fail
            with_reducible refine (HDB.out _).mono ?_
            rintro e w5 ⟨rfl, rfl⟩
            go_wp2_with fail
            with_reducible refine (HNB.out _).mono ?_
            rintro e w5 ⟨rfl, rfl⟩
            go_wp2
            go_ret
            exact ⟨3, rfl, .bad H4.out HE.out (fun h => by cases h) ⟨rfl, rfl⟩⟩
          · rw [if_neg h29] at hst2
            rw [dists_ok (by omega)] at HDB
            have hx13 := dX_le s (by omega)
            have hdb := dB_le s (by omega)
            have hdm := dB_more s (by omega)
            cases htk : takeL l2 (dX s) with
            | none =>
              rw [htk] at hst2
              have HE := hid hst2
              have HNF := hid (num_few ((dB s : Nat) : Int) (dX s) (by omega) (takeL_none htk) H4.out)
              clear hst2 h29 hb2 hlen2 htk H4
              go_wp2_with fail
              with_reducible refine (HDB.out _).mono ?_
              rintro e w5 ⟨rfl, rfl⟩
              go_wp2_with fail
              with_reducible refine HNF.out.mono ?_
              rintro e w6 ⟨rfl, h6⟩
              have H6 := hid h6
              clear h6 HNF
              go_wp2
              go_ret
              exact ⟨5, rfl, .bad H6.out HE.out (fun _ => ⟨rfl, rfl, rfl⟩) ⟨rfl, rfl⟩⟩
            | some far =>
              rw [htk] at hst2
              dsimp only at hst2
              have hfar : far < 2 ^ dX s := by rw [(takeL_some htk).2]; exact num_lt hb2 _
              have HNY := num_yes (dB s) (dX s) far (by omega) (by omega) htk hb2 hlen2 H4.out
              obtain ⟨d, hd⟩ : ∃ d, d = dB s + far := ⟨_, rfl⟩
              rw [← hd] at HNY hst2
              have HNY := hid HNY
              have hd32 : d ≤ 32768 := by omega
              have hd0 : (0 : Int) ≤ (d : Int) := Int.natCast_nonneg _
              obtain ⟨m, hm⟩ : ∃ m, m = min o.length 32768 := ⟨_, rfl⟩
              have hm0 : (0 : Int) ≤ (m : Int) := Int.natCast_nonneg _
              have HMM := hid hm
              have HST2 := hid hst2
              have hcmp : o.length < d ↔ m < d := by omega
              have HCMP := hid hcmp
              clear hst2 h29 hb2 hlen2 htk H4 hfar hd hm hcmp hx13 hdb hdm
              go_wp2_with fail
              with_reducible refine (HDB.out _).mono ?_
              rintro e w5 ⟨rfl, rfl⟩
              go_wp2_with fail
              with_reducible refine HNY.out.mono ?_
              rintro e w6 ⟨rfl, h6⟩
              have H6 := hid h6
              have HWL := hid (dlen_any m HMM.out h6)
              clear h6 HNY HDB
              go_wp2_with fail
              with_reducible refine HWL.out.mono ?_
              rintro e w7 ⟨rfl, rfl⟩
              by_cases hmd : m < d
              · have hI : (m : Int) < (d : Int) := by omega
                have HE := HST2.out
                rw [if_pos (HCMP.out.2 hmd)] at HE
                have HE := hid HE
                clear hmd HWL
                go_wp2
                go_ret
                exact ⟨3, rfl, .bad H6.out HE.out (fun h => by cases h) ⟨rfl, rfl⟩⟩
              · have hI : ¬ (m : Int) < (d : Int) := by omega
                have HE := HST2.out
                rw [if_neg (fun h => hmd (HCMP.out.1 h))] at HE
                have HE := hid HE
                have c9 : w6.cell? ⟨p.b, p.o + 8 + 1, none⟩ = some (.int .i64 (left : Int)) := dcell H6.out 9 _ rfl
                have f9 : w6.frozen? ⟨p.b, p.o + 8 + 1, none⟩ = false := dfroz H6.out 9
                have c10 : w6.cell? ⟨p.b, p.o + 8 + 2, none⟩ = some (.int .i64 (dist : Int)) := dcell H6.out 10 _ rfl
                have f10 : w6.frozen? ⟨p.b, p.o + 8 + 2, none⟩ = false := dfroz H6.out 10
                have c7 : w6.cell? ⟨p.b, p.o + 7, none⟩ = some (.int .i64 6) := dcell H6.out 7 _ rfl
                have f7 : w6.frozen? ⟨p.b, p.o + 7, none⟩ = false := dfroz H6.out 7
                clear hmd HWL
                go_wp2
                go_ret
                have h7 := dset (dset (dset H6.out 9 (.int .i64 (n : Int)) ⟨wv, most, room, lv, 6, last, n, dist, hA, hB, hC, ht, hv, ptrO t1, ptrO t2, fl, fd, en⟩ rfl) 10 (.int .i64 (d : Int)) ⟨wv, most, room, lv, 6, last, n, d, hA, hB, hC, ht, hv, ptrO t1, ptrO t2, fl, fd, en⟩ rfl) 7 (.int .i64 7) ⟨wv, most, room, lv, 7, last, n, d, hA, hB, hC, ht, hv, ptrO t1, ptrO t2, fl, fd, en⟩ rfl
                exact ⟨0, rfl, .on HI.out HE.out h7 ⟨rfl, rfl, rfl, rfl, t1, t2, rfl, rfl, HM.out.1, HM.out.2⟩ HFX.out rfl rfl⟩
        · have HE := HST.out
          rw [hsy] at HE
          unfold matR at HE
          rw [if_pos he] at HE
          have HE := hid HE
          have heB : ((er : Int) == 0) = false := by simp; omega
          have heI : ¬ (er : Int) = 0 := by omega
          clear hsy he HRI
          go_wp2
          go_ret
          exact ⟨er, rfl, .bad H4.out HE.out (fun _ => ⟨rfl, rfl, rfl⟩) ⟨rfl, rfl⟩⟩
end
end Go.Proofs.YtbkbkmgogbgofaaDoor
/-
  The landed decoder's readToken.
-/
namespace Go.Proofs.YtbkbkmgogbgofaaDoor
set_option maxRecDepth 5000
open Go.RowKit
section
variable {w0 w : World} {Rs : List Thing} {p : Place} {c : DC} {v : Value} {bs l o got : List Nat} {ls : List Int} {Ts : List (List Int × Nat)} {M : Nat}
set_option maxHeartbeats 6400000 in
theorem token_any' (b : Bool) (lit dis : List Int) (h : Held w0 w (decM p c v bs l o got ls Ts Rs)) (hi : DInv M c ls Ts (.tok b lit dis) l o got) (hr : 0 < c.room) :
    Calls Tryd.prog 44 #[.pointer (some ⟨p.b, p.o, none⟩)] w fun e w' => RAns w0 w' p v bs M (.tok b lit dis) c l o got ls Ts Rs e := by
  have hcell := hi.cell
  have hfx := hi.fx
  have hph := hi.ok.ph
  have hb := hi.ok.bits
  have hlen := hi.len
  have hmost := hi.most
  have hbig := hi.big
  have hgl := hi.got
  have htop := hi.top
  have HI := hid hi
  have HMA := fun (k q : Nat) (l1 : List Nat) (hk : 256 < k) (hk2 : k < 288) (wz : World) (hz : Held w0 wz (decM p c v bs l1 o got ls Ts Rs)) (hl : l1 = l.drop q) (hst : stepM M l o (.tok b lit dis) = if 285 < k then .err 3 else matM b lit dis (k - 257) l1 o) => match_any b lit dis k q l hk hk2 hz hi hl hst
  have HMA := hid HMA
  obtain ⟨wv, most, room, lv, st, last, left, dist, hA, hB, hC, ht, hv, cl, cd, fl, fd, en⟩ := c
  dsimp only at hr hmost htop
  obtain ⟨rfl, rfl, t1, t2, rfl, rfl, m1, m2⟩ : st = 6 ∧ last = b ∧ ∃ t1 t2, cl = ptrO t1 ∧ cd = ptrO t2 ∧ (lit, t1) ∈ Ts ∧ (dis, t2) ∈ Ts := hcell
  obtain ⟨k1, k2, k3, k4⟩ := hph
  have HNX := hid (dnext lit t1 (dec_table m1 h.drew) (fine_of k1) hb hlen)
  have c16 : w.cell? ⟨p.b, p.o + 8 + 8, none⟩ = some (.pointer (some ⟨t1, 0, none⟩)) := dcell h 16 _ rfl
  have HB := hid (And.intro hb (And.intro hlen (And.intro (fine_of k1) k3)))
  have HM := hid (And.intro m1 m2)
  have HFX := hid hfx
  have HMO := hid (And.intro hmost (And.intro hbig (And.intro hgl htop)))
  clear h hi hfx hb hlen m1 m2 k1 k2 k3 k4 hmost hbig hgl htop
  go_enter Tryd.func44, Tryd.ntmps44
  go_wp2
  go_region_held3 (fun w' => w'.cell? ⟨p.b, p.o + 8 + 8, none⟩ = some (.pointer (some ⟨t1, 0, none⟩))) (first | exact d16 | exact c16 | go_keep)
    ((go_at_call 55; go_must (refine HNX.out.mono ?_); rintro e' w4 ⟨k, q, er, rfl, hh, HRI⟩; have H4 := hid (dec_table' HM.out.1 hh); have d16 : w4.cell? ⟨p.b, p.o + 8 + 8, none⟩ = some (.pointer (some ⟨t1, 0, none⟩)) := dcell hh 16 _ rfl; clear hh HNX))
  all_goals
    have hsy := symF_of HB.out.1 HB.out.2.2.1.1 HRI.out
    have hk0 : (0 : Int) ≤ (k : Int) := Int.natCast_nonneg _
    have hst := tok_sym (M := M) (b := last) (dist := dis) (out := o) hsy
    unfold tokR at hst
    dsimp only at hst
    clear d16
    by_cases he : er = 0
    · subst he
      have hk288 := (sym_facts hsy).1
      rw [if_neg (fun h => h rfl)] at hst
      clear hsy HRI
      by_cases h256 : k = 256
      · subst h256
        rw [if_pos rfl] at hst
        unfold endM at hst
        cases last with
        | true =>
          rw [if_pos rfl] at hst
          have HS := hid hst
          have HE := hid (endB_yes H4.out rfl)
          clear hst hk288 HMA
          go_wp2_with fail
          with_reducible refine HE.out.mono ?_
          rintro e w5 ⟨rfl, rfl⟩
          go_wp2
          go_ret
          exact ⟨8, rfl, .over H4.out HS.out ⟨rfl, rfl⟩⟩
        | false =>
          rw [if_neg (by decide)] at hst
          have HS := hid hst
          have HE := hid (endB_no H4.out rfl)
          clear hst hk288 HMA
          go_wp2_with fail
          with_reducible refine HE.out.mono ?_
          rintro e w5 ⟨rfl, h5⟩
          have H5 := hid h5
          clear h5 HE
          go_wp2
          go_ret
          exact ⟨0, rfl, .on HI.out HS.out H5.out rfl HFX.out rfl rfl⟩
      · have h256B : ((k : Int) == 256) = false := by simp; omega
        have h256I : ¬ (k : Int) = 256 := by omega
        rw [if_neg h256] at hst
        by_cases hlt : k < 256
        · have hgI : ¬ (256 : Int) < (k : Int) := by omega
          have hgB : decide ((256 : Int) < (k : Int)) = false := decide_eq_false hgI
          rw [if_pos hlt] at hst
          by_cases hm : most = 0
          · subst hm
            rw [if_pos (by have := HMO.out.1; omega)] at hst
            have HS := hid hst
            have d4 : w4.cell? ⟨p.b, p.o + 3 + 1, none⟩ = some (.int .i64 0) := dcell H4.out 4 _ rfl
            have HQ := hid (share_no (w := w4) p.b (p.o + 3) 1 d4)
            clear hst hlt h256 HMA hk288
            go_wp2_with fail
            with_reducible refine HQ.out.mono ?_
            rintro e w5 ⟨rfl, n5, rfl⟩
            go_wp2
            go_ret
            exact ⟨6, rfl, .bad (H4.out.drewN _) HS.out (fun h => by cases h) ⟨rfl, rfl⟩⟩
          · obtain ⟨r, rfl⟩ : ∃ r : Nat, room = (r : Int) := ⟨room.toNat, by omega⟩
            rw [if_neg (by have := HMO.out.1; omega)] at hst
            have HS := hid hst
            have d4 : w4.cell? ⟨p.b, p.o + 3 + 1, none⟩ = some (.int .i64 (most : Int)) := dcell H4.out 4 _ rfl
            have d5 : w4.cell? ⟨p.b, p.o + 3 + 2, none⟩ = some (.int .i64 (r : Int)) := dcell H4.out 5 _ rfl
            have HQ := share_yes (w := w4) p.b (p.o + 3) 1 most r (by omega) d4 d5
            rw [show min (min 1 most) r = 1 by omega, show ((1 : Nat) : Int) = 1 from rfl] at HQ
            have HQ := hid HQ
            have hmb : most < 4000000000000 ∧ got.length < 1000000000 := by have h1 := HMO.out; unfold bigD at h1; omega
            have hkw : IntKind.u8.wrap (k : Int) = (k : Int) := by simp [IntKind.wrap, IntKind.signed, IntKind.bits]; omega
            have hm1 : 1 ≤ most ∧ 1 ≤ r := by omega
            have htop2 := HMO.out.2.2.2
            clear hst hlt h256 HMA hk288 hm
            go_wp2_with fail
            with_reducible refine HQ.out.mono ?_
            rintro e w5 ⟨rfl, n5, rfl⟩
            have h5 : Held w0 ((w4.drewN n5).alloc (.cells #[.int .u8 (k : Int)] 5)) (ownT 5 1 (.slice (some ⟨w4.heap.size, 0, none⟩) 1 1) 1 (u8s [k]) :: _) := (H4.out.drewN n5).lit 5 1 (u8s [k]) 1 (by decide) rfl
            have HA := hid (oadd_any o got [k] (.slice (some ⟨w4.heap.size, 0, none⟩) 1 1) 1 got.length (h5.perm (List.perm_middle (l₁ := [_, _, _])).symm) hmb.2 hm1.1 (by dsimp only; omega) (by decide) hmb.1 (by dsimp only; exact htop2))
            clear h5 HQ d4 d5
            go_wp2_with fail
            with_reducible refine HA.out.mono ?_
            rintro e w6 ⟨rfl, wv', lv', h6⟩
            have H6 := hid h6
            clear h6 HA
            go_wp2
            go_ret
            refine ⟨0, rfl, ROut.outs (t := [k]) (ls' := ls) (Ts' := Ts) (c' := ⟨wv', most - 1, (r : Int) - ((1 : Nat) : Int), lv', 6, last, left, dist, hA, hB, hC, ht, hv, ptrO t1, ptrO t2, fl, fd, en⟩) HI.out (.one HS.out) (by simp) ?_ ⟨rfl, rfl, t1, t2, rfl, rfl, HM.out.1, HM.out.2⟩ HFX.out (by simp only [List.length_cons, List.length_nil]; omega) (by simp only [List.length_cons, List.length_nil]; omega) (by dsimp only; omega)⟩
            unfold decM
            rw [List.length_append]
            exact H6.out
        · have hgI : (256 : Int) < (k : Int) := by omega
          have hgB : decide ((256 : Int) < (k : Int)) = true := decide_eq_true hgI
          rw [if_neg hlt] at hst
          have HMX := hid (HMA.out k q _ (by omega) (by have := HB.out.2.2.2; omega) w4 H4.out rfl hst)
          clear hst hlt h256 HMA hk288
          go_wp2_with fail
          with_reducible refine HMX.out.mono ?_
          rintro e w5 ⟨er2, rfl, hR⟩
          have HR := hid hR
          clear hR HMX
          go_wp2
          go_ret
          exact ⟨er2, rfl, HR.out⟩
    · rw [if_pos he] at hst
      have HE := hid hst
      have heB : ((er : Int) == 0) = false := by simp; omega
      have heI : ¬ (er : Int) = 0 := by omega
      clear hsy he HRI hst HMA
      go_wp2
      go_ret
      exact ⟨er, rfl, .bad H4.out HE.out (fun _ => ⟨rfl, rfl, rfl⟩) ⟨rfl, rfl⟩⟩
end
end Go.Proofs.YtbkbkmgogbgofaaDoor
/-
  The landed decoder's read, failed, finish.
-/
namespace Go.Proofs.YtbkbkmgogbgofaaDoor
set_option maxRecDepth 5000
open Go.RowKit
section
variable {w0 w : World} {Rs : List Thing} {p : Place} {c : DC} {v : Value} {bs l o got : List Nat} {ls : List Int} {Ts : List (List Int × Nat)} {M : Nat}
set_option maxHeartbeats 3200000 in
theorem read_all (ph : Ph) (hG : GlobI w0) (h : Held w0 w (decM p c v bs l o got ls Ts Rs)) (hi : DInv M c ls Ts ph l o got) (hr : 0 < c.room) :
    Calls Tryd.prog 32 #[.pointer (some ⟨p.b, p.o, none⟩)] w fun e w' => RAns w0 w' p v bs M ph c l o got ls Ts Rs e := by
  have c7 : w.cell? ⟨p.b, p.o + 7, none⟩ = some (.int .i64 (c.st : Int)) := dcell h 7 _ rfl
  have hcell := hi.cell
  cases ph with
  | hd =>
    have HC := hid (header_any h hi)
    rw [show c.st = 0 from hcell] at c7
    clear h hi hr hcell
    go_enter Tryd.func32, Tryd.ntmps32
    go_wp2_with fail
    with_reducible refine HC.out.mono ?_
    rintro e w2 ⟨er, rfl, hR⟩
    have HR := hid hR
    clear hR HC
    go_wp2
    go_ret
    exact ⟨er, rfl, HR.out⟩
  | sz b =>
    have HC := hid (size_any' b h hi)
    rw [show c.st = 1 from hcell.1] at c7
    clear h hi hr hcell
    go_enter Tryd.func32, Tryd.ntmps32
    go_wp2_with fail
    with_reducible refine HC.out.mono ?_
    rintro e w2 ⟨er, rfl, hR⟩
    have HR := hid hR
    clear hR HC
    go_wp2
    go_ret
    exact ⟨er, rfl, HR.out⟩
  | sto b n =>
    have HC := hid (stored_any' b n h hi hr)
    rw [show c.st = 2 from hcell.1] at c7
    clear h hi hr hcell
    go_enter Tryd.func32, Tryd.ntmps32
    go_wp2_with fail
    with_reducible refine HC.out.mono ?_
    rintro e w2 ⟨er, rfl, hR⟩
    have HR := hid hR
    clear hR HC
    go_wp2
    go_ret
    exact ⟨er, rfl, HR.out⟩
  | cnt b =>
    have HC := hid (counts_any b h hi)
    rw [show c.st = 3 from hcell.1] at c7
    clear h hi hr hcell
    go_enter Tryd.func32, Tryd.ntmps32
    go_wp2_with fail
    with_reducible refine HC.out.mono ?_
    rintro e w2 ⟨er, rfl, hR⟩
    have HR := hid hR
    clear hR HC
    go_wp2
    go_ret
    exact ⟨er, rfl, HR.out⟩
  | thd b A B C =>
    have HC := hid (third_any b A B C hG h hi)
    rw [show c.st = 4 from hcell.1] at c7
    clear h hi hr hcell
    go_enter Tryd.func32, Tryd.ntmps32
    go_wp2_with fail
    with_reducible refine HC.out.mono ?_
    rintro e w2 ⟨er, rfl, hR⟩
    have HR := hid hR
    clear hR HC
    go_wp2
    go_ret
    exact ⟨er, rfl, HR.out⟩
  | len b A B head lx =>
    have HC := hid (lengths_any b A B head lx hG h hi)
    rw [show c.st = 5 from hcell.1] at c7
    clear h hi hr hcell
    go_enter Tryd.func32, Tryd.ntmps32
    go_wp2_with fail
    with_reducible refine HC.out.mono ?_
    rintro e w2 ⟨er, rfl, hR⟩
    have HR := hid hR
    clear hR HC
    go_wp2
    go_ret
    exact ⟨er, rfl, HR.out⟩
  | tok b lit dis =>
    have HC := hid (token_any' b lit dis h hi hr)
    rw [show c.st = 6 from hcell.1] at c7
    clear h hi hr hcell
    go_enter Tryd.func32, Tryd.ntmps32
    go_wp2_with fail
    with_reducible refine HC.out.mono ?_
    rintro e w2 ⟨er, rfl, hR⟩
    have HR := hid hR
    clear hR HC
    go_wp2
    go_ret
    exact ⟨er, rfl, HR.out⟩
  | cop b lit dis n d =>
    have HC := hid (copyM_any b lit dis n d h hi hr)
    rw [show c.st = 7 from hcell.1] at c7
    clear h hi hr hcell
    go_enter Tryd.func32, Tryd.ntmps32
    go_wp2_with fail
    with_reducible refine HC.out.mono ?_
    rintro e w2 ⟨er, rfl, hR⟩
    have HR := hid hR
    clear hR HC
    go_wp2
    go_ret
    exact ⟨er, rfl, HR.out⟩
def failB (c : DC) : Bool := decide (c.st = 8 ∧ c.en ≠ 8)
theorem failed_any (h : Held w0 w (rdmT (decP p c) v bs l :: Rs)) :
    Calls Tryd.prog 12 #[.pointer (some ⟨p.b, p.o, none⟩)] w fun e w' => e = .returned (.bool (failB c)) ∧ w' = w := by
  obtain ⟨wv, most, room, lv, st, last, left, dist, hA, hB, hC, ht, hv, cl, cd, fl, fd, en⟩ := c
  have c7 : w.cell? ⟨p.b, p.o + 7, none⟩ = some (.int .i64 (st : Int)) := dcell h 7 _ rfl
  have c20 : w.cell? ⟨p.b, p.o + 20, none⟩ = some (.int .i64 (en : Int)) := dcell h 20 _ rfl
  unfold failB
  dsimp only
  clear h
  by_cases h1 : st = 8
  · subst h1
    by_cases h2 : en = 8
    · subst h2
      have c7' : w.cell? ⟨p.b, p.o + 7, none⟩ = some (.int .i64 8) := c7
      have c20' : w.cell? ⟨p.b, p.o + 20, none⟩ = some (.int .i64 8) := c20
      rw [show decide ((8 : Nat) = 8 ∧ (8 : Nat) ≠ 8) = false from by decide]
      clear c7 c20
      go_enter Tryd.func12, Tryd.ntmps12
      go_wp2
      go_ret
      exact ⟨rfl, rfl⟩
    · have c7' : w.cell? ⟨p.b, p.o + 7, none⟩ = some (.int .i64 8) := c7
      have hB2 : ((en : Int) == 8) = false := by simp; omega
      have hI2 : ¬ (en : Int) = 8 := by omega
      have hN2 : ((en : Int) != 8) = true := by simp; omega
      have hD : decide ((8 : Nat) = 8 ∧ en ≠ 8) = true := by simp [h2]
      rw [hD]
      clear c7 h2 hD
      go_enter Tryd.func12, Tryd.ntmps12
      go_wp2
      go_ret
      exact ⟨rfl, rfl⟩
  · have hB1 : ((st : Int) == 8) = false := by simp; omega
    have hI1 : ¬ (st : Int) = 8 := by omega
    have hD : decide (st = 8 ∧ en ≠ 8) = false := by simp [h1]
    rw [hD]
    clear h1 hD
    go_enter Tryd.func12, Tryd.ntmps12
    go_wp2
    go_ret
    exact ⟨rfl, rfl⟩
/-! ### The reader's three cells -/
theorem rdm_remark {q : Place} (h : Held w0 w (rdmT q v bs l :: Rs)) : ∃ (ao : Option Addr) (cap s cc : Nat) (bs1 : List Nat), RdFact l bs1 s cc ∧ BlkP w q [.slice ao bs1.length cap, .int .u64 (s : Int), .int .i64 (cc : Int)] ∧ Held w0 w (rdmT q (.slice ao bs1.length cap) bs1 l :: Rs) := by
  obtain ⟨ao, n, cap, s, cc, h1⟩ := rdm_open h
  obtain ⟨bs1, hf, h2⟩ := rds_now h1.swap
  obtain ⟨a2, cap2, e, _, _⟩ := h2.own.form
  simp only [Value.slice.injEq] at e
  obtain ⟨_, rfl, _⟩ := e
  exact ⟨ao, cap, s, cc, bs1, hf, h1.objp, rdm_close (rds_mark hf h2).swap⟩
theorem rdm_restore {q : Place} {bs1 l1 : List Nat} {u : Value} {s cc : Nat} (hf : RdFact l bs1 s cc) (h : Held w0 w (rdmT q u bs1 l1 :: Rs)) : Held w0 (((w.setCell ⟨q.b, q.o, none⟩ u).setCell ⟨q.b, q.o + 1, none⟩ (.int .u64 (s : Int))).setCell ⟨q.b, q.o + 2, none⟩ (.int .i64 (cc : Int))) (rdmT q u bs1 l :: Rs) := by
  obtain ⟨ao, n, cap, s1, c1, h1⟩ := rdm_open h
  have h2 := rds_back h1.swap
  have h3 := ((h2.swap.setObjP0 u).setObjP 1 (.int .u64 (s : Int))).setObjP 2 (.int .i64 (cc : Int))
  exact rdm_close (rds_mark hf h3.swap).swap
theorem rdm_empty {q : Place} (h : Held w0 w (rdmT q v bs l :: Rs)) : Held w0 (((w.setCell ⟨q.b, q.o, none⟩ (.slice none 0 0)).setCell ⟨q.b, q.o + 1, none⟩ (.int .u64 0)).setCell ⟨q.b, q.o + 2, none⟩ (.int .i64 0)) (rdmT q (.slice none 0 0) [] [] :: Rs) := by
  obtain ⟨ao, n, cap, s1, c1, h1⟩ := rdm_open h
  have h3 := ((h1.setObjP0 (.slice none 0 0)).setObjP 1 (.int .u64 0)).setObjP 2 (.int .i64 0)
  have h4 := h3.swap.drop.nil 5 1
  have hf : RdFact [] [] 0 0 := ⟨by decide, (fun b hb => by cases hb), by decide, rfl⟩
  have h5 : Held w0 _ (rdsT (.slice none 0 0) [] (.slice none 0 0) [] 0 0 :: _) := rds_mark hf h4
  exact rdm_close (s := 0) (c := 0) h5.swap
def finC (c : DC) (e : Nat) : DC := ⟨.slice none 0 0, c.most, c.room, c.lv, 8, false, 0, 0, 0, 0, 0, none, .slice none 0 0, none, none, none, none, e⟩
set_option maxHeartbeats 3200000 in
theorem finish_any (er : Nat) (h : Held w0 w (rdmT (decP p c) v bs l :: Rs)) :
    Calls Tryd.prog 33 #[.pointer (some ⟨p.b, p.o, none⟩), .int .i64 (er : Int)] w fun e w' => e = .returned (.tuple #[]) ∧ ∃ v' bs', Held w0 w' (rdmT (decP p (finC c er)) v' bs' (if er = 8 then l else []) :: Rs) := by
  obtain ⟨wv, most, room, lv, st, last, left, dist, hA, hB, hC, ht, hv, cl, cd, fl, fd, en⟩ := c
  obtain ⟨lr, hlr⟩ : ∃ lr, lr = if er = 8 then l else [] := ⟨_, rfl⟩
  rw [← hlr]
  have HLR := hid hlr
  have c7 : w.cell? ⟨p.b, p.o + 7, none⟩ = some (.int .i64 (st : Int)) := dcell h 7 _ rfl
  have c20 : w.cell? ⟨p.b, p.o + 20, none⟩ = some (.int .i64 (en : Int)) := dcell h 20 _ rfl
  have f7 : w.frozen? ⟨p.b, p.o + 7, none⟩ = false := dfroz h 7
  have f20 : w.frozen? ⟨p.b, p.o + 20, none⟩ = false := dfroz h 20
  have h2 := dset (dset h 7 (.int .i64 8) ⟨wv, most, room, lv, 8, last, left, dist, hA, hB, hC, ht, hv, cl, cd, fl, fd, en⟩ rfl) 20 (.int .i64 (er : Int)) ⟨wv, most, room, lv, 8, last, left, dist, hA, hB, hC, ht, hv, cl, cd, fl, fd, er⟩ rfl
  have H2 := hid h2
  clear h h2 hlr
  go_enter Tryd.func33, Tryd.ntmps33
  go_wp2_with (first
    | ((with_reducible show wpList _ _ _ (⟨none, .store 52 _ _, _, _, _, _⟩ :: _) _ _); go_must (refine wpList_store_dec rfl 52 (.tmp 16) (.tmp 13) rfl H2.out 8 [.bool false, .int .i64 0, .int .i64 0, .int .i64 0, .int .i64 0, .int .i64 0, .pointer none, .slice none 0 0, .pointer none, .pointer none] rfl rfl (by kernel_rfl) rfl ⟨wv, most, room, lv, 8, false, 0, 0, 0, 0, 0, none, .slice none 0 0, none, none, fl, fd, er⟩ rfl ⟨by decide, Nat.le_of_ble_eq_true rfl⟩ ?_); intro w3 h3; have H3 := hid h3; clear h3)
    | ((with_reducible show wpList _ _ _ (⟨none, .store 50 _ _, _, _, _, _⟩ :: _) _ _); go_must (refine wpList_store_dec rfl 50 (.tmp 18) (.tmp 14) rfl H3.out 18 [.pointer none, .pointer none] rfl rfl (by kernel_rfl) rfl ⟨wv, most, room, lv, 8, false, 0, 0, 0, 0, 0, none, .slice none 0 0, none, none, none, none, er⟩ rfl ⟨by decide, Nat.le_of_ble_eq_true rfl⟩ ?_); intro w4 h4; have H4 := hid h4; clear h4)
    | fail)
  have HCL := hid (oclose_any H4.out)
  dsimp only at HCL
  clear c7 c20 f7 f20
  with_reducible refine HCL.out.mono ?_
  rintro e w5 ⟨rfl, h5⟩
  have H5 := hid h5
  have HFA := hid (failed_any h5)
  clear h5 HCL
  go_wp2_with fail
  with_reducible refine HFA.out.mono ?_
  rintro e w6 ⟨rfl, rfl⟩
  clear HFA
  unfold failB
  dsimp only
  by_cases h8 : er = 8
  · subst h8
    rw [show decide ((8 : Nat) = 8 ∧ (8 : Nat) ≠ 8) = false from by decide]
    go_wp2
    go_end0
    have e : lr = l := by have h := HLR.out; simpa using h
    exact ⟨rfl, v, bs, by rw [e]; exact H5.out⟩
  · rw [show decide ((8 : Nat) = 8 ∧ er ≠ 8) = true by simp [h8]]
    have HE : Hid (lr = []) := hid (HLR.out.trans (if_neg h8))
    obtain ⟨ao, cap, s, cc, bs1, hf, hblk, h7⟩ := rdm_remark H5.out
    have c0 := hblk.cell0 rfl
    have c1 := hblk.cell (i := 1) rfl
    have c2 := hblk.cell (i := 2) rfl
    have f0 := hblk.frozen0
    have f1 := hblk.frozen 1
    have f2 := hblk.frozen 2
    unfold decP at c0 c1 c2 f0 f1 f2
    dsimp only at c0 c1 c2 f0 f1 f2
    clear hf hblk h7 h8
    go_wp2
    go_end0
    exact ⟨rfl, .slice none 0 0, [], by rw [HE.out]; exact rdm_empty H5.out⟩
end
end Go.Proofs.YtbkbkmgogbgofaaDoor
