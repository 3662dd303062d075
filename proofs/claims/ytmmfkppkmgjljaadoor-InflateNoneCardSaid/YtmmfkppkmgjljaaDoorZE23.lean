/-
  The landed decoder's readLengths.
-/
import Derived.Test.YtmmfkppkmgjljaaDoorZE22
import Derived.Test.YtmmfkppkmgjljaaDoorZE19
import Derived.Test.YtmmfkppkmgjljaaDoorZE03
namespace Go.Proofs.YtmmfkppkmgjljaaDoor
set_option maxRecDepth 5000
open Go.RowKit
theorem lenStep_of {head : List Int} {l l' : List Nat} {N k q n er : Nat} {ls : List Int} {y : Int} (hs : symF head l = (k, q, 0)) (hr : RunOut k (l.drop q) ls l' y n er) (hN : ls.length < N) :
    (er ≠ 0 → ∃ a, lenStep head l N 0 ls = (true, er, a, ls)) ∧ (er = 0 → N < ls.length + n → ∃ a, lenStep head l N 0 ls = (true, 2, a, ls)) ∧
    (er = 0 → ¬ N < ls.length + n → ∃ a, lenStep head l N 0 ls = (false, 0, a, ls ++ List.replicate n y) ∧ l' = l.drop a) := by
  have hq := (sym_facts hs).2.2
  have hl := len_run (head := head) (bs := l) (N := N) (a := 0) (l := ls) (by rw [List.drop_zero]; exact hs)
  rw [hl, Nat.zero_add]
  cases hr with
  | one h =>
    refine ⟨fun h => absurd rfl h, fun _ h2 => ?_, fun _ _ => ⟨q, ?_, rfl⟩⟩
    · omega
    · rw [run_one h]; rfl
  | none h hl =>
    refine ⟨fun _ => ⟨q, run_none h hl⟩, ?_, ?_⟩
    · intro h; cases h
    · intro h; cases h
  | few h hl ht =>
    refine ⟨fun _ => ⟨q, run_end h hl rfl (by rw [takeM_L hq]; exact ht)⟩, ?_, ?_⟩
    · intro h; cases h
    · intro h; cases h
  | run h hl ht =>
    rename_i more
    have ht2 : takeM l q (wdF k) = some more := by rw [takeM_L hq]; exact ht
    refine ⟨fun h => absurd rfl h, fun _ h2 => ⟨_, run_long h hl rfl rfl ht2 h2⟩, fun _ h2 => ⟨_, run_more h hl rfl rfl ht2 h2, ?_⟩⟩
    rw [List.drop_drop]; rfl
theorem run_small {k n er : Nat} {l l' : List Nat} {ls : List Int} {y : Int} (hb : isBits l) (hr : RunOut k l ls l' y n er) (he : er = 0) : 1 ≤ n ∧ n ≤ 144 := by
  cases hr with
  | one h => exact ⟨by decide, by decide⟩
  | none => cases he
  | few => cases he
  | run h hl ht =>
    rename_i more
    have h1 : more < 2 ^ wdF k := by rw [(takeL_some ht).2]; exact num_lt hb _
    have h2 : wdF k ≤ 7 := by unfold wdF; split; decide; split <;> decide
    have h3 : 2 ^ wdF k ≤ 2 ^ 7 := Nat.pow_le_pow_right (by decide) h2
    have h4 : 3 ≤ baF k ∧ baF k ≤ 11 := by unfold baF; split <;> decide
    have h5 : (2 : Nat) ^ 7 = 128 := rfl
    omega
section
variable {w0 w : World} {Rs : List Thing} {p : Place} {c : DC} {v : Value} {bs l o got : List Nat} {ls : List Int} {Ts : List (List Int × Nat)} {M : Nat}
theorem run_any (k : Nat) (hk : k < 19) (hG : GlobI w0) (hlen : l.length < bigD) (hb : isBits l) (hls : ls.length < 1000) (h : Held w0 w (rdmT (decP p c) v bs l :: ownT 3 1 c.hv ls.length (ints ls) :: Rs)) :
    Calls Tryd.prog 67 #[.pointer (some ⟨p.b, p.o, none⟩), .int .i64 (k : Int)] w fun e w' => ∃ l' y n er, e = .returned (.tuple #[.int .i64 y, .int .i64 ((n : Nat) : Int), .int .i64 ((er : Nat) : Int)]) ∧ RunOut k l ls l' y n er ∧
      Held w0 w' (rdmT (decP p c) v bs l' :: ownT 3 1 c.hv ls.length (ints ls) :: Rs) := by
  by_cases h1 : k < 16
  · exact run_low k h1 h
  · by_cases h2 : k = 16
    · subst h2; exact run_last hG hlen hb hls h
    · exact run_high k (by omega) hG hlen hb h
theorem dec_table {T : List Int} {B : Nat} (hm : (T, B) ∈ Ts) {R1 R2 R3 R4 : Thing} (h : Held w0 w (R1 :: R2 :: R3 :: R4 :: tabsT Ts :: Rs)) : Held w0 w (R1 :: tabT T B :: allT ((Ts.erase (T, B)).map fun t => tabT t.1 t.2) :: R2 :: R3 :: R4 :: Rs) :=
  (tab_out hm (dec_tabs h).swap).third
theorem dec_table' {T : List Int} {B : Nat} (hm : (T, B) ∈ Ts) {R1 R2 R3 R4 : Thing} (h : Held w0 w (R1 :: tabT T B :: allT ((Ts.erase (T, B)).map fun t => tabT t.1 t.2) :: R2 :: R3 :: R4 :: Rs)) : Held w0 w (R1 :: R2 :: R3 :: R4 :: tabsT Ts :: Rs) :=
  dec_tabs' (tab_in hm h.swap.mid).swap
theorem dec_hv {R1 R2 R3 R4 : Thing} (h : Held w0 w (R1 :: R2 :: R3 :: R4 :: Rs)) : Held w0 w (R1 :: R4 :: R2 :: R3 :: Rs) := h.perm (List.Perm.cons _ (List.perm_middle (l₁ := [_, _])))
theorem dec_hv' {R1 R2 R3 R4 : Thing} (h : Held w0 w (R1 :: R4 :: R2 :: R3 :: Rs)) : Held w0 w (R1 :: R2 :: R3 :: R4 :: Rs) := h.perm (List.Perm.cons _ (List.perm_middle (l₁ := [_, _])).symm)
set_option maxHeartbeats 6400000 in
theorem lengths_any (b : Bool) (A B : Nat) (head lx : List Int) (hG : GlobI w0) (h : Held w0 w (decM p c v bs l o got ls Ts Rs)) (hi : DInv M c ls Ts (.len b A B head lx) l o got) :
    Calls Tryd.prog 54 #[.pointer (some ⟨p.b, p.o, none⟩)] w fun e w' => RAns w0 w' p v bs M (.len b A B head lx) c l o got ls Ts Rs e := by
  obtain ⟨i0, hi0, hz0, hz1, hz2⟩ := info_parts infoIntI
  have hcell := hi.cell
  have hfx := hi.fx
  have hph := hi.ok.ph
  have hb := hi.ok.bits
  have hlen := hi.len
  have HI := hid hi
  have HMK := fun (wz : World) (hz : Held w0 wz (decM p c v bs l o got ls Ts Rs)) (hf : A + B ≤ ls.length) => make_any b A B head lx hf hz hi
  obtain ⟨wv, most, room, lv, st, last, left, dist, hA, hB, hC, ht, hv, cl, cd, fl, fd, en⟩ := c
  obtain ⟨rfl, rfl, rfl, rfl, rfl, t0, rfl, hmem⟩ : st = 5 ∧ last = b ∧ hA = A ∧ hB = B ∧ ls = lx ∧ ∃ t, ht = ptrO t ∧ (head, t) ∈ Ts := hcell
  obtain ⟨hA1, hA2, hB1, hB2, hck, hhl, hlsl, hin⟩ := hph
  obtain ⟨N, hN⟩ : ∃ N, N = ls.length := ⟨_, rfl⟩
  have hst : stepM M l o (.len last hA hB head ls) = lenM last hA hB head ls l o := rfl
  unfold lenM at hst
  rw [← hN] at hst
  have h' : Held w0 w (rdmT (decP p ⟨wv, most, room, lv, 5, last, left, dist, hA, hB, hC, some ⟨t0, 0, none⟩, hv, cl, cd, fl, fd, en⟩) v bs l :: ownT 5 1 wv (keep o).length (u8s (keep o)) :: ownT 5 1 lv got.length (u8s got) :: ownT 3 1 hv N (ints ls) :: tabsT Ts :: Rs) := by rw [hN]; exact h
  obtain ⟨ao, cap, rfl, hnc, hcm⟩ := h'.fourth.own.form
  have c11 : w.cell? ⟨p.b, p.o + 8 + 3, none⟩ = some (.int .i64 (hA : Int)) := dcell h' 11 _ rfl
  have c12 : w.cell? ⟨p.b, p.o + 8 + 3 + 1, none⟩ = some (.int .i64 (hB : Int)) := dcell h' 12 _ rfl
  have c15 : w.cell? ⟨p.b, p.o + 8 + 3 + 4, none⟩ = some (.slice ao N cap) := dcell h' 15 _ rfl
  obtain ⟨K, hK⟩ : ∃ K, K = hA + hB - N := ⟨_, rfl⟩
  have hKI : (hA : Int) + (hB : Int) - (N : Int) = (K : Int) := by omega
  by_cases hfull : hA + hB ≤ N
  · have hK0 : K = 0 := by omega
    have HM2 := hid (fun n : Nat => HMK (w.drewN n) (h.drewN n) (by rw [← hN]; exact hfull))
    subst hK0
    clear h h' hi hst hfx hmem hin hN hK HMK hb hlen
    go_enter Tryd.func54, Tryd.ntmps54
    go_wp2
    go_quiet (fail)
    go_wp2_with fail
    with_reducible refine (HM2.out _).mono ?_
    rintro e w2 ⟨er, rfl, hR⟩
    have HR := hid hR
    clear hR HM2
    go_wp2
    go_ret
    exact ⟨er, rfl, HR.out⟩
  · rw [if_neg hfull] at hst
    have hKB : ((K : Int) == 0) = false := by simp; omega
    have hK0 : ¬ (K : Int) = 0 := by omega
    have hK1 : 1 ≤ K ∧ K < 1000 := by omega
    have HST := hid hst
    have HMEM := hid hmem
    have HN := hid (And.intro hN (And.intro hK (And.intro hhl (And.intro hin hlsl))))
    have HB := hid (And.intro hb (And.intro hlen (fine_of hck)))
    have HFX := hid hfx
    have H1 := hid h'
    have hNb : N < 1000 := by omega
    clear h h' hi hst hfx hmem hin hN hK HMK hb hlen hck hhl
    go_enter Tryd.func54, Tryd.ntmps54
    go_wp2
    go_quiet (fail)
    go_wp2
    generalize hw2 : w.drewN _ = w2
    have H2 : Hid (Held w0 w2 _) := hid (by rw [← hw2]; exact H1.out.drewN _)
    have c14 : w2.cell? ⟨p.b, p.o + 8 + 3 + 3, none⟩ = some (.pointer (some ⟨t0, 0, none⟩)) := dcell H2.out 14 _ rfl
    have HNX := hid (dnext head t0 (dec_table HMEM.out H2.out.drew) HB.out.2.2 HB.out.1 HB.out.2.1)
    clear H1 H2 hw2 c11 c12 c15
    go_region_held3 (fun w' => w'.cell? ⟨p.b, p.o + 8 + 3 + 3, none⟩ = some (.pointer (some ⟨t0, 0, none⟩))) (first | exact d14 | exact c14 | go_keep)
      ((go_at_call 66; go_must (refine HNX.out.mono ?_); rintro e' w4 ⟨k, q, er, rfl, hh, HRI⟩; have H4 := hid (dec_table' HMEM.out hh); have d14 : w4.cell? ⟨p.b, p.o + 8 + 3 + 3, none⟩ = some (.pointer (some ⟨t0, 0, none⟩)) := dcell hh 14 _ rfl; clear hh HNX))
    all_goals
      have hsy := symF_of HB.out.1 HB.out.2.2.1 HRI.out
      have hk0 : (0 : Int) ≤ (k : Int) := Int.natCast_nonneg _
      clear d14
      by_cases he : er = 0
      · subst he
        have hk19 := (sym_facts hsy).1
        rw [HN.out.2.2.1] at hk19
        have HSY := hid hsy
        have HRN := run_any k hk19 hG (by rw [List.length_drop]; have := HB.out.2.1; omega) (isBits_drop HB.out.1 q) (by rw [← HN.out.1]; exact hNb) (by rw [← HN.out.1]; exact dec_hv H4.out)
        rw [← HN.out.1] at HRN
        have HRN := hid HRN
        clear hsy HRI H4
        go_wp2_with fail
        with_reducible refine HRN.out.mono ?_
        rintro e w5 ⟨l', y, n, er2, rfl, hro, h5⟩
        have H5 := hid (dec_hv' h5)
        have HL := hid (lenStep_of (N := hA + hB) HSY.out hro (by rw [← HN.out.1]; omega))
        have HSM := hid (run_small (isBits_drop HB.out.1 q) hro)
        have hn0 : (0 : Int) ≤ (n : Int) := Int.natCast_nonneg _
        clear hro h5 HRN
        by_cases he2 : er2 = 0
        · subst he2
          obtain ⟨hn1, hn144⟩ := HSM.out rfl
          by_cases hnK : K < n
          · obtain ⟨a, ha⟩ := HL.out.2.1 rfl (by have := HN.out.1; have := HN.out.2.1; omega)
            have HE : Hid (stepM M l o (.len last hA hB head ls) = .err 2) := by
              rw [HST.out, ha]; exact hid rfl
            have hnKI : (K : Int) < (n : Int) := by omega
            clear ha hnK
            go_wp2
            go_ret
            exact ⟨2, rfl, .bad (by unfold decM; rw [← HN.out.1]; exact H5.out) HE.out (fun h => by cases h) ⟨rfl, rfl⟩⟩
          · obtain ⟨a, ha, hla⟩ := HL.out.2.2 rfl (by have := HN.out.1; have := HN.out.2.1; omega)
            have HE : Hid (stepM M l o (.len last hA hB head ls) = .go (.len last hA hB head (ls ++ List.replicate n y)) l' o) := by
              rw [HST.out, ha, hla]; exact hid rfl
            have hnKI : ¬ (K : Int) < (n : Int) := by omega
            have HRP := hid (rep_at H5.out.drew y n ⟨hn1, hn144⟩)
            have c15 : w5.cell? ⟨p.b, p.o + 8 + 3 + 4, none⟩ = some (.slice ao N cap) := dcell H5.out 15 _ rfl
            have ca15 : ∀ ob, (w5.alloc ob).cell? ⟨p.b, p.o + 8 + 3 + 4, none⟩ = some (.slice ao N cap) := fun ob => dcell (H5.out.alloc ob) 15 _ rfl
            clear ha hnK hla HSM HL
            go_wp2
            go_region_law ((first
              | (refine step_app _ (by rfl) (.tmp 63) (.tmp 67) 28 (by rfl) 3 i0 (.int .i64 0) 1 8 Tryd.underlying28 hi0 hz0 hz1 hz2 (by rfl) (by decide) (.slice ao N cap) N (ints ls) (by rfl) (by exact H7.out.own) (.slice ao2 n cap2) n (ints (List.replicate n y)) (by rfl) (by exact H7.out.swap.own.rd) (ints_one _) (by unfold maxLen; omega) (by omega) ?_; intro ao1 cap1 w8 hown1 hgrow hat; have H8 := hid (H7.out.app hown1 hgrow hat); have d15 : w8.cell? ⟨p.b, p.o + 8 + 3 + 4, none⟩ = some (.slice ao N cap) := dcell H8.out.third 15 _ rfl; have g15 : w8.frozen? ⟨p.b, p.o + 8 + 3 + 4, none⟩ = false := dfroz H8.out.third 15; clear hown1 hgrow hat)
              | (go_simp; go_at_call 68; go_must (refine HRP.out.mono ?_); rintro e' w6 ⟨ao2, cap2, rfl, hh⟩; have H7 := hid (hh.perm (List.perm_middle (l₁ := [_, _, _, _]))); have k15 : w6.cell? ⟨p.b, p.o + 8 + 3 + 4, none⟩ = some (.slice ao N cap) := dcell H7.out.third 15 _ rfl; clear hh)))
            all_goals
              have h9 := dset H8.out.third 15 (.slice ao1 (N + n) cap1) ⟨wv, most, room, lv, 5, last, left, dist, hA, hB, hC, some ⟨t0, 0, none⟩, .slice ao1 (N + n) cap1, cl, cd, fl, fd, en⟩ rfl
              have H10 := hid (dec_hv' h9.third.drop)
              clear h9 H8 d15 g15
              go_wp2
              go_ret
              refine ⟨0, rfl, ROut.on (ls' := ls ++ List.replicate n y) (Ts' := Ts) (c' := ⟨wv, most, room, lv, 5, last, left, dist, hA, hB, hC, some ⟨t0, 0, none⟩, .slice ao1 (N + n) cap1, cl, cd, fl, fd, en⟩) HI.out HE.out ?_ ⟨rfl, rfl, rfl, rfl, rfl, t0, rfl, HMEM.out⟩ HFX.out rfl rfl⟩
              unfold decM
              rw [List.length_append, List.length_replicate, ← HN.out.1, ints_append]
              exact H10.out
        · obtain ⟨a, ha⟩ := HL.out.1 he2
          have HE : Hid (stepM M l o (.len last hA hB head ls) = .err er2) := by
            rw [HST.out, ha]; exact hid rfl
          have heB : ((er2 : Int) == 0) = false := by simp; omega
          have heI : ¬ (er2 : Int) = 0 := by omega
          clear ha he2
          go_wp2
          go_ret
          exact ⟨er2, rfl, .bad (by unfold decM; rw [← HN.out.1]; exact H5.out) HE.out (fun _ => ⟨rfl, rfl, rfl⟩) ⟨rfl, rfl⟩⟩
      · have HE : Hid (stepM M l o (.len last hA hB head ls) = .err er) := by
          rw [HST.out, len_err (by rw [List.drop_zero]; exact hsy) he]; exact hid rfl
        have heB : ((er : Int) == 0) = false := by simp; omega
        have heI : ¬ (er : Int) = 0 := by omega
        clear hsy he HRI
        go_wp2
        go_ret
        exact ⟨er, rfl, .bad (by unfold decM; rw [← HN.out.1]; exact H4.out) HE.out (fun _ => ⟨rfl, rfl, rfl⟩) ⟨rfl, rfl⟩⟩
end
end Go.Proofs.YtmmfkppkmgjljaaDoor
/-
  The landed decoder's readNumber, readMatch.
-/
namespace Go.Proofs.YtmmfkppkmgjljaaDoor
set_option maxRecDepth 5000
open Go.RowKit
section
variable {w0 w : World} {Rs : List Thing} {p : Place} {c : DC} {v : Value} {bs l o got : List Nat} {ls : List Int} {Ts : List (List Int × Nat)} {M : Nat}
theorem num_bad (b x : Int) :
    Calls Tryd.prog 85 #[.pointer (some ⟨p.b, p.o, none⟩), .int .i64 b, .int .i64 x, .bool false] w fun e w' => e = .returned (.tuple #[.int .i64 0, .int .i64 3]) ∧ w = w' := by
  go_enter Tryd.func85, Tryd.ntmps85
  go_wp2
  go_ret2
  exact ⟨rfl, rfl⟩
theorem num_few (b : Int) (x : Nat) (hx : x ≤ 32) (hl : l.length < x) (h : Held w0 w (rdmT (decP p c) v bs l :: Rs)) :
    Calls Tryd.prog 85 #[.pointer (some ⟨p.b, p.o, none⟩), .int .i64 b, .int .i64 (x : Int), .bool true] w fun e w' => e = .returned (.tuple #[.int .i64 0, .int .i64 5]) ∧ Held w0 w' (rdmT (decP p c) v bs l :: Rs) := by
  have HG := hid (dget_no h x (x : Int) rfl hx hl)
  clear h
  go_enter Tryd.func85, Tryd.ntmps85
  go_wp2_with fail
  with_reducible refine HG.out.mono ?_
  rintro e w2 ⟨rfl, h2⟩
  have H2 := hid h2
  clear h2 HG
  go_wp2
  go_ret2
  exact ⟨rfl, H2.out⟩
theorem num_yes (b x n : Nat) (hx : x ≤ 13) (hb : b < 100000) (ht : takeL l x = some n) (hbits : isBits l) (hlen : l.length < bigD) (h : Held w0 w (rdmT (decP p c) v bs l :: Rs)) :
    Calls Tryd.prog 85 #[.pointer (some ⟨p.b, p.o, none⟩), .int .i64 (b : Int), .int .i64 (x : Int), .bool true] w fun e w' => e = .returned (.tuple #[.int .i64 ((b + n : Nat) : Int), .int .i64 0]) ∧ Held w0 w' (rdmT (decP p c) v bs (l.drop x) :: Rs) := by
  obtain ⟨h1, h2⟩ := takeL_some ht
  have HG := dget_yes h x (x : Int) rfl (by omega) h1 hlen
  rw [← h2] at HG
  have HG := hid HG
  have hn : n < 8192 := by
    rw [h2]
    exact Nat.lt_of_lt_of_le (num_lt hbits x) (Nat.pow_le_pow_right (by decide) hx)
  obtain ⟨s, hs⟩ : ∃ s, s = b + n := ⟨_, rfl⟩
  rw [← hs]
  have hsI : (b : Int) + (n : Int) = (s : Int) := by omega
  clear h ht h2 hs
  go_enter Tryd.func85, Tryd.ntmps85
  go_wp2_with fail
  with_reducible refine HG.out.mono ?_
  rintro e w2 ⟨rfl, h2⟩
  have H2 := hid h2
  clear h2 HG
  go_wp2
  go_ret2
  exact ⟨rfl, H2.out⟩
theorem lens_ok {k c : Nat} (hk : 256 < k) (hk2 : k ≤ 285) (hc : c = k - 257) : lensOf (k : Int) = .tuple #[.int .i64 (lB c : Int), .int .i64 (lX c : Int), .bool true] := by
  subst hc
  unfold lensOf
  rw [if_neg (by omega), show ((k : Int) - 257).toNat = k - 257 by omega]
theorem lens_bad {k : Nat} (hk : 285 < k) : lensOf (k : Int) = .tuple #[.int .i64 0, .int .i64 0, .bool false] := if_pos (.inr (by omega))
theorem dists_ok {k : Nat} (hk : k < 30) : distsOf (k : Int) = .tuple #[.int .i64 (dB k : Int), .int .i64 (dX k : Int), .bool true] := by
  unfold distsOf
  rw [if_neg (by omega), show ((k : Int)).toNat = k by omega]
theorem dists_bad {k : Nat} (hk : 29 < k) : distsOf (k : Int) = .tuple #[.int .i64 0, .int .i64 0, .bool false] := if_pos (.inr (by omega))
theorem dlen_any (m : Nat) (hm : m = min o.length 32768) (h : Held w0 w (rdmT (decP p c) v bs l :: ownT 5 1 c.wv (keep o).length (u8s (keep o)) :: Rs)) :
    Calls Tryd.prog 88 #[.pointer (some ⟨p.b, p.o + 3, none⟩)] w fun e w' => e = .returned (.int .i64 (m : Int)) ∧ w = w' := by
  obtain ⟨ao, nn, cap, s, cc, h1⟩ := rdm_open h
  exact win_lenP o m (win_in h1.mid) hm
set_option maxHeartbeats 6400000 in
theorem match_any (b : Bool) (lit dis : List Int) (k q : Nat) (l0 : List Nat) (hk : 256 < k) (hk2 : k < 288) (h : Held w0 w (decM p c v bs l o got ls Ts Rs)) (hi : DInv M c ls Ts (.tok b lit dis) l0 o got) (hl : l = l0.drop q)
    (hst : stepM M l0 o (.tok b lit dis) = if 285 < k then .err 3 else matM b lit dis (k - 257) l o) :
    Calls Tryd.prog 69 #[.pointer (some ⟨p.b, p.o, none⟩), .int .i64 (k : Int)] w fun e w' => RAns w0 w' p v bs M (.tok b lit dis) c l0 o got ls Ts Rs e := by
  have hcell := hi.cell
  have hfx := hi.fx
  have hph := hi.ok.ph
  have hb : isBits l := by rw [hl]; exact isBits_drop hi.ok.bits q
  have hlen : l.length < bigD := by rw [hl, List.length_drop]; have := hi.len; omega
  have HI := hid hi
  obtain ⟨wv, most, room, lv, st, last, left, dist, hA, hB, hC, ht, hv, cl, cd, fl, fd, en⟩ := c
  obtain ⟨rfl, rfl, t1, t2, rfl, rfl, m1, m2⟩ : st = 6 ∧ last = b ∧ ∃ t1 t2, cl = ptrO t1 ∧ cd = ptrO t2 ∧ (lit, t1) ∈ Ts ∧ (dis, t2) ∈ Ts := hcell
  obtain ⟨k1, k2, k3, k4⟩ := hph
  have hk0 : (0 : Int) ≤ (k : Int) := Int.natCast_nonneg _
  have HLB := hid (fun w => lenBase_any (k : Int) w)
  have H1 := hid h
  by_cases h285 : 285 < k
  · rw [if_pos h285] at hst
    rw [lens_bad h285] at HLB
    have HE := hid hst
    have HNB := hid (fun w => num_bad (p := p) (w := w) 0 0)
    clear h hi hst hfx hb hlen m1 m2 h285
    go_enter Tryd.func69, Tryd.ntmps69
    go_wp2_with fail
    with_reducible refine (HLB.out _).mono ?_
    rintro e w2 ⟨rfl, rfl⟩
    go_wp2_with fail
    with_reducible refine (HNB.out _).mono ?_
    rintro e w2 ⟨rfl, rfl⟩
    go_wp2
    go_ret
    exact ⟨3, rfl, .bad H1.out HE.out (fun h => by cases h) ⟨rfl, rfl⟩⟩
  · rw [if_neg h285] at hst
    obtain ⟨cc, hcc⟩ : ∃ cc, cc = k - 257 := ⟨_, rfl⟩
    rw [lens_ok hk (by omega) hcc] at HLB
    rw [← hcc] at hst
    have hx13 := lX_le cc (by omega)
    have hb258 := lB_le cc (by omega)
    unfold matM at hst
    cases htk : takeL l (lX cc) with
    | none =>
      rw [htk] at hst
      have HE := hid hst
      have HNF := hid (num_few ((lB cc : Nat) : Int) (lX cc) (by omega) (takeL_none htk) h)
      clear h hi hst hfx hb hlen m1 m2 h285 htk hcc
      go_enter Tryd.func69, Tryd.ntmps69
      go_wp2_with fail
      with_reducible refine (HLB.out _).mono ?_
      rintro e w2 ⟨rfl, rfl⟩
      go_wp2_with fail
      with_reducible refine HNF.out.mono ?_
      rintro e w3 ⟨rfl, h3⟩
      have H3 := hid h3
      clear h3 HNF
      go_wp2
      go_ret
      exact ⟨5, rfl, .bad (l' := l) H3.out HE.out (fun _ => ⟨rfl, rfl, rfl⟩) ⟨rfl, rfl⟩⟩
    | some more =>
      rw [htk] at hst
      dsimp only at hst
      have hmore : more < 2 ^ lX cc := by rw [(takeL_some htk).2]; exact num_lt hb _
      have hlb := lB_more cc (by omega)
      have HNY := num_yes (lB cc) (lX cc) more (by omega) (by omega) htk hb hlen h
      obtain ⟨l1, hl1⟩ : ∃ l1, l1 = l.drop (lX cc) := ⟨_, rfl⟩
      obtain ⟨n, hn⟩ : ∃ n, n = lB cc + more := ⟨_, rfl⟩
      rw [← hl1, ← hn] at hst
      rw [← hl1, ← hn] at HNY
      have hb1 : isBits l1 := by rw [hl1]; exact isBits_drop hb _
      have hlen1 : l1.length < bigD := by rw [hl1, List.length_drop]; omega
      have hn258 : n ≤ 258 := by omega
      have hn0 : (0 : Int) ≤ (n : Int) := Int.natCast_nonneg _
      have HNY := hid HNY
      have HST := hid hst
      have HB := hid (And.intro hb1 (And.intro hlen1 (And.intro (fine_of k2) k4)))
      have HM := hid (And.intro m1 m2)
      have HFX := hid hfx
      clear h hi hst hfx hb hlen m1 m2 h285 htk hmore hlb hl hl1 hn hcc hb1 hlen1 k1 k2 k3 k4 H1 hx13 hb258
      go_enter Tryd.func69, Tryd.ntmps69
      go_wp2_with fail
      with_reducible refine (HLB.out _).mono ?_
      rintro e w2 ⟨rfl, rfl⟩
      go_wp2_with fail
      with_reducible refine HNY.out.mono ?_
      rintro e w3 ⟨rfl, h3⟩
      have H3 := hid h3
      have c17 : w3.cell? ⟨p.b, p.o + 8 + 8 + 1, none⟩ = some (.pointer (some ⟨t2, 0, none⟩)) := dcell h3 17 _ rfl
      have HNX := hid (dnext dis t2 (dec_table HM.out.2 h3.drew) HB.out.2.2.1 HB.out.1 HB.out.2.1)
      clear h3 HNY HLB
      go_wp2
      go_region_held3 (fun w' => w'.cell? ⟨p.b, p.o + 8 + 8 + 1, none⟩ = some (.pointer (some ⟨t2, 0, none⟩))) (first | exact d17 | exact c17 | go_keep)
        ((go_at_call 66; go_must (refine HNX.out.mono ?_); rintro e' w4 ⟨s, q2, er, rfl, hh, HRI⟩; have H4 := hid (dec_table' HM.out.2 hh); have d17 : w4.cell? ⟨p.b, p.o + 8 + 8 + 1, none⟩ = some (.pointer (some ⟨t2, 0, none⟩)) := dcell hh 17 _ rfl; clear hh HNX))
      all_goals
        have hsy := symF_of HB.out.1 HB.out.2.2.1.1 HRI.out
        have hs0 : (0 : Int) ≤ (s : Int) := Int.natCast_nonneg _
        clear d17 H3 c17
        by_cases he : er = 0
        · subst he
          have hs32 := (sym_facts hsy).1
          have hst2 := HST.out
          rw [hsy] at hst2
          unfold matR at hst2
          rw [if_neg (fun h => h rfl)] at hst2
          dsimp only at hst2
          unfold farM at hst2
          have HDB := hid (fun w => distBase_any (s : Int) w)
          obtain ⟨l2, hl2⟩ : ∃ l2, l2 = l1.drop q2 := ⟨_, rfl⟩
          rw [← hl2] at hst2 H4
          have hb2 : isBits l2 := by rw [hl2]; exact isBits_drop HB.out.1 _
          have hlen2 : l2.length < bigD := by rw [hl2, List.length_drop]; have := HB.out.2.1; omega
          clear hsy HRI hl2
          by_cases h29 : 29 < s
          · rw [if_pos h29] at hst2
            rw [dists_bad h29] at HDB
            have HE := hid hst2
            have HNB := hid (fun w => num_bad (p := p) (w := w) 0 0)
            clear hst2 h29 hb2 hlen2
            go_wp2_with fail
            with_reducible refine (HDB.out _).mono ?_
            rintro e w5 ⟨rfl, rfl⟩
            go_wp2_with fail
            with_reducible refine (HNB.out _).mono ?_
            rintro e w5 ⟨rfl, rfl⟩
            go_wp2
            go_ret
            exact ⟨3, rfl, .bad H4.out HE.out (fun h => by cases h) ⟨rfl, rfl⟩⟩
          · rw [if_neg h29] at hst2
            rw [dists_ok (by omega)] at HDB
            have hx13 := dX_le s (by omega)
            have hdb := dB_le s (by omega)
            have hdm := dB_more s (by omega)
            cases htk : takeL l2 (dX s) with
            | none =>
              rw [htk] at hst2
              have HE := hid hst2
              have HNF := hid (num_few ((dB s : Nat) : Int) (dX s) (by omega) (takeL_none htk) H4.out)
              clear hst2 h29 hb2 hlen2 htk H4
              go_wp2_with fail
              with_reducible refine (HDB.out _).mono ?_
              rintro e w5 ⟨rfl, rfl⟩
              go_wp2_with fail
              with_reducible refine HNF.out.mono ?_
              rintro e w6 ⟨rfl, h6⟩
              have H6 := hid h6
              clear h6 HNF
              go_wp2
              go_ret
              exact ⟨5, rfl, .bad H6.out HE.out (fun _ => ⟨rfl, rfl, rfl⟩) ⟨rfl, rfl⟩⟩
            | some far =>
              rw [htk] at hst2
              dsimp only at hst2
              have hfar : far < 2 ^ dX s := by rw [(takeL_some htk).2]; exact num_lt hb2 _
              have HNY := num_yes (dB s) (dX s) far (by omega) (by omega) htk hb2 hlen2 H4.out
              obtain ⟨d, hd⟩ : ∃ d, d = dB s + far := ⟨_, rfl⟩
              rw [← hd] at HNY hst2
              have HNY := hid HNY
              have hd32 : d ≤ 32768 := by omega
              have hd0 : (0 : Int) ≤ (d : Int) := Int.natCast_nonneg _
              obtain ⟨m, hm⟩ : ∃ m, m = min o.length 32768 := ⟨_, rfl⟩
              have hm0 : (0 : Int) ≤ (m : Int) := Int.natCast_nonneg _
              have HMM := hid hm
              have HST2 := hid hst2
              have hcmp : o.length < d ↔ m < d := by omega
              have HCMP := hid hcmp
              clear hst2 h29 hb2 hlen2 htk H4 hfar hd hm hcmp hx13 hdb hdm
              go_wp2_with fail
              with_reducible refine (HDB.out _).mono ?_
              rintro e w5 ⟨rfl, rfl⟩
              go_wp2_with fail
              with_reducible refine HNY.out.mono ?_
              rintro e w6 ⟨rfl, h6⟩
              have H6 := hid h6
              have HWL := hid (dlen_any m HMM.out h6)
              clear h6 HNY HDB
              go_wp2_with fail
              with_reducible refine HWL.out.mono ?_
              rintro e w7 ⟨rfl, rfl⟩
              by_cases hmd : m < d
              · have hI : (m : Int) < (d : Int) := by omega
                have HE := HST2.out
                rw [if_pos (HCMP.out.2 hmd)] at HE
                have HE := hid HE
                clear hmd HWL
                go_wp2
                go_ret
                exact ⟨3, rfl, .bad H6.out HE.out (fun h => by cases h) ⟨rfl, rfl⟩⟩
              · have hI : ¬ (m : Int) < (d : Int) := by omega
                have HE := HST2.out
                rw [if_neg (fun h => hmd (HCMP.out.1 h))] at HE
                have HE := hid HE
                have c9 : w6.cell? ⟨p.b, p.o + 8 + 1, none⟩ = some (.int .i64 (left : Int)) := dcell H6.out 9 _ rfl
                have f9 : w6.frozen? ⟨p.b, p.o + 8 + 1, none⟩ = false := dfroz H6.out 9
                have c10 : w6.cell? ⟨p.b, p.o + 8 + 2, none⟩ = some (.int .i64 (dist : Int)) := dcell H6.out 10 _ rfl
                have f10 : w6.frozen? ⟨p.b, p.o + 8 + 2, none⟩ = false := dfroz H6.out 10
                have c7 : w6.cell? ⟨p.b, p.o + 7, none⟩ = some (.int .i64 6) := dcell H6.out 7 _ rfl
                have f7 : w6.frozen? ⟨p.b, p.o + 7, none⟩ = false := dfroz H6.out 7
                clear hmd HWL
                go_wp2
                go_ret
                have h7 := dset (dset (dset H6.out 9 (.int .i64 (n : Int)) ⟨wv, most, room, lv, 6, last, n, dist, hA, hB, hC, ht, hv, ptrO t1, ptrO t2, fl, fd, en⟩ rfl) 10 (.int .i64 (d : Int)) ⟨wv, most, room, lv, 6, last, n, d, hA, hB, hC, ht, hv, ptrO t1, ptrO t2, fl, fd, en⟩ rfl) 7 (.int .i64 7) ⟨wv, most, room, lv, 7, last, n, d, hA, hB, hC, ht, hv, ptrO t1, ptrO t2, fl, fd, en⟩ rfl
                exact ⟨0, rfl, .on HI.out HE.out h7 ⟨rfl, rfl, rfl, rfl, t1, t2, rfl, rfl, HM.out.1, HM.out.2⟩ HFX.out rfl rfl⟩
        · have HE := HST.out
          rw [hsy] at HE
          unfold matR at HE
          rw [if_pos he] at HE
          have HE := hid HE
          have heB : ((er : Int) == 0) = false := by simp; omega
          have heI : ¬ (er : Int) = 0 := by omega
          clear hsy he HRI
          go_wp2
          go_ret
          exact ⟨er, rfl, .bad H4.out HE.out (fun _ => ⟨rfl, rfl, rfl⟩) ⟨rfl, rfl⟩⟩
end
end Go.Proofs.YtmmfkppkmgjljaaDoor
