/-
  The walk of the law BitsRead.
-/
import Derived.Test.YtmkbifkmdmeklaaReadH
import Derived.Deep.DeepCutAuto
namespace Go.Proofs.Ytmkbifkmdmeklaa
open Go.RowKit

set_option maxRecDepth 100000 in
set_option maxHeartbeats 16000000 in
theorem readlaw_walk (av : Value) (acts : List Act1) (w : World) (ha : IsActs w av acts) :
    Calls Try.prog 4 #[av] w fun e w' => e = .returned (.bool true) ∧ Below w.heap.size w w' := by
  obtain ⟨ao, cap, rfl, hac, hcm, hacts⟩ := ha
  obtain ⟨n, hn⟩ : ∃ n, n = acts.length := ⟨_, rfl⟩
  rw [← hn] at hac hacts ⊢
  have HN := hid hn
  have HA := hid hacts
  unfold maxLen at hcm
  clear hn hacts
  go_enter Try.func4, Try.ntmps4
  go_wp2_with fail
  refine (h_newR (Held.start w)).mono ?_
  rintro e w1 ⟨Bw, rfl, H1⟩
  go_wp2_with fail
  refine (h_answers H1).mono ?_
  rintro e w2 ⟨rfl, H2⟩
  go_wp2
  go_loopg [4, 5] 101 (fun k t4 t5 wr => ∃ (i : Nat) (l : List Nat) (lo : Option Addr) (lc : Nat), i ≤ 100 ∧ 100 - i < k ∧ t5 = .int .i64 (i : Int) ∧ t4 = .slice lo l.length lc ∧ l.length ≤ 3000 * i ∧
    Held w wr [rdrT Bw l, ownT 5 1 (.slice lo l.length lc) l.length (u8s l)])
  case atStart => exact ⟨0, [], none, 0, by omega, by omega, rfl, rfl, by simp, (H2.nil _ _).swap⟩
  case round =>
    obtain ⟨i, l, lo, lc, hi, hk, rfl, rfl, hl, HR⟩ := hrel
    obtain ⟨L, hL⟩ : ∃ L, L = l.length := ⟨_, rfl⟩
    have hlb : isBits l := isBits_of_held HR
    rw [← hL] at hl HR ⊢
    have HL := hid hL
    clear hL
    by_cases hgo : i < n ∧ i < 100
    · obtain ⟨hin, hi100⟩ := hgo
      obtain ⟨g, off, rfl, hcell⟩ := HA.out.resolve_left (by omega)
      obtain ⟨a, haa⟩ : ∃ a, acts[i]? = some a := ⟨acts[i]'(by have := HN.out; omega), List.getElem?_eq_getElem _⟩
      obtain ⟨c0, c1, c2, c3, hrd, hv32, hb256, hblen⟩ := hcell i a haa
      have hM := HR.mod
      have hg := World.block_lt_of_cell? w _ c0
      have d0 := (hM.cell (p := ⟨g, off + i * 4, none⟩) hg (fun h => h)).trans c0
      have d1 := (hM.cell (p := ⟨g, off + i * 4 + 1, none⟩) hg (fun h => h)).trans c1
      have d2 := (hM.cell (p := ⟨g, off + i * 4 + 2, none⟩) hg (fun h => h)).trans c2
      have d3 := (hM.cell (p := ⟨g, off + i * 4 + 3, none⟩) hg (fun h => h)).trans c3
      have HM := hid hM
      obtain ⟨dd, dn, dv, db, dbv⟩ := a
      simp only at d0 d1 d2 d3 hrd hv32 hb256 hblen
      obtain ⟨bo, bc, rfl, _, _⟩ := hrd.form
      have hi0 : (0 : Int) ≤ (i : Int) := Int.natCast_nonneg _
      have hi1 : (i : Int) < (n : Int) := by omega
      have hi2 : (i : Int) < 100 := by omega
      clear hcell haa c0 c1 c2 c3 hM
      by_cases h3 : db.length ≤ 300
      · have h3' : ¬ (300 : Int) < (db.length : Int) := by omega
        have H3 : Held w (wr.alloc (.cells #[.int .i64 dd, .int .i64 dn, .int .u32 (dv : Int), .slice bo db.length bc] 29)) _ := (HR.newObj [.int .i64 dd, .int .i64 dn, .int .u32 (dv : Int), .slice bo db.length bc] 29)
        obtain ⟨Ba, hBa⟩ : ∃ Ba, Ba = wr.heap.size := ⟨_, rfl⟩
        have HBa := hid hBa
        have hev : (L : Int) % 8 = ((L % 8 : Nat) : Int) := by omega
        obtain ⟨ev, hevv⟩ : ∃ ev, ev = L % 8 := ⟨_, rfl⟩
        rw [← hevv] at hev
        have hevL : ev ≤ L := by omega
        have HEV := hid hevv
        clear hBa hevv
        go_upto_if 39 with (fail)
        rw [← HBa.out] at H3 ⊢
        obtain ⟨wa, hwa⟩ : ∃ wa, wa = wr.alloc (.cells #[.int .i64 dd, .int .i64 dn, .int .u32 (dv : Int), .slice bo db.length bc] 29) := ⟨_, rfl⟩
        rw [← hwa] at H3 ⊢
        clear hwa HBa d0 d1 d2 d3 HM HR
        go_step
        go_step
        go_step
        go_step
        go_step
        go_cut [7] (fun s7 wx => s7 = .int .i64 (ev : Int) ∧ wa = wx)
        case first =>
          go_wp2
          go_meet
          exact ⟨rfl, rfl⟩
        obtain ⟨rfl, rfl⟩ := hcut
        go_step
        go_step
        go_cut [4] (fun s4 wx => ∃ (l' : List Nat) (lo' : Option Addr) (lc' : Nat), s4 = .slice lo' l'.length lc' ∧ l'.length ≤ 3000 * (i + 1) ∧ Held w wx [rdrT Bw l', ownT 5 1 (.slice lo' l'.length lc') l'.length (u8s l')])
        case first =>
          have hdb : L < 300300 := by omega
          obtain ⟨ii, hii, hz0, hz1, hz2⟩ := info_parts Try.infoByteR
          have e0 := H3.obj.cell (i := 0) rfl
          have e1 := H3.obj.cell (i := 1) rfl
          have e2 := H3.obj.cell (i := 2) rfl
          have e3 := H3.obj.cell (i := 3) rfl
          by_cases k1 : dd = 1
          · subst k1
            as_aux_lemma =>
              have hrdb := H3.old hrd
              have ea3 : ∀ o, (wa.alloc o).cell? ⟨Ba, 3, none⟩ = some (.slice bo db.length bc) := fun o => (H3.obj.alloc o).cell (i := 3) rfl
              have hrdb' : Rd (wa.alloc (.cells #[] 5)) 1 (.slice bo db.length bc) db.length (u8s db) := hrdb.kept (S := fun _ => False) ((Mod.refl wa _).alloc _) (fun _ _ h => h)
              have H3' : Held w (wa.alloc (.cells #[] 5)) _ := H3.lit 5 1 [] 0 (by decide) rfl
              go_wp2_with (at_builtin; refine wpList_app _ rfl (.tmp 47) (.tmp 49) 26 rfl 5 ii (.int .u8 0) 1 1 Try.underlying26 hii hz0 hz1 hz2 rfl (by decide) (.slice (some ⟨wa.heap.size, 0, none⟩) 0 0) 0 [] rfl H3'.own (.slice bo db.length bc) db.length (u8s db) rfl hrdb' (u8s_one _) (by unfold maxLen; omega) (by omega) ?_; intro ao1 cap1 w4 hown1 hgrow hat)
              have H4 := (H3'.app hown1 hgrow hat).third
              simp only [Nat.zero_add, List.nil_append] at H4
              clear hown1 hgrow hat ea3 hrdb' H3'
              refine (h_feed H4 _ db.length db H4.swap.own.rd hb256 (by omega) (by have := HL.out; omega)).mono ?_
              rintro e w5 ⟨rfl, H5⟩
              go_wp2
              go_loopg [9] (db.length + 1) (fun k t9 wr => ∃ (j : Nat) (cs : List Nat), j ≤ db.length ∧ db.length - j < k ∧ t9 = .int .i64 (j : Int) ∧ cs.length = db.length ∧ (∀ x ∈ cs, x < 256) ∧
                Held w wr [ownT 5 1 (.slice ao1 db.length cap1) db.length (u8s cs), rdrT Bw (l ++ bits8 db), objT Ba [.int .i64 1, .int .i64 dn, .int .u32 (dv : Int), .slice bo db.length bc] 29, ownT 5 1 (.slice lo L lc) L (u8s l)])
              case atStart => exact ⟨0, db, by omega, by omega, rfl, rfl, hb256, H5.swap⟩
              case round =>
                obtain ⟨j, cs, hj, hjk, rfl, hcl, hc256, HC⟩ := hrel
                by_cases hjm : j < db.length
                · obtain ⟨g2, off2, rfl, hcell2, hfz2⟩ := HC.own.spot (by omega)
                  obtain ⟨x, hx⟩ : ∃ x, cs[j]? = some x := ⟨cs[j]'(by omega), List.getElem?_eq_getElem _⟩
                  have hx256 := hc256 x (List.mem_of_getElem? hx)
                  have hc2 : wr.cell? ⟨g2, off2 + j, none⟩ = some (.int .u8 (x : Int)) := hcell2 j _ (by rw [u8s_get, hx]; rfl)
                  have hf2 := hfz2 j
                  have hj0 : (0 : Int) ≤ (j : Int) := Int.natCast_nonneg _
                  have hj1 : (j : Int) < (db.length : Int) := by omega
                  have HCL := hid hcl
                  clear hcell2 hfz2 hx hcl
                  go_wp2
                  have hx1 : ((x : Int) + 1) % 256 = (((x + 1) % 256 : Nat) : Int) := by omega
                  have HS := HC.setOwn j hjm (.int .u8 (((x + 1) % 256 : Nat) : Int))
                  rw [← u8s_set] at HS
                  go_roundg (gk - 1)
                  case measure => omega
                  case rel =>
                    refine ⟨j + 1, cs.set j ((x + 1) % 256), by omega, by omega, by go_num, by rw [List.length_set]; exact HCL.out, fun y hy => ?_, by rw [hx1]; exact HS⟩
                    rcases List.mem_or_eq_of_mem_set hy with hy | rfl
                    · exact hc256 y hy
                    · omega
                · have hj1 : ¬ (j : Int) < (db.length : Int) := by omega
                  have f3 := HC.third.obj.cell (i := 3) rfl
                  have hrdb2 := HC.old hrd
                  go_wp2_with fail
                  refine (h_bits HC.drop _ db hrdb2 hb256 (by omega)).mono ?_
                  rintro e w7 ⟨bb, rfl, H7⟩
                  go_wp2_with (at_builtin; refine wpList_app _ rfl (.tmp 66) (.tmp 69) 26 rfl 5 ii (.int .u8 0) 1 1 Try.underlying26 hii hz0 hz1 hz2 rfl (by decide) (.slice lo L lc) L (u8s l) rfl H7.fourth.own bb (8 * db.length) (u8s (bits8 db)) rfl H7.own.rd (u8s_one _) (by unfold maxLen; omega) (by omega) ?_; intro ao2 cap2 w8 hown2 hgrow2 hat2)
                  go_meet
                  have H8 := (H7.fourth.app hown2 hgrow2 hat2).third.two
                  refine ⟨l ++ bits8 db, ao2, cap2, ?_, ?_, ?_⟩
                  · rw [List.length_append, bits8_length, ← HL.out]
                  · rw [List.length_append, bits8_length, ← HL.out]; omega
                  · rw [List.length_append, bits8_length, ← HL.out, u8s_append]; exact H8
          · by_cases k2 : dd = 2
            · subst k2
              as_aux_lemma =>
                by_cases hN : 0 ≤ dn ∧ dn ≤ 32
                · obtain ⟨hN0, hN1⟩ := hN
                  obtain ⟨m, rfl⟩ := Int.eq_ofNat_of_zero_le hN0
                  have hm32 : m ≤ 32 := by omega
                  by_cases hmL : m ≤ L
                  · have hmL' : (m : Int) ≤ (L : Int) := by omega
                    obtain ⟨q, hq⟩ : ∃ q, q = numOf (l.take m) := ⟨_, rfl⟩
                    have hq32 : q < 4294967296 := by
                      rw [hq]; exact Nat.lt_of_lt_of_le (numOf_lt _ (isBits_take hlb m)) (Nat.pow_le_pow_right (n := 2) (by decide) (show (l.take m).length ≤ 32 by rw [List.length_take]; omega))
                    have HQ := hid hq
                    have hqq : ((q : Int) != (q : Int)) = false := by simp
                    clear hq
                    go_wp2_with fail
                    refine (h_peek H3.swap m hm32 (by have := HL.out; omega) (by have := HL.out; omega)).mono ?_
                    rw [← HQ.out]
                    rintro e w4 ⟨rfl, H4⟩
                    have f0 := H4.swap.obj.cell (i := 0) rfl
                    have f1 := H4.swap.obj.cell (i := 1) rfl
                    go_wp2_with ((with_reducible show wpList _ _ _ (⟨some 125, _, _, _, _, _⟩ :: _) _ _); refine wpList_take_rd rfl 26 (.tmp 122) (.tmp 124) rfl 5 ii Try.underlying26 hii hz1 lo L lc m l rfl H4.third.own.rd ⟨_, rfl⟩ hmL ?_; intro a' hrd')
                    refine (h_number H4 _ m q _ (l.take m) hrd' rfl (isBits_take hlb m) (by omega) HQ.out).mono ?_
                    rintro e w6 ⟨rfl, H6⟩
                    have b0 := H6.swap.obj.cell (i := 0) rfl
                    have b1 := H6.swap.obj.cell (i := 1) rfl
                    go_wp2
                    go_meet
                    exact ⟨l, lo, lc, by rw [← HL.out], by rw [← HL.out]; omega, by rw [← HL.out]; exact H6.swap.drop⟩
                  · have hmL' : decide ((m : Int) ≤ (L : Int)) = false := by simp; omega
                    go_wp2_with fail
                    refine (h_peek_few H3.swap m hm32 (by have := HL.out; omega)).mono ?_
                    rintro e w4 ⟨rfl, H4⟩
                    have f0 := H4.swap.obj.cell (i := 0) rfl
                    have f1 := H4.swap.obj.cell (i := 1) rfl
                    go_wp2
                    go_meet
                    exact ⟨l, lo, lc, by rw [← HL.out], by rw [← HL.out]; omega, by rw [← HL.out]; exact H4.swap.drop⟩
                · have hN' : dn < 0 ∨ 32 < dn := by omega
                  by_cases hN0 : 0 ≤ dn
                  · have hN1 : decide (dn ≤ 32) = false := by simp; omega
                    clear hN
                    go_wp2_with fail
                    refine (h_peek_bad H3.swap dn hN').mono ?_
                    rintro e w4 ⟨rfl, H4⟩
                    have f0 := H4.swap.obj.cell (i := 0) rfl
                    have f1 := H4.swap.obj.cell (i := 1) rfl
                    go_wp2
                    go_meet
                    exact ⟨l, lo, lc, by rw [← HL.out], by rw [← HL.out]; omega, by rw [← HL.out]; exact H4.swap.drop⟩
                  · clear hN
                    go_wp2_with fail
                    refine (h_peek_bad H3.swap dn hN').mono ?_
                    rintro e w4 ⟨rfl, H4⟩
                    have f0 := H4.swap.obj.cell (i := 0) rfl
                    have f1 := H4.swap.obj.cell (i := 1) rfl
                    go_wp2
                    go_meet
                    exact ⟨l, lo, lc, by rw [← HL.out], by rw [← HL.out]; omega, by rw [← HL.out]; exact H4.swap.drop⟩
            · by_cases k3 : dd = 3
              · subst k3
                as_aux_lemma =>
                  by_cases hN : 0 ≤ dn ∧ dn ≤ 32
                  · obtain ⟨hN0, hN1⟩ := hN
                    obtain ⟨m, rfl⟩ := Int.eq_ofNat_of_zero_le hN0
                    have hm32 : m ≤ 32 := by omega
                    by_cases hmL : m ≤ L
                    · have hmL' : (m : Int) ≤ (L : Int) := by omega
                      obtain ⟨q, hq⟩ : ∃ q, q = numOf (l.take m) := ⟨_, rfl⟩
                      have hq32 : q < 4294967296 := by
                        rw [hq]; exact Nat.lt_of_lt_of_le (numOf_lt _ (isBits_take hlb m)) (Nat.pow_le_pow_right (n := 2) (by decide) (show (l.take m).length ≤ 32 by rw [List.length_take]; omega))
                      have HQ := hid hq
                      have hqq : ((q : Int) != (q : Int)) = false := by simp
                      clear hq
                      go_wp2_with fail
                      refine (h_peek H3.swap m hm32 (by have := HL.out; omega) (by have := HL.out; omega)).mono ?_
                      rw [← HQ.out]
                      rintro e w4 ⟨rfl, H4⟩
                      have f0 := H4.swap.obj.cell (i := 0) rfl
                      have f1 := H4.swap.obj.cell (i := 1) rfl
                      go_wp2_with fail
                      refine (h_get H4 m hm32 (by have := HL.out; omega) (by have := HL.out; omega)).mono ?_
                      rw [← HQ.out]
                      rintro e w5 ⟨rfl, H5⟩
                      have g0 := H5.swap.obj.cell (i := 0) rfl
                      have g1 := H5.swap.obj.cell (i := 1) rfl
                      go_wp2_with ((with_reducible show wpList _ _ _ (⟨some 125, _, _, _, _, _⟩ :: _) _ _); refine wpList_take_rd rfl 26 (.tmp 122) (.tmp 124) rfl 5 ii Try.underlying26 hii hz1 lo L lc m l rfl H5.third.own.rd ⟨_, rfl⟩ hmL ?_; intro a' hrd')
                      refine (h_number H5 _ m q _ (l.take m) hrd' rfl (isBits_take hlb m) (by omega) HQ.out).mono ?_
                      rintro e w6 ⟨rfl, H6⟩
                      have b0 := H6.swap.obj.cell (i := 0) rfl
                      have b1 := H6.swap.obj.cell (i := 1) rfl
                      go_wp2_with ((with_reducible show wpList _ _ _ (⟨some 139, _, _, _, _, _⟩ :: _) _ _); refine wpList_drop_own rfl 26 (.tmp 136) (.tmp 138) rfl 5 ii Try.underlying26 hii hz1 lo L lc m (L - m) l rfl H6.third.own HL.out rfl ⟨_, rfl⟩ hmL ?_; intro a2 hown' hbl')
                      go_meet
                      have hll : (l.drop m).length = L - m := by rw [List.length_drop, HL.out]
                      refine ⟨l.drop m, a2, lc - m, by rw [hll], by rw [hll]; omega, ?_⟩
                      rw [hll]
                      exact (H6.third.recut hown' hbl').swap.two
                    · have hmL' : decide ((m : Int) ≤ (L : Int)) = false := by simp; omega
                      go_wp2_with fail
                      refine (h_peek_few H3.swap m hm32 (by have := HL.out; omega)).mono ?_
                      rintro e w4 ⟨rfl, H4⟩
                      have f0 := H4.swap.obj.cell (i := 0) rfl
                      have f1 := H4.swap.obj.cell (i := 1) rfl
                      go_wp2_with fail
                      refine (h_get_few H4 m hm32 (by have := HL.out; omega)).mono ?_
                      rintro e w5 ⟨rfl, H5⟩
                      have g0 := H5.swap.obj.cell (i := 0) rfl
                      have g1 := H5.swap.obj.cell (i := 1) rfl
                      go_wp2
                      go_meet
                      exact ⟨l, lo, lc, by rw [← HL.out], by rw [← HL.out]; omega, by rw [← HL.out]; exact H5.swap.drop⟩
                  · have hN' : dn < 0 ∨ 32 < dn := by omega
                    by_cases hN0 : 0 ≤ dn
                    · have hN1 : decide (dn ≤ 32) = false := by simp; omega
                      clear hN
                      go_wp2_with fail
                      refine (h_peek_bad H3.swap dn hN').mono ?_
                      rintro e w4 ⟨rfl, H4⟩
                      have f0 := H4.swap.obj.cell (i := 0) rfl
                      have f1 := H4.swap.obj.cell (i := 1) rfl
                      go_wp2_with fail
                      refine (h_get_bad H4 dn hN').mono ?_
                      rintro e w5 ⟨rfl, H5⟩
                      have g0 := H5.swap.obj.cell (i := 0) rfl
                      have g1 := H5.swap.obj.cell (i := 1) rfl
                      go_wp2
                      go_meet
                      exact ⟨l, lo, lc, by rw [← HL.out], by rw [← HL.out]; omega, by rw [← HL.out]; exact H5.swap.drop⟩
                    · clear hN
                      go_wp2_with fail
                      refine (h_peek_bad H3.swap dn hN').mono ?_
                      rintro e w4 ⟨rfl, H4⟩
                      have f0 := H4.swap.obj.cell (i := 0) rfl
                      have f1 := H4.swap.obj.cell (i := 1) rfl
                      go_wp2_with fail
                      refine (h_get_bad H4 dn hN').mono ?_
                      rintro e w5 ⟨rfl, H5⟩
                      have g0 := H5.swap.obj.cell (i := 0) rfl
                      have g1 := H5.swap.obj.cell (i := 1) rfl
                      go_wp2
                      go_meet
                      exact ⟨l, lo, lc, by rw [← HL.out], by rw [← HL.out]; omega, by rw [← HL.out]; exact H5.swap.drop⟩
              · by_cases k4 : dd = 4
                · subst k4
                  as_aux_lemma =>
                    go_wp2_with fail
                    refine (h_ralign H3.swap).mono ?_
                    rw [← HL.out, ← HEV.out]
                    rintro e w4 ⟨rfl, H4⟩
                    go_wp2_with ((with_reducible show wpList _ _ _ (⟨some 146, _, _, _, _, _⟩ :: _) _ _); refine wpList_drop_own rfl 26 (.tmp 144) (.tmp 145) rfl 5 ii Try.underlying26 hii hz1 lo L lc ev (L - ev) l rfl H4.third.own HL.out rfl ⟨_, rfl⟩ hevL ?_; intro a' hown' hbl')
                    go_meet
                    have hll : (l.drop ev).length = L - ev := by rw [List.length_drop, HL.out]
                    refine ⟨l.drop ev, a', lc - ev, by rw [hll], by rw [hll]; omega, ?_⟩
                    rw [hll]
                    exact (H4.third.recut hown' hbl').swap.two
                · by_cases k5 : dd = 5
                  · subst k5
                    as_aux_lemma =>
                      obtain ⟨M, hM⟩ : ∃ M, M = L - ev := ⟨_, rfl⟩
                      obtain ⟨l2, hl2⟩ : ∃ l2, l2 = l.drop ev := ⟨_, rfl⟩
                      have hl2L : l2.length = M := by rw [hl2, List.length_drop, hM, ← HL.out]
                      have hlb2 : isBits l2 := by rw [hl2]; exact isBits_drop hlb ev
                      obtain ⟨M8, hM8⟩ : ∃ M8, M8 = M / 8 := ⟨_, rfl⟩
                      have hdiv : (M : Int) / 8 = (M8 : Int) := by omega
                      obtain ⟨k, hk⟩ : ∃ k, k = readN l dn := ⟨_, rfl⟩
                      have hkm : k = min dn.toNat M8 := by rw [hk, readN, ← HL.out, ← HEV.out, ← hl2, hl2L, hM8]
                      obtain ⟨k8, hk8'⟩ : ∃ k8, k8 = 8 * k := ⟨_, rfl⟩
                      have hk8 : k8 ≤ M := by omega
                      have hmul : (8 : Int) * (k : Int) = (k8 : Int) := by omega
                      have hMb : M < 300300 := by omega
                      have hT : k8 = (l2.take k8).length := by rw [List.length_take, hl2L]; omega
                      have hT2 : k = (bytesOf (l2.take k8)).length := by rw [bytesOf_length, ← hT]; omega
                      have hBT : bytesOf (l2.take k8) = (bytesOf l2).take k := by rw [hk8']; exact bytesOf_take l2 k (by rw [hl2L]; omega)
                      have HMM := hid hM
                      have HL2 := hid hl2
                      have HL2L := hid hl2L
                      have HK := hid hk
                      have HK8 := hid hk8'
                      have HT := hid hT
                      have HT2 := hid hT2
                      have HBT := hid hBT
                      clear hM hl2 hl2L hk hk8' hT hT2 hBT
                      rcases (show (M8 : Int) < dn ∧ k = M8 ∨ dn < 0 ∧ k = 0 ∨ ¬ (M8 : Int) < dn ∧ dn = (k : Int) by omega) with ⟨hd, rfl⟩ | ⟨hd, hk0⟩ | ⟨hd, rfl⟩
                      · clear hkm hM8
                        go_wp2_with fail
                        refine (h_read H3.swap dn (by have := HL.out; omega)).mono ?_
                        rw [← HL.out, ← HEV.out, ← HL2.out, ← HK.out]
                        rintro e w4 ⟨v, rfl, H4⟩
                        have f1 := H4.third.obj.cell (i := 1) rfl
                        obtain ⟨vo, vc, rfl, _, _⟩ := H4.own.form
                        go_wp2_with (first
                          | ((with_reducible show wpList _ _ _ (⟨some 155, _, _, _, _, _⟩ :: _) _ _); refine wpList_drop_own rfl 26 (.tmp 153) (.tmp 154) rfl 5 ii Try.underlying26 hii hz1 lo L lc ev M l rfl H4.fourth.own HL.out HMM.out ⟨_, rfl⟩ hevL ?_; rw [← HL2.out]; intro a' hown' hbl'; have H5 := H4.fourth.recut hown' hbl')
                          | ((with_reducible show wpList _ _ _ (⟨some 172, _, _, _, _, _⟩ :: _) _ _); refine wpList_take_rd rfl 26 (.tmp 169) (.tmp 171) rfl 5 ii Try.underlying26 hii hz1 a' M (lc - ev) k8 l2 rfl H5.own.rd ⟨_, rfl⟩ hk8 ?_; intro a2 hrd2))
                        refine (h_bytes_n H5 _ (l2.take k8) k8 k HT.out HT2.out hrd2 (isBits_take hlb2 _) (by rw [← HT.out]; omega)).mono ?_
                        rw [HBT.out]
                        rintro e w6 ⟨bb, rfl, H6⟩
                        go_wp2_with fail
                        refine (h_same_yes H6 _ _ ((bytesOf l2).take k) k H6.third.own.rd H6.own.rd (by omega)).mono ?_
                        rintro e w7 ⟨rfl, H7⟩
                        go_wp2_with ((with_reducible show wpList _ _ _ (⟨some 179, _, _, _, _, _⟩ :: _) _ _); refine wpList_drop_own rfl 26 (.tmp 176) (.tmp 178) rfl 5 ii Try.underlying26 hii hz1 a' M (lc - ev) k8 (M - k8) l2 rfl H7.swap.own HL2L.out.symm rfl ⟨_, rfl⟩ hk8 ?_; intro a3 hown3 hbl3)
                        go_meet
                        have hll : (l2.drop k8).length = M - k8 := by rw [List.length_drop, HL2L.out]
                        refine ⟨l2.drop k8, a3, lc - ev - k8, by rw [hll], by rw [hll]; have := HMM.out; omega, ?_⟩
                        rw [hll]
                        have H9 := ((H7.swap.recut hown3 hbl3).fourth).two
                        rw [← HK8.out] at H9
                        exact H9
                      · have HZ : Hid (k8 = 0) := by have := HK8.out; exact hid (by omega)
                        have hd2 : ¬ (M8 : Int) < dn := by omega
                        have hkb : k ≤ 300300 := by omega
                        clear hkm hM8 hk0
                        go_wp2_with fail
                        refine (h_read H3.swap dn (by have := HL.out; omega)).mono ?_
                        rw [← HL.out, ← HEV.out, ← HL2.out, ← HK.out]
                        rintro e w4 ⟨v, rfl, H4⟩
                        have f1 := H4.third.obj.cell (i := 1) rfl
                        obtain ⟨vo, vc, rfl, _, _⟩ := H4.own.form
                        go_wp2_with (first
                          | ((with_reducible show wpList _ _ _ (⟨some 155, _, _, _, _, _⟩ :: _) _ _); refine wpList_drop_own rfl 26 (.tmp 153) (.tmp 154) rfl 5 ii Try.underlying26 hii hz1 lo L lc ev M l rfl H4.fourth.own HL.out HMM.out ⟨_, rfl⟩ hevL ?_; rw [← HL2.out]; intro a' hown' hbl'; have H5 := H4.fourth.recut hown' hbl')
                          | ((with_reducible show wpList _ _ _ (⟨some 172, _, _, _, _, _⟩ :: _) _ _); refine wpList_take_rd rfl 26 (.tmp 169) (.tmp 171) rfl 5 ii Try.underlying26 hii hz1 a' M (lc - ev) k8 l2 rfl H5.own.rd (bnd_zero HZ.out) hk8 ?_; intro a2 hrd2))
                        refine (h_bytes_n H5 _ (l2.take k8) k8 k HT.out HT2.out hrd2 (isBits_take hlb2 _) (by rw [← HT.out]; omega)).mono ?_
                        rw [HBT.out]
                        rintro e w6 ⟨bb, rfl, H6⟩
                        go_wp2_with fail
                        refine (h_same_yes H6 _ _ ((bytesOf l2).take k) k H6.third.own.rd H6.own.rd (by omega)).mono ?_
                        rintro e w7 ⟨rfl, H7⟩
                        go_wp2_with ((with_reducible show wpList _ _ _ (⟨some 179, _, _, _, _, _⟩ :: _) _ _); refine wpList_drop_own rfl 26 (.tmp 176) (.tmp 178) rfl 5 ii Try.underlying26 hii hz1 a' M (lc - ev) k8 (M - k8) l2 rfl H7.swap.own HL2L.out.symm rfl (bnd_zero HZ.out) hk8 ?_; intro a3 hown3 hbl3)
                        go_meet
                        have hll : (l2.drop k8).length = M - k8 := by rw [List.length_drop, HL2L.out]
                        refine ⟨l2.drop k8, a3, lc - ev - k8, by rw [hll], by rw [hll]; have := HMM.out; omega, ?_⟩
                        rw [hll]
                        have H9 := ((H7.swap.recut hown3 hbl3).fourth).two
                        rw [← HK8.out] at H9
                        exact H9
                      · have hd3 : ¬ (k : Int) < 0 := by omega
                        clear hkm hM8
                        go_wp2_with fail
                        refine (h_read H3.swap (k : Int) (by have := HL.out; omega)).mono ?_
                        rw [← HL.out, ← HEV.out, ← HL2.out, ← HK.out]
                        rintro e w4 ⟨v, rfl, H4⟩
                        have f1 := H4.third.obj.cell (i := 1) rfl
                        obtain ⟨vo, vc, rfl, _, _⟩ := H4.own.form
                        go_wp2_with (first
                          | ((with_reducible show wpList _ _ _ (⟨some 155, _, _, _, _, _⟩ :: _) _ _); refine wpList_drop_own rfl 26 (.tmp 153) (.tmp 154) rfl 5 ii Try.underlying26 hii hz1 lo L lc ev M l rfl H4.fourth.own HL.out HMM.out ⟨_, rfl⟩ hevL ?_; rw [← HL2.out]; intro a' hown' hbl'; have H5 := H4.fourth.recut hown' hbl')
                          | ((with_reducible show wpList _ _ _ (⟨some 172, _, _, _, _, _⟩ :: _) _ _); refine wpList_take_rd rfl 26 (.tmp 169) (.tmp 171) rfl 5 ii Try.underlying26 hii hz1 a' M (lc - ev) k8 l2 rfl H5.own.rd ⟨_, rfl⟩ hk8 ?_; intro a2 hrd2))
                        refine (h_bytes_n H5 _ (l2.take k8) k8 k HT.out HT2.out hrd2 (isBits_take hlb2 _) (by rw [← HT.out]; omega)).mono ?_
                        rw [HBT.out]
                        rintro e w6 ⟨bb, rfl, H6⟩
                        go_wp2_with fail
                        refine (h_same_yes H6 _ _ ((bytesOf l2).take k) k H6.third.own.rd H6.own.rd (by omega)).mono ?_
                        rintro e w7 ⟨rfl, H7⟩
                        go_wp2_with ((with_reducible show wpList _ _ _ (⟨some 179, _, _, _, _, _⟩ :: _) _ _); refine wpList_drop_own rfl 26 (.tmp 176) (.tmp 178) rfl 5 ii Try.underlying26 hii hz1 a' M (lc - ev) k8 (M - k8) l2 rfl H7.swap.own HL2L.out.symm rfl ⟨_, rfl⟩ hk8 ?_; intro a3 hown3 hbl3)
                        go_meet
                        have hll : (l2.drop k8).length = M - k8 := by rw [List.length_drop, HL2L.out]
                        refine ⟨l2.drop k8, a3, lc - ev - k8, by rw [hll], by rw [hll]; have := HMM.out; omega, ?_⟩
                        rw [hll]
                        have H9 := ((H7.swap.recut hown3 hbl3).fourth).two
                        rw [← HK8.out] at H9
                        exact H9
                  · have n1 : (dd == 1) = false := by simp [k1]
                    have n2 : (dd == 2) = false := by simp [k2]
                    have n3 : (dd == 3) = false := by simp [k3]
                    have n4 : (dd == 4) = false := by simp [k4]
                    have n5 : (dd == 5) = false := by simp [k5]
                    go_wp2
                    go_meet
                    exact ⟨l, lo, lc, by rw [← HL.out], by rw [← HL.out]; omega, by rw [← HL.out]; exact H3.drop⟩
        case rest =>
          obtain ⟨l', lo', lc', rfl, hl', H6⟩ := hcut
          have hqq : ((l'.length : Int) != (l'.length : Int)) = false := by simp
          go_wp2_with fail
          refine (h_left H6 (by omega)).mono ?_
          rintro e w7 ⟨rfl, H7⟩
          go_wp2
          go_roundg (gk - 1)
          case measure => omega
          case rel => exact ⟨i + 1, l', lo', lc', by omega, by omega, by go_num, rfl, hl', H7⟩
      · have h3' : (300 : Int) < (db.length : Int) := by omega
        have H3 : Held w (wr.alloc (.cells #[.int .i64 dd, .int .i64 dn, .int .u32 (dv : Int), .slice bo db.length bc] 29)) _ := HR.alloc _
        go_wp2
        go_roundg (gk - 1)
        case measure => omega
        case rel => exact ⟨i + 1, l, lo, lc, by omega, by omega, by go_num, by rw [← HL.out], by rw [← HL.out]; omega, by rw [← HL.out]; exact H3⟩
    · have hex : ¬ (i : Int) < (n : Int) ∨ (i : Int) < (n : Int) ∧ ¬ (i : Int) < 100 := by omega
      rcases hex with hex | ⟨hex, hex2⟩
      all_goals
        go_wp2
        go_ret
        exact ⟨rfl, HR.below⟩
end Go.Proofs.Ytmkbifkmdmeklaa
