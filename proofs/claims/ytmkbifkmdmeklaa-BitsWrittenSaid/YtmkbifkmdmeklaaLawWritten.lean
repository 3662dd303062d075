/-
  The walk of the law BitsWritten.
-/
import Derived.Test.YtmkbifkmdmeklaaBitsH2
import Derived.Test.YtmkbifkmdmeklaaActs
import Derived.Deep.DeepCutAuto
namespace Go.Proofs.Ytmkbifkmdmeklaa
open Go.RowKit

set_option maxRecDepth 100000 in
set_option maxHeartbeats 3200000 in
theorem written_walk (av : Value) (acts : List Act1) (w : World) (ha : IsActs w av acts) :
    Calls Try.prog 3 #[av] w fun e w' => e = .returned (.bool true) ∧ Below w.heap.size w w' := by
  obtain ⟨ao, cap, rfl, hac, hcm, hacts⟩ := ha
  obtain ⟨n, hn⟩ : ∃ n, n = acts.length := ⟨_, rfl⟩
  rw [← hn] at hac hacts ⊢
  have HN := hid hn
  have HA := hid hacts
  unfold maxLen at hcm
  clear hn hacts
  go_enter Try.func3, Try.ntmps3
  go_wp2_with fail
  refine (h_newW (Held.start w)).mono ?_
  rintro e w1 ⟨Bw, rfl, H1⟩
  go_wp2_with fail
  refine (h_answers H1).mono ?_
  rintro e w2 ⟨rfl, H2⟩
  go_wp2
  go_loopg [4, 5] 101 (fun k t4 t5 wr => ∃ (i : Nat) (l : List Nat) (lo : Option Addr) (lc : Nat), i ≤ 100 ∧ 100 - i < k ∧ t5 = .int .i64 (i : Int) ∧ t4 = .slice lo l.length lc ∧ l.length ≤ 3000 * i ∧
    Held w wr [wrT Bw l, ownT 5 1 (.slice lo l.length lc) l.length (u8s l)])
  case atStart => exact ⟨0, [], none, 0, by omega, by omega, rfl, rfl, by simp, (H2.nil _ _).swap⟩
  case round =>
    obtain ⟨i, l, lo, lc, hi, hk, rfl, rfl, hl, HR⟩ := hrel
    obtain ⟨L, hL⟩ : ∃ L, L = l.length := ⟨_, rfl⟩
    rw [← hL] at hl HR ⊢
    have HL := hid hL
    clear hL
    by_cases hgo : i < n ∧ i < 100
    · obtain ⟨hin, hi100⟩ := hgo
      obtain ⟨g, off, rfl, hcell⟩ := HA.out.resolve_left (by omega)
      obtain ⟨a, haa⟩ : ∃ a, acts[i]? = some a := ⟨acts[i]'(by have := HN.out; omega), List.getElem?_eq_getElem _⟩
      obtain ⟨c0, c1, c2, c3, hrd, hv32, hb256, hblen⟩ := hcell i a haa
      have hM := HR.mod
      have hg := World.block_lt_of_cell? w _ c0
      have d0 := (hM.cell (p := ⟨g, off + i * 4, none⟩) hg (fun h => h)).trans c0
      have d1 := (hM.cell (p := ⟨g, off + i * 4 + 1, none⟩) hg (fun h => h)).trans c1
      have d2 := (hM.cell (p := ⟨g, off + i * 4 + 2, none⟩) hg (fun h => h)).trans c2
      have d3 := (hM.cell (p := ⟨g, off + i * 4 + 3, none⟩) hg (fun h => h)).trans c3
      have HM := hid hM
      obtain ⟨dd, dn, dv, db, dbv⟩ := a
      simp only at d0 d1 d2 d3 hrd hv32 hb256 hblen
      obtain ⟨bo, bc, rfl, _, _⟩ := hrd.form
      have hi0 : (0 : Int) ≤ (i : Int) := Int.natCast_nonneg _
      have hi1 : (i : Int) < (n : Int) := by omega
      have hi2 : (i : Int) < 100 := by omega
      clear hcell haa c0 c1 c2 c3 hM
      by_cases h3 : db.length ≤ 300
      · have h3' : ¬ (300 : Int) < (db.length : Int) := by omega
        have H3 : Held w (wr.alloc (.cells #[.int .i64 dd, .int .i64 dn, .int .u32 (dv : Int), .slice bo db.length bc] 29)) _ := (HR.newObj [.int .i64 dd, .int .i64 dn, .int .u32 (dv : Int), .slice bo db.length bc] 29)
        obtain ⟨Ba, hBa⟩ : ∃ Ba, Ba = wr.heap.size := ⟨_, rfl⟩
        have HBa := hid hBa
        clear hBa
        go_upto_if 32 with (fail)
        rw [← HBa.out] at H3 ⊢
        obtain ⟨wa, hwa⟩ : ∃ wa, wa = wr.alloc (.cells #[.int .i64 dd, .int .i64 dn, .int .u32 (dv : Int), .slice bo db.length bc] 29) := ⟨_, rfl⟩
        rw [← hwa] at H3 ⊢
        clear hwa HBa d0 d1 d2 d3 HM HR
        go_step
        go_step
        go_step
        go_step
        go_step
        go_cut [4] (fun s4 wx => ∃ (l' : List Nat) (lo' : Option Addr) (lc' : Nat), s4 = .slice lo' l'.length lc' ∧ l'.length ≤ 3000 * (i + 1) ∧ Held w wx [wrT Bw l', ownT 5 1 (.slice lo' l'.length lc') l'.length (u8s l')])
        case first =>
          have hdb : L < 300300 := by omega
          obtain ⟨ii, hii, hz0, hz1, hz2⟩ := info_parts Try.infoByteR
          have e0 := H3.obj.cell (i := 0) rfl
          have e1 := H3.obj.cell (i := 1) rfl
          have e2 := H3.obj.cell (i := 2) rfl
          have e3 := H3.obj.cell (i := 3) rfl
          by_cases k1 : dd = 1
          · subst k1
            by_cases hN : 0 ≤ dn ∧ dn ≤ 32
            · obtain ⟨hN0, hN1⟩ := hN
              obtain ⟨m, rfl⟩ := Int.eq_ofNat_of_zero_le hN0
              go_wp2_with fail
              refine (h_put H3.swap dv m hv32 (by omega) (by have := HL.out; omega)).mono ?_
              rintro e w4 ⟨rfl, H4⟩
              have f1 := H4.swap.obj.cell (i := 1) rfl
              have f2 := H4.swap.obj.cell (i := 2) rfl
              go_wp2_with fail
              refine (h_of H4 dv m hv32 (by omega)).mono ?_
              rintro e w5 ⟨lv, rfl, H5⟩
              have hmb : m ≤ 32 := by omega
              go_wp2_with (at_builtin; refine wpList_app _ rfl (.tmp 51) (.tmp 56) 26 rfl 5 ii (.int .u8 0) 1 1 Try.underlying26 hii hz0 hz1 hz2 rfl (by decide) (.slice lo L lc) L (u8s l) rfl H5.fourth.own lv m (u8s (bitsOf m dv)) rfl H5.own.rd (u8s_one _) (by unfold maxLen; omega) (by omega) ?_; intro ao1 cap1 w6 hown1 hgrow hat)
              go_meet
              have H6 := ((H5.fourth.app hown1 hgrow hat).swap.drop).swap.third.drop
              refine ⟨l ++ bitsOf m dv, ao1, cap1, ?_, ?_, ?_⟩
              · rw [List.length_append, bitsOf_length, ← HL.out]
              · rw [List.length_append, bitsOf_length, ← HL.out]; omega
              · rw [List.length_append, bitsOf_length, ← HL.out, u8s_append]; exact H6
            · have hN' : dn < 0 ∨ 32 < dn := by omega
              by_cases hN0 : 0 ≤ dn
              · have hN1 : decide (dn ≤ 32) = false := by simp; omega
                clear hN
                go_wp2_with (go_at_call 10; refine (put_not _ _ _ _ hN').mono ?_; rintro e w' ⟨rfl, rfl⟩)
                go_meet
                exact ⟨l, lo, lc, by rw [← HL.out], by rw [← HL.out]; omega, by rw [← HL.out]; exact H3.drop⟩
              · clear hN
                go_wp2_with (go_at_call 10; refine (put_not _ _ _ _ hN').mono ?_; rintro e w' ⟨rfl, rfl⟩)
                go_meet
                exact ⟨l, lo, lc, by rw [← HL.out], by rw [← HL.out]; omega, by rw [← HL.out]; exact H3.drop⟩
          · by_cases k2 : dd = 2
            · subst k2
              go_wp2_with fail
              refine (h_walign H3.swap (by have := HL.out; omega)).mono ?_
              rintro e w4 ⟨rfl, H4⟩
              have hrdl : Rd w4 1 (.slice lo L lc) l.length (u8s l) := by rw [← HL.out]; exact H4.third.own.rd
              go_wp2_with fail
              refine (h_even H4 _ l hrdl (by have := HL.out; omega)).mono ?_
              rintro e w5 ⟨lv, rfl, H5⟩
              obtain ⟨lo5, lc5, rfl, _, _⟩ := H5.own.form
              go_wp2
              go_meet
              have hel := evened_le l
              exact ⟨evened l, lo5, lc5, rfl, by have := HL.out; omega, H5.fourth.drop.third.drop.swap⟩
            · by_cases k3 : dd = 3
              · subst k3
                have hrdb := H3.old hrd
                have ea3 : ∀ o, (wa.alloc o).cell? ⟨Ba, 3, none⟩ = some (.slice bo db.length bc) := fun o => (H3.obj.alloc o).cell (i := 3) rfl
                have hrdb' : Rd (wa.alloc (.cells #[] 5)) 1 (.slice bo db.length bc) db.length (u8s db) := hrdb.kept (S := fun _ => False) ((Mod.refl wa _).alloc _) (fun _ _ h => h)
                have H3' : Held w (wa.alloc (.cells #[] 5)) _ := H3.lit 5 1 [] 0 (by decide) rfl
                go_wp2_with (at_builtin; refine wpList_app _ rfl (.tmp 67) (.tmp 69) 26 rfl 5 ii (.int .u8 0) 1 1 Try.underlying26 hii hz0 hz1 hz2 rfl (by decide) (.slice (some ⟨wa.heap.size, 0, none⟩) 0 0) 0 [] rfl H3'.own (.slice bo db.length bc) db.length (u8s db) rfl hrdb' (u8s_one _) (by unfold maxLen; omega) (by omega) ?_; intro ao1 cap1 w4 hown1 hgrow hat)
                have H4 := (H3'.app hown1 hgrow hat).third
                simp only [Nat.zero_add, List.nil_append] at H4
                refine (h_write_own H4 hb256 (by omega) (by have := HL.out; omega)).mono ?_
                rintro e w5 ⟨rfl, H5⟩
                have f3 := H5.third.obj.cell (i := 3) rfl
                have hrdl : Rd w5.drew 1 (.slice lo L lc) l.length (u8s l) := by rw [← HL.out]; exact H5.fourth.own.rd
                go_wp2_with fail
                go_region_held3 (fun w' => w'.cell? ⟨Ba, 3, none⟩ = some (.slice bo db.length bc)) (first | go_keep)
                  (first
                    | (go_at_call 13; refine (h_even H5.drew _ l hrdl (by have := HL.out; omega)).mono ?_; rintro e w6 ⟨ev, rfl, H6⟩; have f4 := H6.fourth.obj.cell (i := 3) rfl)
                    | (go_at_call 15; refine (h_bits H6 _ db (H6.old hrd) hb256 (by omega)).mono ?_; rintro e w7 ⟨bb, rfl, H7⟩; have f5 := H7.drop.fourth.obj.cell (i := 3) rfl; have hevl := evened_le l; have hevL := HL.out)
                    | (refine step_app _ (by rfl) (.tmp 73) (.tmp 76) 26 (by rfl) 5 ii (.int .u8 0) 1 1 Try.underlying26 hii hz0 hz1 hz2 (by rfl) (by decide) ev (evened l).length (u8s (evened l)) (by rfl) (by exact H7.swap.own) bb (8 * db.length) (u8s (bits8 db)) (by rfl) (by exact H7.own.rd) (by exact u8s_one _) (by unfold maxLen; omega) (by omega) ?_; intro ao1 cap1 w8 hown2 hgrow2 hat2; have H8 := H7.swap.app hown2 hgrow2 hat2; have f6 := H8.drop.drop.third.obj.cell (i := 3) rfl))
                go_wp2
                go_meet
                have H9 := H8.swap.drop.swap.two
                refine ⟨evened l ++ bits8 db, ao1, cap1, ?_, ?_, ?_⟩
                · rw [List.length_append, bits8_length]
                · rw [List.length_append, bits8_length]; omega
                · rw [List.length_append, bits8_length, u8s_append]; exact H9
              · by_cases k4 : dd = 4
                · subst k4
                  obtain ⟨q, hq⟩ : ∃ q, q = (bytesOf l).length := ⟨_, rfl⟩
                  have hql : 8 * q ≤ L := by rw [hq, bytesOf_length, HL.out]; omega
                  obtain ⟨q8, hq8⟩ : ∃ q8, q8 = 8 * q := ⟨_, rfl⟩
                  have hq8l : q8 ≤ L := by omega
                  have hmul : (8 : Int) * (q : Int) = (q8 : Int) := by omega
                  have HQ := hid hq
                  have HQ8 := hid hq8
                  have hqb : q < 400000 := by omega
                  clear hq hq8 hql
                  go_wp2_with fail
                  refine (h_take H3.swap).mono ?_
                  rw [← HQ.out, ← HQ8.out]
                  rintro e w4 ⟨d, rfl, H4⟩
                  obtain ⟨do4, dc4, rfl, _, _⟩ := H4.own.form
                  have hlb : isBits l := H3.swap.isBits
                  have hrdl : Rd w4 1 (.slice lo L lc) l.length (u8s l) := by rw [← HL.out]; exact H4.fourth.own.rd
                  go_wp2_with fail
                  refine (h_bytes H4 _ l hrdl hlb (by have := HL.out; omega)).mono ?_
                  rw [← HQ.out]
                  rintro e w5 ⟨bb, rfl, H5⟩
                  go_wp2_with fail
                  refine (h_same_yes H5 _ _ (bytesOf l) q H5.swap.own.rd H5.own.rd (by omega)).mono ?_
                  rintro e w6 ⟨rfl, H6⟩
                  go_wp2_with ((with_reducible show wpList _ _ _ (⟨some 91, _, _, _, _, _⟩ :: _) _ _); refine wpList_cut_own rfl 26 (.tmp 87) (some (.tmp 90)) none rfl 5 ii 1 Try.underlying26 hii hz1 lo L lc q8 L (u8s l) rfl H6.drop.fourth.own ⟨_, rfl⟩ rfl hq8l (Nat.le_refl _) ?_; intro a' hown' hbl')
                  go_meet
                  have hcut : ((u8s l).drop (q8 * 1)).take ((L - q8) * 1) = u8s (l.drop q8) := by
                    rw [Nat.mul_one, Nat.mul_one, List.take_of_length_le (by rw [List.length_drop, u8s_length, HL.out]; exact Nat.le_refl _)]; simp [u8s]
                  rw [hcut] at hown'
                  have hll : (l.drop q8).length = L - q8 := by rw [List.length_drop, HL.out]
                  refine ⟨l.drop q8, a', lc - q8, by rw [hll], by rw [hll]; omega, ?_⟩
                  rw [hll]
                  exact ((H6.drop.fourth.recut hown' hbl').swap.drop).swap.two
                · have n1 : (dd == 1) = false := by simp [k1]
                  have n2 : (dd == 2) = false := by simp [k2]
                  have n3 : (dd == 3) = false := by simp [k3]
                  have n4 : (dd == 4) = false := by simp [k4]
                  go_wp2
                  go_meet
                  exact ⟨l, lo, lc, by rw [← HL.out], by rw [← HL.out]; omega, by rw [← HL.out]; exact H3.drop⟩
        case rest =>
          obtain ⟨l', lo', lc', rfl, hl', H6⟩ := hcut
          have hqq : ((l'.length : Int) != (l'.length : Int)) = false := by simp
          go_wp2_with fail
          refine (h_wbits H6 (by omega)).mono ?_
          rintro e w7 ⟨rfl, H7⟩
          go_wp2
          go_roundg (gk - 1)
          case measure => omega
          case rel => exact ⟨i + 1, l', lo', lc', by omega, by omega, by go_num, rfl, hl', H7⟩
      · have h3' : (300 : Int) < (db.length : Int) := by omega
        have H3 : Held w (wr.alloc (.cells #[.int .i64 dd, .int .i64 dn, .int .u32 (dv : Int), .slice bo db.length bc] 29)) _ := HR.alloc _
        go_wp2
        go_roundg (gk - 1)
        case measure => omega
        case rel => exact ⟨i + 1, l, lo, lc, by omega, by omega, by go_num, by rw [← HL.out], by rw [← HL.out]; omega, by rw [← HL.out]; exact H3⟩
    · have hex : ¬ (i : Int) < (n : Int) ∨ (i : Int) < (n : Int) ∧ ¬ (i : Int) < 100 := by omega
      rcases hex with hex | ⟨hex, hex2⟩
      all_goals
        have hlen : l.length < 400000 := by have := HL.out; omega
        have hel := evened_le l
        have heb : isBits (evened l) := evened_isBits HR.isBits
        obtain ⟨q, hq⟩ : ∃ q, q = (bytesOf (evened l)).length := ⟨_, rfl⟩
        have hdn : (evened l).drop (8 * q) = [] := List.drop_eq_nil_of_le (by rw [hq, bytesOf_length]; have := evened_length l; omega)
        have hqb : q < 400000 := by rw [hq, bytesOf_length]; omega
        have HQ := hid hq
        have HD := hid hdn
        clear hq hdn
        go_wp2_with fail
        refine (h_walign HR (by omega)).mono ?_
        rintro e w4 ⟨rfl, H4⟩
        go_wp2_with fail
        refine (h_take H4).mono ?_
        rw [← HQ.out, HD.out]
        rintro e w5 ⟨d, rfl, H5⟩
        have hrdl : Rd w5 1 (.slice lo L lc) l.length (u8s l) := by rw [← HL.out]; exact H5.third.own.rd
        go_wp2_with fail
        refine (h_even H5 _ l hrdl (by omega)).mono ?_
        rintro e w6 ⟨ev, rfl, H6⟩
        go_wp2_with fail
        refine (h_bytes H6 _ (evened l) H6.own.rd heb (by omega)).mono ?_
        rw [← HQ.out]
        rintro e w7 ⟨bb, rfl, H7⟩
        go_wp2_with fail
        refine (h_same_yes H7 _ _ (bytesOf (evened l)) q H7.third.own.rd H7.own.rd (by omega)).mono ?_
        rintro e w8 ⟨rfl, H8⟩
        go_wp2_with fail
        refine (h_wbits H8.fourth (by decide)).mono ?_
        rintro e w9 ⟨rfl, H9⟩
        go_wp2
        go_ret
        exact ⟨rfl, H9.below⟩
end Go.Proofs.Ytmkbifkmdmeklaa
