/-
  The law TableReads, of TableOK.
-/
import Derived.Test.YtpecdappchkdiaaLawTab0
import Derived.Deep.DeepCutAuto
namespace Go.Proofs.Ytpecdappchkdiaa
open Go.RowKit

theorem u8s_cut (l : List Nat) (i j : Nat) : u8s ((l.drop i).take j) = ((u8s l).drop i).take j := by simp [u8s, List.map_drop, List.map_take]
set_option maxRecDepth 100000 in
set_option maxHeartbeats 3200000 in
theorem tableReads_from {T : List Int → Nat → Thing} (HT : TableOK T) (v : Value) (l : List Int) (most : Int) (u : Value) (b : List Int) (part : Int) (w : World) (hl : shInts.good w [v] l) (_ : (Lit.int .i64 most).wf = true) (hb : shBytes.good w [u] b) (hp : (Lit.int .u8 part).wf = true) :
    Calls Try.prog 3 #[v, .int .i64 most, u, .int .u8 part] w fun e w' => e = .returned (.bool true) ∧ Below w.heap.size w w' := by
  have hv := ints_of hl
  clear hl
  obtain ⟨bs, _, hb256, hu⟩ := bytes_of hb
  clear hb
  have hpr := Go.bounds_u8 hp
  clear hp
  obtain ⟨pt, rfl⟩ := Int.eq_ofNat_of_zero_le hpr.1
  obtain ⟨n, hn⟩ : ∃ n, n = l.length := ⟨_, rfl⟩
  rw [← hn] at hv
  obtain ⟨N, hN⟩ : ∃ N, N = bs.length := ⟨_, rfl⟩
  rw [← hN] at hu
  have HN := hid (And.intro hn hN)
  clear hn hN
  obtain ⟨ao, ac, rfl, _, _⟩ := hv.form
  obtain ⟨bo, bc, rfl, _, _⟩ := hu.form
  have HV := hid hv
  have HU := hid hu
  have hn0 : (0 : Int) ≤ (n : Int) := Int.natCast_nonneg _
  have hN0 : (0 : Int) ≤ (N : Int) := Int.natCast_nonneg _
  clear hv hu
  obtain ⟨ii, hii, hz0, hz1, hz2⟩ := info_parts infoInt6
  obtain ⟨iu, hiu, hu0, hu1, hu2⟩ := info_parts Try.infoByteR
  have h3 : 400 < n ∨ n ≤ 400 ∧ 500 < N ∨ n ≤ 400 ∧ N ≤ 500 := by omega
  rcases h3 with h3 | ⟨h3, h4⟩ | ⟨h3, h4⟩
  · have hb1 : decide ((400 : Int) < (n : Int)) = true := by simp; omega
    go_enter Try.func3, Try.ntmps3
    go_wp2_with fail
    refine (h_answers6 HT (Held.start w)).mono ?_
    rintro e w1 ⟨rfl, hM⟩
    have HB := hid hM.below
    clear hM
    go_wp2
    go_ret
    exact ⟨rfl, HB.out⟩
  · have hb1 : decide ((400 : Int) < (n : Int)) = false := by simp; omega
    have hb2 : decide ((500 : Int) < (N : Int)) = true := by simp; omega
    go_enter Try.func3, Try.ntmps3
    go_wp2_with fail
    refine (h_answers6 HT (Held.start w)).mono ?_
    rintro e w1 ⟨rfl, hM⟩
    have HB := hid hM.below
    clear hM
    go_wp2
    go_ret
    exact ⟨rfl, HB.out⟩
  have hb1 : decide ((400 : Int) < (n : Int)) = false := by simp; omega
  have hb2 : decide ((500 : Int) < (N : Int)) = false := by simp; omega
  obtain ⟨c, hc⟩ : ∃ c, c = checkOf l most := ⟨_, rfl⟩
  have HC := hid hc
  have HL0 := hid ((Held.start w).lit 3 1 [] 0 (by decide) rfl)
  go_enter Try.func3, Try.ntmps3
  go_wp2_with ((with_reducible show wpList _ _ _ (⟨some 34, _, _, _, _, _⟩ :: _) _ _); refine wpList_app_held rfl (.tmp 32) (.tmp 33) 22 rfl 3 ii (.int .i64 0) 1 8 Try.underlying22 hii hz0 hz1 hz2 rfl (by decide) _ 0 [] rfl HL0.out _ n (ints l) rfl (HL0.out.old HV.out) (ints_one l) n (by omega) (by unfold maxLen; omega) (by omega) ?_; intro ao1 cap1 w1 h1; rw [List.nil_append] at h1; have HH1 := hid h1; clear h1)
  have HB := hid (HT.build _ n l most w _ _ HH1.out HH1.out.own.rd (by omega))
  rw [← HC.out] at HB
  refine HB.out.mono ?_
  rintro e w2 (⟨h0, rfl, hh⟩ | ⟨h0, B, rfl, hh⟩)
  · have HH2 := hid hh
    clear hh HB HH1 hc
    have hcc : ((c : Int) != (c : Int)) = false := by simp
    have hc0 : ((c : Int) == 0) = false := by simp; omega
    have hc1 : ((c : Int) != 0) = true := by simp; omega
    have HK := hid (fun (w3 : World) (h : Held w w3 _) => h_refcheck6 (Rs := [ownT 3 1 (.slice ao1 n cap1) n (ints l)]) h most (h.old HV.out) (by omega))
    rw [← HC.out] at HK
    go_wp2_with fail
    refine (h_answers6 HT HH2.out).mono ?_
    rintro e w3 ⟨rfl, hh⟩
    have HH3 := hid hh
    clear hh HH2
    go_wp2_with fail
    refine (HK.out _ HH3.out).mono ?_
    rintro e w4 ⟨rfl, hh⟩
    have HF := hid hh.below
    clear hh HH3 HK
    go_wp2
    go_ret
    exact ⟨rfl, HF.out⟩
  · have HH2 := hid hh.swap.drop
    clear hh HB HH1 hc
    have hfine : Fine l := fine_of (HC.out.symm.trans h0)
    have HFI := hid hfine
    have hn288 : n ≤ 288 := by have := hfine.2.1; have := HN.out.1; omega
    clear hfine
    subst h0
    have hK := fun (w3 : World) (h : Held w w3 [T l B]) => h_refcheck6 h most (h.old HV.out) (by omega)
    rw [← HC.out] at hK
    have HK := hid hK
    clear hK
    have hcc : ((0 : Int) != ((0 : Nat) : Int)) = false := by simp
    go_wp2_with fail
    refine (h_answers6 HT HH2.out).mono ?_
    rintro e w3 ⟨rfl, hh⟩
    have HH3 := hid hh
    clear hh HH2
    go_wp2_with fail
    refine (HK.out _ HH3.out).mono ?_
    rintro e w4 ⟨rfl, hh⟩
    have HH4 := hid hh
    clear hh HH3 HK
    go_wp2_with fail
    refine (h_refcodes6 HH4.out _ l n (HH4.out.old HV.out) HN.out.1 hn288).mono ?_
    rintro e w5 ⟨cv, rfl, hh⟩
    obtain ⟨co, cc, rfl, _, _⟩ := hh.own.form
    have HH5 := hid hh
    clear hh HH4
    have HBT := hid (h_bits HH5.out (.slice bo N bc) bs (by rw [← HN.out.2]; exact HH5.out.old HU.out) hb256 (by have := HN.out.2; omega))
    rw [← HN.out.2] at HBT
    go_wp2_with fail
    refine HBT.out.mono ?_
    rintro e w6 ⟨av, rfl, hh⟩
    obtain ⟨ao2, ac2, rfl, _, _⟩ := hh.own.form
    have HH6 := hid hh
    clear hh HH5 HBT
    go_wp2_with fail
    refine (h_newR HH6.out).mono ?_
    rintro e w7 ⟨Br, rfl, hh⟩
    have HH7 := hid hh
    clear hh HH6
    have HS := hid HH7.out.fourth.swap
    clear HH7
    go_wp2
    go_loopg [13, 15] (8 * N + 2) (fun k t13 t15 wr => ∃ (a f : Nat), f ≤ N ∧ a ≤ 8 * f ∧ 8 * N + 1 - a < k ∧ t13 = .int .i64 (a : Int) ∧ t15 = .int .i64 (f : Int) ∧
      Hid (Held w wr [rdrT Br ((bits8 (bs.take f)).drop a), T l B, ownT 5 1 (.slice ao2 (8 * N) ac2) (8 * N) (u8s (bits8 bs)), ownT 53 1 (.slice co n cc) n (nums .u32 (codesOf l))]))
    case atStart => exact ⟨0, 0, by omega, by omega, by omega, rfl, rfl, HS⟩
    case round =>
      obtain ⟨a, f, hfN, haf, hk, rfl, rfl, HH⟩ := hrel
      obtain ⟨gx, rfl⟩ : ∃ g, g = gk := ⟨gk, rfl⟩
      have ha0 : (0 : Int) ≤ (a : Int) := Int.natCast_nonneg _
      have hf0 : (0 : Int) ≤ (f : Int) := Int.natCast_nonneg _
      have HRR := hid (h_refread HH.out (.slice ao n ac) (.slice co n cc) (.slice ao2 (8 * N) ac2) l (bits8 bs) a n (8 * N) (HH.out.old HV.out) HH.out.fourth.own.rd HH.out.third.own.rd HN.out.1 (by rw [bits8_length, HN.out.2]) HFI.out.1 hn288 (bits8_isBits _) (by omega) (by omega))
      go_wp2_with fail
      refine HRR.out.mono ?_
      rintro e w8 ⟨k, q, er, rfl, hh, HRD⟩
      have hlenX : ∀ g, g ≤ N → ((bits8 (bs.take g)).drop a).length = 8 * g - a := fun g hg => by
        rw [List.length_drop, bits8_length, List.length_take]; have := HN.out.2; omega
      have HLX := hid hlenX
      have HNX := hid (HT.next l B Br _ w w8 _ hh HFI.out (isBits_drop (bits8_isBits _) _) (by rw [hlenX f hfN]; omega))
      clear hh HH HRR hlenX
      go_wp2_with fail
      refine HNX.out.mono ?_
      rintro e w9 ⟨k1, q1, er1, rfl, hh, HRD1⟩
      have HH9 := hid hh
      clear hh HNX
      go_wp2
      go_loopg [15, 19, 20] (N + 2) (fun kk t15 t19 t20 wq => ∃ (f k1 er1 q1 : Nat), f ≤ N ∧ a ≤ 8 * f ∧ N + 1 - f < kk ∧ t15 = .int .i64 (f : Int) ∧ t19 = .int .i64 (k1 : Int) ∧ t20 = .int .i64 (er1 : Int) ∧ Hid (ReadIs l ((bits8 (bs.take f)).drop a) k1 q1 er1) ∧
        Hid (Held w wq [rdrT Br (((bits8 (bs.take f)).drop a).drop q1), T l B, ownT 5 1 (.slice ao2 (8 * N) ac2) (8 * N) (u8s (bits8 bs)), ownT 53 1 (.slice co n cc) n (nums .u32 (codesOf l))]))
      case atStart => exact ⟨f, k1, er1, q1, hfN, haf, by omega, rfl, rfl, rfl, HRD1, HH9⟩
      case round =>
        clear HRD1 HH9
        obtain ⟨f, k1, er1, q1, hfN, haf, hk2, rfl, rfl, rfl, HR1, HJ⟩ := hrel
        have hf0 : (0 : Int) ≤ (f : Int) := Int.natCast_nonneg _
        by_cases hgo : er1 = 5 ∧ f < N
        · obtain ⟨h5, hfN2⟩ := hgo
          have hb5 : ((er1 : Int) == 5) = true := by simp; omega
          have hbf : decide ((f : Int) < (N : Int)) = true := by simp; omega
          have hbf2 : decide (f < N) = true := by simp; omega
          have hq1 : q1 = 0 := by
            rcases HR1.out with ⟨h0, _⟩ | ⟨_, h0, _⟩
            · omega
            · exact h0
          rw [hq1, List.drop_zero] at HJ
          clear hq1
          obtain ⟨d, hd⟩ : ∃ d, d = pt % 5 := ⟨_, rfl⟩
          have hdI : (pt : Int) % 5 = (d : Int) := by omega
          have hd4 : d ≤ 4 := by omega
          have hd0 : (0 : Int) ≤ (d : Int) := Int.natCast_nonneg _
          have HCUT : Hid (∀ en, f ≤ en → en ≤ N → (bits8 (bs.take f)).drop a ++ bits8 ((bs.drop f).take (en - f)) = (bits8 (bs.take en)).drop a) := by
            refine hid fun en h1 h2 => ?_
            have e1 : bs.take en = bs.take f ++ (bs.drop f).take (en - f) := by
              rw [← List.take_add, show f + (en - f) = en by omega]
            rw [e1, bits8_append, List.drop_append_of_le_length]
            rw [bits8_length, List.length_take]; have := HN.out.2; omega
          clear hd
          by_cases hE : N < f + d + 1
          · have hEI : (N : Int) < (f : Int) + (d : Int) + 1 := by omega
            go_wp2_with ((with_reducible show wpList _ _ _ (⟨some 101, _, _, _, _, _⟩ :: _) _ _); refine wpList_cut_rd rfl 23 (.tmp 98) (some (.tmp 99)) (some (.tmp 100)) rfl 5 iu 1 Try.underlying23 hiu hu1 bo N bc f N (u8s bs) rfl (HJ.out.old HU.out) ⟨_, rfl⟩ ⟨_, rfl⟩ (by omega) (by omega) ?_; intro a' hrd' hbl'; have HRD' := hid hrd'; clear hrd' hbl')
            refine (h_feed HJ.out _ (N - f) ((bs.drop f).take (N - f)) (by have h := HRD'.out; rw [Nat.mul_one, Nat.mul_one] at h; rw [u8s_cut]; exact h) (fun x hx => hb256 x (List.mem_of_mem_drop (List.mem_of_mem_take hx))) (by omega) (by have := HLX.out f hfN; omega)).mono ?_
            rintro e wa ⟨rfl, hh⟩
            rw [HCUT.out N (by omega) (by omega)] at hh
            have HA := hid hh
            clear hh HJ HRD'
            have HNY := hid (HT.next l B Br _ w wa _ HA.out HFI.out (isBits_drop (bits8_isBits _) _) (by rw [HLX.out N (by omega)]; omega))
            clear HA
            go_wp2_with fail
            refine HNY.out.mono ?_
            rintro e wb ⟨k2, q2, er2, rfl, hh, HR2⟩
            have HB2 := hid hh
            clear hh HNY
            go_wp2
            go_roundg (gk - 1)
            case measure => omega
            case rel => exact ⟨N, k2, er2, q2, by omega, by omega, by omega, rfl, rfl, rfl, HR2, HB2⟩
          · obtain ⟨en, hen⟩ : ∃ en, en = f + d + 1 := ⟨_, rfl⟩
            have henI : (f : Int) + (d : Int) + 1 = (en : Int) := by omega
            have henN : en ≤ N := by omega
            have henf : f < en := by omega
            have hEI : ¬ (N : Int) < (en : Int) := by omega
            clear hen hE
            go_wp2_with ((with_reducible show wpList _ _ _ (⟨some 101, _, _, _, _, _⟩ :: _) _ _); refine wpList_cut_rd rfl 23 (.tmp 98) (some (.tmp 99)) (some (.tmp 100)) rfl 5 iu 1 Try.underlying23 hiu hu1 bo N bc f en (u8s bs) rfl (HJ.out.old HU.out) ⟨_, rfl⟩ ⟨_, rfl⟩ (by omega) (by omega) ?_; intro a' hrd' hbl'; have HRD' := hid hrd'; clear hrd' hbl')
            refine (h_feed HJ.out _ (en - f) ((bs.drop f).take (en - f)) (by have h := HRD'.out; rw [Nat.mul_one, Nat.mul_one] at h; rw [u8s_cut]; exact h) (fun x hx => hb256 x (List.mem_of_mem_drop (List.mem_of_mem_take hx))) (by omega) (by have := HLX.out f hfN; omega)).mono ?_
            rintro e wa ⟨rfl, hh⟩
            rw [HCUT.out en (by omega) (by omega)] at hh
            have HA := hid hh
            clear hh HJ HRD'
            have HNY := hid (HT.next l B Br _ w wa _ HA.out HFI.out (isBits_drop (bits8_isBits _) _) (by rw [HLX.out en (by omega)]; omega))
            clear HA
            go_wp2_with fail
            refine HNY.out.mono ?_
            rintro e wb ⟨k2, q2, er2, rfl, hh, HR2⟩
            have HB2 := hid hh
            clear hh HNY
            go_wp2
            go_roundg (gk - 1)
            case measure => omega
            case rel => exact ⟨en, k2, er2, q2, by omega, by omega, by omega, rfl, rfl, rfl, HR2, HB2⟩
        · have hfull : ReadIs l ((bits8 bs).drop a) k1 q1 er1 := by
            have hXF : (bits8 (bs.take f)).drop a ++ bits8 (bs.drop f) = (bits8 bs).drop a := by
              have e1 : bits8 bs = bits8 (bs.take f) ++ bits8 (bs.drop f) := by rw [← bits8_append, List.take_append_drop]
              rw [e1, List.drop_append_of_le_length]
              rw [bits8_length, List.length_take]; have := HN.out.2; omega
            by_cases h5 : er1 = 5
            · have hfN2 : f = N := by
                have : ¬ f < N := fun h => hgo ⟨h5, h⟩
                omega
              have h := HR1.out
              rw [List.take_of_length_le (by have := HN.out.2; omega)] at h
              exact h
            · rw [← hXF]; exact HR1.out.part h5
          have hone := HRD.out.one (isBits_drop (bits8_isBits _) _) HFI.out.1 hfull
          have HX1 := HLX.out f hfN
          have hq0 : er1 ≠ 0 → q1 = 0 := fun h => by
            rcases HR1.out with ⟨h0, _⟩ | ⟨_, h0, _⟩
            · exact absurd h0 h
            · exact h0
          have hq1 : er1 = 0 → 1 ≤ q1 ∧ q1 ≤ 8 * f - a := fun h => by
            rcases HR1.out with ⟨_, h0⟩ | ⟨_, _, _, h0⟩
            · rw [← HX1]; exact ⟨h0.2.1, h0.2.2.1⟩
            · rw [h] at h0; split at h0 <;> omega
          have herr := HR1.out.errs
          obtain ⟨e1, e2, e3⟩ := hone
          subst e1; subst e2; subst e3
          clear hfull HRD HR1
          have hkk : ((k : Int) != (k : Int)) = false := by simp
          have hee : ((er : Int) != (er : Int)) = false := by simp
          by_cases hz : er = 0
          · have hqq := hq1 hz
            clear hq0 hq1 herr
            subst hz
            have HD : Hid (Held w wr [rdrT Br ((bits8 (bs.take f)).drop (a + q)), T l B, ownT 5 1 (.slice ao2 (8 * N) ac2) (8 * N) (u8s (bits8 bs)), ownT 53 1 (.slice co n cc) n (nums .u32 (codesOf l))]) := by
              have h := HJ.out
              rw [List.drop_drop] at h
              exact hid h
            have hb5 : (((0 : Nat) : Int) == 5) = false := by decide
            go_wp2
            go_roundg (gx - 1)
            case measure => omega
            case rel => exact ⟨a + q, f, by omega, by omega, by omega, by go_num, rfl, HD⟩
          · have hqz := hq0 hz
            clear hq0 hq1
            rw [hqz, List.drop_zero] at HJ
            have hez : ((er : Int) != 0) = true := by simp; omega
            have HLF := hid (h_left HJ.out (by omega))
            rw [HX1] at HLF
            have heq : ((8 * f - a : Nat) : Int) = 8 * (f : Int) - (a : Int) := by omega
            rw [heq] at HLF
            clear heq HX1 hqz
            have hfin : (er = 5 ∧ f = N) ∨ er = 3 := by
              rcases herr with h | h | h
              · exact absurd h hz
              · exact .inr h
              · refine .inl ⟨h, ?_⟩
                have : ¬ f < N := fun h2 => hgo ⟨h, h2⟩
                omega
            clear hgo herr
            rcases hfin with ⟨h5, hfN3⟩ | h3'
            · have hb5 : ((er : Int) == 5) = true := by simp; omega
              have hbf : decide ((f : Int) < (N : Int)) = false := by simp; omega
              have hbf2 : decide (f < N) = false := by simp; omega
              clear h5 hfN3
              go_wp2_with fail
              refine HLF.out.mono ?_
              rintro e wl ⟨rfl, hh⟩
              have HE := hid hh.below
              clear hh HLF
              go_wp2
              go_ret
              exact ⟨by simp, HE.out⟩
            · have hb5 : ((er : Int) == 5) = false := by simp; omega
              clear h3'
              go_wp2_with fail
              refine HLF.out.mono ?_
              rintro e wl ⟨rfl, hh⟩
              have HE := hid hh.below
              clear hh HLF
              go_wp2
              go_ret
              exact ⟨by simp, HE.out⟩
end Go.Proofs.Ytpecdappchkdiaa
