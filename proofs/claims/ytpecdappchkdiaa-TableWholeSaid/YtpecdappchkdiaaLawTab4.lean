/-
  The law TableWhole, of TableOK.
-/
import Derived.Test.YtpecdappchkdiaaLawTab0
import Derived.Deep.DeepCutAuto
import Derived.Deep.RegionHeld3
namespace Go.Proofs.Ytpecdappchkdiaa
open Go.RowKit

theorem cut_front6 (xo : Option Addr) (M xc a : Nat) (hsp : ∀ x, xo = some x → x.spot = none) (h1 : a ≤ M) (h2 : M ≤ xc) (wx : World) :
    (Instr.sliceAt 23 (.slice xo M xc) none (some (.int .i64 (a : Int))) none).run Try.prog wx = .ok (.slice xo a xc) wx := by
  obtain ⟨iu, hiu, hu0, hu1, hu2⟩ := info_parts Try.infoByteR
  rw [← sliced_front xo a xc 1 hsp]
  exact run_cut 23 5 iu 1 Try.underlying23 hiu hu1 xo M xc 0 a _ _ rfl ⟨_, rfl⟩ (by omega) (by omega)
set_option maxRecDepth 100000 in
set_option maxHeartbeats 3200000 in
theorem tableWhole_bad {T : List Int → Nat → Thing} (HT : TableOK T) (v u : Value) (l : List Int) (bs : List Nat) (n N : Nat) (w : World) (hv : Rd w 1 v n (ints l)) (hu : Rd w 1 u N (u8s bs)) (hbad : 288 < n ∨ 300 < N ∨ checkOf l 15 ≠ 0 ∨ sumOf l ≠ 32768) :
    Calls Try.prog 6 #[v, u] w fun e w' => e = .returned (.bool true) ∧ Below w.heap.size w w' := by
  obtain ⟨ao, ac, rfl, _, _⟩ := hv.form
  obtain ⟨bo, bc, rfl, _, _⟩ := hu.form
  have hn0 : (0 : Int) ≤ (n : Int) := Int.natCast_nonneg _
  have hN0 : (0 : Int) ≤ (N : Int) := Int.natCast_nonneg _
  have HV := hid hv
  have HA := hid (h_answers6 HT (Held.start w))
  have h4 : 288 < n ∨ n ≤ 288 ∧ 300 < N ∨ n ≤ 288 ∧ N ≤ 300 ∧ checkOf l 15 ≠ 0 ∨ n ≤ 288 ∧ N ≤ 300 ∧ checkOf l 15 = 0 ∧ sumOf l ≠ 32768 := by
    by_cases a1 : 288 < n
    · exact .inl a1
    · by_cases a2 : 300 < N
      · exact .inr (.inl ⟨by omega, a2⟩)
      · by_cases a3 : checkOf l 15 = 0
        · refine .inr (.inr (.inr ⟨by omega, by omega, a3, ?_⟩))
          rcases hbad with h | h | h | h
          · exact absurd h a1
          · exact absurd h a2
          · exact absurd a3 h
          · exact h
        · exact .inr (.inr (.inl ⟨by omega, by omega, a3⟩))
  clear hbad hv hu
  rcases h4 with h3 | ⟨h3, h4⟩ | ⟨h3, h4, h5⟩ | ⟨h3, h4, h5, h6⟩
  · have hb1 : decide ((288 : Int) < (n : Int)) = true := by simp; omega
    go_enter Try.func6, Try.ntmps6
    go_wp2_with fail
    refine HA.out.mono ?_
    rintro e w1 ⟨rfl, hM⟩
    have HB := hid hM.below
    clear hM
    go_wp2
    go_ret
    exact ⟨rfl, HB.out⟩
  · have hb1 : decide ((288 : Int) < (n : Int)) = false := by simp; omega
    have hb2 : decide ((300 : Int) < (N : Int)) = true := by simp; omega
    go_enter Try.func6, Try.ntmps6
    go_wp2_with fail
    refine HA.out.mono ?_
    rintro e w1 ⟨rfl, hM⟩
    have HB := hid hM.below
    clear hM
    go_wp2
    go_ret
    exact ⟨rfl, HB.out⟩
  · have hb1 : decide ((288 : Int) < (n : Int)) = false := by simp; omega
    have hb2 : decide ((300 : Int) < (N : Int)) = false := by simp; omega
    have HK := hid (h_refcheck6 (Held.start w) 15 HV.out (by omega))
    obtain ⟨c, hc⟩ : ∃ c, c = checkOf l 15 := ⟨_, rfl⟩
    rw [← hc] at HK h5
    have hcb : ((c : Int) != 0) = true := by simp; omega
    clear hc h5
    go_enter Try.func6, Try.ntmps6
    go_wp2_with fail
    refine HK.out.mono ?_
    rintro e w1 ⟨rfl, hM⟩
    have HA2 := hid (h_answers6 HT hM)
    clear hM
    go_wp2_with fail
    refine HA2.out.mono ?_
    rintro e w2 ⟨rfl, hM⟩
    have HB := hid hM.below
    clear hM
    go_wp2
    go_ret
    exact ⟨rfl, HB.out⟩
  · have hb1 : decide ((288 : Int) < (n : Int)) = false := by simp; omega
    have hb2 : decide ((300 : Int) < (N : Int)) = false := by simp; omega
    have HK := hid (h_refcheck6 (Held.start w) 15 HV.out (by omega))
    rw [h5] at HK
    have HS := hid (fun (w1 : World) (h : Held w w1 []) => h_refsum6 h (h.old HV.out) (by omega))
    obtain ⟨c, hc⟩ : ∃ c, c = sumOf l := ⟨_, rfl⟩
    rw [← hc] at HS h6
    have hcb : ((c : Int) != 32768) = true := by simp; omega
    clear hc h5 h6
    go_enter Try.func6, Try.ntmps6
    go_wp2_with fail
    refine HK.out.mono ?_
    rintro e w1 ⟨rfl, hM⟩
    have HM := hid hM
    clear hM
    go_wp2_with fail
    refine (HS.out _ HM.out).mono ?_
    rintro e w2 ⟨rfl, hM⟩
    have HA2 := hid (h_answers6 HT hM)
    clear hM
    go_wp2_with fail
    refine HA2.out.mono ?_
    rintro e w3 ⟨rfl, hM⟩
    have HB := hid hM.below
    clear hM
    go_wp2
    go_ret
    exact ⟨rfl, HB.out⟩
set_option maxRecDepth 100000 in
set_option maxHeartbeats 3200000 in
theorem tableWhole_from {T : List Int → Nat → Thing} (HT : TableOK T) (v : Value) (l : List Int) (u : Value) (b : List Int) (w : World) (hl : shInts.good w [v] l) (hb : shBytes.good w [u] b) :
    Calls Try.prog 6 #[v, u] w fun e w' => e = .returned (.bool true) ∧ Below w.heap.size w w' := by
  have hv := ints_of hl
  clear hl
  obtain ⟨bs, _, hb256, hu⟩ := bytes_of hb
  clear hb
  obtain ⟨n, hn⟩ : ∃ n, n = l.length := ⟨_, rfl⟩
  rw [← hn] at hv
  obtain ⟨N, hN⟩ : ∃ N, N = bs.length := ⟨_, rfl⟩
  rw [← hN] at hu
  by_cases hbad : 288 < n ∨ 300 < N ∨ checkOf l 15 ≠ 0 ∨ sumOf l ≠ 32768
  · exact tableWhole_bad HT v u l bs n N w hv hu hbad
  have HN := hid (And.intro hn hN)
  clear hn hN
  have h3 : n ≤ 288 := by
    have : ¬ 288 < n := fun h => hbad (.inl h)
    omega
  have h4 : N ≤ 300 := by
    have : ¬ 300 < N := fun h => hbad (.inr (.inl h))
    omega
  have h5 : checkOf l 15 = 0 := by
    by_cases h : checkOf l 15 = 0
    · exact h
    · exact absurd (.inr (.inr (.inl h))) hbad
  have h6 : sumOf l = 32768 := by
    by_cases h : sumOf l = 32768
    · exact h
    · exact absurd (.inr (.inr (.inr h))) hbad
  clear hbad
  obtain ⟨iu, hiu, hu0, hu1, hu2⟩ := info_parts Try.infoByteR
  have HFI := hid (fine_of h5)
  have HSU := hid h6
  obtain ⟨ao, ac, rfl, _, _⟩ := hv.form
  obtain ⟨bo, bc, rfl, _, _⟩ := hu.form
  have HV := hid hv
  have HU := hid hu
  have hn0 : (0 : Int) ≤ (n : Int) := Int.natCast_nonneg _
  have hN0 : (0 : Int) ≤ (N : Int) := Int.natCast_nonneg _
  clear hv hu
  have hb1 : decide ((288 : Int) < (n : Int)) = false := by simp; omega
  have hb2 : decide ((300 : Int) < (N : Int)) = false := by simp; omega
  have HK := hid (h_refcheck6 (Held.start w) 15 HV.out (by omega))
  rw [h5] at HK
  have HS := hid (fun (w1 : World) (h : Held w w1 []) => h_refsum6 h (h.old HV.out) (by omega))
  rw [h6] at HS
  have hBD := fun (w1 : World) (h : Held w w1 []) => HT.build _ n l 15 w w1 [] h (h.old HV.out) (by omega)
  rw [h5] at hBD
  have HBD := hid hBD
  clear hBD h5 h6
  go_enter Try.func6, Try.ntmps6
  go_wp2_with fail
  refine HK.out.mono ?_
  rintro e w1 ⟨rfl, hM⟩
  have HM := hid hM
  clear hM
  go_wp2_with fail
  refine (HS.out _ HM.out).mono ?_
  rintro e w2 ⟨rfl, hM⟩
  have HM2 := hid hM
  clear hM HM HK HS
  go_wp2_with fail
  refine (HBD.out _ HM2.out).mono ?_
  rintro e w3 (⟨h0, _⟩ | ⟨_, B, rfl, hh⟩)
  · exact absurd rfl h0
  have HH3 := hid hh
  clear hh HM2 HBD
  go_wp2_with fail
  refine (h_newR HH3.out).mono ?_
  rintro e w4 ⟨Br, rfl, hh⟩
  have HH4 := hid hh
  clear hh HH3
  go_wp2_with fail
  refine (h_newW HH4.out).mono ?_
  rintro e w5 ⟨Bw, rfl, hh⟩
  have HH5 := hid hh.swap
  clear hh HH4
  go_wp2_with fail
  refine (h_feed HH5.out _ N bs (HH5.out.old HU.out) hb256 (by omega) (by decide)).mono ?_
  rintro e w6 ⟨rfl, hh⟩
  rw [List.nil_append] at hh
  have HH6 := hid hh
  clear hh HH5
  go_wp2_with fail
  refine (h_answers6 HT HH6.out).mono ?_
  rintro e w7 ⟨rfl, hh⟩
  have HH7 := hid hh.third.swap
  clear hh HH6
  go_wp2
  go_loopg [9] (8 * N + 2) (fun k t9 wr => ∃ (i a : Nat), i ≤ a ∧ a ≤ 8 * N ∧ 8 * N + 1 - a < k ∧ t9 = .int .i64 (i : Int) ∧ Hid (Held w wr [rdrT Br ((bits8 bs).drop a), T l B, wrT Bw ((bits8 bs).take a)]))
  case atStart => exact ⟨0, 0, by omega, by omega, by omega, rfl, HH7⟩
  case round =>
    obtain ⟨i, a, hia, haN, hk, rfl, HH⟩ := hrel
    have hi0 : (0 : Int) ≤ (i : Int) := Int.natCast_nonneg _
    have hXl : ((bits8 bs).drop a).length = 8 * N - a := by rw [List.length_drop, bits8_length, HN.out.2]
    have HXB := hid (isBits_drop (bits8_isBits bs) a)
    have HNX := hid (HT.next l B Br _ w wr _ HH.out HFI.out HXB.out (by omega))
    have HXL := hid hXl
    clear hXl HH
    go_wp2_with fail
    refine HNX.out.mono ?_
    rintro e w8 ⟨k, q, er, rfl, hh, HR⟩
    have HH8 := hid hh
    clear hh HNX
    rcases HR.out with ⟨hz, hit⟩ | ⟨hkz, hqz, hno, her⟩
    · subst hz
      have hq1 := hit.2.1
      have hq2 := hit.2.2.1
      rw [HXL.out] at hq2
      have HIT := hid hit
      have HWR := hid (HT.write l B Bw ((bits8 bs).take a) (k : Int) w w8 _ HH8.out.swap.third HFI.out (by rw [List.length_take, bits8_length]; have := HN.out.2; omega))
      have HT2 : Hid ((bits8 bs).take a ++ hiBits q (codeAt l k) = (bits8 bs).take (a + q)) := by
        have h := hiBits_take _ HXB.out q hit.2.2.1
        rw [hit.2.2.2] at h
        rw [h, List.take_add]; exact hid rfl
      have hb5 : (((0 : Nat) : Int) == 5) = false := by decide
      have hb8 : decide (8 * (N : Int) < (i : Int)) = false := by simp; omega
      have hb8' : decide (8 * N < i) = false := by simp; omega
      clear hit HR HH8
      go_wp2_with fail
      refine HWR.out.mono ?_
      rintro e w9 (⟨j, p, hj, hp, hp0, rfl, hh⟩ | ⟨hno, rfl, hh⟩)
      · have hjk : j = k := by omega
        subst hjk
        have hpq := hp.symm.trans HIT.out.1
        simp only [Option.some.injEq] at hpq
        have hpq2 : p = q := by omega
        subst hpq2
        rw [HT2.out] at hh
        have HH9 : Hid (Held w w9 [rdrT Br ((bits8 bs).drop (a + p)), T l B, wrT Bw ((bits8 bs).take (a + p))]) := by
          have h := hh.third.third.swap
          rw [List.drop_drop] at h
          exact hid (by first | exact h | exact h.swap | exact hh.third.swap)
        clear hh HWR hj hp hpq
        go_wp2
        go_roundg (gk - 1)
        case measure => omega
        case rel => exact ⟨i + 1, a + p, by omega, by omega, by omega, by go_num, HH9⟩
      · exfalso
        have := hno k q rfl HIT.out.1
        omega
    · have h5 : er = 5 := by
        rw [her]
        by_cases hc : ((bits8 bs).drop a).length < lng l ∨ (bits8 bs).drop a = []
        · rw [if_pos hc]
        · exfalso
          obtain ⟨i2, n2, h2⟩ := Hit.whole HFI.out.1 HSU.out HXB.out (by
            have : ¬ ((bits8 bs).drop a).length < lng l := fun h => hc (.inl h)
            omega)
          exact hno i2 n2 h2
      have hleft : 8 * N - a < 15 := by
        by_cases hc : ((bits8 bs).drop a).length < lng l ∨ (bits8 bs).drop a = []
        · rcases hc with hc | hc
          · have := lng_top l 15 (fun y hy => by have := HFI.out.1 y hy; omega)
            rw [HXL.out] at hc; omega
          · have := HXL.out
            rw [hc] at this; simp at this; omega
        · rw [if_neg hc] at her; omega
      subst hkz; subst hqz
      clear her hno HR
      subst h5
      rw [List.drop_zero] at HH8
      have HW := hid (h_wbits HH8.out.third (by rw [List.length_take, bits8_length]; have := HN.out.2; omega))
      have htl : ((bits8 bs).take a).length = a := by rw [List.length_take, bits8_length]; have := HN.out.2; omega
      rw [htl] at HW
      have HTL := hid htl
      clear htl HH8
      go_wp2_with fail
      refine HW.out.mono ?_
      rintro e w9 ⟨rfl, hh⟩
      have HLF := hid (h_left hh.under (by rw [HXL.out]; omega))
      obtain ⟨lf, hlf⟩ : ∃ lf, lf = 8 * N - a := ⟨_, rfl⟩
      rw [HXL.out, ← hlf] at HLF
      have hlfI : (a : Int) + (lf : Int) = 8 * (N : Int) := by omega
      have hlf15 : decide ((lf : Int) < 15) = true := by simp; omega
      have hlf15' : decide (lf < 15) = true := by simp; omega
      have hlf0 : (0 : Int) ≤ (lf : Int) := Int.natCast_nonneg _
      clear hlf hleft
      clear hh HW
      go_wp2_with fail
      refine HLF.out.mono ?_
      rintro e wa ⟨rfl, hh⟩
      have HAL := hid (h_walign hh.under (by rw [HTL.out]; omega))
      clear hh HLF
      go_wp2_with fail
      refine HAL.out.mono ?_
      rintro e wb ⟨rfl, hh⟩
      have HTK := hid (h_take hh)
      clear hh HAL
      go_wp2_with fail
      refine HTK.out.mono ?_
      rintro e wc ⟨dv, rfl, hh⟩
      have hEB : isBits (evened ((bits8 bs).take a)) := evened_isBits (isBits_take (bits8_isBits bs) a)
      have hBB := bits8_bytesOf _ hEB (evened_length _)
      have HBT := hid (h_bits hh dv (bytesOf (evened ((bits8 bs).take a))) hh.own.rd (bytesOf_lt _ hEB) (by rw [bytesOf_length]; have := evened_le ((bits8 bs).take a); rw [HTL.out] at this; omega))
      rw [hBB] at HBT
      obtain ⟨M, hM⟩ : ∃ M, M = 8 * (bytesOf (evened ((bits8 bs).take a))).length := ⟨_, rfl⟩
      have hMe : M = (evened ((bits8 bs).take a)).length := by rw [hM, ← bits8_length, hBB]
      have hMa : a ≤ M := by rw [hMe, evened, List.length_append, HTL.out]; omega
      have hMb : M ≤ a + 7 := by have := evened_le ((bits8 bs).take a); rw [HTL.out] at this; omega
      rw [← hM] at HBT
      clear hh HTK hEB hBB hM hMe
      go_wp2_with fail
      refine HBT.out.mono ?_
      rintro e wd ⟨ov, rfl, hh⟩
      obtain ⟨xo, xc, rfl, hx1, hx2⟩ := hh.own.form
      have hcut1 := cut_front6 xo M xc a hh.own.spotless hMa hx1
      have HBB := hid (h_bits hh.drew (.slice bo N bc) bs (by rw [← HN.out.2]; exact hh.drew.old HU.out) hb256 (by have := HN.out.2; omega))
      rw [← HN.out.2] at HBB
      have ha0 : (0 : Int) ≤ (a : Int) := Int.natCast_nonneg _
      have HCE : Hid ((u8s (evened ((bits8 bs).take a))).take (a * 1) = u8s ((bits8 bs).take a) ∧ (u8s (bits8 bs)).take (a * 1) = u8s ((bits8 bs).take a)) := by
        rw [Nat.mul_one]
        refine hid ⟨?_, by simp [u8s, List.map_take]⟩
        have : (evened ((bits8 bs).take a)).take a = (bits8 bs).take a := by
          unfold evened
          rw [List.take_append_of_le_length (by rw [HTL.out]; omega), List.take_take, Nat.min_self]
        simp only [u8s, ← List.map_take, this]
      clear hh HBT
      have hb88 : ((a : Int) + (lf : Int) == 8 * (N : Int)) = true := by simp; omega
      go_wp2
      go_region_held3 (fun _ => True) (trivial) ((first
        | (go_at_call 11; refine HBB.out.mono ?_; rintro e we ⟨yv, rfl, hh⟩; obtain ⟨yo, yc, rfl, hy1, hy2⟩ := hh.own.form; have hcut2 := cut_front6 yo (8 * N) yc a hh.own.spotless haN hy1; have HSM := hid (h_same_yes hh (.slice xo a xc) (.slice yo a yc) ((bits8 bs).take a) a (by have h := hh.swap.own.rd.front hMa; rw [HCE.out.1] at h; exact h) (by have h := hh.own.rd.front haN; rw [HCE.out.2] at h; exact h) (by omega)); clear hh)
        | (go_at_call 23; refine HSM.out.mono ?_; rintro e wf ⟨rfl, hh2⟩; have HE := hid hh2.below; clear hh2)))
      go_wp2
      go_ret
      exact ⟨rfl, HE.out⟩
end Go.Proofs.Ytpecdappchkdiaa
