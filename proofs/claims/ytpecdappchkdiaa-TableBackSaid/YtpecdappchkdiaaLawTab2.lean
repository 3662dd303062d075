/-
  The law TableBack, of TableOK.
-/
import Derived.Test.YtpecdappchkdiaaLawTab0
import Derived.Test.YtpecdappchkdiaaHeldApp
import Derived.Deep.DeepCutAuto
import Derived.Deep.RegionHeld3
namespace Go.Proofs.Ytpecdappchkdiaa
open Go.RowKit

/-- the bits of symbol k -/
def symBits (l : List Int) (k : Nat) : List Nat := hiBits (l[k]?.getD 0).toNat (codeAt l k)
theorem symBits_of {l : List Int} {k p : Nat} (h : l[k]? = some (p : Int)) : symBits l k = hiBits p (codeAt l k) := by simp [symBits, h]
/-- the bits of symbols, one behind the other -/
def allBits (l : List Int) (ks : List Nat) : List Nat := ks.flatMap (symBits l)
theorem allBits_nil (l : List Int) : allBits l [] = [] := rfl
theorem allBits_snoc (l : List Int) (ks : List Nat) (k : Nat) : allBits l (ks ++ [k]) = allBits l ks ++ symBits l k := by simp [allBits]
theorem allBits_cons (l : List Int) (k : Nat) (ks : List Nat) : allBits l (k :: ks) = symBits l k ++ allBits l ks := by simp [allBits]
theorem allBits_isBits (l : List Int) (ks : List Nat) : isBits (allBits l ks) := by
  intro b hb
  obtain ⟨k, _, h⟩ := List.mem_flatMap.1 hb
  exact hiBits_isBits _ _ b h
/-- symbols that have a code -/
def Syms (l : List Int) (ks : List Nat) : Prop := ∀ k ∈ ks, ∃ p : Nat, l[k]? = some (p : Int) ∧ 1 ≤ p ∧ p ≤ 15
theorem Syms.snoc {l : List Int} {ks : List Nat} (h : Syms l ks) {k p : Nat} (hk : l[k]? = some (p : Int)) (h1 : 1 ≤ p) (h2 : p ≤ 15) : Syms l (ks ++ [k]) := by
  intro j hj
  rcases List.mem_append.1 hj with hj | hj
  · exact h j hj
  · obtain rfl := List.mem_singleton.1 hj
    exact ⟨p, hk, h1, h2⟩
theorem allBits_len {l : List Int} : ∀ {ks : List Nat}, Syms l ks → (allBits l ks).length ≤ 15 * ks.length
  | [], _ => by simp [allBits]
  | k :: ks, h => by
    have ih := allBits_len (ks := ks) fun j hj => h j (List.mem_cons_of_mem _ hj)
    obtain ⟨p, hp, _, h15⟩ := h k List.mem_cons_self
    rw [allBits_cons, List.length_append, symBits_of hp, hiBits_length, List.length_cons]
    omega
theorem nums_snoc (k : IntKind) (a b : List Nat) : nums k (a ++ b) = nums k a ++ nums k b := by simp [nums]
set_option maxRecDepth 100000 in
set_option maxHeartbeats 3200000 in
theorem tableBack_bad {T : List Int → Nat → Thing} (HT : TableOK T) (v u : Value) (l ls : List Int) (n N : Nat) (w : World) (hv : Rd w 1 v n (ints l)) (hu : Rd w 1 u N (ints ls)) (hbad : 288 < n ∨ 300 < N ∨ checkOf l 15 ≠ 0) :
    Calls Try.prog 4 #[v, u] w fun e w' => e = .returned (.bool true) ∧ Below w.heap.size w w' := by
  obtain ⟨ao, ac, rfl, _, _⟩ := hv.form
  obtain ⟨bo, bc, rfl, _, _⟩ := hu.form
  have hn0 : (0 : Int) ≤ (n : Int) := Int.natCast_nonneg _
  have hN0 : (0 : Int) ≤ (N : Int) := Int.natCast_nonneg _
  have HV := hid hv
  have HA := hid (h_answers6 HT (Held.start w))
  have h4 : 288 < n ∨ n ≤ 288 ∧ 300 < N ∨ n ≤ 288 ∧ N ≤ 300 ∧ checkOf l 15 ≠ 0 := by
    by_cases a1 : 288 < n
    · exact .inl a1
    · by_cases a2 : 300 < N
      · exact .inr (.inl ⟨by omega, a2⟩)
      · refine .inr (.inr ⟨by omega, by omega, ?_⟩)
        rcases hbad with h | h | h
        · exact absurd h a1
        · exact absurd h a2
        · exact h
  clear hbad hv hu
  rcases h4 with h3 | ⟨h3, h4⟩ | ⟨h3, h4, h5⟩
  · have hb1 : decide ((288 : Int) < (n : Int)) = true := by simp; omega
    go_enter Try.func4, Try.ntmps4
    go_wp2_with fail
    refine HA.out.mono ?_
    rintro e w1 ⟨rfl, hM⟩
    have HB := hid hM.below
    clear hM
    go_wp2
    go_ret
    exact ⟨rfl, HB.out⟩
  · have hb1 : decide ((288 : Int) < (n : Int)) = false := by simp; omega
    have hb2 : decide ((300 : Int) < (N : Int)) = true := by simp; omega
    go_enter Try.func4, Try.ntmps4
    go_wp2_with fail
    refine HA.out.mono ?_
    rintro e w1 ⟨rfl, hM⟩
    have HB := hid hM.below
    clear hM
    go_wp2
    go_ret
    exact ⟨rfl, HB.out⟩
  · have hb1 : decide ((288 : Int) < (n : Int)) = false := by simp; omega
    have hb2 : decide ((300 : Int) < (N : Int)) = false := by simp; omega
    have HK := hid (h_refcheck6 (Held.start w) 15 HV.out (by omega))
    obtain ⟨c, hc⟩ : ∃ c, c = checkOf l 15 := ⟨_, rfl⟩
    rw [← hc] at HK h5
    have hcb : ((c : Int) != 0) = true := by simp; omega
    clear hc h5
    go_enter Try.func4, Try.ntmps4
    go_wp2_with fail
    refine HK.out.mono ?_
    rintro e w1 ⟨rfl, hM⟩
    have HA2 := hid (h_answers6 HT hM)
    clear hM
    go_wp2_with fail
    refine HA2.out.mono ?_
    rintro e w2 ⟨rfl, hM⟩
    have HB := hid hM.below
    clear hM
    go_wp2
    go_ret
    exact ⟨rfl, HB.out⟩
set_option maxRecDepth 100000 in
set_option maxHeartbeats 3200000 in
theorem tableBack_from {T : List Int → Nat → Thing} (HT : TableOK T) (v : Value) (l : List Int) (u : Value) (ls : List Int) (w : World) (hl : shInts.good w [v] l) (hs : shInts.good w [u] ls) :
    Calls Try.prog 4 #[v, u] w fun e w' => e = .returned (.bool true) ∧ Below w.heap.size w w' := by
  have hv := ints_of hl
  clear hl
  have hu := ints_of hs
  clear hs
  obtain ⟨n, hn⟩ : ∃ n, n = l.length := ⟨_, rfl⟩
  rw [← hn] at hv
  obtain ⟨N, hN⟩ : ∃ N, N = ls.length := ⟨_, rfl⟩
  rw [← hN] at hu
  by_cases hbad : 288 < n ∨ 300 < N ∨ checkOf l 15 ≠ 0
  · exact tableBack_bad HT v u l ls n N w hv hu hbad
  have HN := hid (And.intro hn hN)
  clear hn hN
  have h3 : n ≤ 288 := by
    have : ¬ 288 < n := fun h => hbad (.inl h)
    omega
  have h4 : N ≤ 300 := by
    have : ¬ 300 < N := fun h => hbad (.inr (.inl h))
    omega
  have h5 : checkOf l 15 = 0 := by
    by_cases h : checkOf l 15 = 0
    · exact h
    · exact absurd (.inr (.inr h)) hbad
  clear hbad
  obtain ⟨iu, hiu, hu0, hu1, hu2⟩ := info_parts Try.infoByteR
  obtain ⟨ii, hii, hz0, hz1, hz2⟩ := info_parts infoInt6
  have HFI := hid (fine_of h5)
  obtain ⟨ao, ac, rfl, _, _⟩ := hv.form
  obtain ⟨bo, bc, rfl, _, _⟩ := hu.form
  have HV := hid hv
  have HU := hid hu
  have hn0 : (0 : Int) ≤ (n : Int) := Int.natCast_nonneg _
  have hN0 : (0 : Int) ≤ (N : Int) := Int.natCast_nonneg _
  clear hv hu
  have hb1 : decide ((288 : Int) < (n : Int)) = false := by simp; omega
  have hb2 : decide ((300 : Int) < (N : Int)) = false := by simp; omega
  have HK := hid (h_refcheck6 (Held.start w) 15 HV.out (by omega))
  rw [h5] at HK
  have hBD := fun (w1 : World) (h : Held w w1 []) => HT.build _ n l 15 w w1 [] h (h.old HV.out) (by omega)
  rw [h5] at hBD
  have HBD := hid hBD
  clear hBD h5
  go_enter Try.func4, Try.ntmps4
  go_wp2_with fail
  refine HK.out.mono ?_
  rintro e w1 ⟨rfl, hM⟩
  have HM := hid hM
  clear hM
  go_wp2_with fail
  refine (HBD.out _ HM.out).mono ?_
  rintro e w3 (⟨h0, _⟩ | ⟨_, B, rfl, hh⟩)
  · exact absurd rfl h0
  have HH3 := hid hh
  clear hh HM HBD HK
  go_wp2_with fail
  refine (h_newW HH3.out).mono ?_
  rintro e w4 ⟨Bw, rfl, hh⟩
  have HH4 := hid hh
  clear hh HH3
  go_wp2_with fail
  refine (h_newR HH4.out).mono ?_
  rintro e w5 ⟨Br, rfl, hh⟩
  have HH5 := hid hh
  clear hh HH4
  go_wp2_with fail
  refine (h_answers6 HT HH5.out).mono ?_
  rintro e w7 ⟨rfl, hh⟩
  have HH7 := hid (((hh.third.third).nil 3 1).nil 5 1).fourth.fourth
  clear hh HH5
  go_wp2
  go_loopg [9, 10, 11] (N + 2) (fun k t9 t10 t11 wr => ∃ (i m q : Nat) (ks : List Nat) (so so2 : Option Addr) (sc sc2 : Nat), i ≤ N ∧ N - i < k ∧ m ≤ i ∧ q ≤ 15 * m ∧ t11 = .int .i64 (i : Int) ∧ t9 = .slice so m sc ∧ t10 = .slice so2 q sc2 ∧ Hid (m = ks.length ∧ q = (allBits l ks).length ∧ Syms l ks) ∧
    Hid (Held w wr [wrT Bw (allBits l ks), T l B, ownT 5 1 (.slice so2 q sc2) q (u8s (allBits l ks)), ownT 3 1 (.slice so m sc) m (nums .i64 ks), rdrT Br []]))
  case atStart => exact ⟨0, 0, 0, [], none, none, 0, 0, by omega, by omega, by omega, by omega, rfl, rfl, rfl, hid ⟨rfl, rfl, fun _ h => by cases h⟩, HH7⟩
  case round =>
    obtain ⟨i, m, q, ks, so, so2, sc, sc2, hi, hk, hm, hq, rfl, rfl, rfl, HKS, HH⟩ := hrel
    have hi0 : (0 : Int) ≤ (i : Int) := Int.natCast_nonneg _
    by_cases hiN : i < N
    · have hiI : (i : Int) < (N : Int) := by omega
      obtain ⟨g1, off1, rfl, hcell⟩ := (HH.out.old HU.out).spot (by omega)
      obtain ⟨s, hsi⟩ : ∃ s, ls[i]? = some s := ⟨ls[i]'(by have := HN.out.2; omega), List.getElem?_eq_getElem _⟩
      have hc1 := hcell i _ (by rw [ints_get, hsi]; rfl)
      clear hcell hsi
      have HWR := hid (HT.write l B Bw (allBits l ks) s w wr _ HH.out HFI.out (by rw [← HKS.out.2.1]; omega))
      have h6 : s < 0 ∨ (0 ≤ s ∧ (n : Int) ≤ s) ∨ ∃ k : Nat, s = (k : Int) ∧ k < n := by
        by_cases a1 : s < 0
        · exact .inl a1
        · by_cases a2 : (n : Int) ≤ s
          · exact .inr (.inl ⟨by omega, a2⟩)
          · exact .inr (.inr ⟨s.toNat, by omega, by omega⟩)
      rcases h6 with h6 | ⟨h6, h7⟩ | ⟨kk, rfl, h7⟩
      · have hd1 : decide ((0 : Int) ≤ s) = false := by simp; omega
        have hd1' : decide (s ≥ 0) = false := by simp; omega
        go_wp2_with fail
        refine HWR.out.mono ?_
        rintro e w9 (⟨j, p, hj, hp, hp0, rfl, hh⟩ | ⟨hno, rfl, hh⟩)
        · exfalso; omega
        have HH9 := hid hh
        clear hh HWR HH
        go_wp2
        go_roundg (gk - 1)
        case measure => omega
        case rel => exact ⟨i + 1, m, q, ks, so, so2, sc, sc2, by omega, by omega, by omega, by omega, by go_num, rfl, rfl, HKS, HH9⟩
      · have hd1 : decide ((0 : Int) ≤ s) = true := by simp; omega
        have hd2 : decide (s < (n : Int)) = false := by simp; omega
        go_wp2_with fail
        refine HWR.out.mono ?_
        rintro e w9 (⟨j, p, hj, hp, hp0, rfl, hh⟩ | ⟨hno, rfl, hh⟩)
        · exfalso
          have := (List.getElem?_eq_some_iff.1 hp).1
          have := HN.out.1
          omega
        have HH9 := hid hh
        clear hh HWR HH
        go_wp2
        go_roundg (gk - 1)
        case measure => omega
        case rel => exact ⟨i + 1, m, q, ks, so, so2, sc, sc2, by omega, by omega, by omega, by omega, by go_num, rfl, rfl, HKS, HH9⟩
      · have hk0 : (0 : Int) ≤ (kk : Int) := Int.natCast_nonneg _
        have hkI : (kk : Int) < (n : Int) := by omega
        have hd1 : decide ((0 : Int) ≤ (kk : Int)) = true := by simp
        have hd2 : decide ((kk : Int) < (n : Int)) = true := by simp; omega
        obtain ⟨g2, off2, rfl, hcell2⟩ := (HH.out.old HV.out).spot (by omega)
        obtain ⟨y, hyi⟩ : ∃ y, l[kk]? = some y := ⟨l[kk]'(by have := HN.out.1; omega), List.getElem?_eq_getElem _⟩
        have hyr := HFI.out.1 y (List.mem_of_getElem? hyi)
        obtain ⟨p, rfl⟩ := Int.eq_ofNat_of_zero_le hyr.1
        have hc2 := hcell2 kk _ (by rw [ints_get, hyi]; rfl)
        have hp0' : (0 : Int) ≤ (p : Int) := Int.natCast_nonneg _
        have hp15 : p ≤ 15 := by omega
        have HY := hid hyi
        clear hcell2 hyi hyr
        by_cases hp : p = 0
        · have hd3 : decide ((0 : Int) < (p : Int)) = false := by simp; omega
          have hpI : ¬ (0 : Int) < (p : Int) := by omega
          go_wp2_with fail
          refine HWR.out.mono ?_
          rintro e w9 (⟨j, p2, hj, hp2, hp0, rfl, hh⟩ | ⟨hno, rfl, hh⟩)
          · exfalso
            obtain rfl : kk = j := by omega
            have := HY.out.symm.trans hp2
            simp only [Option.some.injEq] at this
            omega
          have HH9 := hid hh
          clear hh HWR HH
          go_wp2
          go_roundg (gk - 1)
          case measure => omega
          case rel => exact ⟨i + 1, m, q, ks, so, so2, sc, sc2, by omega, by omega, by omega, by omega, by go_num, rfl, rfl, HKS, HH9⟩
        · have hd3 : decide ((0 : Int) < (p : Int)) = true := by simp; omega
          have hpI : (0 : Int) < (p : Int) := by omega
          go_wp2_with fail
          refine HWR.out.mono ?_
          rintro e w9 (⟨j, p2, hj, hp2, hp0, rfl, hh⟩ | ⟨hno, rfl, hh⟩)
          rotate_left
          · exfalso
            exact hp (hno kk p rfl HY.out)
          obtain rfl : kk = j := by omega
          obtain rfl : p = p2 := by
            have := HY.out.symm.trans hp2
            simp only [Option.some.injEq] at this
            omega
          have HH9 := hid (hh.fourth.lit 3 1 (nums .i64 [kk]) 1 (by decide) rfl).swap
          clear hh HWR HH hj hp2 hp0
          have hd3n : decide (0 < p) = true := by simp; omega
          have HRB := hid (fun (w2 : World) (Rs : List Thing) (h : Held w w2 Rs) => h_refbits4 h (.slice (some ⟨g2, off2, none⟩) n ac) l kk p n (h.old HV.out) HN.out.1 h3 HY.out hp15)
          have HAP : Hid (u8s (allBits l ks) ++ u8s (hiBits p (codeAt l kk)) = u8s (allBits l (ks ++ [kk])) ∧ allBits l ks ++ hiBits p (codeAt l kk) = allBits l (ks ++ [kk])) := by
            rw [allBits_snoc, symBits_of HY.out, u8s_append]; exact hid ⟨rfl, rfl⟩
          go_wp2_with ((with_reducible show wpList _ _ _ (⟨some 80, _, _, _, _, _⟩ :: _) _ _); refine wpList_app_held rfl (.tmp 77) (.tmp 79) 22 rfl 3 ii (.int .i64 0) 1 8 Try.underlying22 hii hz0 hz1 hz2 rfl (by decide) _ m (nums .i64 ks) rfl HH9.out _ 1 (nums .i64 [kk]) rfl HH9.out.swap.own.rd (nums_one _ _) (m + 1) rfl (by unfold maxLen; omega) (by omega) ?_; intro ao1 cap1 w3 h1; rw [← nums_snoc] at h1; have HHA := hid h1.swap.drop.fourth; clear h1 HH9)
          refine (HRB.out _ _ HHA.out).mono ?_
          rintro e wa ⟨bv, rfl, hh⟩
          have HHB := hid hh.swap
          clear hh HHA HRB
          go_wp2_with ((with_reducible show wpList _ _ _ (⟨some 85, _, _, _, _, _⟩ :: _) _ _); refine wpList_app_held rfl (.tmp 81) (.tmp 84) 23 rfl 5 iu (.int .u8 0) 1 1 Try.underlying23 hiu hu0 hu1 hu2 rfl (by decide) _ q (u8s (allBits l ks)) rfl HHB.out _ p (u8s (hiBits p (codeAt l kk))) rfl HHB.out.swap.own.rd (u8s_one _) (q + p) rfl (by unfold maxLen; omega) (by omega) ?_; intro ao2 cap2 w4 h1; rw [HAP.out.1, HAP.out.2] at h1; have HHC := hid h1.swap.drop.fourth.fourth; clear h1 HHB)
          go_wp2
          go_roundg (gk - 1)
          case measure => omega
          case rel =>
            refine ⟨i + 1, m + 1, q + p, ks ++ [kk], ao1, ao2, cap1, cap2, by omega, by omega, by omega, by omega, by go_num, rfl, rfl, hid ⟨?_, ?_, ?_⟩, HHC⟩
            · rw [List.length_append, ← HKS.out.1]; rfl
            · rw [← HAP.out.2, List.length_append, ← HKS.out.2.1, hiBits_length]
            · exact HKS.out.2.2.snoc HY.out (by omega) hp15
    · have hiI : ¬ (i : Int) < (N : Int) := by omega
      have hm0 : (0 : Int) ≤ (m : Int) := Int.natCast_nonneg _
      have hq0 : (0 : Int) ≤ (q : Int) := Int.natCast_nonneg _
      have HWB := hid (h_wbits HH.out (by rw [← HKS.out.2.1]; omega))
      rw [← HKS.out.2.1] at HWB
      have hqq : ((q : Int) != (q : Int)) = false := by simp
      clear HH
      go_wp2_with fail
      refine HWB.out.mono ?_
      rintro e w9 ⟨rfl, hh⟩
      have HAL := hid (h_walign hh (by rw [← HKS.out.2.1]; omega))
      clear hh HWB
      go_wp2_with fail
      refine HAL.out.mono ?_
      rintro e wa ⟨rfl, hh⟩
      have HTK := hid (h_take hh)
      clear hh HAL
      go_wp2_with fail
      refine HTK.out.mono ?_
      rintro e wb ⟨dv, rfl, hh⟩
      have HB1 := hid hh
      clear hh HTK
      have hEl : (evened (allBits l ks)).length < 5000 := by have := evened_le (allBits l ks); rw [← HKS.out.2.1] at this; omega
      have hEB : isBits (evened (allBits l ks)) := evened_isBits (allBits_isBits l ks)
      have HBB := hid (bits8_bytesOf _ hEB (evened_length _))
      have hYl : (bytesOf (evened (allBits l ks))).length < 5000 := by
        have := congrArg List.length HBB.out
        rw [bits8_length] at this; omega
      have HEV := hid (h_even HB1.out (.slice so2 q sc2) (allBits l ks) (by rw [← HKS.out.2.1]; exact HB1.out.fourth.own.rd) (by rw [← HKS.out.2.1]; omega))
      have HEL := hid (And.intro hEl (And.intro hEB hYl))
      clear hEl hEB hYl
      go_wp2_with fail
      refine HEV.out.mono ?_
      rintro e wc ⟨ev, rfl, hh⟩
      have HBY := hid (h_bytes hh ev (evened (allBits l ks)) hh.own.rd HEL.out.2.1 (by have := HEL.out.1; omega))
      clear hh HEV HB1
      go_wp2_with fail
      refine HBY.out.mono ?_
      rintro e wd ⟨yv, rfl, hh⟩
      have HSM := hid (h_same_yes hh dv yv (bytesOf (evened (allBits l ks))) _ hh.third.own.rd hh.own.rd (by have := HEL.out.2.2; omega))
      clear hh HBY
      go_wp2_with fail
      refine HSM.out.mono ?_
      rintro e we ⟨rfl, hh⟩
      have HS1 := hid hh.drop.drop.swap.drop.third.drop.fourth
      clear hh HSM
      have HFD := hid (h_feed HS1.out dv _ (bytesOf (evened (allBits l ks))) HS1.out.swap.own.rd (bytesOf_lt _ HEL.out.2.1) (by have := HEL.out.2.2; omega) (by decide))
      rw [List.nil_append, HBB.out] at HFD
      clear HS1
      go_wp2_with fail
      refine HFD.out.mono ?_
      rintro e wf ⟨rfl, hh⟩
      obtain ⟨pad, hpad⟩ : ∃ pad, pad = List.replicate ((8 - (allBits l ks).length % 8) % 8) 0 := ⟨_, rfl⟩
      have HPD : Hid (pad.length ≤ 7 ∧ isBits pad) := by
        rw [hpad]
        refine hid ⟨by rw [List.length_replicate]; omega, fun b hb => ?_⟩
        have := List.eq_of_mem_replicate hb; omega
      have HS2 : Hid (Held w wf [rdrT Br (allBits l (ks.drop 0) ++ pad), T l B, ownT 3 1 (.slice so m sc) m (nums .i64 ks)]) := by
        have h := hh.swap.drop
        rw [evened, ← hpad] at h
        exact hid h
      clear hh HFD hpad
      go_wp2
      go_loopg [15] (m + 2) (fun k t15 wr => ∃ (j : Nat), j ≤ m ∧ m - j < k ∧ t15 = .int .i64 (j : Int) ∧
        Hid (Held w wr [rdrT Br (allBits l (ks.drop j) ++ pad), T l B, ownT 3 1 (.slice so m sc) m (nums .i64 ks)]))
      case atStart => exact ⟨0, by omega, by omega, rfl, HS2⟩
      case round =>
        obtain ⟨j, hj, hk2, rfl, HJ⟩ := hrel
        have hj0 : (0 : Int) ≤ (j : Int) := Int.natCast_nonneg _
        by_cases hjm : j < m
        · have hjI : (j : Int) < (m : Int) := by omega
          obtain ⟨y, hy⟩ : ∃ y, ks[j]? = some y := ⟨ks[j]'(by have := HKS.out.1; omega), List.getElem?_eq_getElem _⟩
          obtain ⟨p, hp, hp1, hp15⟩ := HKS.out.2.2 y (List.mem_of_getElem? hy)
          have hdr : ks.drop j = y :: ks.drop (j + 1) := by
            obtain ⟨h1, h2⟩ := List.getElem?_eq_some_iff.1 hy
            rw [← h2]; exact List.drop_eq_getElem_cons h1
          have hst : allBits l (ks.drop j) ++ pad = hiBits p (codeAt l y) ++ (allBits l (ks.drop (j + 1)) ++ pad) := by
            rw [hdr, allBits_cons, symBits_of hp, List.append_assoc]
          have HST := hid hst
          have hbt : isBits (allBits l (ks.drop j) ++ pad) := isBits_append (allBits_isBits _ _) HPD.out.2
          have hln : (allBits l (ks.drop j) ++ pad).length < 1000000 := by
            have h1 : Syms l (ks.drop j) := fun a ha => HKS.out.2.2 a (List.mem_of_mem_drop ha)
            have h2 := allBits_len h1
            have h3' := HPD.out.1
            have h4' := HKS.out.1
            rw [List.length_drop] at h2
            rw [List.length_append]; omega
          have HIT : Hid (ReadIs l (allBits l (ks.drop j) ++ pad) y p 0 ∧ isBits (allBits l (ks.drop j) ++ pad)) := by
            refine hid ⟨.inl ⟨rfl, ?_⟩, hbt⟩
            rw [hst]
            exact Hit.written HFI.out.sum hp hp1 hp15 _
          have HNX := hid (HT.next l B Br _ w wr _ HJ.out HFI.out hbt hln)
          have HYJ := hid hy
          clear HJ hst hbt hln hdr hy hp
          go_wp2_with fail
          refine HNX.out.mono ?_
          rintro e wg ⟨k, q2, er, rfl, hh, HR⟩
          obtain ⟨rfl, rfl, rfl⟩ := HR.out.one HIT.out.2 HFI.out.1 HIT.out.1
          have HG : Hid (Held w wg [rdrT Br (allBits l (ks.drop (j + 1)) ++ pad), T l B, ownT 3 1 (.slice so m sc) m (nums .i64 ks)]) := by
            have h := hh
            rw [HST.out, List.drop_left' (hiBits_length _ _)] at h
            exact hid h
          obtain ⟨g3, off3, rfl, hcell3, _, _⟩ := HG.out.third.own.site (by omega)
          have c3 := hcell3 j (.int .i64 (k : Int)) (by rw [nums_get, HYJ.out]; rfl)
          have hkk : ((k : Int) != (k : Int)) = false := by simp
          clear hh HR HNX hcell3
          go_wp2
          go_roundg (gk - 1)
          case measure => omega
          case rel => exact ⟨j + 1, by omega, by omega, by go_num, HG⟩
        · have hjI : ¬ (j : Int) < (m : Int) := by omega
          have HE := hid HJ.out.below
          clear HJ
          go_wp2
          go_ret
          exact ⟨rfl, HE.out⟩
end Go.Proofs.Ytpecdappchkdiaa
