/-
  The landed finder: what is written to it, how much waits, literals, all tokens.
-/
import Derived.Test.YtdmnfjicjjlnnaaGreatDoorDm12
import Derived.Test.YtdmnfjicjjlnnaaGreatDoorDm09
namespace Go.Proofs.YtdmnfjicjjlnnaaGreatDoor
set_option maxRecDepth 5000
open Go.RowKit
theorem infoTok3M : (Tryz.prog.info? 80).map (fun i => (i.zero, i.size, i.bytes)) = some (some (.agg #[.int .u8 0, .int .i64 0, .int .i64 0]), 3, 24) := by kernel_rfl
section
variable {w0 w : World} {Rs : List Thing} {tr en la at' cut gone n a P : Nat} {B : Place} {x bs bk : List Nat} {g h : List Nat → Option Nat}
theorem writeM_any (H : Held w0 w (rawF tr en la at' gone bs bk g h n B :: Rs)) (v : Value) (m : Nat) (b : List Nat) (hv : Rd w 1 v m (u8s b)) (hlen : bs.length + m < 1000000000) :
    Calls Tryz.prog 39 #[.pointer (some ⟨B.b, B.o, none⟩), v] w fun e w' => e = .returned (.tuple #[]) ∧ Held w0 w' (rawF tr en la at' gone (bs ++ b) bk g h n B :: Rs) := by
  obtain ⟨i0, hi0, hz0, hz1, hz2⟩ := info_parts infoByteM
  have hmb : m = b.length := by have := hv.1; rw [u8s_length] at this; omega
  obtain ⟨so, scap, rfl, hmc, hsm⟩ := hv.form
  obtain ⟨lv, bv, m1, m2, HF⟩ := unFin H
  obtain ⟨L, hL⟩ : ∃ L, L = bs.length := ⟨_, rfl⟩
  have h1 : Held w0 w (objP B (finV tr en la lv gone (.map (some m1)) (.map (some m2)) bv at') :: ownT 5 1 lv bs.length (u8s bs) :: ownT 23 1 bv bk.length (nums .u16 bk) :: mapS (.map (some m1)) g n :: mapS (.map (some m2)) h n :: Rs) := HF
  rw [← hL] at h1 hlen
  obtain ⟨lo, lcap, rfl, _, _⟩ := h1.swap.own.form
  have hb := h1.objp
  have c3 := hb.cell (i := 3) rfl
  have H1 := hid h1.swap
  have HV := hid hv
  have HN := hid (And.intro hL hmb)
  clear H HF h1 hv hb hL hmb
  go_enter Tryz.func39, Tryz.ntmps39
  go_wp2_with (refine wpList_app_held rfl (.tmp 11) (.tmp 12) 22 rfl 5 i0 (.int .u8 0) 1 1 Tryz.underlying22 hi0 hz0 hz1 hz2 rfl (by decide) _ L (u8s bs) rfl H1.out _ m (u8s b) rfl HV.out (u8s_one b) (L + m) rfl (by unfold maxLen; omega) (by omega) ?_; intro ao1 cap1 w2 h2; have H2 := hid h2.swap; have f3 := H2.out.objp.frozen 3; have c3' := H2.out.objp.cell (i := 3) rfl; clear h2)
  go_end0
  refine ⟨rfl, mkFin (.slice ao1 (L + m) cap1) bv m1 m2 ?_⟩
  have h3 := H2.out.setObjP 3 (.slice ao1 (L + m) cap1)
  unfold finL
  rw [List.length_append, ← HN.out.1, ← HN.out.2, u8s_append]
  exact h3
theorem toEnd6 {R1 R2 R3 R4 R5 T : Thing} (H : Held w0 w (R1 :: R2 :: T :: R3 :: R4 :: R5 :: Rs)) : Held w0 w (R1 :: R2 :: R3 :: R4 :: R5 :: T :: Rs) :=
  H.perm (List.Perm.cons _ (List.Perm.cons _ (List.perm_middle (l₁ := [R3, R4, R5])).symm))
theorem waiting_any (H : Held w0 w (rawF tr en la at' gone bs bk g h n B :: Rs)) (hat : at' ≤ bs.length) (hlen : bs.length < 1000000000) :
    Calls Tryz.prog 56 #[.pointer (some ⟨B.b, B.o, none⟩)] w fun e w' => e = .returned (.int .i64 ((bs.length - at' : Nat) : Int)) ∧ ∃ k, w' = w.drewN k := by
  obtain ⟨lv, bv, m1, m2, HF⟩ := unFin H
  obtain ⟨hB, hO, _, _, _⟩ := finAll HF
  obtain ⟨L, hL⟩ : ∃ L, L = bs.length := ⟨_, rfl⟩
  rw [← hL] at hO hat hlen ⊢
  obtain ⟨lo, lcap, rfl, _, _⟩ := hO.form
  have c3 := hB.cell (i := 3) rfl
  have c8 := hB.cell (i := 8) rfl
  obtain ⟨d, hd⟩ : ∃ d, d = L - at' := ⟨_, rfl⟩
  have hdI : (L : Int) - (at' : Int) = (d : Int) := by omega
  have hd0 : (0 : Int) ≤ (d : Int) := Int.natCast_nonneg _
  have hdb : d < 1000000000 := by omega
  rw [← hd]
  clear hd H HF hB hO hL hat
  go_enter Tryz.func56, Tryz.ntmps56
  go_wp2
  go_quiet (fail)
  go_wp2
  go_ret
  exact ⟨rfl, _, rfl⟩
def litsT (bs : List Nat) : List Tok := bs.map fun (b : Nat) => ((b : Int), 0, 0)
set_option maxHeartbeats 1600000 in
theorem literals_any (H : Held w0 w (rawF tr en la at' gone bs bk g h n B :: Rs)) (hlen : bs.length < 1000000000) :
    Calls Tryz.prog 55 #[.pointer (some ⟨B.b, B.o, none⟩)] w fun e w' => ∃ v, e = .returned v ∧ Held w0 w' (tokT v (litsT bs) :: rawF tr en la at' gone [] bk g h n B :: Rs) := by
  obtain ⟨i3, hi3, hz0, hz1, hz2⟩ := info_parts infoTok3M
  obtain ⟨lv, bv, m1, m2, HF⟩ := unFin H
  obtain ⟨hB, hO, _, _, _⟩ := finAll HF
  obtain ⟨L, hL⟩ : ∃ L, L = bs.length := ⟨_, rfl⟩
  rw [← hL] at hO hlen
  obtain ⟨lo, lcap, rfl, _, _⟩ := hO.form
  have HB := hid hB
  have c3 := hB.cell (i := 3) rfl
  have hL0 : (0 : Int) ≤ (L : Int) := Int.natCast_nonneg _
  have HL := hid hL
  have H1 : Hid (Held w0 w (objP B (finV tr en la (.slice lo L lcap) gone (.map (some m1)) (.map (some m2)) bv at') :: ownT 5 1 (.slice lo L lcap) bs.length (u8s bs) :: ownT 23 1 bv bk.length (nums .u16 bk) :: mapS (.map (some m1)) g n :: mapS (.map (some m2)) h n :: Rs)) := HF
  clear H HF hB hO hL
  go_enter Tryz.func55, Tryz.ntmps55
  go_wp2
  go_loopg [3, 5, 12] (L + 2) (fun gg t3 t5 t12 wr => ∃ (k : Nat) (ao : Option Addr) (cap : Nat), k ≤ L ∧ L + 1 - k < gg ∧ t12 = .int .i64 (k : Int) ∧ t3 = .slice ao k cap ∧
    Hid (Held w0 wr (ownT 80 3 (.slice ao k cap) k (toksV (litsT (bs.take k))) :: objP B (finV tr en la (.slice lo L lcap) gone (.map (some m1)) (.map (some m2)) bv at') :: ownT 5 1 (.slice lo L lcap) bs.length (u8s bs) :: ownT 23 1 bv bk.length (nums .u16 bk) :: mapS (.map (some m1)) g n :: mapS (.map (some m2)) h n :: Rs)))
  case atStart => exact ⟨0, none, 0, by omega, by omega, rfl, rfl, hid (H1.out.nil 80 3)⟩
  case round =>
    obtain ⟨k, ao, cap, hk, hg, rfl, rfl, HR⟩ := hrel
    have hk0 : (0 : Int) ≤ (k : Int) := Int.natCast_nonneg _
    by_cases hkL : k < L
    · have hkI : (k : Int) < (L : Int) := by omega
      obtain ⟨vb, hvb⟩ : ∃ vb, bs[k]? = some vb := ⟨bs[k]'(by rw [← HL.out]; exact hkL), List.getElem?_eq_getElem _⟩
      have hO2 := HR.out.drop.drop.own
      rw [← HL.out] at hO2
      obtain ⟨gl, off, rfl, hcell, _, _⟩ := hO2.site (by omega)
      have cb := hcell k (.int .u8 (vb : Int)) (by rw [u8s_get, hvb]; rfl)
      have HC : Hid (toksV (litsT (bs.take k)) ++ [.int .u8 (vb : Int), .int .i64 0, .int .i64 0] = toksV (litsT (bs.take (k + 1)))) := hid (by
        rw [List.take_add_one, hvb]
        simp [litsT, toksV])
      clear hvb hO2 hcell
      go_wp2_with (refine wpList_app_held rfl (.tmp 16) (.tmp 19) 34 rfl 80 i3 (.agg #[.int .u8 0, .int .i64 0, .int .i64 0]) 3 24 Tryz.underlying34 hi3 hz0 hz1 hz2 rfl (by decide) _ k (toksV (litsT (bs.take k))) rfl (HR.out.alloc _) _ 1 [.int .u8 (vb : Int), .int .i64 0, .int .i64 0] rfl (Rd.lit _ [.int .u8 (vb : Int), .int .i64 0, .int .i64 0] _ 3 1 (by decide) rfl) (by intro u hu; simp at hu; rcases hu with rfl | rfl <;> rfl) (k + 1) rfl (by unfold maxLen; omega) (by omega) ?_; intro ao1 cap1 w4 h4; rw [HC.out] at h4; have H4 := hid h4; clear h4)
      go_roundg (gk - 1)
      case measure => omega
      case rel => exact ⟨k + 1, ao1, cap1, by omega, by omega, by go_num, rfl, H4⟩
    · obtain rfl : k = L := by omega
      have hkI : ¬ (k : Int) < (k : Int) := by omega
      have h2 := HR.out.swap
      have hb2 := h2.objp
      have d3 := hb2.cell (i := 3) rfl
      have f3 := hb2.frozen 3
      have H3 := hid (h2.setObjP 3 (.slice none 0 0))
      clear h2 hb2
      go_wp2
      go_ret
      refine ⟨.slice ao k cap, rfl, ?_⟩
      have h4 := (toEnd6 (H3.out.third.drop.nil 5 1).swap)
      have h5 := (mkFin (bs := []) (.slice none 0 0) bv m1 m2 h4).swap
      rw [List.take_of_length_le (by rw [HL.out]; exact Nat.le_refl _)] at h5
      have e : (litsT bs).length = k := by rw [HL.out]; simp [litsT]
      unfold tokT
      rw [e]
      exact h5
end
end Go.Proofs.YtdmnfjicjjlnnaaGreatDoor
/-
  The landed finder: Tokens at a level above 0.
-/
namespace Go.Proofs.YtdmnfjicjjlnnaaGreatDoor
set_option maxRecDepth 5000
open Go.RowKit
section
variable {w0 w : World} {Rs : List Thing} {tr en la cut a P : Nat} {B : Place} {x : List Nat}
set_option maxHeartbeats 6400000 in
theorem tokens_any1 (A : Nat) (e : Bool) (st : Nat) (hst : st = if e then 0 else 261) (H : Held w0 w (inF tr en la (A - cut) x cut P a B :: Rs)) (HI : InpOK x cut P a) (hPA : P ≤ A) (hAx : A ≤ x.length) (hcA : cut ≤ A) (hcw : cut = 0 ∨ cut + 32768 ≤ A) (hlen : x.length < 1000000000) (hb : ∀ b ∈ x, b < 256) (htr : tr < 1000000000) (htr0 : 0 < tr) :
    Calls Tryz.prog 50 #[.pointer (some ⟨B.b, B.o, none⟩), .bool e] w fun e' w' => ∃ v cut' P' a', e' = .returned v ∧ cut' ≤ (parse 32768 258 x tr en la st A).2 ∧ P' ≤ (parse 32768 258 x tr en la st A).2 ∧ (cut' = 0 ∨ cut' + 32768 ≤ (parse 32768 258 x tr en la st A).2) ∧ InpOK x cut' P' a' ∧
      Held w0 w' (tokT v (parse 32768 258 x tr en la st A).1 :: inF tr en la ((parse 32768 258 x tr en la st A).2 - cut') x cut' P' a' B :: Rs) := by
  obtain ⟨i3, hi3, hz0, hz1, hz2⟩ := info_parts infoTok3M
  obtain ⟨lv, bv, m1, m2, HF⟩ := unFin H
  have hB := (finAll HF).1
  have c0 := hB.cell0 rfl
  have htrI : ((tr : Int) == 0) = false := by simp; omega
  have htrI2 : decide ((tr : Int) = 0) = false := by simp; omega
  have htrI3 : ¬ (tr : Int) = 0 := by omega
  have hst0 : (0 : Int) ≤ (st : Int) := Int.natCast_nonneg _
  have hstb : st ≤ 261 := by rw [hst]; split <;> omega
  obtain ⟨pl, pn, hp⟩ : ∃ pl pn, parse 32768 258 x tr en la st A = (pl, pn) := ⟨_, _, rfl⟩
  rw [hp]
  have HP := hid hp
  have HG := hid (And.intro HI (And.intro hPA (And.intro hAx (And.intro hcA hcw))))
  have HH := hid H
  have HST := hid hst
  clear HF hB H HI hPA hAx hcA hcw hp hst
  go_enter Tryz.func50, Tryz.ntmps50
  go_upto_if 18 with (fail)
  go_cut [5] (fun s5 wx => s5 = .int .i64 (st : Int) ∧ wx = w)
  case first =>
    cases e with
    | true =>
      have hs0 : st = 0 := by rw [HST.out]; rfl
      subst hs0
      go_wp2
      go_meet
      case rel => exact ⟨rfl, rfl⟩
    | false =>
      have hs0 : st = 261 := by rw [HST.out]; rfl
      subst hs0
      go_wp2
      go_meet
      case rel => exact ⟨rfl, rfl⟩
  case rest =>
    obtain ⟨rfl, rfl⟩ := hcut
    go_wp2
    go_loopg [6, 7] (x.length + 2) (fun gg t6 t7 wr => ∃ (A1 P1 a1 k : Nat) (ao : Option Addr) (cap : Nat) (l1 : List Tok), A1 ≤ x.length ∧ x.length + 1 - A1 < gg ∧ t6 = .slice ao k cap ∧ k ≤ A1 ∧ A ≤ A1 ∧ Hid (k = l1.length) ∧
      Hid (l1 ++ (parse 32768 258 x tr en la st A1).1 = pl ∧ (parse 32768 258 x tr en la st A1).2 = pn) ∧ Hid (InpOK x cut P1 a1 ∧ P1 ≤ A1 ∧ cut ≤ A1 ∧ (cut = 0 ∨ cut + 32768 ≤ A1)) ∧
      Hid (Held w0 wr (ownT 80 3 (.slice ao k cap) k (toksV l1) :: inF tr en la (A1 - cut) x cut P1 a1 B :: Rs)))
    case atStart =>
      refine ⟨A, P, a, 0, none, 0, [], HG.out.2.2.1, by omega, rfl, Nat.zero_le _, Nat.le_refl _, hid rfl, hid ?_, hid ⟨HG.out.1, HG.out.2.1, HG.out.2.2.2.1, HG.out.2.2.2.2⟩, hid (HH.out.nil 80 3)⟩
      rw [HP.out]; exact ⟨rfl, rfl⟩
    case round =>
      obtain ⟨A1, P1, a1, k, ao, cap, l1, hA1, hg, rfl, hkA, hAA, HK, HL, HF, HR⟩ := hrel
      obtain ⟨W1, hW1⟩ : ∃ W1, W1 = x.length - A1 := ⟨_, rfl⟩
      have hwl : (x.drop cut).length - (A1 - cut) = W1 := by rw [List.length_drop, hW1]; have := HF.out; omega
      have hW0 := waiting_any HR.out.swap (by rw [List.length_drop]; omega) (by rw [List.length_drop]; omega)
      rw [hwl] at hW0
      have HW := hid hW0
      have hWn : (0 : Int) ≤ (W1 : Int) := Int.natCast_nonneg _
      have HWX := hid hW1
      clear hW0 hwl hW1
      by_cases hc : st < W1
      · have hcI : (st : Int) < (W1 : Int) := by omega
        have hA2 : A1 < x.length := by have := HWX.out; omega
        have HNX := hid (fun (wz : World) (Rz : List Thing) (h : Held w0 wz (inF tr en la (A1 - cut) x cut P1 a1 B :: Rz)) => nextM_any A1 h HF.out.1 HF.out.2.1 hA2 HF.out.2.2.2 hlen hb htr)
        obtain ⟨ta, tl, td, ht⟩ : ∃ ta tl td, nextT 32768 258 x tr en la A1 = (ta, tl, td) := ⟨_, _, _, rfl⟩
        have hnt := nextT_is (W := 32768) (L := 258) (x := x) (tr := tr) (en := en) (la := la) (by omega) A1 hA2
        have hon := parse_on (W := 32768) (L := 258) (x := x) (tr := tr) (en := en) (la := la) (stay := st) A1 (by rw [← HWX.out]; exact hc)
        rw [ht] at hnt hon HNX
        have HNX : Hid (∀ (wz : World) (Rz : List Thing), Held w0 wz (inF tr en la (A1 - cut) x cut P1 a1 B :: Rz) → Calls Tryz.prog 57 #[.pointer (some ⟨B.b, B.o, none⟩)] wz fun e w' => e = .returned (.agg #[.int .u8 ta, .int .i64 tl, .int .i64 td]) ∧ ∃ P' a', P' ≤ A1 + 1 ∧ InpOK x cut P' a' ∧ Held w0 w' (inF tr en la (A1 - cut) x cut P' a' B :: Rz)) := HNX
        obtain ⟨q, hq⟩ : ∃ q, q = adv (ta, tl, td) := ⟨_, rfl⟩
        rw [← hq] at hnt hon
        have hq1 : 1 ≤ q := by rw [hq]; exact adv_pos _
        have hq2 : q = max tl.toNat 1 := hq
        have htl : 0 ≤ tl ∧ tl ≤ 258 := by
          rcases hnt.2.2 with h | ⟨l, d, h, _, h4, _⟩
          · have : tl = 0 := congrArg (fun t : Tok => t.2.1) h
            omega
          · have : tl = (l : Int) := congrArg (fun t : Tok => t.2.1) h
            omega
        have hmax : (if tl < 1 then 1 else tl) = (q : Int) := by split <;> omega
        have hqx : A1 + q ≤ x.length := hnt.1
        have hqb : q ≤ 258 := by have := hnt.2.1; omega
        obtain ⟨u, hu⟩ : ∃ u, u = A1 - cut := ⟨_, rfl⟩
        obtain ⟨u2, hu2⟩ : ∃ u2, u2 = A1 + q - cut := ⟨_, rfl⟩
        have huI : (u : Int) + (q : Int) = (u2 : Int) := by have := HF.out; omega
        have hub : u < 1000000000 := by omega
        have hu2b : u2 < 2000000000 := by omega
        have hu0 : (0 : Int) ≤ (u : Int) := Int.natCast_nonneg _
        have HON := hid hon
        have HU := hid (And.intro hu hu2)
        have HTL := hid htl
        have htl1 := htl.1
        have htl2 : tl ≤ 258 := htl.2
        clear hnt hon hq hq2 ht hu hu2 htl
        go_wp2_with fail
        refine HW.out.mono ?_
        rintro e1 w2 ⟨rfl, k2, rfl⟩
        go_wp2_with fail
        refine (HNX.out _ _ (HR.out.drewN k2).swap).mono ?_
        rintro e1 w3 ⟨rfl, P2, a2, hP2, hI2, h3⟩
        have HI2 := hid hI2
        have H4 : Hid (Held w0 (w3.alloc (.cells #[.int .u8 ta, .int .i64 tl, .int .i64 td] 80)) (objT w3.heap.size [.int .u8 ta, .int .i64 tl, .int .i64 td] 80 :: inF tr en la (A1 - cut) x cut P2 a2 B :: ownT 80 3 (.slice ao k cap) k (toksV l1) :: Rs)) := hid (h3.newObj _ _)
        have HRL : Hid (Rd ((w3.alloc (.cells #[.int .u8 ta, .int .i64 tl, .int .i64 td] 80)).alloc (.cells #[.int .u8 ta, .int .i64 tl, .int .i64 td] 80)) 3 (.slice (some ⟨w3.heap.size + 1, 0, none⟩) 1 1) 1 [.int .u8 ta, .int .i64 tl, .int .i64 td]) := hid (by
          have h := Rd.lit (w3.alloc (.cells #[.int .u8 ta, .int .i64 tl, .int .i64 td] 80)) [.int .u8 ta, .int .i64 tl, .int .i64 td] 80 3 1 (by decide) rfl
          rw [show (w3.alloc (.cells #[.int .u8 ta, .int .i64 tl, .int .i64 td] 80)).heap.size = w3.heap.size + 1 by simp] at h
          exact h)
        have t0 := H4.out.obj.cell0 rfl
        have t1 := H4.out.obj.cell (i := 1) rfl
        have t2 := H4.out.obj.cell (i := 2) rfl
        clear hI2 h3 HW HNX
        go_wp2_with (refine wpList_app_held rfl (.tmp 25) (.tmp 27) 34 rfl 80 i3 (.agg #[.int .u8 0, .int .i64 0, .int .i64 0]) 3 24 Tryz.underlying34 hi3 hz0 hz1 hz2 rfl (by decide) _ k (toksV l1) rfl (H4.out.third.alloc _) _ 1 [.int .u8 ta, .int .i64 tl, .int .i64 td] rfl HRL.out (by intro u hu; simp at hu; rcases hu with rfl | rfl | rfl <;> rfl) (k + 1) rfl (by unfold maxLen; omega) (by omega) ?_; intro ao1 cap1 w4 h4; have H5 := hid h4; clear h4)
        obtain ⟨lv5, bv5, q1, q2, HF5⟩ := unFin H5.out.third
        have h6 : Held w0 w4 (objP B (finV tr en la lv5 cut (.map (some q1)) (.map (some q2)) bv5 (A1 - cut)) :: _) := HF5
        rw [← HU.out.1] at h6
        have hb6 := h6.objp
        have c8 := hb6.cell (i := 8) rfl
        have f8 := hb6.frozen 8
        have j1 := H5.out.swap.obj.cell (i := 1) rfl
        have H6 := hid (h6.drew.setObjP 8 (.int .i64 (u2 : Int)))
        clear HF5 h6 hb6 H4 t0 t1 t2 HRL
        go_region
        all_goals
          have h7 : Held w0 _ (inF tr en la u2 x cut P2 a2 B :: _) := mkFin lv5 bv5 q1 q2 H6.out
          have H8 := hid h7
          clear h7
          go_wp2
          go_roundg (gk - 1)
          case measure => omega
          case rel =>
            refine ⟨A1 + q, P2, a2, k + 1, ao1, cap1, l1 ++ [(ta, tl, td)], hqx, by omega, rfl, by omega, by omega, hid (by rw [List.length_append, ← HK.out]; rfl), hid ?_, hid ?_, hid ?_⟩
            · have h1 := HL.out
              rw [HON.out] at h1
              exact ⟨by rw [← h1.1]; simp, h1.2⟩
            · have := HF.out
              exact ⟨HI2.out, by omega, by omega, by omega⟩
            · rw [toksV_app, ← HU.out.2]
              exact H8.out.third.drop.swap
      · have hcI : ¬ (st : Int) < (W1 : Int) := by omega
        have hend := parse_end (W := 32768) (L := 258) (x := x) (tr := tr) (en := en) (la := la) (stay := st) A1 (by rw [← HWX.out]; exact hc)
        have hl := HL.out
        rw [hend] at hl
        have HE : Hid (l1 = pl ∧ A1 = pn) := hid ⟨by rw [← hl.1]; simp, hl.2⟩
        have HTR := hid (fun (wz : World) (Rz : List Thing) (h : Held w0 wz (inF tr en la (A1 - cut) x cut P1 a1 B :: Rz)) => trim_any A1 h HF.out.1 HF.out.2.1 hA1 HF.out.2.2.1 HF.out.2.2.2 hlen hb)
        clear hend hl
        go_wp2_with fail
        refine HW.out.mono ?_
        rintro e1 w2 ⟨rfl, k2, rfl⟩
        go_wp2_with fail
        refine (HTR.out _ _ (HR.out.drewN k2).swap).mono ?_
        rintro e1 w3 ⟨rfl, cut2, P2, a2, hc2, hP2, hcw2, hI2, h3⟩
        have HX := hid (And.intro hc2 (And.intro hP2 (And.intro hcw2 (And.intro hI2 h3))))
        clear hc2 hP2 hcw2 hI2 h3 HTR HW
        go_wp2
        go_ret
        rw [← HE.out.2]
        refine ⟨.slice ao k cap, cut2, P2, a2, rfl, HX.out.1, HX.out.2.1, HX.out.2.2.1, HX.out.2.2.2.1, ?_⟩
        unfold tokT
        rw [← HE.out.1, ← HK.out]
        exact HX.out.2.2.2.2.swap
end
end Go.Proofs.YtdmnfjicjjlnnaaGreatDoor
/-
  The landed finder: New, by the table of levels; Tokens of a whole.
-/
namespace Go.Proofs.YtdmnfjicjjlnnaaGreatDoor
set_option maxRecDepth 5000
open Go.RowKit
def lvls : List (Nat × Nat × Nat) := [(0, 0, 0), (4, 8, 0), (8, 16, 0), (16, 32, 0), (16, 32, 4), (32, 64, 16), (64, 128, 16), (128, 128, 32), (512, 258, 128), (1024, 258, 258)]
def lvlV : List Value := lvls.flatMap fun t => [.int .i64 (t.1 : Int), .int .i64 (t.2.1 : Int), .int .i64 (t.2.2 : Int)]
def Levs (w : World) : Prop := ∀ i v, lvlV[i]? = some v → w.cell? ⟨0, i, none⟩ = some v
def lvlN (lev : Int) : Nat := (min (max lev 0) 9).toNat
def lvl (lev : Int) : Nat × Nat × Nat := lvls[lvlN lev]?.getD (0, 0, 0)
theorem Levs.kept {w w' : World} (h : Levs w) (hm : Mod w w' (fun _ => False)) : Levs w' := fun i v hv => by
  have hc := h i v hv
  rw [hm.cell (World.block_lt_of_cell? w _ hc) (fun h => h)]; exact hc
theorem lvl_cells : ∀ k, k < 10 → lvlV[k * 3]? = some (.int .i64 (((lvls[k]?.getD (0, 0, 0)).1 : Nat) : Int)) ∧ lvlV[k * 3 + 1]? = some (.int .i64 (((lvls[k]?.getD (0, 0, 0)).2.1 : Nat) : Int)) ∧ lvlV[k * 3 + 2]? = some (.int .i64 (((lvls[k]?.getD (0, 0, 0)).2.2 : Nat) : Int)) := by
  intro k hk
  match k, hk with
  | 0, _ | 1, _ | 2, _ | 3, _ | 4, _ | 5, _ | 6, _ | 7, _ | 8, _ | 9, _ => exact ⟨rfl, rfl, rfl⟩
  | k + 10, h => omega
theorem lvls_le : ∀ t ∈ lvls, t.1 ≤ 1024 ∧ t.2.1 ≤ 258 ∧ t.2.2 ≤ 258 := by decide
theorem lvl_le (lev : Int) : (lvl lev).1 ≤ 1024 ∧ (lvl lev).2.1 ≤ 258 ∧ (lvl lev).2.2 ≤ 258 := by
  unfold lvl
  cases e : lvls[lvlN lev]? with
  | none => decide
  | some t => exact lvls_le t (List.mem_of_getElem? e)
theorem lvl_low (lev : Int) (h : lev ≤ 0) : lvl lev = (0, 0, 0) := by
  unfold lvl lvlN
  rw [show (min (max lev 0) 9).toNat = 0 by omega]; rfl
theorem lvl_high (lev : Int) (h : 1 ≤ lev) : 1 ≤ (lvl lev).1 ∧ 1 ≤ (lvl lev).2.1 := by
  have hk : lvlN lev < 10 ∧ 1 ≤ lvlN lev := by unfold lvlN; omega
  unfold lvl
  generalize lvlN lev = k at hk
  match k, hk with
  | 1, _ | 2, _ | 3, _ | 4, _ | 5, _ | 6, _ | 7, _ | 8, _ | 9, _ => decide
  | k + 10, h => omega
section
variable {w0 w : World} {Rs : List Thing}
theorem newInput_any (h : Held w0 w Rs) :
    Calls Tryz.prog 49 #[] w fun e w' => ∃ m1 m2, e = .returned (.agg #[.slice none 0 0, .int .i64 0, .map (some m1), .map (some m2), .slice none 0 0]) ∧ Held w0 w' (mapS (.map (some m1)) (fun _ => none) 0 :: mapS (.map (some m2)) (fun _ => none) 0 :: Rs) := by
  have HH := hid h
  have hmk : ∀ wg : World, (Instr.makeMap 54 none).run Tryz.prog wg = .ok (.map (some wg.heap.size)) (wg.alloc (.map #[] 0)) := fun wg => rfl
  clear h
  go_enter Tryz.func49, Tryz.ntmps49
  go_wp2
  have h1 := (((HH.out.alloc (.cells #[.slice none 0 0, .int .i64 0, .map (some (w.heap.size + 1)), .map (some (w.heap.size + 1 + 1)), .slice none 0 0] 57)).newMap (kv := arrV .u8) (ok := goodS) (ev := fun p : Nat => Value.int .i64 (p : Int))).newMap (kv := arrV .u8) (ok := goodS) (ev := fun p : Nat => Value.int .i64 (p : Int)))
  rw [show (w.alloc (.cells #[.slice none 0 0, .int .i64 0, .map (some (w.heap.size + 1)), .map (some (w.heap.size + 1 + 1)), .slice none 0 0] 57)).heap.size = w.heap.size + 1 by simp,
    show ((w.alloc (.cells #[.slice none 0 0, .int .i64 0, .map (some (w.heap.size + 1)), .map (some (w.heap.size + 1 + 1)), .slice none 0 0] 57)).alloc (.map #[] 0)).heap.size = w.heap.size + 1 + 1 by simp] at h1
  refine ret_obj rfl _ 5 Tryz.underlying57 rfl (by kernel_rfl) w.heap.size [.slice none 0 0, .int .i64 0, .map (some (w.heap.size + 1)), .map (some (w.heap.size + 1 + 1)), .slice none 0 0] 57 rfl rfl ?_ rfl ⟨_, _, rfl, h1.swap⟩
  exact ((Blk.new w [.slice none 0 0, .int .i64 0, .map (some (w.heap.size + 1)), .map (some (w.heap.size + 1 + 1)), .slice none 0 0] 57).alloc _).alloc _
theorem newEnd {tr en la m1 m2 : Nat} (H : Held w0 w (mapS (.map (some m1)) (fun _ => none) 0 :: mapS (.map (some m2)) (fun _ => none) 0 :: Rs)) :
    Held w0 (w.alloc (.cells #[.int .i64 (tr : Int), .int .i64 (en : Int), .int .i64 (la : Int), .slice none 0 0, .int .i64 0, .map (some m1), .map (some m2), .slice none 0 0, .int .i64 0] 59))
      (finL tr en la 0 0 [] [] (fun _ => none) (fun _ => none) 0 (.whole w.heap.size 59) (.slice none 0 0) (.slice none 0 0) m1 m2 ++ Rs) := by
  have h1 := H.newObjP (finV tr en la (.slice none 0 0) 0 (.map (some m1)) (.map (some m2)) (.slice none 0 0) 0) 59
  have h2 := (h1.nil 23 1).nil 5 1
  exact h2.third
set_option maxHeartbeats 1600000 in
theorem new_any (lev : Int) (hl : Levs w0) (h : Held w0 w Rs) :
    Calls Tryz.prog 37 #[.int .i64 lev] w fun e w' => ∃ B : Nat, e = .returned (.pointer (some ⟨B, 0, none⟩)) ∧ Held w0 w' (rawF (lvl lev).1 (lvl lev).2.1 (lvl lev).2.2 0 0 [] [] (fun _ => none) (fun _ => none) 0 (.whole B 59) :: Rs) := by
  have HH := hid h
  obtain ⟨k, hk⟩ : ∃ k, k = lvlN lev := ⟨_, rfl⟩
  have hk10 : k < 10 := by rw [hk]; unfold lvlN; omega
  obtain ⟨tr, en, la, ht⟩ : ∃ tr en la, lvl lev = (tr, en, la) := ⟨_, _, _, rfl⟩
  have ht2 : lvls[k]?.getD (0, 0, 0) = (tr, en, la) := by rw [hk]; exact ht
  have hc := lvl_cells k hk10
  rw [ht2] at hc
  rw [ht]
  have HLC : Hid (∀ wz, Mod w0 wz (fun _ => False) → wz.cell? ⟨0, k * 3, none⟩ = some (.int .i64 (tr : Int)) ∧ wz.cell? ⟨0, k * 3 + 1, none⟩ = some (.int .i64 (en : Int)) ∧ wz.cell? ⟨0, k * 3 + 2, none⟩ = some (.int .i64 (la : Int))) :=
    hid fun wz hm => ⟨hl.kept hm _ _ hc.1, hl.kept hm _ _ hc.2.1, hl.kept hm _ _ hc.2.2⟩
  have hNI := newInput_any h.drew
  have HNI := hid hNI
  have hkI : (k : Int) < 10 := by omega
  have hk0 : (0 : Int) ≤ (k : Int) := Int.natCast_nonneg _
  have hcase : (lev < 0 ∧ k = 0) ∨ (0 ≤ lev ∧ lev ≤ 9 ∧ lev = (k : Int)) ∨ (9 < lev ∧ k = 9) := by
    unfold lvlN at hk; omega
  clear ht ht2 hc hNI h hl hk
  rcases hcase with ⟨h1, rfl⟩ | ⟨h1, h2, rfl⟩ | ⟨h1, rfl⟩
  · have e0 := HLC.out w HH.out.mod
    have c0 : w.cell? ⟨0, 0, none⟩ = some (.int .i64 (tr : Int)) := e0.1
    have c1 : w.cell? ⟨0, 1, none⟩ = some (.int .i64 (en : Int)) := e0.2.1
    have c2 : w.cell? ⟨0, 2, none⟩ = some (.int .i64 (la : Int)) := e0.2.2
    clear e0
    go_enter Tryz.func37, Tryz.ntmps37
    go_wp2
    go_region_law ((first
      | (go_simp; go_at_call 49; refine HNI.out.mono ?_; rintro e w5 ⟨m1, m2, rfl, h5⟩; have H5 := hid h5
         have e5 := HLC.out w5 h5.mod
         have d0 : w5.cell? ⟨0, 0, none⟩ = some (.int .i64 (tr : Int)) := e5.1
         have d1 : w5.cell? ⟨0, 1, none⟩ = some (.int .i64 (en : Int)) := e5.2.1
         have d2 : w5.cell? ⟨0, 2, none⟩ = some (.int .i64 (la : Int)) := e5.2.2
         clear h5 e5)))
    all_goals
      go_wp2
      go_ret
      refine ⟨_, rfl, mkFin (.slice none 0 0) (.slice none 0 0) m1 m2 ?_⟩
      exact newEnd H5.out
  · have e0 := HLC.out w HH.out.mod
    have hm1 : (if (k : Int) < 0 then 0 else (k : Int)) = (k : Int) := if_neg (by omega)
    have hm2 : (if 9 < (k : Int) then 9 else (k : Int)) = (k : Int) := if_neg (by omega)
    have c0 : w.cell? ⟨0, k * 3, none⟩ = some (.int .i64 (tr : Int)) := e0.1
    have c1 : w.cell? ⟨0, k * 3 + 1, none⟩ = some (.int .i64 (en : Int)) := e0.2.1
    have c2 : w.cell? ⟨0, k * 3 + 2, none⟩ = some (.int .i64 (la : Int)) := e0.2.2
    clear e0
    go_enter Tryz.func37, Tryz.ntmps37
    go_wp2
    go_region_law ((first
      | (go_simp; go_at_call 49; refine HNI.out.mono ?_; rintro e w5 ⟨m1, m2, rfl, h5⟩; have H5 := hid h5
         have e5 := HLC.out w5 h5.mod
         have d0 : w5.cell? ⟨0, k * 3, none⟩ = some (.int .i64 (tr : Int)) := e5.1
         have d1 : w5.cell? ⟨0, k * 3 + 1, none⟩ = some (.int .i64 (en : Int)) := e5.2.1
         have d2 : w5.cell? ⟨0, k * 3 + 2, none⟩ = some (.int .i64 (la : Int)) := e5.2.2
         clear h5 e5)))
    all_goals
      go_wp2
      go_ret
      refine ⟨_, rfl, mkFin (.slice none 0 0) (.slice none 0 0) m1 m2 ?_⟩
      exact newEnd H5.out
  · have e0 := HLC.out w HH.out.mod
    have hm1 : (if lev < 0 then 0 else lev) = lev := if_neg (by omega)
    have hm2 : (if 9 < lev then 9 else lev) = 9 := if_pos h1
    have c0 : w.cell? ⟨0, 27, none⟩ = some (.int .i64 (tr : Int)) := e0.1
    have c1 : w.cell? ⟨0, 28, none⟩ = some (.int .i64 (en : Int)) := e0.2.1
    have c2 : w.cell? ⟨0, 29, none⟩ = some (.int .i64 (la : Int)) := e0.2.2
    clear e0
    go_enter Tryz.func37, Tryz.ntmps37
    go_wp2
    go_region_law ((first
      | (go_simp; go_at_call 49; refine HNI.out.mono ?_; rintro e w5 ⟨m1, m2, rfl, h5⟩; have H5 := hid h5
         have e5 := HLC.out w5 h5.mod
         have d0 : w5.cell? ⟨0, 27, none⟩ = some (.int .i64 (tr : Int)) := e5.1
         have d1 : w5.cell? ⟨0, 28, none⟩ = some (.int .i64 (en : Int)) := e5.2.1
         have d2 : w5.cell? ⟨0, 29, none⟩ = some (.int .i64 (la : Int)) := e5.2.2
         clear h5 e5)))
    all_goals
      go_wp2
      go_ret
      refine ⟨_, rfl, mkFin (.slice none 0 0) (.slice none 0 0) m1 m2 ?_⟩
      exact newEnd H5.out
end
end Go.Proofs.YtdmnfjicjjlnnaaGreatDoor
/-
  The landed finder keeps MatchOK.
-/
namespace Go.Proofs.YtdmnfjicjjlnnaaGreatDoor
set_option maxRecDepth 5000
open Go.RowKit
structure FinS where
  tr : Nat
  en : Nat
  la : Nat
  x : List Nat
  outs : List Tok
  at_ : Nat
def told (s : FinS) (e : Bool) : List Tok × Nat :=
  if s.tr = 0 then (litsT (s.x.drop s.at_), s.x.length) else parse 32768 258 s.x s.tr s.en s.la (if e then 0 else 261) s.at_
structure FinOk (s : FinS) : Prop where
  le : s.at_ ≤ s.x.length
  bytes : ∀ b ∈ s.x, b < 256
  len : s.x.length < 1000000000
  tries : s.tr ≤ 1024
  outs : byteOK s.outs
  means : s.x.length ≤ most → expT [] s.outs = (0, s.x.take s.at_)
structure FinClean (lev : Int) (s : FinS) : Prop where
  lv : (s.tr, s.en, s.la) = lvl lev
  le : s.at_ ≤ s.x.length
  lits : s.tr = 0 → s.outs = litsT (s.x.take s.at_)
  toks : s.tr ≠ 0 → ∀ y, s.outs ++ (parse 32768 258 (s.x ++ y) s.tr s.en s.la 0 s.at_).1 = (parse 32768 258 (s.x ++ y) s.tr s.en s.la 0 0).1
def finM : MatchM where
  St := FinS
  start lev := ⟨(lvl lev).1, (lvl lev).2.1, (lvl lev).2.2, [], [], 0⟩
  write s bs := { s with x := s.x ++ bs }
  toks s e := ({ s with outs := s.outs ++ (told s e).1, at_ := (told s e).2 }, (told s e).1)
  inp s := s.x
  outs s := s.outs
  wait s := s.x.length - s.at_
  one x lev := if (lvl lev).1 = 0 then litsT x else (parse 32768 258 x (lvl lev).1 (lvl lev).2.1 (lvl lev).2.2 0 0).1
  Ok := FinOk
  Clean := FinClean
theorem litsT_app (a b : List Nat) : litsT (a ++ b) = litsT a ++ litsT b := by simp [litsT]
theorem litsT_means : ∀ (l acc : List Nat), acc.length + l.length ≤ most → expT acc (litsT l) = (0, acc ++ l)
  | [], acc, _ => by simp [litsT, expT]
  | b :: r, acc, h => by
    show expT acc (((b : Int), 0, 0) :: litsT r) = _
    rw [expT_cons, stepT_lit (by simp [soundB]) rfl (by simp at h; omega), if_pos rfl]
    show expT (acc ++ [((b : Int)).toNat]) (litsT r) = _
    rw [litsT_means r _ (by simp at h ⊢; omega)]
    simp
theorem litsT_bytes (l : List Nat) (h : ∀ b ∈ l, b < 256) : byteOK (litsT l) := by
  intro t ht
  obtain ⟨b, hb, rfl⟩ := List.mem_map.1 ht
  have := h b hb
  show (0 : Int) ≤ (b : Int) ∧ (b : Int) ≤ 255
  omega
theorem told_le (s : FinS) (e : Bool) (h : s.at_ ≤ s.x.length) : (told s e).2 ≤ s.x.length := by
  unfold told
  split
  · exact Nat.le_refl _
  · exact (parse_le (by omega) _ h).1
theorem told_end (s : FinS) (e : Bool) : s.x.length - (told s e).2 ≤ (if e then 0 else 261) := by
  unfold told
  split
  · simp
  · exact parse_stay _
theorem told_bytes (s : FinS) (e : Bool) (hb : ∀ b ∈ s.x, b < 256) : byteOK (told s e).1 := by
  unfold told
  split
  · exact litsT_bytes _ fun b h => hb b (List.mem_of_mem_drop h)
  · exact parse_bytes (by omega) hb _ _ (Nat.le_refl _)
theorem told_means (s : FinS) (e : Bool) (h : s.at_ ≤ s.x.length) (hm : s.x.length ≤ most) : expT (s.x.take s.at_) (told s e).1 = (0, s.x.take (told s e).2) := by
  unfold told
  split
  · rw [litsT_means _ _ (by rw [List.length_take, List.length_drop]; omega), List.take_append_drop, List.take_length]
  · exact parse_means (by omega) rfl rfl hm _ _ (Nat.le_refl _) h
theorem finLaws : MatchLaws finM where
  ok_start lev := ⟨Nat.le_refl _, (fun b h => by cases h), (by show 0 < 1000000000; omega), (lvl_le lev).1, (fun t h => by cases h), fun _ => rfl⟩
  ok_write s bs h hb hl := by
    have hl : s.x.length + bs.length < 1000000000 := hl
    refine ⟨?_, ?_, ?_, h.tries, h.outs, ?_⟩
    · show s.at_ ≤ (s.x ++ bs).length
      rw [List.length_append]; have := h.le; omega
    · intro b hm
      exact (List.mem_append.1 hm).elim (h.bytes b) (hb b)
    · show (s.x ++ bs).length < _
      rw [List.length_append]; exact hl
    · intro hm
      have hm : (s.x ++ bs).length ≤ most := hm
      rw [List.length_append] at hm
      show expT [] s.outs = (0, (s.x ++ bs).take s.at_)
      rw [List.take_append_of_le_length h.le]
      exact h.means (by omega)
  ok_toks s e h := by
    refine ⟨told_le s e h.le, h.bytes, h.len, h.tries, ?_, ?_⟩
    · intro t ht
      exact (List.mem_append.1 ht).elim (h.outs t) (told_bytes s e h.bytes t)
    · intro hm
      show expT [] (s.outs ++ (told s e).1) = (0, s.x.take (told s e).2)
      rw [expT_app, h.means hm, if_pos rfl]
      exact told_means s e h.le hm
  inp_start _ := rfl
  inp_write _ _ := rfl
  inp_toks _ _ := rfl
  outs_start _ := rfl
  outs_write _ _ := rfl
  outs_toks _ _ := rfl
  bytes s h := h.outs
  means s h hm := by
    have h1 := h.le
    refine ⟨Nat.sub_le _ _, ?_⟩
    show expT [] s.outs = (0, s.x.take (s.x.length - (s.x.length - s.at_)))
    rw [show s.x.length - (s.x.length - s.at_) = s.at_ by omega]
    exact h.means hm
  wait_end s _ := by
    have h := told_end s true
    show s.x.length - (told s true).2 = 0
    rw [if_pos rfl] at h
    omega
  wait_some s _ := told_end s false
  clean_start lev := ⟨rfl, Nat.le_refl _, fun _ => rfl, fun _ y => rfl⟩
  clean_write lev s bs h := ⟨h.lv, by show s.at_ ≤ (s.x ++ bs).length; rw [List.length_append]; have := h.le; omega, fun h0 => by
      show s.outs = litsT ((s.x ++ bs).take s.at_)
      rw [List.take_append_of_le_length h.le]
      exact h.lits h0, fun h0 y => by
      show s.outs ++ (parse 32768 258 (s.x ++ bs ++ y) s.tr s.en s.la 0 s.at_).1 = (parse 32768 258 (s.x ++ bs ++ y) s.tr s.en s.la 0 0).1
      rw [List.append_assoc s.x bs y]
      exact h.toks h0 (bs ++ y)⟩
  clean_toks lev s h := ⟨h.lv, told_le s false h.le, fun h0 => by
      have h0 : s.tr = 0 := h0
      show s.outs ++ (told s false).1 = litsT (s.x.take (told s false).2)
      unfold told
      rw [if_pos h0, h.lits h0, ← litsT_app, List.take_append_drop, List.take_length], fun h0 y => by
      have h0 : s.tr ≠ 0 := h0
      show s.outs ++ (told s false).1 ++ (parse 32768 258 (s.x ++ y) s.tr s.en s.la 0 (told s false).2).1 = (parse 32768 258 (s.x ++ y) s.tr s.en s.la 0 0).1
      have e : told s false = parse 32768 258 s.x s.tr s.en s.la 261 s.at_ := by unfold told; rw [if_neg h0]; rfl
      rw [e, List.append_assoc, parse_join y (by omega) (by omega) _ _ (Nat.le_refl _)]
      exact h.toks h0 y⟩
  one_is lev s h hc := by
    show s.outs ++ (told s true).1 = if (lvl lev).1 = 0 then litsT s.x else (parse 32768 258 s.x (lvl lev).1 (lvl lev).2.1 (lvl lev).2.2 0 0).1
    rw [← hc.lv]
    show s.outs ++ (told s true).1 = if s.tr = 0 then litsT s.x else (parse 32768 258 s.x s.tr s.en s.la 0 0).1
    unfold told
    by_cases h0 : s.tr = 0
    · rw [if_pos h0, if_pos h0, hc.lits h0, ← litsT_app, List.take_append_drop]
    · rw [if_neg h0, if_neg h0]
      have h1 := hc.toks h0 []
      rw [List.append_nil] at h1
      exact h1
  level0 bs lev _ _ h := by
    intro t ht
    have ht : t ∈ if (lvl lev).1 = 0 then litsT bs else (parse 32768 258 bs (lvl lev).1 (lvl lev).2.1 (lvl lev).2.2 0 0).1 := ht
    rw [lvl_low lev h, if_pos rfl] at ht
    obtain ⟨b, _, rfl⟩ := List.mem_map.1 ht
    rfl
  short c n lev _ h1 _ h3 _ := by
    have hh := lvl_high lev h3
    show 10 * (if (lvl lev).1 = 0 then litsT (List.replicate n c) else (parse 32768 258 (List.replicate n c) (lvl lev).1 (lvl lev).2.1 (lvl lev).2.2 0 0).1).length < n
    rw [if_neg (by omega)]
    exact short_rep (by omega) rfl hh.1 hh.2 h1
end Go.Proofs.YtdmnfjicjjlnnaaGreatDoor
/-
  The landed finder keeps MatchOK: finOK.
-/
namespace Go.Proofs.YtdmnfjicjjlnnaaGreatDoor
set_option maxRecDepth 5000
open Go.RowKit
structure FinFact (s : FinS) (cut P a gone : Nat) : Prop where
  le : cut ≤ s.at_
  some : s.tr ≠ 0 → gone = cut ∧ InpOK s.x cut P a ∧ P ≤ s.at_ ∧ (cut = 0 ∨ cut + 32768 ≤ s.at_)
  none : s.tr = 0 → cut = s.at_ ∧ P = 0 ∧ a = 0 ∧ gone = 0
def finR (s : FinS) (cut P a gone : Nat) (B : Place) : Thing := rawF s.tr s.en s.la (s.at_ - cut) gone (s.x.drop cut) (backs s.x cut P) (mLast s.x a P) (mOlder 32768 s.x a) P B
def finT (s : FinS) (B : Place) : Thing := exT fun r : Nat × Nat × Nat × Nat => factT (FinFact s r.1 r.2.1 r.2.2.1 r.2.2.2) (finR s r.1 r.2.1 r.2.2.1 r.2.2.2 B)
section
variable {w0 w : World} {Rs : List Thing}
theorem unT {s : FinS} {B : Place} (H : Held w0 w (finT s B :: Rs)) : ∃ cut P a gone, FinFact s cut P a gone ∧ Held w0 w (finR s cut P a gone B :: Rs) := by
  obtain ⟨⟨cut, P, a, gone⟩, h1⟩ := H.ex
  obtain ⟨hf, h2⟩ := h1.fact
  exact ⟨cut, P, a, gone, hf, h2⟩
theorem mkT {s : FinS} {B : Place} (cut P a gone : Nat) (hf : FinFact s cut P a gone) (H : Held w0 w (finR s cut P a gone B :: Rs)) : Held w0 w (finT s B :: Rs) :=
  Held.mk (R := fun r : Nat × Nat × Nat × Nat => factT (FinFact s r.1 r.2.1 r.2.2.1 r.2.2.2) (finR s r.1 r.2.1 r.2.2.1 r.2.2.2 B)) (cut, P, a, gone) (Held.mkFact hf H)
theorem finNew (lev : Int) (hl : Levs w0) (h : Held w0 w Rs) :
    Calls Tryz.prog 37 #[.int .i64 lev] w fun e w' => ∃ B : Nat, e = .returned (.pointer (some ⟨B, 0, none⟩)) ∧ Held w0 w' (finT (finM.start lev) (.whole B 59) :: Rs) :=
  (new_any lev hl h).mono fun e w' ⟨B, he, h1⟩ => ⟨B, he, mkT 0 0 0 0 ⟨Nat.le_refl _, fun _ => ⟨rfl, ⟨Nat.le_refl _, .inl rfl, Nat.le_refl _, by omega, rfl, .inr rfl⟩, Nat.le_refl _, .inl rfl⟩, fun _ => ⟨rfl, rfl, rfl, rfl⟩⟩ (by
    show Held w0 w' (rawF (lvl lev).1 (lvl lev).2.1 (lvl lev).2.2 0 0 [] (backs [] 0 0) (mLast [] 0 0) (mOlder 32768 [] 0) 0 (.whole B 59) :: Rs)
    rw [mLast_zero, mOlder_zero]
    exact h1)⟩
theorem finWrite (s : FinS) (B : Place) (v : Value) (n : Nat) (bs : List Nat) (H : Held w0 w (finT s B :: Rs)) (hs : FinOk s) (hv : Rd w 1 v n (u8s bs)) (hlen : s.x.length + n < 1000000000) :
    Calls Tryz.prog 39 #[.pointer (some ⟨B.b, B.o, none⟩), v] w fun e w' => e = .returned (.tuple #[]) ∧ Held w0 w' (finT (finM.write s bs) B :: Rs) := by
  obtain ⟨cut, P, a, gone, hf, h1⟩ := unT H
  have hP : P = 0 ∨ P + 2 ≤ s.x.length := by
    by_cases c : s.tr = 0
    · exact .inl (hf.none c).2.1
    · exact (hf.some c).2.1.room
  have haP : a ≤ P := by
    by_cases c : s.tr = 0
    · have := hf.none c; omega
    · exact (hf.some c).2.1.a_le
  refine (writeM_any h1 v n bs hv (by rw [List.length_drop]; omega)).mono fun e w' ⟨he, h2⟩ => ⟨he, mkT cut P a gone ⟨hf.le, fun h => ?_, fun h => hf.none h⟩ ?_⟩
  · obtain ⟨k1, k2, k3, k4⟩ := hf.some h
    exact ⟨k1, ⟨k2.cut_le, k2.room.imp id (fun h => by show P + 2 ≤ (s.x ++ bs).length; rw [List.length_append]; omega), k2.a_le, k2.le_a, k2.mod, k2.some⟩, k3, k4⟩
  · show Held w0 w' (rawF s.tr s.en s.la (s.at_ - cut) gone ((s.x ++ bs).drop cut) (backs (s.x ++ bs) cut P) (mLast (s.x ++ bs) a P) (mOlder 32768 (s.x ++ bs) a) P B :: Rs)
    rw [backs_app _ _ _ _ hP, mLast_app _ _ _ _ hP, mOlder_app _ _ _ _ P hP haP, List.drop_append_of_le_length (by have := hf.le; have := hs.le; omega)]
    exact h2
theorem tokens_any0 {tr en la at' gone n : Nat} {B : Place} {bs bk : List Nat} {g h : List Nat → Option Nat} (e : Bool) (h0 : tr = 0) (H : Held w0 w (rawF tr en la at' gone bs bk g h n B :: Rs)) (hlen : bs.length < 1000000000) :
    Calls Tryz.prog 50 #[.pointer (some ⟨B.b, B.o, none⟩), .bool e] w fun e' w' => ∃ v, e' = .returned v ∧ Held w0 w' (tokT v (litsT bs) :: rawF tr en la at' gone [] bk g h n B :: Rs) := by
  subst h0
  obtain ⟨lv, bv, m1, m2, HF⟩ := unFin H
  have c0 := (finAll HF).1.cell0 rfl
  have HL := hid (literals_any H hlen)
  have htr : (((0 : Nat) : Int) == 0) = true := rfl
  clear HF H
  go_enter Tryz.func50, Tryz.ntmps50
  go_wp2_with fail
  refine HL.out.mono ?_
  rintro e w1 ⟨v, rfl, h1⟩
  unfold tokT at h1
  obtain ⟨ao, cap, rfl, _, _⟩ := h1.own.form
  have H1 := hid h1
  clear h1 HL
  go_wp2
  go_ret
  exact ⟨_, rfl, H1.out⟩
theorem finToks (s : FinS) (B : Place) (e : Bool) (H : Held w0 w (finT s B :: Rs)) (hs : FinOk s) :
    Calls Tryz.prog 50 #[.pointer (some ⟨B.b, B.o, none⟩), .bool e] w fun e' w' => ∃ v, e' = .returned v ∧ Held w0 w' (tokT v (told s e).1 :: finT (finM.toks s e).1 B :: Rs) := by
  obtain ⟨cut, P, a, gone, hf, h1⟩ := unT H
  by_cases c : s.tr = 0
  · obtain ⟨k1, k2, k3, k4⟩ := hf.none c
    refine (tokens_any0 e c h1 (by rw [List.length_drop]; have := hs.len; omega)).mono fun e' w' ⟨v, he, h2⟩ => ⟨v, he, ?_⟩
    have e1 : told s e = (litsT (s.x.drop s.at_), s.x.length) := by unfold told; rw [if_pos c]
    rw [k1] at h2
    rw [e1]
    refine (mkT (s := (finM.toks s e).1) (B := B) s.x.length 0 0 0 ⟨by show s.x.length ≤ (told s e).2; rw [e1]; exact Nat.le_refl _, fun h => absurd c h, fun _ => ⟨by show s.x.length = (told s e).2; rw [e1], rfl, rfl, rfl⟩⟩ ?_).swap
    show Held w0 w' (rawF s.tr s.en s.la ((told s e).2 - s.x.length) 0 (s.x.drop s.x.length) (backs s.x s.x.length 0) (mLast s.x 0 0) (mOlder 32768 s.x 0) 0 B :: tokT v (litsT (s.x.drop s.at_)) :: Rs)
    rw [e1, Nat.sub_self, List.drop_length]
    have h3 := h2.swap
    rw [Nat.sub_self, k2, k3, k4] at h3
    rw [show backs s.x s.x.length 0 = [] by simp [backs]]
    rw [show backs s.x s.at_ 0 = [] by simp [backs]] at h3
    exact h3
  · obtain ⟨k1, k2, k3, k4⟩ := hf.some c
    subst k1
    have e1 : told s e = parse 32768 258 s.x s.tr s.en s.la (if e then 0 else 261) s.at_ := by unfold told; rw [if_neg c]
    refine (tokens_any1 s.at_ e _ rfl h1 k2 k3 hs.le hf.le k4 hs.len hs.bytes (by have := hs.tries; omega) (by omega)).mono fun e' w' ⟨v, cut2, P2, a2, he, q1, q2, q3, q4, h2⟩ => ⟨v, he, ?_⟩
    rw [← e1] at q1 q2 q3 h2
    exact (mkT (s := (finM.toks s e).1) (B := B) cut2 P2 a2 cut2 ⟨q1, fun _ => ⟨rfl, q4, q2, q3⟩, fun h => absurd h c⟩ h2.swap).swap
end
end Go.Proofs.YtdmnfjicjjlnnaaGreatDoor
