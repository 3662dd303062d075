/-
  The landed finder: Tokens at a level above 0.
-/
import Derived.Test.YtjmdgcppllnkdaaDoorMatFin2
namespace Go.Proofs.YtjmdgcppllnkdaaDoor
open Go.RowKit

section
variable {w0 w : World} {Rs : List Thing} {tr en la cut B a P : Nat} {x : List Nat}
set_option maxHeartbeats 6400000 in
theorem tokens_any1 (A : Nat) (e : Bool) (st : Nat) (hst : st = if e then 0 else 261) (H : Held w0 w (inF tr en la (A - cut) x cut P a B :: Rs)) (HI : InpOK x cut P a) (hPA : P ≤ A) (hAx : A ≤ x.length) (hcA : cut ≤ A) (hcw : cut = 0 ∨ cut + 32768 ≤ A) (hlen : x.length < 1000000000) (hb : ∀ b ∈ x, b < 256) (htr : tr < 1000000000) (htr0 : 0 < tr) :
    Calls Tryd.prog 15 #[.pointer (some ⟨B, 0, none⟩), .bool e] w fun e' w' => ∃ v cut' P' a', e' = .returned v ∧ cut' ≤ (parse 32768 258 x tr en la st A).2 ∧ P' ≤ (parse 32768 258 x tr en la st A).2 ∧ (cut' = 0 ∨ cut' + 32768 ≤ (parse 32768 258 x tr en la st A).2) ∧ InpOK x cut' P' a' ∧
      Held w0 w' (tokT v (parse 32768 258 x tr en la st A).1 :: inF tr en la ((parse 32768 258 x tr en la st A).2 - cut') x cut' P' a' B :: Rs) := by
  obtain ⟨i3, hi3, hz0, hz1, hz2⟩ := info_parts infoTok3M
  obtain ⟨lv, bv, m1, m2, HF⟩ := unFin H
  have hB := (finAll HF).1
  have c0 := hB.cell (i := 0) rfl
  have htrI : ((tr : Int) == 0) = false := by simp; omega
  have htrI2 : decide ((tr : Int) = 0) = false := by simp; omega
  have htrI3 : ¬ (tr : Int) = 0 := by omega
  have hst0 : (0 : Int) ≤ (st : Int) := Int.natCast_nonneg _
  have hstb : st ≤ 261 := by rw [hst]; split <;> omega
  obtain ⟨pl, pn, hp⟩ : ∃ pl pn, parse 32768 258 x tr en la st A = (pl, pn) := ⟨_, _, rfl⟩
  rw [hp]
  have HP := hid hp
  have HG := hid (And.intro HI (And.intro hPA (And.intro hAx (And.intro hcA hcw))))
  have HH := hid H
  have HST := hid hst
  clear HF hB H HI hPA hAx hcA hcw hp hst
  go_enter Tryd.func15, Tryd.ntmps15
  go_upto_if 18 with (fail)
  go_cut [5] (fun s5 wx => s5 = .int .i64 (st : Int) ∧ wx = w)
  case first =>
    cases e with
    | true =>
      have hs0 : st = 0 := by rw [HST.out]; rfl
      subst hs0
      go_wp2
      go_meet
      case rel => exact ⟨rfl, rfl⟩
    | false =>
      have hs0 : st = 261 := by rw [HST.out]; rfl
      subst hs0
      go_wp2
      go_meet
      case rel => exact ⟨rfl, rfl⟩
  case rest =>
    obtain ⟨rfl, rfl⟩ := hcut
    go_wp2
    go_loopg [6, 7] (x.length + 2) (fun gg t6 t7 wr => ∃ (A1 P1 a1 k : Nat) (ao : Option Addr) (cap : Nat) (l1 : List Tok), A1 ≤ x.length ∧ x.length + 1 - A1 < gg ∧ t6 = .slice ao k cap ∧ k ≤ A1 ∧ A ≤ A1 ∧ Hid (k = l1.length) ∧
      Hid (l1 ++ (parse 32768 258 x tr en la st A1).1 = pl ∧ (parse 32768 258 x tr en la st A1).2 = pn) ∧ Hid (InpOK x cut P1 a1 ∧ P1 ≤ A1 ∧ cut ≤ A1 ∧ (cut = 0 ∨ cut + 32768 ≤ A1)) ∧
      Hid (Held w0 wr (ownT 32 3 (.slice ao k cap) k (toksV l1) :: inF tr en la (A1 - cut) x cut P1 a1 B :: Rs)))
    case atStart =>
      refine ⟨A, P, a, 0, none, 0, [], HG.out.2.2.1, by omega, rfl, Nat.zero_le _, Nat.le_refl _, hid rfl, hid ?_, hid ⟨HG.out.1, HG.out.2.1, HG.out.2.2.2.1, HG.out.2.2.2.2⟩, hid (HH.out.nil 32 3)⟩
      rw [HP.out]; exact ⟨rfl, rfl⟩
    case round =>
      obtain ⟨A1, P1, a1, k, ao, cap, l1, hA1, hg, rfl, hkA, hAA, HK, HL, HF, HR⟩ := hrel
      obtain ⟨W1, hW1⟩ : ∃ W1, W1 = x.length - A1 := ⟨_, rfl⟩
      have hwl : (x.drop cut).length - (A1 - cut) = W1 := by rw [List.length_drop, hW1]; have := HF.out; omega
      have hW0 := waiting_any HR.out.swap (by rw [List.length_drop]; omega) (by rw [List.length_drop]; omega)
      rw [hwl] at hW0
      have HW := hid hW0
      have hWn : (0 : Int) ≤ (W1 : Int) := Int.natCast_nonneg _
      have HWX := hid hW1
      clear hW0 hwl hW1
      by_cases hc : st < W1
      · have hcI : (st : Int) < (W1 : Int) := by omega
        have hA2 : A1 < x.length := by have := HWX.out; omega
        have HNX := hid (fun (wz : World) (Rz : List Thing) (h : Held w0 wz (inF tr en la (A1 - cut) x cut P1 a1 B :: Rz)) => nextM_any A1 h HF.out.1 HF.out.2.1 hA2 HF.out.2.2.2 hlen hb htr)
        obtain ⟨ta, tl, td, ht⟩ : ∃ ta tl td, nextT 32768 258 x tr en la A1 = (ta, tl, td) := ⟨_, _, _, rfl⟩
        have hnt := nextT_is (W := 32768) (L := 258) (x := x) (tr := tr) (en := en) (la := la) (by omega) A1 hA2
        have hon := parse_on (W := 32768) (L := 258) (x := x) (tr := tr) (en := en) (la := la) (stay := st) A1 (by rw [← HWX.out]; exact hc)
        rw [ht] at hnt hon HNX
        have HNX : Hid (∀ (wz : World) (Rz : List Thing), Held w0 wz (inF tr en la (A1 - cut) x cut P1 a1 B :: Rz) → Calls Tryd.prog 21 #[.pointer (some ⟨B, 0, none⟩)] wz fun e w' => e = .returned (.agg #[.int .u8 ta, .int .i64 tl, .int .i64 td]) ∧ ∃ P' a', P' ≤ A1 + 1 ∧ InpOK x cut P' a' ∧ Held w0 w' (inF tr en la (A1 - cut) x cut P' a' B :: Rz)) := HNX
        obtain ⟨q, hq⟩ : ∃ q, q = adv (ta, tl, td) := ⟨_, rfl⟩
        rw [← hq] at hnt hon
        have hq1 : 1 ≤ q := by rw [hq]; exact adv_pos _
        have hq2 : q = max tl.toNat 1 := hq
        have htl : 0 ≤ tl ∧ tl ≤ 258 := by
          rcases hnt.2.2 with h | ⟨l, d, h, _, h4, _⟩
          · have : tl = 0 := congrArg (fun t : Tok => t.2.1) h
            omega
          · have : tl = (l : Int) := congrArg (fun t : Tok => t.2.1) h
            omega
        have hmax : (if tl < 1 then 1 else tl) = (q : Int) := by split <;> omega
        have hqx : A1 + q ≤ x.length := hnt.1
        have hqb : q ≤ 258 := by have := hnt.2.1; omega
        obtain ⟨u, hu⟩ : ∃ u, u = A1 - cut := ⟨_, rfl⟩
        obtain ⟨u2, hu2⟩ : ∃ u2, u2 = A1 + q - cut := ⟨_, rfl⟩
        have huI : (u : Int) + (q : Int) = (u2 : Int) := by have := HF.out; omega
        have hub : u < 1000000000 := by omega
        have hu2b : u2 < 2000000000 := by omega
        have hu0 : (0 : Int) ≤ (u : Int) := Int.natCast_nonneg _
        have HON := hid hon
        have HU := hid (And.intro hu hu2)
        have HTL := hid htl
        have htl1 := htl.1
        have htl2 : tl ≤ 258 := htl.2
        clear hnt hon hq hq2 ht hu hu2 htl
        go_wp2_with fail
        refine HW.out.mono ?_
        rintro e1 w2 ⟨rfl, k2, rfl⟩
        go_wp2_with fail
        refine (HNX.out _ _ (HR.out.drewN k2).swap).mono ?_
        rintro e1 w3 ⟨rfl, P2, a2, hP2, hI2, h3⟩
        have HI2 := hid hI2
        have H4 : Hid (Held w0 (w3.alloc (.cells #[.int .u8 ta, .int .i64 tl, .int .i64 td] 32)) (objT w3.heap.size [.int .u8 ta, .int .i64 tl, .int .i64 td] 32 :: inF tr en la (A1 - cut) x cut P2 a2 B :: ownT 32 3 (.slice ao k cap) k (toksV l1) :: Rs)) := hid (h3.newObj _ _)
        have HRL : Hid (Rd ((w3.alloc (.cells #[.int .u8 ta, .int .i64 tl, .int .i64 td] 32)).alloc (.cells #[.int .u8 ta, .int .i64 tl, .int .i64 td] 32)) 3 (.slice (some ⟨w3.heap.size + 1, 0, none⟩) 1 1) 1 [.int .u8 ta, .int .i64 tl, .int .i64 td]) := hid (by
          have h := Rd.lit (w3.alloc (.cells #[.int .u8 ta, .int .i64 tl, .int .i64 td] 32)) [.int .u8 ta, .int .i64 tl, .int .i64 td] 32 3 1 (by decide) rfl
          rw [show (w3.alloc (.cells #[.int .u8 ta, .int .i64 tl, .int .i64 td] 32)).heap.size = w3.heap.size + 1 by simp] at h
          exact h)
        have t0 := H4.out.obj.cell (i := 0) rfl
        have t1 := H4.out.obj.cell (i := 1) rfl
        have t2 := H4.out.obj.cell (i := 2) rfl
        clear hI2 h3 HW HNX
        go_wp2_with (refine wpList_app_held rfl (.tmp 25) (.tmp 27) 25 rfl 32 i3 (.agg #[.int .u8 0, .int .i64 0, .int .i64 0]) 3 24 Tryd.underlying25 hi3 hz0 hz1 hz2 rfl (by decide) _ k (toksV l1) rfl (H4.out.third.alloc _) _ 1 [.int .u8 ta, .int .i64 tl, .int .i64 td] rfl HRL.out (by intro u hu; simp at hu; rcases hu with rfl | rfl | rfl <;> rfl) (k + 1) rfl (by unfold maxLen; omega) (by omega) ?_; intro ao1 cap1 w4 h4; have H5 := hid h4; clear h4)
        obtain ⟨lv5, bv5, q1, q2, HF5⟩ := unFin H5.out.third
        have h6 : Held w0 w4 (objT B (finV tr en la lv5 cut (.map (some q1)) (.map (some q2)) bv5 (A1 - cut)) 58 :: _) := HF5
        rw [← HU.out.1] at h6
        have hb6 := h6.obj
        have c8 := hb6.cell (i := 8) rfl
        have f8 := hb6.frozen 8
        have j1 := H5.out.swap.obj.cell (i := 1) rfl
        have H6 := hid (h6.drew.setObj 8 (.int .i64 (u2 : Int)))
        clear HF5 h6 hb6 H4 t0 t1 t2 HRL
        go_region
        all_goals
          have h7 : Held w0 _ (inF tr en la u2 x cut P2 a2 B :: _) := mkFin lv5 bv5 q1 q2 H6.out
          have H8 := hid h7
          clear h7
          go_wp2
          go_roundg (gk - 1)
          case measure => omega
          case rel =>
            refine ⟨A1 + q, P2, a2, k + 1, ao1, cap1, l1 ++ [(ta, tl, td)], hqx, by omega, rfl, by omega, by omega, hid (by rw [List.length_append, ← HK.out]; rfl), hid ?_, hid ?_, hid ?_⟩
            · have h1 := HL.out
              rw [HON.out] at h1
              exact ⟨by rw [← h1.1]; simp, h1.2⟩
            · have := HF.out
              exact ⟨HI2.out, by omega, by omega, by omega⟩
            · rw [toksV_app, ← HU.out.2]
              exact H8.out.third.drop.swap
      · have hcI : ¬ (st : Int) < (W1 : Int) := by omega
        have hend := parse_end (W := 32768) (L := 258) (x := x) (tr := tr) (en := en) (la := la) (stay := st) A1 (by rw [← HWX.out]; exact hc)
        have hl := HL.out
        rw [hend] at hl
        have HE : Hid (l1 = pl ∧ A1 = pn) := hid ⟨by rw [← hl.1]; simp, hl.2⟩
        have HTR := hid (fun (wz : World) (Rz : List Thing) (h : Held w0 wz (inF tr en la (A1 - cut) x cut P1 a1 B :: Rz)) => trim_any A1 h HF.out.1 HF.out.2.1 hA1 HF.out.2.2.1 HF.out.2.2.2 hlen hb)
        clear hend hl
        go_wp2_with fail
        refine HW.out.mono ?_
        rintro e1 w2 ⟨rfl, k2, rfl⟩
        go_wp2_with fail
        refine (HTR.out _ _ (HR.out.drewN k2).swap).mono ?_
        rintro e1 w3 ⟨rfl, cut2, P2, a2, hc2, hP2, hcw2, hI2, h3⟩
        have HX := hid (And.intro hc2 (And.intro hP2 (And.intro hcw2 (And.intro hI2 h3))))
        clear hc2 hP2 hcw2 hI2 h3 HTR HW
        go_wp2
        go_ret
        rw [← HE.out.2]
        refine ⟨.slice ao k cap, cut2, P2, a2, rfl, HX.out.1, HX.out.2.1, HX.out.2.2.1, HX.out.2.2.2.1, ?_⟩
        unfold tokT
        rw [← HE.out.1, ← HK.out]
        exact HX.out.2.2.2.2.swap
end
end Go.Proofs.YtjmdgcppllnkdaaDoor
