/-
  The program's Write chooses the kind of the lowest cost; the landed package keeps BlockOK.
-/
import Derived.Test.YthibpnkdhbkakaaDoorMd33
import Derived.Test.YthibpnkdhbkakaaDoorMd32
namespace Go.Proofs.YthibpnkdhbkakaaDoor
set_option maxRecDepth 5000
open Go.RowKit

/-- the best of the kinds so far -/
def bestUp (l : List Tok) (raw : List Nat) : Nat → Int × Int
  | 0 => (-1, 0)
  | i + 1 => bestStep (bestUp l raw i) i (costK (blkF lensF) i l raw)
theorem bestUp_three (l : List Tok) (raw : List Nat) : bestUp l raw 3 = bestK (blkF lensF) l raw := rfl
theorem bestUp_not {l : List Tok} {raw : List Nat} {i : Nat} (h : ¬ mayK i l raw) : bestUp l raw (i + 1) = bestUp l raw i := by
  rw [bestUp, costK_not h, bestStep, if_neg (by omega)]
theorem bestUp_first {l : List Tok} {raw : List Nat} {i : Nat} (h : mayK i l raw) (hb : (bestUp l raw i).1 < 0) : bestUp l raw (i + 1) = ((i : Int), ((3 + sizeK i l raw : Nat) : Int)) := by
  rw [bestUp, costK_may h, bestStep, if_pos ⟨by omega, .inl hb⟩]
theorem bestUp_less {l : List Tok} {raw : List Nat} {i k : Nat} (h : mayK i l raw) (hb : (bestUp l raw i).2 = ((3 + sizeK k l raw : Nat) : Int)) (hl : sizeK i l raw < sizeK k l raw) : bestUp l raw (i + 1) = ((i : Int), ((3 + sizeK i l raw : Nat) : Int)) := by
  rw [bestUp, costK_may h, bestStep, if_pos ⟨by omega, .inr (by rw [hb]; omega)⟩]
theorem bestUp_more {l : List Tok} {raw : List Nat} {i k : Nat} (h : mayK i l raw) (h1 : (bestUp l raw i).1 = (k : Int)) (hb : (bestUp l raw i).2 = ((3 + sizeK k l raw : Nat) : Int)) (hl : ¬ sizeK i l raw < sizeK k l raw) : bestUp l raw (i + 1) = bestUp l raw i := by
  rw [bestUp, costK_may h, bestStep, if_neg]
  rintro ⟨_, h2 | h2⟩
  · omega
  · rw [hb] at h2; omega
section
variable {w0 w : World} {Rs : List Thing}
/-- what is found so far -/
def FoundIs (w0 : World) (B : Nat) (acc : List Nat) (S : Thing) (Rs : List Thing) (l : List Tok) (raw : List Nat) (lv uv : Value) (i : Nat) (c : Value) (wr : World) : Prop :=
  ((bestUp l raw i).1 < 0 ∧ c = .nilIface ∧ Held w0 wr (wrT B acc :: S :: Rs)) ∨
  ∃ (k : Nat) (Ts : List Thing), k < i ∧ (bestUp l raw i).1 = (k : Int) ∧ (bestUp l raw i).2 = ((3 + sizeK k l raw : Nat) : Int) ∧ mayK k l raw ∧ ContIs k l lv uv c Ts ∧ Held w0 wr (Ts ++ (wrT B acc :: S :: Rs))
set_option maxHeartbeats 6400000 in
theorem best_blk (l : List Tok) (raw acc : List Nat) (last : Bool) (v u : Value) (n m B : Nat) (S : Thing) (hO : Ordr w0) (h : Held w0 w (wrT B acc :: S :: Rs)) (hv : Reads w0 S 3 v n (toksV l)) (hu : Reads w0 S 1 u m (u8s raw)) (hb : byteOK l) (hr : ∀ b ∈ raw, b < 256) (hn : n < 1000000000) (hacc : acc.length < 900000000) :
    Calls Tryd.prog 10 #[.pointer (some ⟨B, 0, none⟩), v, u, .bool last] w fun e w' => e = .returned (.int .i64 (bestK (blkF lensF) l raw).1) ∧ Held w0 w' (wrT B (if (bestK (blkF lensF) l raw).1 < 0 then acc else acc ++ blkBits (blkF lensF) (bestK (blkF lensF) l raw).1.toNat l raw last acc.length) :: S :: Rs) := by
  have hvr := hv.rd h.swap
  have hur := hu.rd h.swap
  obtain ⟨lo, lc, rfl, _, _⟩ := hvr.form
  obtain ⟨uo, uc, rfl, _, _⟩ := hur.form
  have hml : m = raw.length := by have := hur.1; rw [u8s_length] at this; omega
  have HP := hid (And.intro hv (And.intro hu (And.intro hO (And.intro hb (And.intro hr hml)))))
  have H0 := hid h
  rw [← bestUp_three]
  obtain ⟨out, hout⟩ : ∃ out, out = if (bestUp l raw 3).1 < 0 then acc else acc ++ blkBits (blkF lensF) (bestUp l raw 3).1.toNat l raw last acc.length := ⟨_, rfl⟩
  rw [← hout]
  have HOUT := hid hout
  clear hout
  clear hvr hur h hv hu hO hb hr hml
  go_enter Tryd.func10, Tryd.ntmps10
  go_wp2
  go_loopg [9, 10, 11] 4 (fun k t9 t10 t11 wr => ∃ (i : Nat) (c0 : Value), i ≤ 3 ∧ 3 - i < k ∧ t11 = .int .i64 (i : Int) ∧ t9 = .int .i64 (bestUp l raw i).1 ∧ t10 = c0 ∧ Hid (FoundIs w0 B acc S Rs l raw (.slice lo n lc) (.slice uo m uc) i c0 wr))
  case atStart => exact ⟨0, _, by omega, by omega, rfl, rfl, rfl, hid (.inl ⟨by show ((-1 : Int) < 0); decide, rfl, H0.out⟩)⟩
  case round =>
    obtain ⟨i, c0, hi, hk, rfl, rfl, hc0, HF⟩ := hrel
    obtain rfl := hc0.symm
    have hi0 : (0 : Int) ≤ (i : Int) := Int.natCast_nonneg _
    obtain ⟨b1, hb1⟩ : ∃ b1, b1 = (bestUp l raw i).1 := ⟨_, rfl⟩
    have hall : ∃ Q : List Thing, Held w0 wr (Q ++ (wrT B acc :: S :: Rs)) := by
      rcases HF.out with ⟨_, _, h⟩ | ⟨_, Ts, _, _, _, _, _, h⟩
      · exact ⟨[], h⟩
      · exact ⟨Ts, h⟩
    obtain ⟨Q, hQ⟩ := hall
    have hW := hQ.dropAll
    have hvr := HP.out.1.rd hW.swap
    have hur := HP.out.2.1.rd hW.swap
    by_cases hin : i < 3
    · have hiI : (i : Int) ≤ 2 := by omega
      by_cases hmy : mayK i l raw
      · have HC := hid (contents_may i lo uo n lc m uc l raw hvr hur (HP.out.2.2.1.kept hW.mod) HP.out.2.2.2.1 hn hmy)
        have HM := hid hmy
        have HB1 := hid hb1
        rw [← hb1]
        clear hmy hvr hur hW hQ hb1
        by_cases hneg : b1 < 0
        · have hd1 : decide (b1 < 0) = true := by simp; omega
          have hN : Hid (bestUp l raw (i + 1) = ((i : Int), ((3 + sizeK i l raw : Nat) : Int))) := hid (bestUp_first HM.out (by rw [← HB1.out]; exact hneg))
          have hT : Hid (Held w0 wr (wrT B acc :: S :: Rs)) := by
            rcases HF.out with ⟨_, _, h⟩ | ⟨k, _, _, h1, _⟩
            · exact hid h
            · have := HB1.out
              omega
          go_wp2_with fail
          with_reducible refine HC.out.mono ?_
          rintro e w1 ⟨c, Ts, rfl, hc, hh⟩
          have H1 := hid (hT.out.frame hh)
          have HCC := hid hc
          clear hh hc HC hT
          go_wp2
          go_roundg (gk - 1)
          case measure => omega
          case rel => exact ⟨i + 1, _, by omega, by omega, by go_num, by rw [hN.out], rfl, hid (.inr ⟨i, Ts, by omega, by rw [hN.out], by rw [hN.out], HM.out, HCC.out, H1.out⟩)⟩
        · have hd1 : decide (b1 < 0) = false := by simp; omega
          rcases HF.out with ⟨h1, _, _⟩ | ⟨k, Tk, hki, hk1, hk2, hkm, hf, hT⟩
          · have := HB1.out
            omega
          · have HK := hid (And.intro hk1 (And.intro hk2 (And.intro hkm hf)))
            have HT := hid hT
            have hsi := sizeK_le HM.out
            have hsk := sizeK_le hkm
            obtain ⟨x, hx⟩ : ∃ x, x = sizeK i l raw := ⟨_, rfl⟩
            obtain ⟨y, hy⟩ : ∃ y, y = sizeK k l raw := ⟨_, rfl⟩
            rw [← hx] at hsi
            rw [← hy] at hsk
            have HXY := hid (And.intro hx hy)
            have hkv : k = 0 ∨ k = 1 := by omega
            clear hk1 hk2 hkm hT hx hy hneg HF
            rcases hf with ⟨hcf, rfl, hTf⟩ | ⟨hcf, C1, C2, rfl, hTf⟩ | ⟨hcf, _⟩
            · have HCF := hid hcf
              clear hcf
              go_wp2_with fail
              with_reducible refine HC.out.mono ?_
              rintro e w1 ⟨c, Ti, rfl, hc, hh⟩
              have H1 := hid (HT.out.frame hh)
              have HCC := hid hc
              have HS1 := hid (sizes_of (w0 := wr) (Rs := []) lo uo n lc m uc HP.out.2.2.2.2.2 HM.out (by rw [List.append_nil]; exact hh))
              clear hh HC
              rcases hc with ⟨hci, rfl, hTi⟩ | ⟨hci, B1, B2, rfl, hTi⟩ | ⟨hci, Bh, Bt, B1, B2, iv, hv, rfl, hTi⟩
              · have := HCF.out
                omega
              · have HX1 := hid (HS1.out.s1 B1 B2 hci)
                rw [← HXY.out.1] at HX1
                unfold codV at HX1 ⊢
                clear HS1 hci
                go_wp2_with fail
                with_reducible refine HX1.out.mono ?_
                rintro e w2 ⟨rfl, hm⟩
                have H2 := hid (H1.out.same hm)
                have HS2 := hid (sizes_of (w0 := w0) (Rs := wrT B acc :: S :: Rs) lo uo n lc m uc HP.out.2.2.2.2.2 HK.out.2.2.1 H2.out.dropAll)
                have HX2 := hid (HS2.out.s0 HCF.out)
                rw [← HXY.out.2] at HX2
                clear hm HX1 H1 HS2
                go_wp2_with fail
                with_reducible refine HX2.out.mono ?_
                rintro e w3 ⟨rfl, hm⟩
                have H3 := hid (H2.out.same hm)
                clear hm HX2 H2
                by_cases hxy : x < y
                · have hxyI : decide ((x : Int) < (y : Int)) = true := by simp; omega
                  have hN : Hid (bestUp l raw (i + 1) = ((i : Int), ((3 + sizeK i l raw : Nat) : Int))) := hid (bestUp_less HM.out HK.out.2.1 (by rw [← HXY.out.1, ← HXY.out.2]; exact hxy))
                  have HNT : Hid (Held w0 w3 (Ti ++ (wrT B acc :: S :: Rs))) := by
                    have h4 : Held w0 w3 (Tk ++ (Ti ++ (wrT B acc :: S :: Rs))) := H3.out.perm (by
                      have h5 := (List.perm_append_comm (l₁ := Ti) (l₂ := Tk)).append_right (wrT B acc :: S :: Rs)
                      simpa using h5)
                    exact hid h4.dropAll
                  go_wp2
                  go_roundg (gk - 1)
                  case measure => omega
                  case rel => exact ⟨i + 1, _, by omega, by omega, by go_num, by rw [hN.out], rfl, hid (.inr ⟨i, Ti, by omega, by rw [hN.out], by rw [hN.out], HM.out, HCC.out, HNT.out⟩)⟩
                · have hxyI : decide ((x : Int) < (y : Int)) = false := by simp; omega
                  have hN : Hid (bestUp l raw (i + 1) = bestUp l raw i) := hid (bestUp_more HM.out HK.out.1 HK.out.2.1 (by rw [← HXY.out.1, ← HXY.out.2]; exact hxy))
                  go_wp2
                  go_roundg (gk - 1)
                  case measure => omega
                  case rel => exact ⟨i + 1, _, by omega, by omega, by go_num, by rw [hN.out, ← HB1.out], rfl, hid (.inr ⟨k, Tk, by omega, by rw [hN.out]; exact HK.out.1, by rw [hN.out]; exact HK.out.2.1, HK.out.2.2.1, HK.out.2.2.2, H3.out.dropAll⟩)⟩
              · have HX1 := hid (HS1.out.s2 Bh Bt B1 B2 iv hv hci hTi)
                rw [← HXY.out.1] at HX1
                unfold dynV at HX1 ⊢
                clear HS1 hci
                go_wp2_with fail
                with_reducible refine HX1.out.mono ?_
                rintro e w2 ⟨rfl, hm⟩
                have H2 := hid (H1.out.same hm)
                have HS2 := hid (sizes_of (w0 := w0) (Rs := wrT B acc :: S :: Rs) lo uo n lc m uc HP.out.2.2.2.2.2 HK.out.2.2.1 H2.out.dropAll)
                have HX2 := hid (HS2.out.s0 HCF.out)
                rw [← HXY.out.2] at HX2
                clear hm HX1 H1 HS2
                go_wp2_with fail
                with_reducible refine HX2.out.mono ?_
                rintro e w3 ⟨rfl, hm⟩
                have H3 := hid (H2.out.same hm)
                clear hm HX2 H2
                by_cases hxy : x < y
                · have hxyI : decide ((x : Int) < (y : Int)) = true := by simp; omega
                  have hN : Hid (bestUp l raw (i + 1) = ((i : Int), ((3 + sizeK i l raw : Nat) : Int))) := hid (bestUp_less HM.out HK.out.2.1 (by rw [← HXY.out.1, ← HXY.out.2]; exact hxy))
                  have HNT : Hid (Held w0 w3 (Ti ++ (wrT B acc :: S :: Rs))) := by
                    have h4 : Held w0 w3 (Tk ++ (Ti ++ (wrT B acc :: S :: Rs))) := H3.out.perm (by
                      have h5 := (List.perm_append_comm (l₁ := Ti) (l₂ := Tk)).append_right (wrT B acc :: S :: Rs)
                      simpa using h5)
                    exact hid h4.dropAll
                  go_wp2
                  go_roundg (gk - 1)
                  case measure => omega
                  case rel => exact ⟨i + 1, _, by omega, by omega, by go_num, by rw [hN.out], rfl, hid (.inr ⟨i, Ti, by omega, by rw [hN.out], by rw [hN.out], HM.out, HCC.out, HNT.out⟩)⟩
                · have hxyI : decide ((x : Int) < (y : Int)) = false := by simp; omega
                  have hN : Hid (bestUp l raw (i + 1) = bestUp l raw i) := hid (bestUp_more HM.out HK.out.1 HK.out.2.1 (by rw [← HXY.out.1, ← HXY.out.2]; exact hxy))
                  go_wp2
                  go_roundg (gk - 1)
                  case measure => omega
                  case rel => exact ⟨i + 1, _, by omega, by omega, by go_num, by rw [hN.out, ← HB1.out], rfl, hid (.inr ⟨k, Tk, by omega, by rw [hN.out]; exact HK.out.1, by rw [hN.out]; exact HK.out.2.1, HK.out.2.2.1, HK.out.2.2.2, H3.out.dropAll⟩)⟩
            · have HCF := hid hcf
              clear hcf
              unfold codV
              go_wp2_with fail
              with_reducible refine HC.out.mono ?_
              rintro e w1 ⟨c, Ti, rfl, hc, hh⟩
              have H1 := hid (HT.out.frame hh)
              have HCC := hid hc
              have HS1 := hid (sizes_of (w0 := wr) (Rs := []) lo uo n lc m uc HP.out.2.2.2.2.2 HM.out (by rw [List.append_nil]; exact hh))
              clear hh HC
              rcases hc with ⟨hci, rfl, hTi⟩ | ⟨hci, B1, B2, rfl, hTi⟩ | ⟨hci, Bh, Bt, B1, B2, iv, hv, rfl, hTi⟩
              · have := HCF.out
                omega
              · have := HCF.out
                omega
              · have HX1 := hid (HS1.out.s2 Bh Bt B1 B2 iv hv hci hTi)
                rw [← HXY.out.1] at HX1
                unfold dynV at HX1 ⊢
                clear HS1 hci
                go_wp2_with fail
                with_reducible refine HX1.out.mono ?_
                rintro e w2 ⟨rfl, hm⟩
                have H2 := hid (H1.out.same hm)
                have HS2 := hid (sizes_of (w0 := w0) (Rs := wrT B acc :: S :: Rs) lo uo n lc m uc HP.out.2.2.2.2.2 HK.out.2.2.1 H2.out.dropAll)
                have HX2 := hid (HS2.out.s1 C1 C2 HCF.out)
                rw [← HXY.out.2] at HX2
                unfold codV at HX2
                clear hm HX1 H1 HS2
                go_wp2_with fail
                with_reducible refine HX2.out.mono ?_
                rintro e w3 ⟨rfl, hm⟩
                have H3 := hid (H2.out.same hm)
                clear hm HX2 H2
                by_cases hxy : x < y
                · have hxyI : decide ((x : Int) < (y : Int)) = true := by simp; omega
                  have hN : Hid (bestUp l raw (i + 1) = ((i : Int), ((3 + sizeK i l raw : Nat) : Int))) := hid (bestUp_less HM.out HK.out.2.1 (by rw [← HXY.out.1, ← HXY.out.2]; exact hxy))
                  have HNT : Hid (Held w0 w3 (Ti ++ (wrT B acc :: S :: Rs))) := by
                    have h4 : Held w0 w3 (Tk ++ (Ti ++ (wrT B acc :: S :: Rs))) := H3.out.perm (by
                      have h5 := (List.perm_append_comm (l₁ := Ti) (l₂ := Tk)).append_right (wrT B acc :: S :: Rs)
                      simpa using h5)
                    exact hid h4.dropAll
                  go_wp2
                  go_roundg (gk - 1)
                  case measure => omega
                  case rel => exact ⟨i + 1, _, by omega, by omega, by go_num, by rw [hN.out], rfl, hid (.inr ⟨i, Ti, by omega, by rw [hN.out], by rw [hN.out], HM.out, HCC.out, HNT.out⟩)⟩
                · have hxyI : decide ((x : Int) < (y : Int)) = false := by simp; omega
                  have hN : Hid (bestUp l raw (i + 1) = bestUp l raw i) := hid (bestUp_more HM.out HK.out.1 HK.out.2.1 (by rw [← HXY.out.1, ← HXY.out.2]; exact hxy))
                  go_wp2
                  go_roundg (gk - 1)
                  case measure => omega
                  case rel => exact ⟨i + 1, _, by omega, by omega, by go_num, by rw [hN.out, ← HB1.out], rfl, hid (.inr ⟨k, Tk, by omega, by rw [hN.out]; exact HK.out.1, by rw [hN.out]; exact HK.out.2.1, HK.out.2.2.1, HK.out.2.2.2, H3.out.dropAll⟩)⟩
            · omega
      · have HC := hid (contents_not (i : Int) lo uo n lc m uc l raw hvr hur hn hmy)
        have hN : Hid (bestUp l raw (i + 1) = bestUp l raw i) := hid (bestUp_not hmy)
        rw [← hb1]
        have HB1 := hid hb1
        clear hmy hvr hur hW hQ hb1
        go_wp2_with fail
        with_reducible refine HC.out.mono ?_
        rintro e w1 ⟨rfl, hm⟩
        have HF1 : Hid (FoundIs w0 B acc S Rs l raw (.slice lo n lc) (.slice uo m uc) (i + 1) c0 w1) := by
          unfold FoundIs
          rw [hN.out]
          rcases HF.out with ⟨h1, h2, h3⟩ | ⟨k, Ts, h1, h2, h3, h4, h5, h6⟩
          · exact hid (.inl ⟨h1, h2, h3.same hm⟩)
          · exact hid (.inr ⟨k, Ts, by omega, h2, h3, h4, h5, h6.same hm⟩)
        clear hm HC
        go_wp2
        go_roundg (gk - 1)
        case measure => omega
        case rel => exact ⟨i + 1, _, by omega, by omega, by go_num, by rw [hN.out, ← HB1.out], rfl, HF1⟩
    · have hiI : ¬ (i : Int) ≤ 2 := by omega
      have hi3 : i = 3 := by omega
      subst hi3
      rw [← hb1]
      have HB1 := hid hb1
      rcases HF.out with ⟨h1, h2, h3⟩ | ⟨k, Ts, h1, h2, h3, h4, h5, h6⟩
      · have hd1 : decide ((0 : Int) ≤ b1) = false := by simp; omega
        have H3 := hid h3
        have hE : Hid (b1 < 0) := hid (by omega)
        clear h1 h2 h3 hvr hur hW hQ HF hb1
        go_wp2
        go_ret
        rw [← HB1.out]
        refine ⟨rfl, ?_⟩
        rw [HOUT.out, ← HB1.out, if_pos hE.out]
        exact H3.out
      · have hkb : b1 = (k : Int) := hb1.trans h2
        subst hkb
        have hd1 : decide ((0 : Int) ≤ (k : Int)) = true := by simp
        have hk0 : (0 : Int) ≤ (k : Int) := Int.natCast_nonneg _
        have h7 : Held w0 wr (wrT B acc :: S :: (Ts ++ Rs)) := h6.perm (by
          have h2 := (List.perm_append_comm (l₁ := Ts) (l₂ := [wrT B acc, S])).append_right Rs
          simpa using h2)
        have HW := hid (writeBlock_any lo uo lc uc last h5 h7 HP.out.1 HP.out.2.1 h4 HP.out.2.2.2.1 HP.out.2.2.2.2.1 hacc)
        clear h1 h2 h3 h4 h5 h6 h7 hvr hur hW hQ HF hb1
        go_wp2_with fail
        with_reducible refine HW.out.mono ?_
        rintro e w2 ⟨rfl, h2⟩
        have H2 : Hid (Held w0 w2 (wrT B (acc ++ blkBits (blkF lensF) k l raw last acc.length) :: S :: Rs)) := by
          have h3 : Held w0 w2 (Ts ++ (wrT B (acc ++ blkBits (blkF lensF) k l raw last acc.length) :: S :: Rs)) := h2.perm (by
            have h4 := (List.perm_append_comm (l₁ := [wrT B (acc ++ blkBits (blkF lensF) k l raw last acc.length), S]) (l₂ := Ts)).append_right Rs
            simpa using h4)
          exact hid h3.dropAll
        clear h2 HW
        go_wp2
        go_ret
        rw [← HB1.out]
        refine ⟨rfl, ?_⟩
        rw [HOUT.out, ← HB1.out, if_neg (by omega), Int.toNat_natCast]
        exact H2.out
/-- the contract -/
theorem blockOK : BlockOK (blkF lensF) Ordr where
  good := fun kind l raw a hm hb hr => blkF_good lensF_LensOK kind l raw a (by
    rcases hm with ⟨h1, h2⟩ | ⟨h1, h2, h3⟩
    · exact .inl ⟨by omega, h2⟩
    · exact .inr ⟨by omega, h2⟩) hb hr
  place := fun kind l raw a b h => blkF_place kind l raw a b h
  short := fun kind l raw a hm => blkF_short lensF_LensOK kind l raw a (by
    rcases hm with ⟨h1, h2⟩ | ⟨h1, h2, h3⟩
    · exact .inl ⟨by omega, h2⟩
    · exact .inr ⟨by omega, h2⟩)
  write := fun kind l raw acc last v u n m B _ _ S _ hO h hv hu hb hr hn _ ha hk => write_blk kind l raw acc last v u n m B S hO h hv hu hb hr hn ha hk
  writeNo := fun kind l raw acc last v u n m B _ _ _ _ h hv hu _ _ hn _ _ hk => writeNo_blk kind l raw acc last v u n m B h hv hu hn hk
  cost := fun kind l raw v u n m _ _ _ hO h hv hu hb _ hn _ => cost_blk kind l raw v u n m hO h hv hu hb hn
  best := fun l raw acc last v u n m B _ _ S _ hO h hv hu hb hr hn _ ha => best_blk l raw acc last v u n m B S hO h hv hu hb hr hn ha
  fixed := fun _ _ _ h => (fixedL_any h).mono fun _ _ ⟨_, _, _, _, h1, h2⟩ => ⟨_, _, h1, h2⟩
end
end Go.Proofs.YthibpnkdhbkakaaDoor
/-
  What is read of the blocks that the laws write, by what a writer of blocks is to do ('BlockOK').
-/
namespace Go.Proofs.YthibpnkdhbkakaaDoor
set_option maxRecDepth 5000

theorem mayK_kind {kind : Nat} {l : List Tok} {raw : List Nat} (h : mayK kind l raw) : kind < 3 := by
  rcases h with ⟨h, _⟩ | ⟨h | h, _⟩ <;> omega
theorem zeros_isBits (n : Nat) : isBits (List.replicate n 0) := fun b hb => by rw [List.eq_of_mem_replicate hb]; omega
theorem BlockBits.isBits {l : List Tok} {raw bs : List Nat} {a kind : Nat} (h : BlockBits l raw a kind bs) : isBits bs := by
  cases h with
  | stored => exact isBits_append (zeros_isBits _) (isBits_append (bitsOf_isBits _ _) (isBits_append (bitsOf_isBits _ _) (bits8_isBits _)))
  | fixed _ h => exact h.isBits
  | dynamic lit dist hd C lb bs h h2 => exact isBits_append (isBits_append (bitsOf_isBits _ _) (isBits_append (bitsOf_isBits _ _) (isBits_append (bitsOf_isBits _ _) (isBits_append (headBits_isBits _ _) h.lens.isBits)))) h2.isBits
theorem evened_app (l : List Nat) : ∃ p, isBits p ∧ evened l = l ++ p :=
  ⟨List.replicate ((8 - l.length % 8) % 8) 0, (fun b hb => by rw [List.eq_of_mem_replicate hb]; omega), rfl⟩
theorem evened_octets (l : List Nat) : (bytesOf (evened l)).length = (l.length + 7) / 8 := by
  rw [bytesOf_length]
  simp only [evened, List.length_append, List.length_replicate]
  omega
section
variable {F : Nat → List Tok → List Nat → Nat → List Nat} {Lv : World → Prop} {l : List Tok} {raw o : List Nat} {kind a M : Nat}
theorem BlockOK.stored (H : BlockOK F Lv) (p : Nat) : F 0 [] [] p = storedBits p [] := by
  have h := H.good 0 [] [] p (.inl ⟨rfl, by decide⟩) (fun _ h => by cases h) (fun _ h => by cases h)
  generalize F 0 [] [] p = bs at h
  generalize hk : 0 = k at h
  cases h with
  | stored => rfl
  | fixed => omega
  | dynamic => omega
theorem BlockOK.gap (H : BlockOK F Lv) (i : Nat) : gaps i ++ blkBits F 0 [] [] false (gaps i).length = gaps (i + 1) := by
  unfold blkBits
  rw [H.stored, gaps, gapBits, storedBits_mod (a := (gaps i).length + 3) (b := 3) (by rw [gaps_length]; omega)]
  rfl
theorem means_read (H : BlockOK F Lv) (hm : mayK kind l raw) (hb : byteOK l) (hraw : ∀ b ∈ raw, b < 256) (he : expT [] l = (0, o)) (ho : o.length ≤ M) (hr : raw.length ≤ M) :
    ∃ p ss, inflF (evened (gaps a ++ blkBits F kind l raw true (gaps a).length)) M ((evened (gaps a ++ blkBits F kind l raw true (gaps a).length)).length + 1) 0 [] [] [] [] = ⟨0, p, outOf kind raw [] o, tksOf kind [] l, List.replicate a 0 ++ [kind], ss, (bytesOf (evened (gaps a ++ blkBits F kind l raw true (gaps a).length))).length⟩ := by
  obtain ⟨post, hp, e⟩ := evened_app (gaps a ++ blkBits F kind l raw true (gaps a).length)
  have hg := H.good kind l raw ((gaps a).length + 3) hm hb hraw
  rw [evened_octets]
  have e2 : evened (gaps a ++ blkBits F kind l raw true (gaps a).length) = gaps a ++ (bitsOf 3 (1 + 2 * kind) ++ (F kind l raw ((gaps a).length + 3) ++ post)) := by
    rw [e, blkBits]; simp
  have hl : (gaps a ++ blkBits F kind l raw true (gaps a).length).length = (gaps a).length + 3 + (F kind l raw ((gaps a).length + 3)).length := by
    rw [blkBits, List.length_append, List.length_append, bitsOf_length]; omega
  rw [hl, e2]
  have hlen : a < (gaps a ++ (bitsOf 3 (1 + 2 * kind) ++ (F kind l raw ((gaps a).length + 3) ++ post))).length := by
    rw [List.length_append, gaps_length, List.length_append, bitsOf_length]; omega
  generalize hN : (gaps a ++ (bitsOf 3 (1 + 2 * kind) ++ (F kind l raw ((gaps a).length + 3) ++ post))).length = N at hlen
  have hpost : isBits (bitsOf 3 (1 + 2 * kind) ++ (F kind l raw ((gaps a).length + 3) ++ post)) := isBits_append (bitsOf_isBits _ _) (isBits_append hg.isBits hp)
  have h1 := infl_gaps a M hpost (N - a + 1) a 0 (by omega)
  rw [show a + (N - a + 1) = N + 1 by omega] at h1
  have h2 := infl_last (f := N - a) (M := M) (tk := []) (out := []) (ks := List.replicate a 0) (ss := List.replicate a 0) hg (mayK_kind hm) hp he ho (by simpa using hr)
  exact ⟨_, _, h1.trans h2⟩
/-- a block that is not the last, and an empty one behind it -/
theorem cheap_read (H : BlockOK F Lv) (hm : mayK kind l raw) (hb : byteOK l) (hraw : ∀ b ∈ raw, b < 256) (he : expT [] l = (0, o)) (ho : o.length ≤ M) (hr : raw.length ≤ M) {all : List Nat} (hall : all = blkBits F kind l raw false 0 ++ blkBits F 1 [] [] true (blkBits F kind l raw false 0).length) :
    ∃ p tk ks ss, inflF (evened all) M ((evened all).length + 1) 0 [] [] [] [] = ⟨0, p, outOf kind raw [] o, tk, ks, ss, (bytesOf (evened all)).length⟩ := by
  obtain ⟨post, hp, e⟩ := evened_app all
  have hg := H.good kind l raw 3 hm hb hraw
  have hz := H.empty_last (blkBits F kind l raw false 0).length
  rw [evened_octets]
  have e1 : blkBits F kind l raw false 0 = bitsOf 3 (2 * kind) ++ F kind l raw 3 := by simp [blkBits]
  have hF := H.good 1 [] [] ((blkBits F kind l raw false 0).length + 3) mayK_fix (fun _ h => by cases h) (fun _ h => by cases h)
  have e2 : evened all = bitsOf 3 (2 * kind) ++ (F kind l raw 3 ++ (bitsOf 3 (1 + 2 * 1) ++ (F 1 [] [] ((blkBits F kind l raw false 0).length + 3) ++ post))) := by
    rw [e, hall, blkBits, blkBits]; simp
  have e3 : evened all = blkBits F kind l raw false 0 ++ (bitsOf 3 (1 + 2 * 1) ++ (F 1 [] [] ((blkBits F kind l raw false 0).length + 3) ++ post)) := by
    rw [e2, e1]; simp
  have hal : all.length = (blkBits F kind l raw false 0).length + 3 + (F 1 [] [] ((blkBits F kind l raw false 0).length + 3)).length := by
    rw [hall, List.length_append]
    conv => lhs; rhs; rw [blkBits]
    rw [List.length_append, bitsOf_length]; omega
  have hN : 2 ≤ (evened all).length := by rw [e, List.length_append, hal]; omega
  generalize (evened all).length = N at hN
  have h1 := infl_more (pre := []) (f := N) (M := M) (tk := []) (out := []) (ks := []) (ss := []) hg (mayK_kind hm) (isBits_append (bitsOf_isBits 3 (1 + 2 * 1)) (isBits_append hF.isBits hp)) he ho (by simpa using hr)
  rw [List.nil_append, ← e2] at h1
  have hlen : ([] : List Nat).length + 3 + (F kind l raw 3).length = (blkBits F kind l raw false 0).length := by
    rw [e1, List.length_append, bitsOf_length]; simp
  rw [hlen] at h1
  have hout : (outOf kind raw [] o).length ≤ M := by unfold outOf; split <;> simpa
  have h2 := infl_last (f := N - 1) (M := M) (tk := tksOf kind [] l) (out := outOf kind raw [] o) (o := outOf kind raw [] o) (ks := [] ++ [kind]) (ss := [] ++ [(outOf kind raw [] o).length]) hF (by decide) hp rfl hout (by simpa using hout)
  rw [← e3, show N - 1 + 1 = N by omega, ← hal] at h2
  exact ⟨_, _, _, _, h1.trans h2⟩
/-- a kind that is chosen -/
def Chosen (F : Nat → List Tok → List Nat → Nat → List Nat) (l : List Tok) (raw : List Nat) (b : Int × Int) : Prop := ∃ kk : Nat, b.1 = (kk : Int) ∧ mayK kk l raw ∧ b.2 = ((3 + (F kk l raw 3).length : Nat) : Int)
theorem step_chosen (k : Nat) (b : Int × Int) (h : b.1 < 0 ∨ Chosen F l raw b) : (bestStep b k (costK F k l raw)).1 < 0 ∨ Chosen F l raw (bestStep b k (costK F k l raw)) := by
  unfold bestStep
  split
  · rename_i hc
    refine .inr ⟨k, rfl, ?_⟩
    have hm : mayK k l raw := by
      refine Classical.byContradiction fun hno => ?_
      have := hc.1
      unfold costK at this
      rw [if_neg hno] at this
      omega
    refine ⟨hm, ?_⟩
    show costK F k l raw = _
    unfold costK
    rw [if_pos hm]
    rfl
  · exact h
theorem step_chosen_may (k : Nat) (b : Int × Int) (h : b.1 < 0 ∨ Chosen F l raw b) (hm : mayK k l raw) : Chosen F l raw (bestStep b k (costK F k l raw)) := by
  rcases step_chosen k b h with h2 | h2
  · exfalso
    have hc : (0 : Int) ≤ costK F k l raw := by
      unfold costK
      rw [if_pos hm]
      exact Int.natCast_nonneg _
    unfold bestStep at h2
    split at h2
    · have : ((k : Int)) < 0 := h2
      omega
    · rename_i hno
      exact hno ⟨hc, .inl h2⟩
  · exact h2
theorem best_chosen (hs : allSound l) (hl : l.length < 1048576) : Chosen F l raw (bestK F l raw) :=
  step_chosen_may 2 _ (step_chosen 1 _ (step_chosen 0 _ (.inl (by decide)))) (.inr ⟨.inr rfl, hs, hl⟩)
end
end Go.Proofs.YthibpnkdhbkakaaDoor
