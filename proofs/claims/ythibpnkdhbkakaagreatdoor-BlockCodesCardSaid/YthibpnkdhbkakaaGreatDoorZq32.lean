/-
  The program's Write chooses the kind of the lowest cost; the landed package keeps BlockOK.
-/
import Derived.Test.YthibpnkdhbkakaaGreatDoorZq31
import Derived.Test.YthibpnkdhbkakaaGreatDoorZq02
import Derived.Test.YthibpnkdhbkakaaGreatDoorZq03
import Derived.Deep.Slices
import Derived.OpenShut
import Derived.ProofKit
namespace Go.Proofs.YthibpnkdhbkakaaGreatDoor
set_option maxRecDepth 5000
open Go.RowKit

/-- the best of the kinds so far -/
def bestUp (l : List Tok) (raw : List Nat) : Nat → Int × Int
  | 0 => (-1, 0)
  | i + 1 => bestStep (bestUp l raw i) i (costK (blkF lensF) i l raw)
theorem bestUp_three (l : List Tok) (raw : List Nat) : bestUp l raw 3 = bestK (blkF lensF) l raw := rfl
theorem bestUp_not {l : List Tok} {raw : List Nat} {i : Nat} (h : ¬ mayK i l raw) : bestUp l raw (i + 1) = bestUp l raw i := by
  rw [bestUp, costK_not h, bestStep, if_neg (by omega)]
theorem bestUp_first {l : List Tok} {raw : List Nat} {i : Nat} (h : mayK i l raw) (hb : (bestUp l raw i).1 < 0) : bestUp l raw (i + 1) = ((i : Int), ((3 + sizeK i l raw : Nat) : Int)) := by
  rw [bestUp, costK_may h, bestStep, if_pos ⟨by omega, .inl hb⟩]
theorem bestUp_less {l : List Tok} {raw : List Nat} {i k : Nat} (h : mayK i l raw) (hb : (bestUp l raw i).2 = ((3 + sizeK k l raw : Nat) : Int)) (hl : sizeK i l raw < sizeK k l raw) : bestUp l raw (i + 1) = ((i : Int), ((3 + sizeK i l raw : Nat) : Int)) := by
  rw [bestUp, costK_may h, bestStep, if_pos ⟨by omega, .inr (by rw [hb]; omega)⟩]
theorem bestUp_more {l : List Tok} {raw : List Nat} {i k : Nat} (h : mayK i l raw) (h1 : (bestUp l raw i).1 = (k : Int)) (hb : (bestUp l raw i).2 = ((3 + sizeK k l raw : Nat) : Int)) (hl : ¬ sizeK i l raw < sizeK k l raw) : bestUp l raw (i + 1) = bestUp l raw i := by
  rw [bestUp, costK_may h, bestStep, if_neg]
  rintro ⟨_, h2 | h2⟩
  · omega
  · rw [hb] at h2; omega
section
variable {w0 w : World} {Rs : List Thing}
/-- what is found so far -/
def FoundIs (w0 : World) (B : Nat) (acc : List Nat) (S : Thing) (Rs : List Thing) (l : List Tok) (raw : List Nat) (lv uv : Value) (i : Nat) (c : Value) (wr : World) : Prop :=
  ((bestUp l raw i).1 < 0 ∧ c = .nilIface ∧ Held w0 wr (wrT B acc :: S :: Rs)) ∨
  ∃ (k : Nat) (Ts : List Thing), k < i ∧ (bestUp l raw i).1 = (k : Int) ∧ (bestUp l raw i).2 = ((3 + sizeK k l raw : Nat) : Int) ∧ mayK k l raw ∧ ContIs k l lv uv c Ts ∧ Held w0 wr (Ts ++ (wrT B acc :: S :: Rs))
set_option maxHeartbeats 6400000 in
theorem best_blk (l : List Tok) (raw acc : List Nat) (last : Bool) (v u : Value) (n m B : Nat) (S : Thing) (hO : Ordr w0) (h : Held w0 w (wrT B acc :: S :: Rs)) (hv : Reads w0 S 3 v n (toksV l)) (hu : Reads w0 S 1 u m (u8s raw)) (hb : byteOK l) (hr : ∀ b ∈ raw, b < 256) (hn : n < 1000000000) (hacc : acc.length < 900000000) :
    Calls Tryz.prog 18 #[.pointer (some ⟨B, 0, none⟩), v, u, .bool last] w fun e w' => e = .returned (.int .i64 (bestK (blkF lensF) l raw).1) ∧ Held w0 w' (wrT B (if (bestK (blkF lensF) l raw).1 < 0 then acc else acc ++ blkBits (blkF lensF) (bestK (blkF lensF) l raw).1.toNat l raw last acc.length) :: S :: Rs) := by
  have hvr := hv.rd h.swap
  have hur := hu.rd h.swap
  obtain ⟨lo, lc, rfl, _, _⟩ := hvr.form
  obtain ⟨uo, uc, rfl, _, _⟩ := hur.form
  have hml : m = raw.length := by have := hur.1; rw [u8s_length] at this; omega
  have HP := hid (And.intro hv (And.intro hu (And.intro hO (And.intro hb (And.intro hr hml)))))
  have H0 := hid h
  rw [← bestUp_three]
  obtain ⟨out, hout⟩ : ∃ out, out = if (bestUp l raw 3).1 < 0 then acc else acc ++ blkBits (blkF lensF) (bestUp l raw 3).1.toNat l raw last acc.length := ⟨_, rfl⟩
  rw [← hout]
  have HOUT := hid hout
  clear hout
  clear hvr hur h hv hu hO hb hr hml
  go_enter Tryz.func18, Tryz.ntmps18
  go_wp2
  go_loopg [9, 10, 11] 4 (fun k t9 t10 t11 wr => ∃ (i : Nat) (c0 : Value), i ≤ 3 ∧ 3 - i < k ∧ t11 = .int .i64 (i : Int) ∧ t9 = .int .i64 (bestUp l raw i).1 ∧ t10 = c0 ∧ Hid (FoundIs w0 B acc S Rs l raw (.slice lo n lc) (.slice uo m uc) i c0 wr))
  case atStart => exact ⟨0, _, by omega, by omega, rfl, rfl, rfl, hid (.inl ⟨by show ((-1 : Int) < 0); decide, rfl, H0.out⟩)⟩
  case round =>
    obtain ⟨i, c0, hi, hk, rfl, rfl, hc0, HF⟩ := hrel
    obtain rfl := hc0.symm
    have hi0 : (0 : Int) ≤ (i : Int) := Int.natCast_nonneg _
    obtain ⟨b1, hb1⟩ : ∃ b1, b1 = (bestUp l raw i).1 := ⟨_, rfl⟩
    have hall : ∃ Q : List Thing, Held w0 wr (Q ++ (wrT B acc :: S :: Rs)) := by
      rcases HF.out with ⟨_, _, h⟩ | ⟨_, Ts, _, _, _, _, _, h⟩
      · exact ⟨[], h⟩
      · exact ⟨Ts, h⟩
    obtain ⟨Q, hQ⟩ := hall
    have hW := hQ.dropAll
    have hvr := HP.out.1.rd hW.swap
    have hur := HP.out.2.1.rd hW.swap
    by_cases hin : i < 3
    · have hiI : (i : Int) ≤ 2 := by omega
      by_cases hmy : mayK i l raw
      · have HC := hid (contents_may i lo uo n lc m uc l raw hvr hur (HP.out.2.2.1.kept hW.mod) HP.out.2.2.2.1 hn hmy)
        have HM := hid hmy
        have HB1 := hid hb1
        rw [← hb1]
        clear hmy hvr hur hW hQ hb1
        by_cases hneg : b1 < 0
        · have hd1 : decide (b1 < 0) = true := by simp; omega
          have hN : Hid (bestUp l raw (i + 1) = ((i : Int), ((3 + sizeK i l raw : Nat) : Int))) := hid (bestUp_first HM.out (by rw [← HB1.out]; exact hneg))
          have hT : Hid (Held w0 wr (wrT B acc :: S :: Rs)) := by
            rcases HF.out with ⟨_, _, h⟩ | ⟨k, _, _, h1, _⟩
            · exact hid h
            · have := HB1.out
              omega
          go_wp2_with fail
          with_reducible refine HC.out.mono ?_
          rintro e w1 ⟨c, Ts, rfl, hc, hh⟩
          have H1 := hid (hT.out.frame hh)
          have HCC := hid hc
          clear hh hc HC hT
          go_wp2
          go_roundg (gk - 1)
          case measure => omega
          case rel => exact ⟨i + 1, _, by omega, by omega, by go_num, by rw [hN.out], rfl, hid (.inr ⟨i, Ts, by omega, by rw [hN.out], by rw [hN.out], HM.out, HCC.out, H1.out⟩)⟩
        · have hd1 : decide (b1 < 0) = false := by simp; omega
          rcases HF.out with ⟨h1, _, _⟩ | ⟨k, Tk, hki, hk1, hk2, hkm, hf, hT⟩
          · have := HB1.out
            omega
          · have HK := hid (And.intro hk1 (And.intro hk2 (And.intro hkm hf)))
            have HT := hid hT
            have hsi := sizeK_le HM.out
            have hsk := sizeK_le hkm
            obtain ⟨x, hx⟩ : ∃ x, x = sizeK i l raw := ⟨_, rfl⟩
            obtain ⟨y, hy⟩ : ∃ y, y = sizeK k l raw := ⟨_, rfl⟩
            rw [← hx] at hsi
            rw [← hy] at hsk
            have HXY := hid (And.intro hx hy)
            have hkv : k = 0 ∨ k = 1 := by omega
            clear hk1 hk2 hkm hT hx hy hneg HF
            rcases hf with ⟨hcf, rfl, hTf⟩ | ⟨hcf, C1, C2, rfl, hTf⟩ | ⟨hcf, _⟩
            · have HCF := hid hcf
              clear hcf
              go_wp2_with fail
              with_reducible refine HC.out.mono ?_
              rintro e w1 ⟨c, Ti, rfl, hc, hh⟩
              have H1 := hid (HT.out.frame hh)
              have HCC := hid hc
              have HS1 := hid (sizes_of (w0 := wr) (Rs := []) lo uo n lc m uc HP.out.2.2.2.2.2 HM.out (by rw [List.append_nil]; exact hh))
              clear hh HC
              rcases hc with ⟨hci, rfl, hTi⟩ | ⟨hci, B1, B2, rfl, hTi⟩ | ⟨hci, Bh, Bt, B1, B2, iv, hv, rfl, hTi⟩
              · have := HCF.out
                omega
              · have HX1 := hid (HS1.out.s1 B1 B2 hci)
                rw [← HXY.out.1] at HX1
                unfold codV at HX1 ⊢
                clear HS1 hci
                go_wp2_with fail
                with_reducible refine HX1.out.mono ?_
                rintro e w2 ⟨rfl, hm⟩
                have H2 := hid (H1.out.same hm)
                have HS2 := hid (sizes_of (w0 := w0) (Rs := wrT B acc :: S :: Rs) lo uo n lc m uc HP.out.2.2.2.2.2 HK.out.2.2.1 H2.out.dropAll)
                have HX2 := hid (HS2.out.s0 HCF.out)
                rw [← HXY.out.2] at HX2
                clear hm HX1 H1 HS2
                go_wp2_with fail
                with_reducible refine HX2.out.mono ?_
                rintro e w3 ⟨rfl, hm⟩
                have H3 := hid (H2.out.same hm)
                clear hm HX2 H2
                by_cases hxy : x < y
                · have hxyI : decide ((x : Int) < (y : Int)) = true := by simp; omega
                  have hN : Hid (bestUp l raw (i + 1) = ((i : Int), ((3 + sizeK i l raw : Nat) : Int))) := hid (bestUp_less HM.out HK.out.2.1 (by rw [← HXY.out.1, ← HXY.out.2]; exact hxy))
                  have HNT : Hid (Held w0 w3 (Ti ++ (wrT B acc :: S :: Rs))) := by
                    have h4 : Held w0 w3 (Tk ++ (Ti ++ (wrT B acc :: S :: Rs))) := H3.out.perm (by
                      have h5 := (List.perm_append_comm (l₁ := Ti) (l₂ := Tk)).append_right (wrT B acc :: S :: Rs)
                      simpa using h5)
                    exact hid h4.dropAll
                  go_wp2
                  go_roundg (gk - 1)
                  case measure => omega
                  case rel => exact ⟨i + 1, _, by omega, by omega, by go_num, by rw [hN.out], rfl, hid (.inr ⟨i, Ti, by omega, by rw [hN.out], by rw [hN.out], HM.out, HCC.out, HNT.out⟩)⟩
                · have hxyI : decide ((x : Int) < (y : Int)) = false := by simp; omega
                  have hN : Hid (bestUp l raw (i + 1) = bestUp l raw i) := hid (bestUp_more HM.out HK.out.1 HK.out.2.1 (by rw [← HXY.out.1, ← HXY.out.2]; exact hxy))
                  go_wp2
                  go_roundg (gk - 1)
                  case measure => omega
                  case rel => exact ⟨i + 1, _, by omega, by omega, by go_num, by rw [hN.out, ← HB1.out], rfl, hid (.inr ⟨k, Tk, by omega, by rw [hN.out]; exact HK.out.1, by rw [hN.out]; exact HK.out.2.1, HK.out.2.2.1, HK.out.2.2.2, H3.out.dropAll⟩)⟩
              · have HX1 := hid (HS1.out.s2 Bh Bt B1 B2 iv hv hci hTi)
                rw [← HXY.out.1] at HX1
                unfold dynV at HX1 ⊢
                clear HS1 hci
                go_wp2_with fail
                with_reducible refine HX1.out.mono ?_
                rintro e w2 ⟨rfl, hm⟩
                have H2 := hid (H1.out.same hm)
                have HS2 := hid (sizes_of (w0 := w0) (Rs := wrT B acc :: S :: Rs) lo uo n lc m uc HP.out.2.2.2.2.2 HK.out.2.2.1 H2.out.dropAll)
                have HX2 := hid (HS2.out.s0 HCF.out)
                rw [← HXY.out.2] at HX2
                clear hm HX1 H1 HS2
                go_wp2_with fail
                with_reducible refine HX2.out.mono ?_
                rintro e w3 ⟨rfl, hm⟩
                have H3 := hid (H2.out.same hm)
                clear hm HX2 H2
                by_cases hxy : x < y
                · have hxyI : decide ((x : Int) < (y : Int)) = true := by simp; omega
                  have hN : Hid (bestUp l raw (i + 1) = ((i : Int), ((3 + sizeK i l raw : Nat) : Int))) := hid (bestUp_less HM.out HK.out.2.1 (by rw [← HXY.out.1, ← HXY.out.2]; exact hxy))
                  have HNT : Hid (Held w0 w3 (Ti ++ (wrT B acc :: S :: Rs))) := by
                    have h4 : Held w0 w3 (Tk ++ (Ti ++ (wrT B acc :: S :: Rs))) := H3.out.perm (by
                      have h5 := (List.perm_append_comm (l₁ := Ti) (l₂ := Tk)).append_right (wrT B acc :: S :: Rs)
                      simpa using h5)
                    exact hid h4.dropAll
                  go_wp2
                  go_roundg (gk - 1)
                  case measure => omega
                  case rel => exact ⟨i + 1, _, by omega, by omega, by go_num, by rw [hN.out], rfl, hid (.inr ⟨i, Ti, by omega, by rw [hN.out], by rw [hN.out], HM.out, HCC.out, HNT.out⟩)⟩
                · have hxyI : decide ((x : Int) < (y : Int)) = false := by simp; omega
                  have hN : Hid (bestUp l raw (i + 1) = bestUp l raw i) := hid (bestUp_more HM.out HK.out.1 HK.out.2.1 (by rw [← HXY.out.1, ← HXY.out.2]; exact hxy))
                  go_wp2
                  go_roundg (gk - 1)
                  case measure => omega
                  case rel => exact ⟨i + 1, _, by omega, by omega, by go_num, by rw [hN.out, ← HB1.out], rfl, hid (.inr ⟨k, Tk, by omega, by rw [hN.out]; exact HK.out.1, by rw [hN.out]; exact HK.out.2.1, HK.out.2.2.1, HK.out.2.2.2, H3.out.dropAll⟩)⟩
            · have HCF := hid hcf
              clear hcf
              unfold codV
              go_wp2_with fail
              with_reducible refine HC.out.mono ?_
              rintro e w1 ⟨c, Ti, rfl, hc, hh⟩
              have H1 := hid (HT.out.frame hh)
              have HCC := hid hc
              have HS1 := hid (sizes_of (w0 := wr) (Rs := []) lo uo n lc m uc HP.out.2.2.2.2.2 HM.out (by rw [List.append_nil]; exact hh))
              clear hh HC
              rcases hc with ⟨hci, rfl, hTi⟩ | ⟨hci, B1, B2, rfl, hTi⟩ | ⟨hci, Bh, Bt, B1, B2, iv, hv, rfl, hTi⟩
              · have := HCF.out
                omega
              · have := HCF.out
                omega
              · have HX1 := hid (HS1.out.s2 Bh Bt B1 B2 iv hv hci hTi)
                rw [← HXY.out.1] at HX1
                unfold dynV at HX1 ⊢
                clear HS1 hci
                go_wp2_with fail
                with_reducible refine HX1.out.mono ?_
                rintro e w2 ⟨rfl, hm⟩
                have H2 := hid (H1.out.same hm)
                have HS2 := hid (sizes_of (w0 := w0) (Rs := wrT B acc :: S :: Rs) lo uo n lc m uc HP.out.2.2.2.2.2 HK.out.2.2.1 H2.out.dropAll)
                have HX2 := hid (HS2.out.s1 C1 C2 HCF.out)
                rw [← HXY.out.2] at HX2
                unfold codV at HX2
                clear hm HX1 H1 HS2
                go_wp2_with fail
                with_reducible refine HX2.out.mono ?_
                rintro e w3 ⟨rfl, hm⟩
                have H3 := hid (H2.out.same hm)
                clear hm HX2 H2
                by_cases hxy : x < y
                · have hxyI : decide ((x : Int) < (y : Int)) = true := by simp; omega
                  have hN : Hid (bestUp l raw (i + 1) = ((i : Int), ((3 + sizeK i l raw : Nat) : Int))) := hid (bestUp_less HM.out HK.out.2.1 (by rw [← HXY.out.1, ← HXY.out.2]; exact hxy))
                  have HNT : Hid (Held w0 w3 (Ti ++ (wrT B acc :: S :: Rs))) := by
                    have h4 : Held w0 w3 (Tk ++ (Ti ++ (wrT B acc :: S :: Rs))) := H3.out.perm (by
                      have h5 := (List.perm_append_comm (l₁ := Ti) (l₂ := Tk)).append_right (wrT B acc :: S :: Rs)
                      simpa using h5)
                    exact hid h4.dropAll
                  go_wp2
                  go_roundg (gk - 1)
                  case measure => omega
                  case rel => exact ⟨i + 1, _, by omega, by omega, by go_num, by rw [hN.out], rfl, hid (.inr ⟨i, Ti, by omega, by rw [hN.out], by rw [hN.out], HM.out, HCC.out, HNT.out⟩)⟩
                · have hxyI : decide ((x : Int) < (y : Int)) = false := by simp; omega
                  have hN : Hid (bestUp l raw (i + 1) = bestUp l raw i) := hid (bestUp_more HM.out HK.out.1 HK.out.2.1 (by rw [← HXY.out.1, ← HXY.out.2]; exact hxy))
                  go_wp2
                  go_roundg (gk - 1)
                  case measure => omega
                  case rel => exact ⟨i + 1, _, by omega, by omega, by go_num, by rw [hN.out, ← HB1.out], rfl, hid (.inr ⟨k, Tk, by omega, by rw [hN.out]; exact HK.out.1, by rw [hN.out]; exact HK.out.2.1, HK.out.2.2.1, HK.out.2.2.2, H3.out.dropAll⟩)⟩
            · omega
      · have HC := hid (contents_not (i : Int) lo uo n lc m uc l raw hvr hur hn hmy)
        have hN : Hid (bestUp l raw (i + 1) = bestUp l raw i) := hid (bestUp_not hmy)
        rw [← hb1]
        have HB1 := hid hb1
        clear hmy hvr hur hW hQ hb1
        go_wp2_with fail
        with_reducible refine HC.out.mono ?_
        rintro e w1 ⟨rfl, hm⟩
        have HF1 : Hid (FoundIs w0 B acc S Rs l raw (.slice lo n lc) (.slice uo m uc) (i + 1) c0 w1) := by
          unfold FoundIs
          rw [hN.out]
          rcases HF.out with ⟨h1, h2, h3⟩ | ⟨k, Ts, h1, h2, h3, h4, h5, h6⟩
          · exact hid (.inl ⟨h1, h2, h3.same hm⟩)
          · exact hid (.inr ⟨k, Ts, by omega, h2, h3, h4, h5, h6.same hm⟩)
        clear hm HC
        go_wp2
        go_roundg (gk - 1)
        case measure => omega
        case rel => exact ⟨i + 1, _, by omega, by omega, by go_num, by rw [hN.out, ← HB1.out], rfl, HF1⟩
    · have hiI : ¬ (i : Int) ≤ 2 := by omega
      have hi3 : i = 3 := by omega
      subst hi3
      rw [← hb1]
      have HB1 := hid hb1
      rcases HF.out with ⟨h1, h2, h3⟩ | ⟨k, Ts, h1, h2, h3, h4, h5, h6⟩
      · have hd1 : decide ((0 : Int) ≤ b1) = false := by simp; omega
        have H3 := hid h3
        have hE : Hid (b1 < 0) := hid (by omega)
        clear h1 h2 h3 hvr hur hW hQ HF hb1
        go_wp2
        go_ret
        rw [← HB1.out]
        refine ⟨rfl, ?_⟩
        rw [HOUT.out, ← HB1.out, if_pos hE.out]
        exact H3.out
      · have hkb : b1 = (k : Int) := hb1.trans h2
        subst hkb
        have hd1 : decide ((0 : Int) ≤ (k : Int)) = true := by simp
        have hk0 : (0 : Int) ≤ (k : Int) := Int.natCast_nonneg _
        have h7 : Held w0 wr (wrT B acc :: S :: (Ts ++ Rs)) := h6.perm (by
          have h2 := (List.perm_append_comm (l₁ := Ts) (l₂ := [wrT B acc, S])).append_right Rs
          simpa using h2)
        have HW := hid (writeBlock_any lo uo lc uc last h5 h7 HP.out.1 HP.out.2.1 h4 HP.out.2.2.2.1 HP.out.2.2.2.2.1 hacc)
        clear h1 h2 h3 h4 h5 h6 h7 hvr hur hW hQ HF hb1
        go_wp2_with fail
        with_reducible refine HW.out.mono ?_
        rintro e w2 ⟨rfl, h2⟩
        have H2 : Hid (Held w0 w2 (wrT B (acc ++ blkBits (blkF lensF) k l raw last acc.length) :: S :: Rs)) := by
          have h3 : Held w0 w2 (Ts ++ (wrT B (acc ++ blkBits (blkF lensF) k l raw last acc.length) :: S :: Rs)) := h2.perm (by
            have h4 := (List.perm_append_comm (l₁ := [wrT B (acc ++ blkBits (blkF lensF) k l raw last acc.length), S]) (l₂ := Ts)).append_right Rs
            simpa using h4)
          exact hid h3.dropAll
        clear h2 HW
        go_wp2
        go_ret
        rw [← HB1.out]
        refine ⟨rfl, ?_⟩
        rw [HOUT.out, ← HB1.out, if_neg (by omega), Int.toNat_natCast]
        exact H2.out
/-- the contract -/
theorem blockOK : BlockOK (blkF lensF) Ordr where
  good := fun kind l raw a hm hb hr => blkF_good lensF_LensOK kind l raw a (by
    rcases hm with ⟨h1, h2⟩ | ⟨h1, h2, h3⟩
    · exact .inl ⟨by omega, h2⟩
    · exact .inr ⟨by omega, h2⟩) hb hr
  place := fun kind l raw a b h => blkF_place kind l raw a b h
  short := fun kind l raw a hm => blkF_short lensF_LensOK kind l raw a (by
    rcases hm with ⟨h1, h2⟩ | ⟨h1, h2, h3⟩
    · exact .inl ⟨by omega, h2⟩
    · exact .inr ⟨by omega, h2⟩)
  write := fun kind l raw acc last v u n m B _ _ S _ hO h hv hu hb hr hn _ ha hk => write_blk kind l raw acc last v u n m B S hO h hv hu hb hr hn ha hk
  writeNo := fun kind l raw acc last v u n m B _ _ _ _ h hv hu _ _ hn _ _ hk => writeNo_blk kind l raw acc last v u n m B h hv hu hn hk
  cost := fun kind l raw v u n m _ _ _ hO h hv hu hb _ hn _ => cost_blk kind l raw v u n m hO h hv hu hb hn
  best := fun l raw acc last v u n m B _ _ S _ hO h hv hu hb hr hn _ ha => best_blk l raw acc last v u n m B S hO h hv hu hb hr hn ha
  fixed := fun _ _ _ h => (fixedL_any h).mono fun _ _ ⟨_, _, _, _, h1, h2⟩ => ⟨_, _, h1, h2⟩
end
end Go.Proofs.YthibpnkdhbkakaaGreatDoor
/-
  What is read of the blocks that the laws write, by what a writer of blocks is to do ('BlockOK').
-/
namespace Go.Proofs.YthibpnkdhbkakaaGreatDoor
set_option maxRecDepth 5000

theorem mayK_kind {kind : Nat} {l : List Tok} {raw : List Nat} (h : mayK kind l raw) : kind < 3 := by
  rcases h with ⟨h, _⟩ | ⟨h | h, _⟩ <;> omega
theorem zeros_isBits (n : Nat) : isBits (List.replicate n 0) := fun b hb => by rw [List.eq_of_mem_replicate hb]; omega
theorem BlockBits.isBits {l : List Tok} {raw bs : List Nat} {a kind : Nat} (h : BlockBits l raw a kind bs) : isBits bs := by
  cases h with
  | stored => exact isBits_append (zeros_isBits _) (isBits_append (bitsOf_isBits _ _) (isBits_append (bitsOf_isBits _ _) (bits8_isBits _)))
  | fixed _ h => exact h.isBits
  | dynamic lit dist hd C lb bs h h2 => exact isBits_append (isBits_append (bitsOf_isBits _ _) (isBits_append (bitsOf_isBits _ _) (isBits_append (bitsOf_isBits _ _) (isBits_append (headBits_isBits _ _) h.lens.isBits)))) h2.isBits
theorem evened_app (l : List Nat) : ∃ p, isBits p ∧ evened l = l ++ p :=
  ⟨List.replicate ((8 - l.length % 8) % 8) 0, (fun b hb => by rw [List.eq_of_mem_replicate hb]; omega), rfl⟩
theorem evened_octets (l : List Nat) : (bytesOf (evened l)).length = (l.length + 7) / 8 := by
  rw [bytesOf_length]
  simp only [evened, List.length_append, List.length_replicate]
  omega
section
variable {F : Nat → List Tok → List Nat → Nat → List Nat} {Lv : World → Prop} {l : List Tok} {raw o : List Nat} {kind a M : Nat}
theorem BlockOK.stored (H : BlockOK F Lv) (p : Nat) : F 0 [] [] p = storedBits p [] := by
  have h := H.good 0 [] [] p (.inl ⟨rfl, by decide⟩) (fun _ h => by cases h) (fun _ h => by cases h)
  generalize F 0 [] [] p = bs at h
  generalize hk : 0 = k at h
  cases h with
  | stored => rfl
  | fixed => omega
  | dynamic => omega
theorem BlockOK.gap (H : BlockOK F Lv) (i : Nat) : gaps i ++ blkBits F 0 [] [] false (gaps i).length = gaps (i + 1) := by
  unfold blkBits
  rw [H.stored, gaps, gapBits, storedBits_mod (a := (gaps i).length + 3) (b := 3) (by rw [gaps_length]; omega)]
  rfl
theorem means_read (H : BlockOK F Lv) (hm : mayK kind l raw) (hb : byteOK l) (hraw : ∀ b ∈ raw, b < 256) (he : expT [] l = (0, o)) (ho : o.length ≤ M) (hr : raw.length ≤ M) :
    ∃ p ss, inflF (evened (gaps a ++ blkBits F kind l raw true (gaps a).length)) M ((evened (gaps a ++ blkBits F kind l raw true (gaps a).length)).length + 1) 0 [] [] [] [] = ⟨0, p, outOf kind raw [] o, tksOf kind [] l, List.replicate a 0 ++ [kind], ss, (bytesOf (evened (gaps a ++ blkBits F kind l raw true (gaps a).length))).length⟩ := by
  obtain ⟨post, hp, e⟩ := evened_app (gaps a ++ blkBits F kind l raw true (gaps a).length)
  have hg := H.good kind l raw ((gaps a).length + 3) hm hb hraw
  rw [evened_octets]
  have e2 : evened (gaps a ++ blkBits F kind l raw true (gaps a).length) = gaps a ++ (bitsOf 3 (1 + 2 * kind) ++ (F kind l raw ((gaps a).length + 3) ++ post)) := by
    rw [e, blkBits]; simp
  have hl : (gaps a ++ blkBits F kind l raw true (gaps a).length).length = (gaps a).length + 3 + (F kind l raw ((gaps a).length + 3)).length := by
    rw [blkBits, List.length_append, List.length_append, bitsOf_length]; omega
  rw [hl, e2]
  have hlen : a < (gaps a ++ (bitsOf 3 (1 + 2 * kind) ++ (F kind l raw ((gaps a).length + 3) ++ post))).length := by
    rw [List.length_append, gaps_length, List.length_append, bitsOf_length]; omega
  generalize hN : (gaps a ++ (bitsOf 3 (1 + 2 * kind) ++ (F kind l raw ((gaps a).length + 3) ++ post))).length = N at hlen
  have hpost : isBits (bitsOf 3 (1 + 2 * kind) ++ (F kind l raw ((gaps a).length + 3) ++ post)) := isBits_append (bitsOf_isBits _ _) (isBits_append hg.isBits hp)
  have h1 := infl_gaps a M hpost (N - a + 1) a 0 (by omega)
  rw [show a + (N - a + 1) = N + 1 by omega] at h1
  have h2 := infl_last (f := N - a) (M := M) (tk := []) (out := []) (ks := List.replicate a 0) (ss := List.replicate a 0) hg (mayK_kind hm) hp he ho (by simpa using hr)
  exact ⟨_, _, h1.trans h2⟩
/-- a block that is not the last, and an empty one behind it -/
theorem cheap_read (H : BlockOK F Lv) (hm : mayK kind l raw) (hb : byteOK l) (hraw : ∀ b ∈ raw, b < 256) (he : expT [] l = (0, o)) (ho : o.length ≤ M) (hr : raw.length ≤ M) {all : List Nat} (hall : all = blkBits F kind l raw false 0 ++ blkBits F 1 [] [] true (blkBits F kind l raw false 0).length) :
    ∃ p tk ks ss, inflF (evened all) M ((evened all).length + 1) 0 [] [] [] [] = ⟨0, p, outOf kind raw [] o, tk, ks, ss, (bytesOf (evened all)).length⟩ := by
  obtain ⟨post, hp, e⟩ := evened_app all
  have hg := H.good kind l raw 3 hm hb hraw
  have hz := H.empty_last (blkBits F kind l raw false 0).length
  rw [evened_octets]
  have e1 : blkBits F kind l raw false 0 = bitsOf 3 (2 * kind) ++ F kind l raw 3 := by simp [blkBits]
  have hF := H.good 1 [] [] ((blkBits F kind l raw false 0).length + 3) mayK_fix (fun _ h => by cases h) (fun _ h => by cases h)
  have e2 : evened all = bitsOf 3 (2 * kind) ++ (F kind l raw 3 ++ (bitsOf 3 (1 + 2 * 1) ++ (F 1 [] [] ((blkBits F kind l raw false 0).length + 3) ++ post))) := by
    rw [e, hall, blkBits, blkBits]; simp
  have e3 : evened all = blkBits F kind l raw false 0 ++ (bitsOf 3 (1 + 2 * 1) ++ (F 1 [] [] ((blkBits F kind l raw false 0).length + 3) ++ post)) := by
    rw [e2, e1]; simp
  have hal : all.length = (blkBits F kind l raw false 0).length + 3 + (F 1 [] [] ((blkBits F kind l raw false 0).length + 3)).length := by
    rw [hall, List.length_append]
    conv => lhs; rhs; rw [blkBits]
    rw [List.length_append, bitsOf_length]; omega
  have hN : 2 ≤ (evened all).length := by rw [e, List.length_append, hal]; omega
  generalize (evened all).length = N at hN
  have h1 := infl_more (pre := []) (f := N) (M := M) (tk := []) (out := []) (ks := []) (ss := []) hg (mayK_kind hm) (isBits_append (bitsOf_isBits 3 (1 + 2 * 1)) (isBits_append hF.isBits hp)) he ho (by simpa using hr)
  rw [List.nil_append, ← e2] at h1
  have hlen : ([] : List Nat).length + 3 + (F kind l raw 3).length = (blkBits F kind l raw false 0).length := by
    rw [e1, List.length_append, bitsOf_length]; simp
  rw [hlen] at h1
  have hout : (outOf kind raw [] o).length ≤ M := by unfold outOf; split <;> simpa
  have h2 := infl_last (f := N - 1) (M := M) (tk := tksOf kind [] l) (out := outOf kind raw [] o) (o := outOf kind raw [] o) (ks := [] ++ [kind]) (ss := [] ++ [(outOf kind raw [] o).length]) hF (by decide) hp rfl hout (by simpa using hout)
  rw [← e3, show N - 1 + 1 = N by omega, ← hal] at h2
  exact ⟨_, _, _, _, h1.trans h2⟩
/-- a kind that is chosen -/
def Chosen (F : Nat → List Tok → List Nat → Nat → List Nat) (l : List Tok) (raw : List Nat) (b : Int × Int) : Prop := ∃ kk : Nat, b.1 = (kk : Int) ∧ mayK kk l raw ∧ b.2 = ((3 + (F kk l raw 3).length : Nat) : Int)
theorem step_chosen (k : Nat) (b : Int × Int) (h : b.1 < 0 ∨ Chosen F l raw b) : (bestStep b k (costK F k l raw)).1 < 0 ∨ Chosen F l raw (bestStep b k (costK F k l raw)) := by
  unfold bestStep
  split
  · rename_i hc
    refine .inr ⟨k, rfl, ?_⟩
    have hm : mayK k l raw := by
      refine Classical.byContradiction fun hno => ?_
      have := hc.1
      unfold costK at this
      rw [if_neg hno] at this
      omega
    refine ⟨hm, ?_⟩
    show costK F k l raw = _
    unfold costK
    rw [if_pos hm]
    rfl
  · exact h
theorem step_chosen_may (k : Nat) (b : Int × Int) (h : b.1 < 0 ∨ Chosen F l raw b) (hm : mayK k l raw) : Chosen F l raw (bestStep b k (costK F k l raw)) := by
  rcases step_chosen k b h with h2 | h2
  · exfalso
    have hc : (0 : Int) ≤ costK F k l raw := by
      unfold costK
      rw [if_pos hm]
      exact Int.natCast_nonneg _
    unfold bestStep at h2
    split at h2
    · have : ((k : Int)) < 0 := h2
      omega
    · rename_i hno
      exact hno ⟨hc, .inl h2⟩
  · exact h2
theorem best_chosen (hs : allSound l) (hl : l.length < 1048576) : Chosen F l raw (bestK F l raw) :=
  step_chosen_may 2 _ (step_chosen 1 _ (step_chosen 0 _ (.inl (by decide)))) (.inr ⟨.inr rfl, hs, hl⟩)
end
end Go.Proofs.YthibpnkdhbkakaaGreatDoor
/-
  What a law is handed, opened: numbers, bools, strings, slices of any of these, structs. A 'Shape' says what the cells of a type hold; no program is named here.
-/
namespace Go.Proofs.YthibpnkdhbkakaaGreatDoor
set_option maxRecDepth 5000
open Go.RowKit

structure Shape (P : Program) (α : Type) where
  t : TypeId
  size : Nat
  good : World → List Value → α → Prop
  sized : P.cellsOf t = size
  long : ∀ w cs a, good w cs a → cs.length = size
  opens : ∀ {H : Type} {enc : TypeId × Value → H} {W : World} {fuel : Nat} {cs : List Value} {x : DataW H × List MemPlace},
    DataW.trod enc P W 0 (fun _ => true) true fuel t cs = some x → ∃ a, good W cs a

section
variable {P : Program}
def shInt (t : TypeId) (k : IntKind) (ht : P.underlying t = some (.int k)) (hc : P.cellsOf t = 1) : Shape P Int where
  t := t
  size := 1
  good := fun _ cs n => cs = [.int k n] ∧ (Lit.int k n).wf = true
  sized := hc
  long := fun _ _ _ h => by rw [h.1]; rfl
  opens := fun h => by
    obtain ⟨n, h1, _, h2⟩ := DataW.trod_int ht h
    exact ⟨n, h1, h2⟩
def shBool (t : TypeId) (ht : P.underlying t = some .bool) (hc : P.cellsOf t = 1) : Shape P Bool where
  t := t
  size := 1
  good := fun _ cs b => cs = [.bool b]
  sized := hc
  long := fun _ _ _ h => by rw [h]; rfl
  opens := fun h => by
    obtain ⟨b, h1, _⟩ := DataW.trod_bool ht h
    exact ⟨b, h1⟩
def shStr (t : TypeId) (ht : P.underlying t = some .string) (hc : P.cellsOf t = 1) : Shape P ByteArray where
  t := t
  size := 1
  good := fun _ cs s => cs = [.string s] ∧ s.size ≤ maxLen
  sized := hc
  long := fun _ _ _ h => by rw [h.1]; rfl
  opens := fun h => by
    obtain ⟨s, h1, _, h2⟩ := DataW.trod_string ht h
    exact ⟨s, h1, h2⟩
/-- the elements of a slice -/
def IsSlice {α : Type} (S : Shape P α) (W : World) (v : Value) (l : List α) : Prop :=
  ∃ ao cap, v = .slice ao l.length cap ∧ l.length ≤ cap ∧ cap ≤ maxLen ∧ (ao = none → cap = 0) ∧ (l.length = 0 ∨ ∃ g off, ao = some ⟨g, off, none⟩ ∧
    ∀ i a, l[i]? = some a → ∃ xs, S.good W xs a ∧ ∀ j u, xs[j]? = some u → W.cell? ⟨g, off + i * S.size + j, none⟩ = some u)
def shSlice {α : Type} (S : Shape P α) (t : TypeId) (ht : P.underlying t = some (.slice S.t)) (hc : P.cellsOf t = 1) (hs : 0 < S.size) [Inhabited α] : Shape P (List α) where
  t := t
  size := 1
  good := fun W cs l => ∃ v, cs = [v] ∧ IsSlice S W v l
  sized := hc
  long := fun _ _ _ h => by obtain ⟨v, h, _⟩ := h; rw [h]; rfl
  opens := fun {H enc W fuel cs x} h => by
    rcases Go.Deep.open_slice ht h with ⟨hcs, _⟩ | ⟨ad, l, c, m, n, D, Pl, hcs, _, hl, hm, hmm, _, hel⟩
    · exact ⟨[], _, hcs, none, 0, rfl, Nat.le_refl _, Nat.zero_le _, fun _ => rfl, .inl rfl⟩
    · simp only [if_true] at hmm
      subst hmm
      rw [S.sized] at hel
      by_cases h0 : l = 0
      · subst h0
        exact ⟨[], _, hcs, some ad, m, rfl, by simp, hm, (fun h => by cases h), .inl rfl⟩
      · obtain ⟨g, off, spot⟩ := ad
        have hspot : spot = none := by
          obtain ⟨cs', hc0, _⟩ := hel 0 (by omega)
          obtain ⟨_, hcl, hcc⟩ := World.cells?_some hc0
          have hx := hcc 0 hs
          rw [List.getElem?_eq_getElem (by omega)] at hx
          have := World.cell?_spot hx
          simpa [Addr.add] using this
        subst hspot
        obtain ⟨A, hA⟩ := Go.Deep.choose_lt (α := α) (n := l) (p := fun i a => ∃ xs, S.good W xs a ∧ ∀ j u, xs[j]? = some u → W.cell? ⟨g, off + i * S.size + j, none⟩ = some u) (fun i hi => by
          obtain ⟨cs', hc0, ht⟩ := hel i (by omega)
          obtain ⟨a, ha⟩ := S.opens ht
          obtain ⟨_, hcl, hcc⟩ := World.cells?_some hc0
          refine ⟨a, cs', ha, fun j u hu => ?_⟩
          have hj := hcc j (by have := (List.getElem?_eq_some_iff.1 hu).1; omega)
          rw [Addr.add_lit, Addr.add_lit] at hj
          rw [hj]; exact hu)
        refine ⟨(List.range l).map A, _, hcs, some ⟨g, off, none⟩, m, by simp, by simpa using hl, hm, (fun h => by cases h), .inr ⟨g, off, rfl, fun i a hi => ?_⟩⟩
        have hil : i < l := by have := (List.getElem?_eq_some_iff.1 hi).1; simpa using this
        rw [List.getElem?_map, List.getElem?_range hil] at hi
        simp only [Option.map_some, Option.some.injEq] at hi
        subst hi
        exact hA i hil

theorem IsSlice.form {α : Type} {S : Shape P α} {W : World} {v : Value} {l : List α} (h : IsSlice S W v l) : ∃ ao cap, v = .slice ao l.length cap ∧ l.length ≤ cap ∧ cap ≤ maxLen := by
  obtain ⟨ao, cap, h1, h2, h3, _⟩ := h
  exact ⟨ao, cap, h1, h2, h3⟩
/-- where a slice that is not empty lies -/
theorem IsSlice.spot {α : Type} {S : Shape P α} {W : World} {ao : Option Addr} {n cap : Nat} {l : List α} (h : IsSlice S W (.slice ao n cap) l) (hn : 0 < n) : ∃ g off, ao = some ⟨g, off, none⟩ ∧
    ∀ i a, l[i]? = some a → ∃ xs, S.good W xs a ∧ ∀ j u, xs[j]? = some u → W.cell? ⟨g, off + i * S.size + j, none⟩ = some u := by
  obtain ⟨ao', cap', h1, _, _, _, h2⟩ := h
  simp only [Value.slice.injEq] at h1
  obtain ⟨rfl, rfl, rfl⟩ := h1
  exact h2.resolve_left (by omega)
/-- elements of one cell each, told by a function -/
theorem IsSlice.rd {α : Type} {S : Shape P α} {W : World} {v : Value} {l : List α} (h : IsSlice S W v l) (f : α → Value) (hf : ∀ W xs a, S.good W xs a → xs = [f a]) (hs : S.size = 1) : Rd W 1 v l.length (l.map f) := by
  obtain ⟨ao, cap, h1, h2, h3, h4, h5⟩ := h
  refine ⟨by simp, ao, cap, h1, h2, h3, h4, ?_⟩
  rcases h5 with h5 | ⟨g, off, h5, h6⟩
  · exact .inl h5
  · refine .inr ⟨g, off, h5, fun j u hu => ?_⟩
    rw [List.getElem?_map, Option.map_eq_some_iff] at hu
    obtain ⟨a, ha, rfl⟩ := hu
    obtain ⟨xs, hg, hc⟩ := h6 j a ha
    have := hc 0 (f a) (by rw [hf W xs a hg]; rfl)
    rwa [hs, Nat.mul_one, Nat.add_zero] at this
theorem IsSlice.each {α : Type} {S : Shape P α} {W : World} {v : Value} {l : List α} (h : IsSlice S W v l) {i : Nat} {a : α} (ha : l[i]? = some a) : ∃ xs, S.good W xs a := by
  obtain ⟨ao, cap, h1, h2, h3, h4, h5⟩ := h
  have hi := (List.getElem?_eq_some_iff.1 ha).1
  rcases h5 with h5 | ⟨g, off, h5, h6⟩
  · omega
  · obtain ⟨xs, h7, _⟩ := h6 i a ha
    exact ⟨xs, h7⟩
/-- bytes as small numbers -/
theorem IsSlice.bytes {t : TypeId} {ht : P.underlying t = some (.int .u8)} {hc : P.cellsOf t = 1} {W : World} {v : Value} {l : List Int} (h : IsSlice (shInt t .u8 ht hc) W v l) :
    ∃ b : List Nat, b.length = l.length ∧ (∀ x ∈ b, x < 256) ∧ Rd W 1 v b.length (u8s b) := by
  have hw : ∀ x ∈ l, 0 ≤ x ∧ x ≤ 255 := by
    intro x hx
    obtain ⟨i, hi⟩ := List.mem_iff_getElem?.1 hx
    obtain ⟨xs, h1, h2⟩ := h.each hi
    exact bounds_u8 h2
  refine ⟨l.map Int.toNat, by simp, fun x hx => ?_, ?_⟩
  · obtain ⟨y, hy, rfl⟩ := List.mem_map.1 hx
    have := hw y hy; omega
  · have h1 := h.rd (fun n => .int .u8 n) (fun W xs a hg => hg.1) rfl
    have e : u8s (l.map Int.toNat) = l.map (fun n => Value.int .u8 n) := by
      unfold u8s
      rw [List.map_map]
      refine List.map_congr_left fun x hx => ?_
      have := hw x hx
      simp only [Function.comp]
      rw [Int.toNat_of_nonneg this.1]
    rw [e, List.length_map]
    exact h1
def shStruct2 {α0 : Type} {α1 : Type} (S0 : Shape P α0) (S1 : Shape P α1) (t : TypeId) {f0 f1 : Field} (ht : P.underlying t = some (.struct #[f0, f1])) (hc : P.cellsOf t = S0.size + S1.size) (e0 : f0.type = S0.t) (o0 : f0.offset = 0) (e1 : f1.type = S1.t) (o1 : f1.offset = S0.size) : Shape P (α0 × α1) where
  t := t
  size := S0.size + S1.size
  good := fun W cs a => ∃ c0 c1, cs = c0 ++ (c1) ∧ S0.good W c0 a.1 ∧ S1.good W c1 a.2
  sized := hc
  long := fun _ _ _ ⟨_, _, h, g0, g1⟩ => by
    rw [h]; simp only [List.length_append, S0.long _ _ _ g0, S1.long _ _ _ g1]; try omega
  opens := fun {H enc W fuel cs x} h => by
    obtain ⟨xs, n, _, _, hl, hxl, hf⟩ := DataW.trod_struct ht h
    rw [hc] at hl
    have h0 := hf 0 f0 rfl
    rw [e0, o0, S0.sized, List.getElem?_eq_getElem (by rw [hxl]; simp)] at h0
    obtain ⟨a0, g0⟩ := S0.opens h0
    have h1 := hf 1 f1 rfl
    rw [e1, o1, S1.sized, List.getElem?_eq_getElem (by rw [hxl]; simp)] at h1
    obtain ⟨a1, g1⟩ := S1.opens h1
    refine ⟨(a0, a1), _, _, ?_, g0, g1⟩
    have l1 : (cs.drop (S0.size)).take S1.size = cs.drop (S0.size) := List.take_of_length_le (by rw [List.length_drop]; omega)
    rw [l1]
    rw [show cs.drop (S0.size) = (cs.drop 0).drop S0.size by rw [List.drop_drop, Nat.zero_add], List.take_append_drop, List.drop_zero]
def shStruct3 {α0 : Type} {α1 : Type} {α2 : Type} (S0 : Shape P α0) (S1 : Shape P α1) (S2 : Shape P α2) (t : TypeId) {f0 f1 f2 : Field} (ht : P.underlying t = some (.struct #[f0, f1, f2])) (hc : P.cellsOf t = S0.size + S1.size + S2.size) (e0 : f0.type = S0.t) (o0 : f0.offset = 0) (e1 : f1.type = S1.t) (o1 : f1.offset = S0.size) (e2 : f2.type = S2.t) (o2 : f2.offset = S0.size + S1.size) : Shape P (α0 × α1 × α2) where
  t := t
  size := S0.size + S1.size + S2.size
  good := fun W cs a => ∃ c0 c1 c2, cs = c0 ++ (c1 ++ (c2)) ∧ S0.good W c0 a.1 ∧ S1.good W c1 a.2.1 ∧ S2.good W c2 a.2.2
  sized := hc
  long := fun _ _ _ ⟨_, _, _, h, g0, g1, g2⟩ => by
    rw [h]; simp only [List.length_append, S0.long _ _ _ g0, S1.long _ _ _ g1, S2.long _ _ _ g2]; try omega
  opens := fun {H enc W fuel cs x} h => by
    obtain ⟨xs, n, _, _, hl, hxl, hf⟩ := DataW.trod_struct ht h
    rw [hc] at hl
    have h0 := hf 0 f0 rfl
    rw [e0, o0, S0.sized, List.getElem?_eq_getElem (by rw [hxl]; simp)] at h0
    obtain ⟨a0, g0⟩ := S0.opens h0
    have h1 := hf 1 f1 rfl
    rw [e1, o1, S1.sized, List.getElem?_eq_getElem (by rw [hxl]; simp)] at h1
    obtain ⟨a1, g1⟩ := S1.opens h1
    have h2 := hf 2 f2 rfl
    rw [e2, o2, S2.sized, List.getElem?_eq_getElem (by rw [hxl]; simp)] at h2
    obtain ⟨a2, g2⟩ := S2.opens h2
    refine ⟨(a0, a1, a2), _, _, _, ?_, g0, g1, g2⟩
    have l2 : (cs.drop (S0.size + S1.size)).take S2.size = cs.drop (S0.size + S1.size) := List.take_of_length_le (by rw [List.length_drop]; omega)
    rw [l2]
    rw [show cs.drop (S0.size + S1.size) = (cs.drop (S0.size)).drop S1.size by rw [List.drop_drop], List.take_append_drop]
    rw [show cs.drop (S0.size) = (cs.drop 0).drop S0.size by rw [List.drop_drop, Nat.zero_add], List.take_append_drop, List.drop_zero]
def shStruct4 {α0 : Type} {α1 : Type} {α2 : Type} {α3 : Type} (S0 : Shape P α0) (S1 : Shape P α1) (S2 : Shape P α2) (S3 : Shape P α3) (t : TypeId) {f0 f1 f2 f3 : Field} (ht : P.underlying t = some (.struct #[f0, f1, f2, f3])) (hc : P.cellsOf t = S0.size + S1.size + S2.size + S3.size) (e0 : f0.type = S0.t) (o0 : f0.offset = 0) (e1 : f1.type = S1.t) (o1 : f1.offset = S0.size) (e2 : f2.type = S2.t) (o2 : f2.offset = S0.size + S1.size) (e3 : f3.type = S3.t) (o3 : f3.offset = S0.size + S1.size + S2.size) : Shape P (α0 × α1 × α2 × α3) where
  t := t
  size := S0.size + S1.size + S2.size + S3.size
  good := fun W cs a => ∃ c0 c1 c2 c3, cs = c0 ++ (c1 ++ (c2 ++ (c3))) ∧ S0.good W c0 a.1 ∧ S1.good W c1 a.2.1 ∧ S2.good W c2 a.2.2.1 ∧ S3.good W c3 a.2.2.2
  sized := hc
  long := fun _ _ _ ⟨_, _, _, _, h, g0, g1, g2, g3⟩ => by
    rw [h]; simp only [List.length_append, S0.long _ _ _ g0, S1.long _ _ _ g1, S2.long _ _ _ g2, S3.long _ _ _ g3]; try omega
  opens := fun {H enc W fuel cs x} h => by
    obtain ⟨xs, n, _, _, hl, hxl, hf⟩ := DataW.trod_struct ht h
    rw [hc] at hl
    have h0 := hf 0 f0 rfl
    rw [e0, o0, S0.sized, List.getElem?_eq_getElem (by rw [hxl]; simp)] at h0
    obtain ⟨a0, g0⟩ := S0.opens h0
    have h1 := hf 1 f1 rfl
    rw [e1, o1, S1.sized, List.getElem?_eq_getElem (by rw [hxl]; simp)] at h1
    obtain ⟨a1, g1⟩ := S1.opens h1
    have h2 := hf 2 f2 rfl
    rw [e2, o2, S2.sized, List.getElem?_eq_getElem (by rw [hxl]; simp)] at h2
    obtain ⟨a2, g2⟩ := S2.opens h2
    have h3 := hf 3 f3 rfl
    rw [e3, o3, S3.sized, List.getElem?_eq_getElem (by rw [hxl]; simp)] at h3
    obtain ⟨a3, g3⟩ := S3.opens h3
    refine ⟨(a0, a1, a2, a3), _, _, _, _, ?_, g0, g1, g2, g3⟩
    have l3 : (cs.drop (S0.size + S1.size + S2.size)).take S3.size = cs.drop (S0.size + S1.size + S2.size) := List.take_of_length_le (by rw [List.length_drop]; omega)
    rw [l3]
    rw [show cs.drop (S0.size + S1.size + S2.size) = (cs.drop (S0.size + S1.size)).drop S2.size by rw [List.drop_drop], List.take_append_drop]
    rw [show cs.drop (S0.size + S1.size) = (cs.drop (S0.size)).drop S1.size by rw [List.drop_drop], List.take_append_drop]
    rw [show cs.drop (S0.size) = (cs.drop 0).drop S0.size by rw [List.drop_drop, Nat.zero_add], List.take_append_drop, List.drop_zero]
def shStruct5 {α0 : Type} {α1 : Type} {α2 : Type} {α3 : Type} {α4 : Type} (S0 : Shape P α0) (S1 : Shape P α1) (S2 : Shape P α2) (S3 : Shape P α3) (S4 : Shape P α4) (t : TypeId) {f0 f1 f2 f3 f4 : Field} (ht : P.underlying t = some (.struct #[f0, f1, f2, f3, f4])) (hc : P.cellsOf t = S0.size + S1.size + S2.size + S3.size + S4.size) (e0 : f0.type = S0.t) (o0 : f0.offset = 0) (e1 : f1.type = S1.t) (o1 : f1.offset = S0.size) (e2 : f2.type = S2.t) (o2 : f2.offset = S0.size + S1.size) (e3 : f3.type = S3.t) (o3 : f3.offset = S0.size + S1.size + S2.size) (e4 : f4.type = S4.t) (o4 : f4.offset = S0.size + S1.size + S2.size + S3.size) : Shape P (α0 × α1 × α2 × α3 × α4) where
  t := t
  size := S0.size + S1.size + S2.size + S3.size + S4.size
  good := fun W cs a => ∃ c0 c1 c2 c3 c4, cs = c0 ++ (c1 ++ (c2 ++ (c3 ++ (c4)))) ∧ S0.good W c0 a.1 ∧ S1.good W c1 a.2.1 ∧ S2.good W c2 a.2.2.1 ∧ S3.good W c3 a.2.2.2.1 ∧ S4.good W c4 a.2.2.2.2
  sized := hc
  long := fun _ _ _ ⟨_, _, _, _, _, h, g0, g1, g2, g3, g4⟩ => by
    rw [h]; simp only [List.length_append, S0.long _ _ _ g0, S1.long _ _ _ g1, S2.long _ _ _ g2, S3.long _ _ _ g3, S4.long _ _ _ g4]; try omega
  opens := fun {H enc W fuel cs x} h => by
    obtain ⟨xs, n, _, _, hl, hxl, hf⟩ := DataW.trod_struct ht h
    rw [hc] at hl
    have h0 := hf 0 f0 rfl
    rw [e0, o0, S0.sized, List.getElem?_eq_getElem (by rw [hxl]; simp)] at h0
    obtain ⟨a0, g0⟩ := S0.opens h0
    have h1 := hf 1 f1 rfl
    rw [e1, o1, S1.sized, List.getElem?_eq_getElem (by rw [hxl]; simp)] at h1
    obtain ⟨a1, g1⟩ := S1.opens h1
    have h2 := hf 2 f2 rfl
    rw [e2, o2, S2.sized, List.getElem?_eq_getElem (by rw [hxl]; simp)] at h2
    obtain ⟨a2, g2⟩ := S2.opens h2
    have h3 := hf 3 f3 rfl
    rw [e3, o3, S3.sized, List.getElem?_eq_getElem (by rw [hxl]; simp)] at h3
    obtain ⟨a3, g3⟩ := S3.opens h3
    have h4 := hf 4 f4 rfl
    rw [e4, o4, S4.sized, List.getElem?_eq_getElem (by rw [hxl]; simp)] at h4
    obtain ⟨a4, g4⟩ := S4.opens h4
    refine ⟨(a0, a1, a2, a3, a4), _, _, _, _, _, ?_, g0, g1, g2, g3, g4⟩
    have l4 : (cs.drop (S0.size + S1.size + S2.size + S3.size)).take S4.size = cs.drop (S0.size + S1.size + S2.size + S3.size) := List.take_of_length_le (by rw [List.length_drop]; omega)
    rw [l4]
    rw [show cs.drop (S0.size + S1.size + S2.size + S3.size) = (cs.drop (S0.size + S1.size + S2.size)).drop S3.size by rw [List.drop_drop], List.take_append_drop]
    rw [show cs.drop (S0.size + S1.size + S2.size) = (cs.drop (S0.size + S1.size)).drop S2.size by rw [List.drop_drop], List.take_append_drop]
    rw [show cs.drop (S0.size + S1.size) = (cs.drop (S0.size)).drop S1.size by rw [List.drop_drop], List.take_append_drop]
    rw [show cs.drop (S0.size) = (cs.drop 0).drop S0.size by rw [List.drop_drop, Nat.zero_add], List.take_append_drop, List.drop_zero]
def shStruct6 {α0 : Type} {α1 : Type} {α2 : Type} {α3 : Type} {α4 : Type} {α5 : Type} (S0 : Shape P α0) (S1 : Shape P α1) (S2 : Shape P α2) (S3 : Shape P α3) (S4 : Shape P α4) (S5 : Shape P α5) (t : TypeId) {f0 f1 f2 f3 f4 f5 : Field} (ht : P.underlying t = some (.struct #[f0, f1, f2, f3, f4, f5])) (hc : P.cellsOf t = S0.size + S1.size + S2.size + S3.size + S4.size + S5.size) (e0 : f0.type = S0.t) (o0 : f0.offset = 0) (e1 : f1.type = S1.t) (o1 : f1.offset = S0.size) (e2 : f2.type = S2.t) (o2 : f2.offset = S0.size + S1.size) (e3 : f3.type = S3.t) (o3 : f3.offset = S0.size + S1.size + S2.size) (e4 : f4.type = S4.t) (o4 : f4.offset = S0.size + S1.size + S2.size + S3.size) (e5 : f5.type = S5.t) (o5 : f5.offset = S0.size + S1.size + S2.size + S3.size + S4.size) : Shape P (α0 × α1 × α2 × α3 × α4 × α5) where
  t := t
  size := S0.size + S1.size + S2.size + S3.size + S4.size + S5.size
  good := fun W cs a => ∃ c0 c1 c2 c3 c4 c5, cs = c0 ++ (c1 ++ (c2 ++ (c3 ++ (c4 ++ (c5))))) ∧ S0.good W c0 a.1 ∧ S1.good W c1 a.2.1 ∧ S2.good W c2 a.2.2.1 ∧ S3.good W c3 a.2.2.2.1 ∧ S4.good W c4 a.2.2.2.2.1 ∧ S5.good W c5 a.2.2.2.2.2
  sized := hc
  long := fun _ _ _ ⟨_, _, _, _, _, _, h, g0, g1, g2, g3, g4, g5⟩ => by
    rw [h]; simp only [List.length_append, S0.long _ _ _ g0, S1.long _ _ _ g1, S2.long _ _ _ g2, S3.long _ _ _ g3, S4.long _ _ _ g4, S5.long _ _ _ g5]; try omega
  opens := fun {H enc W fuel cs x} h => by
    obtain ⟨xs, n, _, _, hl, hxl, hf⟩ := DataW.trod_struct ht h
    rw [hc] at hl
    have h0 := hf 0 f0 rfl
    rw [e0, o0, S0.sized, List.getElem?_eq_getElem (by rw [hxl]; simp)] at h0
    obtain ⟨a0, g0⟩ := S0.opens h0
    have h1 := hf 1 f1 rfl
    rw [e1, o1, S1.sized, List.getElem?_eq_getElem (by rw [hxl]; simp)] at h1
    obtain ⟨a1, g1⟩ := S1.opens h1
    have h2 := hf 2 f2 rfl
    rw [e2, o2, S2.sized, List.getElem?_eq_getElem (by rw [hxl]; simp)] at h2
    obtain ⟨a2, g2⟩ := S2.opens h2
    have h3 := hf 3 f3 rfl
    rw [e3, o3, S3.sized, List.getElem?_eq_getElem (by rw [hxl]; simp)] at h3
    obtain ⟨a3, g3⟩ := S3.opens h3
    have h4 := hf 4 f4 rfl
    rw [e4, o4, S4.sized, List.getElem?_eq_getElem (by rw [hxl]; simp)] at h4
    obtain ⟨a4, g4⟩ := S4.opens h4
    have h5 := hf 5 f5 rfl
    rw [e5, o5, S5.sized, List.getElem?_eq_getElem (by rw [hxl]; simp)] at h5
    obtain ⟨a5, g5⟩ := S5.opens h5
    refine ⟨(a0, a1, a2, a3, a4, a5), _, _, _, _, _, _, ?_, g0, g1, g2, g3, g4, g5⟩
    have l5 : (cs.drop (S0.size + S1.size + S2.size + S3.size + S4.size)).take S5.size = cs.drop (S0.size + S1.size + S2.size + S3.size + S4.size) := List.take_of_length_le (by rw [List.length_drop]; omega)
    rw [l5]
    rw [show cs.drop (S0.size + S1.size + S2.size + S3.size + S4.size) = (cs.drop (S0.size + S1.size + S2.size + S3.size)).drop S4.size by rw [List.drop_drop], List.take_append_drop]
    rw [show cs.drop (S0.size + S1.size + S2.size + S3.size) = (cs.drop (S0.size + S1.size + S2.size)).drop S3.size by rw [List.drop_drop], List.take_append_drop]
    rw [show cs.drop (S0.size + S1.size + S2.size) = (cs.drop (S0.size + S1.size)).drop S2.size by rw [List.drop_drop], List.take_append_drop]
    rw [show cs.drop (S0.size + S1.size) = (cs.drop (S0.size)).drop S1.size by rw [List.drop_drop], List.take_append_drop]
    rw [show cs.drop (S0.size) = (cs.drop 0).drop S0.size by rw [List.drop_drop, Nat.zero_add], List.take_append_drop, List.drop_zero]
def shStruct7 {α0 : Type} {α1 : Type} {α2 : Type} {α3 : Type} {α4 : Type} {α5 : Type} {α6 : Type} (S0 : Shape P α0) (S1 : Shape P α1) (S2 : Shape P α2) (S3 : Shape P α3) (S4 : Shape P α4) (S5 : Shape P α5) (S6 : Shape P α6) (t : TypeId) {f0 f1 f2 f3 f4 f5 f6 : Field} (ht : P.underlying t = some (.struct #[f0, f1, f2, f3, f4, f5, f6])) (hc : P.cellsOf t = S0.size + S1.size + S2.size + S3.size + S4.size + S5.size + S6.size) (e0 : f0.type = S0.t) (o0 : f0.offset = 0) (e1 : f1.type = S1.t) (o1 : f1.offset = S0.size) (e2 : f2.type = S2.t) (o2 : f2.offset = S0.size + S1.size) (e3 : f3.type = S3.t) (o3 : f3.offset = S0.size + S1.size + S2.size) (e4 : f4.type = S4.t) (o4 : f4.offset = S0.size + S1.size + S2.size + S3.size) (e5 : f5.type = S5.t) (o5 : f5.offset = S0.size + S1.size + S2.size + S3.size + S4.size) (e6 : f6.type = S6.t) (o6 : f6.offset = S0.size + S1.size + S2.size + S3.size + S4.size + S5.size) : Shape P (α0 × α1 × α2 × α3 × α4 × α5 × α6) where
  t := t
  size := S0.size + S1.size + S2.size + S3.size + S4.size + S5.size + S6.size
  good := fun W cs a => ∃ c0 c1 c2 c3 c4 c5 c6, cs = c0 ++ (c1 ++ (c2 ++ (c3 ++ (c4 ++ (c5 ++ (c6)))))) ∧ S0.good W c0 a.1 ∧ S1.good W c1 a.2.1 ∧ S2.good W c2 a.2.2.1 ∧ S3.good W c3 a.2.2.2.1 ∧ S4.good W c4 a.2.2.2.2.1 ∧ S5.good W c5 a.2.2.2.2.2.1 ∧ S6.good W c6 a.2.2.2.2.2.2
  sized := hc
  long := fun _ _ _ ⟨_, _, _, _, _, _, _, h, g0, g1, g2, g3, g4, g5, g6⟩ => by
    rw [h]; simp only [List.length_append, S0.long _ _ _ g0, S1.long _ _ _ g1, S2.long _ _ _ g2, S3.long _ _ _ g3, S4.long _ _ _ g4, S5.long _ _ _ g5, S6.long _ _ _ g6]; try omega
  opens := fun {H enc W fuel cs x} h => by
    obtain ⟨xs, n, _, _, hl, hxl, hf⟩ := DataW.trod_struct ht h
    rw [hc] at hl
    have h0 := hf 0 f0 rfl
    rw [e0, o0, S0.sized, List.getElem?_eq_getElem (by rw [hxl]; simp)] at h0
    obtain ⟨a0, g0⟩ := S0.opens h0
    have h1 := hf 1 f1 rfl
    rw [e1, o1, S1.sized, List.getElem?_eq_getElem (by rw [hxl]; simp)] at h1
    obtain ⟨a1, g1⟩ := S1.opens h1
    have h2 := hf 2 f2 rfl
    rw [e2, o2, S2.sized, List.getElem?_eq_getElem (by rw [hxl]; simp)] at h2
    obtain ⟨a2, g2⟩ := S2.opens h2
    have h3 := hf 3 f3 rfl
    rw [e3, o3, S3.sized, List.getElem?_eq_getElem (by rw [hxl]; simp)] at h3
    obtain ⟨a3, g3⟩ := S3.opens h3
    have h4 := hf 4 f4 rfl
    rw [e4, o4, S4.sized, List.getElem?_eq_getElem (by rw [hxl]; simp)] at h4
    obtain ⟨a4, g4⟩ := S4.opens h4
    have h5 := hf 5 f5 rfl
    rw [e5, o5, S5.sized, List.getElem?_eq_getElem (by rw [hxl]; simp)] at h5
    obtain ⟨a5, g5⟩ := S5.opens h5
    have h6 := hf 6 f6 rfl
    rw [e6, o6, S6.sized, List.getElem?_eq_getElem (by rw [hxl]; simp)] at h6
    obtain ⟨a6, g6⟩ := S6.opens h6
    refine ⟨(a0, a1, a2, a3, a4, a5, a6), _, _, _, _, _, _, _, ?_, g0, g1, g2, g3, g4, g5, g6⟩
    have l6 : (cs.drop (S0.size + S1.size + S2.size + S3.size + S4.size + S5.size)).take S6.size = cs.drop (S0.size + S1.size + S2.size + S3.size + S4.size + S5.size) := List.take_of_length_le (by rw [List.length_drop]; omega)
    rw [l6]
    rw [show cs.drop (S0.size + S1.size + S2.size + S3.size + S4.size + S5.size) = (cs.drop (S0.size + S1.size + S2.size + S3.size + S4.size)).drop S5.size by rw [List.drop_drop], List.take_append_drop]
    rw [show cs.drop (S0.size + S1.size + S2.size + S3.size + S4.size) = (cs.drop (S0.size + S1.size + S2.size + S3.size)).drop S4.size by rw [List.drop_drop], List.take_append_drop]
    rw [show cs.drop (S0.size + S1.size + S2.size + S3.size) = (cs.drop (S0.size + S1.size + S2.size)).drop S3.size by rw [List.drop_drop], List.take_append_drop]
    rw [show cs.drop (S0.size + S1.size + S2.size) = (cs.drop (S0.size + S1.size)).drop S2.size by rw [List.drop_drop], List.take_append_drop]
    rw [show cs.drop (S0.size + S1.size) = (cs.drop (S0.size)).drop S1.size by rw [List.drop_drop], List.take_append_drop]
    rw [show cs.drop (S0.size) = (cs.drop 0).drop S0.size by rw [List.drop_drop, Nat.zero_add], List.take_append_drop, List.drop_zero]
end
end Go.Proofs.YthibpnkdhbkakaaGreatDoor
