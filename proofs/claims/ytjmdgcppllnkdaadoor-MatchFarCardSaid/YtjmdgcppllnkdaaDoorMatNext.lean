/-
  The landed finder's next token.
-/
import Derived.Test.YtjmdgcppllnkdaaDoorMatBest
import Derived.Test.YtjmdgcppllnkdaaDoorTokSound
namespace Go.Proofs.YtjmdgcppllnkdaaDoor
open Go.RowKit

theorem field_tok (a l d : Int) (w : World) : (Instr.field 32 (.agg #[.int .u8 a, .int .i64 l, .int .i64 d]) 1).run Tryd.prog w = .ok (.int .i64 l) w := by kernel_rfl
section
variable {w0 w : World} {Rs : List Thing} {tr en la cut B a P : Nat} {x : List Nat}
set_option maxHeartbeats 6400000 in
theorem nextM_any (A : Nat) (H : Held w0 w (inF tr en la (A - cut) x cut P a B :: Rs)) (HI : InpOK x cut P a) (hPA : P ≤ A) (hAx : A < x.length) (hcw : cut = 0 ∨ cut + 32768 ≤ A) (hlen : x.length < 1000000000) (hb : ∀ b ∈ x, b < 256) (htr : tr < 1000000000) :
    Calls Tryd.prog 21 #[.pointer (some ⟨B, 0, none⟩)] w fun e w' => e = .returned (tokV (nextT 32768 258 x tr en la A)) ∧ ∃ P' a', P' ≤ A + 1 ∧ InpOK x cut P' a' ∧ Held w0 w' (inF tr en la (A - cut) x cut P' a' B :: Rs) := by
  obtain ⟨i, hi⟩ : ∃ i, i = A - cut := ⟨_, rfl⟩
  have hcP := HI.cut_le
  have hiA : A = cut + i := by omega
  have hj1 : A + 1 - cut = i + 1 := by omega
  have HB1 := fun (wz : World) (Rz : List Thing) (h : Held w0 wz (inF tr en la (A - cut) x cut P a B :: Rz)) => best_any h HI A hPA (by omega) hcw hlen hb htr
  have HB2 := fun (wz : World) (Rz : List Thing) (P1 a1 : Nat) (h : Held w0 wz (inF tr en la (A - cut) x cut P1 a1 B :: Rz)) (h1 : InpOK x cut P1 a1) (h2 : P1 ≤ A) => best_any h h1 (A + 1) (by omega) (by omega) (by omega) hlen hb htr
  rw [← hi] at H HB1 HB2 ⊢
  obtain ⟨j, hj⟩ : ∃ j, j = i + 1 := ⟨_, rfl⟩
  have hjI : (i : Int) + 1 = (j : Int) := by omega
  have hjb : j < 1000000000 := by omega
  rw [hj1, ← hj] at HB2
  obtain ⟨lv, bv, m1, m2, HF⟩ := unFin H
  obtain ⟨hB, _, _, _, _⟩ := finAll HF
  obtain ⟨f1, f2, hf⟩ : ∃ f1 f2, best 32768 258 x tr en A = (f1, f2) := ⟨_, _, rfl⟩
  obtain ⟨s1, s2, hs⟩ : ∃ s1 s2, best 32768 258 x tr en (A + 1) = (s1, s2) := ⟨_, _, rfl⟩
  have hf1 : f1 ≤ 258 := by have := best_le (W := 32768) (L := 258) (tr := tr) (en := en) x A (by omega); rw [hf] at this; omega
  have hs1 : s1 ≤ 258 := by have := best_le (W := 32768) (L := 258) (tr := tr) (en := en) x (A + 1) (by omega); rw [hs] at this; omega
  rw [hf] at HB1
  rw [hs] at HB2
  have HNX : Hid (nextT 32768 258 x tr en la A = if f1 = 0 ∨ (f1 < la ∧ f1 < s1) then litT x A else (0, (f1 : Int), (f2 : Int))) := hid (by unfold nextT; rw [hf, hs])
  have HC1 : Hid (∀ (wz : World) (Rz : List Thing), Held w0 wz (inF tr en la i x cut P a B :: Rz) → Calls Tryd.prog 23 #[.pointer (some ⟨B, 0, none⟩), .int .i64 (i : Int)] wz fun e w' => e = .returned (.agg #[.int .u8 0, .int .i64 (f1 : Int), .int .i64 (f2 : Int)]) ∧ ∃ P' a', P' ≤ A ∧ InpOK x cut P' a' ∧ Held w0 w' (inF tr en la i x cut P' a' B :: Rz)) := HB1
  have HC2 : Hid (∀ (wz : World) (Rz : List Thing) (P1 a1 : Nat), Held w0 wz (inF tr en la i x cut P1 a1 B :: Rz) → InpOK x cut P1 a1 → P1 ≤ A → Calls Tryd.prog 23 #[.pointer (some ⟨B, 0, none⟩), .int .i64 (j : Int)] wz fun e w' => e = .returned (.agg #[.int .u8 0, .int .i64 (s1 : Int), .int .i64 (s2 : Int)]) ∧ ∃ P' a', P' ≤ A + 1 ∧ InpOK x cut P' a' ∧ Held w0 w' (inF tr en la i x cut P' a' B :: Rz)) := HB2
  have HH := hid H
  have HB0 := hid hB
  have HIA := hid hiA
  have hib : i < 1000000000 := by omega
  have hi0 : (0 : Int) ≤ (i : Int) := Int.natCast_nonneg _
  have hPAh := hid hPA
  have hAxh := hid hAx
  have h0 : Held w0 (w.alloc (.cells #[.int .u8 0, .int .i64 0, .int .i64 0] 32)) (inF tr en la i x cut P a B :: objT w.heap.size (tok0 (0, 0)) 32 :: Rs) := (HH.out.newObj (tok0 (0, 0)) 32).swap
  have c8 : (w.alloc (.cells #[.int .u8 0, .int .i64 0, .int .i64 0] 32)).cell? ⟨B, 8, none⟩ = some (.int .i64 (i : Int)) := (hB.alloc _).cell (i := 8) rfl
  have H0 := hid h0
  clear hj hf hs hi hcP hiA hj1 HB1 HB2 HF hB hPA hAx h0 HI hcw
  go_enter Tryd.func21, Tryd.ntmps21
  go_wp2_with fail
  generalize w.alloc (.cells #[.int .u8 0, .int .i64 0, .int .i64 0] 32) = wA at c8 H0 ⊢
  generalize w.heap.size = N at H0 ⊢
  refine (HC1.out _ _ H0.out).mono ?_
  rintro e w1 ⟨rfl, P1, a1, hP1, hI1, h1⟩
  have HI1 := hid hI1
  have h2 : Held w0 (w1.alloc (.cells #[.int .u8 0, .int .i64 (f1 : Int), .int .i64 (f2 : Int)] 32)) (objT w1.heap.size (tok0 (f1, f2)) 32 :: inF tr en la i x cut P1 a1 B :: objT N (tok0 (0, 0)) 32 :: Rs) := h1.newObj _ _
  have H2 := hid h2
  clear h1 h2 hI1 c8 H0 HC1
  go_upto_region 2 with (fail)
  generalize w1.alloc (.cells #[.int .u8 0, .int .i64 (f1 : Int), .int .i64 (f2 : Int)] 32) = wB at H2 ⊢
  generalize w1.heap.size = M at H2 ⊢
  have hf0 : (0 : Int) ≤ (f1 : Int) := Int.natCast_nonneg _
  have g1 := H2.out.obj.cell (i := 1) rfl
  obtain ⟨lv2, bv2, n1, n2, HF2⟩ := unFin H2.out.swap
  have hB2 := (finAll HF2).1
  have c2 := hB2.cell (i := 2) rfl
  have c8 := hB2.cell (i := 8) rfl
  clear HF2 hB2
  go_cut [35] (fun s35 wx => ∃ bq : Bool, s35 = .bool bq ∧ Hid (bq = decide (f1 = 0 ∨ (f1 < la ∧ f1 < s1))) ∧ ∃ P2 a2, P2 ≤ A + 1 ∧ Hid (InpOK x cut P2 a2) ∧ Hid (Held w0 wx (objT M (tok0 (f1, f2)) 32 :: inF tr en la i x cut P2 a2 B :: objT N (tok0 (0, 0)) 32 :: Rs)))
  case first =>
    by_cases hf : f1 = 0
    · subst hf
      have b0 : (((0 : Nat) : Int) == 0) = true := rfl
      go_quiet (fail)
      go_wp2
      go_meet
      case rel => exact ⟨true, rfl, hid (by simp), P1, a1, by omega, HI1, hid (H2.out.drewN _)⟩
    · have b0 : ((f1 : Int) == 0) = false := by simp; omega
      have b0' : decide ((f1 : Int) = 0) = false := by simp; omega
      by_cases hl : f1 < la
      · have b1 : decide ((f1 : Int) < (la : Int)) = true := decide_eq_true (by omega)
        have b1' : decide (f1 < la) = true := decide_eq_true hl
        obtain ⟨b2q, hb2q⟩ : ∃ b2q, b2q = decide (f1 < s1) := ⟨_, rfl⟩
        have b2 : decide ((f1 : Int) < (s1 : Int)) = b2q := by
          rw [hb2q]
          by_cases c : f1 < s1
          · rw [decide_eq_true c, decide_eq_true (by omega)]
          · rw [decide_eq_false c, decide_eq_false (by omega)]
        have b2' : decide (f1 < s1) = b2q := hb2q.symm
        have HQ : Hid (b2q = decide (f1 = 0 ∨ (f1 < la ∧ f1 < s1))) := hid (by rw [hb2q]; simp [hf, hl])
        clear hb2q
        have hfld := fun wg => field_tok 0 (s1 : Int) (s2 : Int) wg
        have hjw : IntKind.i64.wrap (j : Int) = (j : Int) := IntWalk.i64_in _ (by omega)
        go_region_held3 (fun w' => w'.cell? ⟨M, 1, none⟩ = some (.int .i64 (f1 : Int)) ∧ w'.cell? ⟨B, 8, none⟩ = some (.int .i64 (i : Int)) ∧ w'.cell? ⟨B, 2, none⟩ = some (.int .i64 (la : Int))) (first | exact ⟨k1, k8, k2⟩ | exact ⟨g1, c8, c2⟩) ((first
          | (go_at_call 23; refine (HC2.out _ _ P1 a1 H2.out.drew.swap HI1.out hP1).mono ?_; rintro e w5 ⟨rfl, P2, a2, hP2, hI2, h5⟩; have HI2 := hid hI2; have H5 := hid h5.swap; have k1 := H5.out.obj.cell (i := 1) rfl; obtain ⟨lv5, bv5, q1, q2, HF5⟩ := unFin h5; have k8 := (finAll HF5).1.cell (i := 8) rfl; have k2 := (finAll HF5).1.cell (i := 2) rfl; clear hI2 h5 HF5)))
        go_wp2
        go_meet
        case rel => exact ⟨b2q, rfl, HQ, P2, a2, hP2, HI2, H5⟩
      · have b1 : decide ((f1 : Int) < (la : Int)) = false := decide_eq_false (by omega)
        have b1' : decide (f1 < la) = false := decide_eq_false hl
        go_quiet (fail)
        go_wp2
        go_meet
        case rel => exact ⟨false, rfl, hid (by simp [hf, hl]), P1, a1, by omega, HI1, hid (H2.out.drewN _)⟩
  case rest =>
    obtain ⟨bq, rfl, hbq, P2, a2, hP2, HI2, H6⟩ := hcut
    have H7 := hid H6.out.third
    have e0 := H7.out.obj.frozen 0
    have e1 := H7.out.obj.frozen 1
    have e2 := H7.out.obj.frozen 2
    have k0 := H7.out.obj.cell (i := 0) rfl
    have k1 := H7.out.obj.cell (i := 1) rfl
    have k2 := H7.out.obj.cell (i := 2) rfl
    clear g1 c2 c8
    cases bq with
    | true =>
      have hc : f1 = 0 ∨ (f1 < la ∧ f1 < s1) := of_decide_eq_true hbq.out.symm
      have HNE : Hid (nextT 32768 258 x tr en la A = litT x A) := hid (by rw [HNX.out, if_pos hc])
      obtain ⟨lv6, bv6, q1, q2, HF6⟩ := unFin H6.out.swap
      obtain ⟨hB6, hO6, _, _, _⟩ := finAll HF6
      obtain ⟨L, hL⟩ : ∃ L, L = (x.drop cut).length := ⟨_, rfl⟩
      rw [← hL] at hO6
      have hiL : i < L := by have := HIA.out; have := hAxh.out; rw [hL, List.length_drop]; omega
      obtain ⟨lo, lcap, rfl, hlc, hlm⟩ := hO6.form
      have c3 := hB6.cell (i := 3) rfl
      have c8 := hB6.cell (i := 8) rfl
      obtain ⟨gl, off, rfl, hcell, _, _⟩ := hO6.site (by omega)
      obtain ⟨va, hva⟩ : ∃ va, x[A]? = some va := ⟨x[A]'hAxh.out, List.getElem?_eq_getElem _⟩
      have hd : (x.drop cut)[i]? = some va := by rw [List.getElem?_drop, ← HIA.out]; exact hva
      have cl := hcell i (.int .u8 (va : Int)) (by rw [u8s_get, hd]; rfl)
      have hiLI : (i : Int) < (L : Int) := by omega
      have HVA := hid (show litT x A = ((va : Int), 0, 0) by unfold litT; rw [hva]; rfl)
      clear hcell hd hva hO6 hB6 HF6 hL hc
      go_wp2
      go_region
      all_goals
        go_wp2
        have H9 := ((H7.out.drew.setObj 0 (.int .u8 (va : Int))).setObj 1 (.int .i64 0)).setObj 2 (.int .i64 0)
        refine ret_obj rfl _ 3 Tryd.underlying32 rfl infoTokM N [.int .u8 (va : Int), .int .i64 0, .int .i64 0] 32 rfl rfl H9.obj rfl ⟨by rw [HNE.out, HVA.out]; rfl, P2, a2, hP2, HI2.out, H9.drop.drop⟩
    | false =>
      have hc : ¬ (f1 = 0 ∨ (f1 < la ∧ f1 < s1)) := of_decide_eq_false hbq.out.symm
      have HNE : Hid (nextT 32768 258 x tr en la A = (0, (f1 : Int), (f2 : Int))) := hid (by rw [HNX.out, if_neg hc])
      have g0 := H6.out.obj.cell (i := 0) rfl
      have g1 := H6.out.obj.cell (i := 1) rfl
      have g2 := H6.out.obj.cell (i := 2) rfl
      clear hc
      go_wp2
      have H9 := ((H7.out.setObj 0 (.int .u8 0)).setObj 1 (.int .i64 (f1 : Int))).setObj 2 (.int .i64 (f2 : Int))
      refine ret_obj rfl _ 3 Tryd.underlying32 rfl infoTokM N (tok0 (f1, f2)) 32 rfl rfl H9.obj rfl ⟨by rw [HNE.out]; rfl, ?_⟩
      first | exact ⟨P2, a2, hP2, HI2.out, H9.drop.drop⟩ | exact ⟨P2, hP2, a2, HI2.out, H9.drop.drop⟩
end
end Go.Proofs.YtjmdgcppllnkdaaDoor
