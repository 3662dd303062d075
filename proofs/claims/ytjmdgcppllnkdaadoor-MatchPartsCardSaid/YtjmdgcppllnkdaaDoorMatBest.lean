/-
  The landed finder's best match at a place.
-/
import Derived.Test.YtjmdgcppllnkdaaDoorMatLearn
namespace Go.Proofs.YtjmdgcppllnkdaaDoor
open Go.RowKit

section
variable {w0 w : World} {Rs : List Thing} {tr en la at' cut B a P : Nat} {x : List Nat}
def tok0 (f : Nat × Nat) : List Value := [.int .u8 0, .int .i64 (f.1 : Int), .int .i64 (f.2 : Int)]
/-- bytes of a finder's list from one place to another -/
theorem restE {L i E : Nat} {x : List Nat} (hL : L = (x.drop cut).length) (hE : E = min (i + 258) L) : ((u8s (x.drop cut)).drop (i * 1)).take ((E - i) * 1) = u8s (restL 258 x (cut + i)) ∧ E - i = (restL 258 x (cut + i)).length := by
  have h2 : E - i = (restL 258 x (cut + i)).length := by rw [restL_length, hE, hL, List.length_drop]; omega
  refine ⟨?_, h2⟩
  rw [Nat.mul_one, Nat.mul_one, h2]
  simp only [u8s, ← List.map_drop, ← List.map_take, List.drop_drop]
  congr 1
  unfold restL
  rw [List.length_take]
  by_cases c : 258 ≤ (x.drop (cut + i)).length
  · rw [Nat.min_eq_left c]
  · rw [List.take_of_length_le (by omega), List.take_of_length_le (by omega)]
set_option maxHeartbeats 6400000 in
theorem best_any (H : Held w0 w (inF tr en la at' x cut P a B :: Rs)) (HI : InpOK x cut P a) (I : Nat) (hPI : P ≤ I) (hIx : I ≤ x.length) (hcw : cut = 0 ∨ cut + 32768 ≤ I) (hlen : x.length < 1000000000) (hb : ∀ b ∈ x, b < 256) (htr : tr < 1000000000) :
    Calls Tryd.prog 23 #[.pointer (some ⟨B, 0, none⟩), .int .i64 ((I - cut : Nat) : Int)] w fun e w' => e = .returned (.agg (tok0 (best 32768 258 x tr en I)).toArray) ∧ ∃ P' a', P' ≤ I ∧ InpOK x cut P' a' ∧ Held w0 w' (inF tr en la at' x cut P' a' B :: Rs) := by
  obtain ⟨i0, hi0, hz0, hz1, hz2⟩ := info_parts infoByteM
  obtain ⟨i, hi⟩ : ∃ i, i = I - cut := ⟨_, rfl⟩
  rw [← hi]
  have hcP := HI.cut_le
  have hiI : cut + i = I := by omega
  obtain ⟨lv, H⟩ := inF_V H
  obtain ⟨bv, m1, m2, HF⟩ := unV H
  obtain ⟨hB, hO, _, _, _⟩ := finAll HF
  obtain ⟨L, hL⟩ : ∃ L, L = (x.drop cut).length := ⟨_, rfl⟩
  have hLx : L = x.length - cut := by rw [hL, List.length_drop]
  have hiL : i ≤ L := by omega
  obtain ⟨q, hq⟩ : ∃ q, q = i + 258 := ⟨_, rfl⟩
  obtain ⟨E, hE⟩ : ∃ E, E = min (i + 258) L := ⟨_, rfl⟩
  have hEL : E ≤ L := by omega
  have hiE : i ≤ E := by omega
  have hqI : (i : Int) + 258 = (q : Int) := by omega
  have hif : (if L < q then (L : Int) else (q : Int)) = (E : Int) := by split <;> omega
  obtain ⟨hr1, hr2⟩ := restE (cut := cut) (x := x) hL hE
  rw [hiI] at hr1 hr2
  rw [← hL] at hO
  obtain ⟨lo, lcap, rfl, hlc, hlm⟩ := hO.form
  have c3 := hB.cell (i := 3) rfl
  obtain ⟨K, hK⟩ : ∃ K, K = E - i := ⟨_, rfl⟩
  have hcutE : ∀ wg, (Instr.sliceAt 22 (.slice lo L lcap) (some (.int .i64 (i : Int))) (some (.int .i64 (E : Int))) none).run Tryd.prog wg = .ok (.slice (if lcap = i then lo else lo.map fun (x : Addr) => x.add (i * 1)) (E - i) (lcap - i)) wg := fun wg =>
    run_cut (P := Tryd.prog) 22 5 i0 1 Tryd.underlying22 hi0 hz1 lo L lcap i E (some (.int .i64 (i : Int))) (some (.int .i64 (E : Int))) ⟨_, rfl⟩ ⟨_, rfl⟩ hiE (by omega)
  have hrd : ∀ w', Own w' 5 1 (.slice lo L lcap) L (u8s (x.drop cut)) → Rd w' 1 (.slice (if lcap = i then lo else lo.map fun (x : Addr) => x.add (i * 1)) (E - i) (lcap - i)) (E - i) (((u8s (x.drop cut)).drop (i * 1)).take ((E - i) * 1)) := fun w' h => by
    have hrd := h.rd.cut (L := i) (H := E) hiE hEL
    unfold sliced at hrd
    exact hrd
  generalize (if lcap = i then lo else lo.map fun (x : Addr) => x.add (i * 1)) = ro at hcutE hrd
  rw [hr1, ← hK] at hrd
  rw [← hK] at hcutE hr2
  have hKiL : K + i ≤ L := by omega
  have hLb : L < 1000000000 := by omega
  generalize lcap - i = rcap at hcutE hrd
  have HRd := hid hrd
  have HBB := hid hB
  have HK := hid hr2
  have HH := hid H
  have HIN := hid HI
  have HII := hid hiI
  have HPI := hid hPI
  have hqb : q < 1000001000 := by omega
  have hEb : E < 1000000000 := by omega
  have hK0 : (0 : Int) ≤ (K : Int) := Int.natCast_nonneg _
  have hLL := hid hL
  clear hi hrd hr1 hr2 H HI hB hO HF hL hLx hq hE hK hiI hPI hcP
  have hB2 : Held w0 ((w.alloc (.cells #[.int .u8 0, .int .i64 0, .int .i64 0] 32)).alloc (.cells #[.int .u8 0, .int .i64 0, .int .i64 0] 32)) (objT (w.heap.size + 1) (tok0 (0, 0)) 32 :: objT w.heap.size (tok0 (0, 0)) 32 :: inV tr en la at' x cut P a B (.slice lo L lcap) :: Rs) := by
    have h := (HH.out.newObj (tok0 (0, 0)) 32).newObj (tok0 (0, 0)) 32
    rw [show (w.alloc (.cells (tok0 (0, 0)).toArray 32)).heap.size = w.heap.size + 1 by simp] at h
    exact h
  have c3a : ((w.alloc (.cells #[.int .u8 0, .int .i64 0, .int .i64 0] 32)).alloc (.cells #[.int .u8 0, .int .i64 0, .int .i64 0] 32)).cell? ⟨B, 3, none⟩ = some (.slice lo L lcap) := ((HBB.out.alloc _).alloc _).cell (i := 3) rfl
  go_enter Tryd.func23, Tryd.ntmps23
  go_upto_region 2 with (fail)
  generalize (w.alloc (.cells #[.int .u8 0, .int .i64 0, .int .i64 0] 32)).alloc (.cells #[.int .u8 0, .int .i64 0, .int .i64 0] 32) = wA at hB2 c3a ⊢
  generalize w.heap.size = N at hB2 ⊢
  have HB2 := hid hB2
  clear hB2 HBB HH c3
  by_cases hK3 : K < 3
  · have hK3I : (K : Int) < 3 := by omega
    have HBE : Hid (best 32768 258 x tr en I = (0, 0)) := hid (by unfold best; rw [if_pos (by rw [← HK.out]; exact hK3)])
    have q0 := HB2.out.obj.cell (i := 0) rfl
    have q1 := HB2.out.obj.cell (i := 1) rfl
    have q2 := HB2.out.obj.cell (i := 2) rfl
    have e0 := HB2.out.drop.obj.frozen 0
    have e1 := HB2.out.drop.obj.frozen 1
    have e2 := HB2.out.drop.obj.frozen 2
    have k0 := HB2.out.drop.obj.cell (i := 0) rfl
    have k1 := HB2.out.drop.obj.cell (i := 1) rfl
    have k2 := HB2.out.drop.obj.cell (i := 2) rfl
    go_quiet (fail)
    go_wp2
    have H9 := (((HB2.out.drewN nq).swap.setObj 0 (.int .u8 0)).setObj 1 (.int .i64 0)).setObj 2 (.int .i64 0)
    refine ret_obj rfl _ 3 Tryd.underlying32 rfl infoTokM N (tok0 (0, 0)) 32 rfl rfl H9.obj rfl ⟨by rw [HBE.out], P, HPI.out, a, HIN.out, inV_F H9.drop.drop⟩
  · have hK3I : ¬ (K : Int) < 3 := by omega
    have hI3 : I + 3 ≤ x.length := by have := HK.out; rw [restL_length] at this; omega
    have HLn := hid (fun wz (h : Held w0 wz (inV tr en la at' x cut P a B (.slice lo L lcap) :: objT (N + 1) (tok0 (0, 0)) 32 :: objT N (tok0 (0, 0)) 32 :: Rs)) => learn_any h HIN.out I (by have := HII.out; omega) (.inr (by omega)) hlen hb)
    rw [show I - cut = i by have := HII.out; omega, Nat.max_eq_right HPI.out] at HLn
    go_quiet (fail)
    go_wp2_with fail
    refine (HLn.out _ (HB2.out.drewN nq).third).mono ?_
    rintro e w3 ⟨rfl, a1, hI1, h3⟩
    have HI1 := hid hI1
    have H3 := hid h3
    have HN := hid (nearest_any (n := I) (inV_F h3) (by have := HII.out; omega) hI3 hlen hI1.a_le hb)
    rw [show I - cut = i by have := HII.out; omega] at HN
    clear hI1 h3 HLn
    go_wp2_with fail
    refine HN.out.mono ?_
    rintro e w4 ⟨rfl, m4⟩
    have H4 := hid (H3.out.same m4)
    clear m4 HN H3 HB2
    have HBE : Hid (srch 32768 x I (restL 258 x I) en tr (near 32768 x I) (0, 0) = best 32768 258 x tr en I) := hid (by unfold best; rw [if_neg (by rw [← HK.out]; exact hK3)])
    obtain ⟨m, hm⟩ : ∃ m, m = min en K := ⟨_, rfl⟩
    have hif2 : (if K < en then (K : Int) else (en : Int)) = (m : Int) := by split <;> omega
    have hmK : m ≤ K := by omega
    have HM := hid hm
    have HCW := hid hcw
    have hIb : I < 1000000000 := by omega
    clear hm hif hcw hcutE
    go_wp2
    go_loopg [7, 8, 9] (tr + 2) (fun gg t7 t8 t9 wr => ∃ (d t f1 f2 : Nat), t ≤ tr ∧ tr + 1 - t < gg ∧ t7 = .int .i64 (d : Int) ∧ t8 = .int .i64 (t : Int) ∧ f1 ≤ K ∧ Hid (srch 32768 x I (restL 258 x I) en (tr - t) d (f1, f2) = best 32768 258 x tr en I) ∧
      Hid (0 < d → d ≤ 32768 ∧ d ≤ I ∧ at3 x (I - d) = at3 x I) ∧ Hid (Held w0 wr (inV tr en la at' x cut I a1 B (.slice lo L lcap) :: objT (N + 1) (tok0 (f1, f2)) 32 :: objT N (tok0 (0, 0)) 32 :: Rs)))
    case atStart => exact ⟨near 32768 x I, 0, 0, 0, by omega, by omega, rfl, rfl, by omega, HBE, hid (fun h => ⟨(near_le _ _ _).1, (near_le _ _ _).2, near_spec h⟩), H4⟩
    case round =>
      obtain ⟨d, t, f1, f2, ht, hg, rfl, rfl, hf1, HS, HD, HR⟩ := hrel
      have hd0 : (0 : Int) ≤ (d : Int) := Int.natCast_nonneg _
      have ht0 : (0 : Int) ≤ (t : Int) := Int.natCast_nonneg _
      have hf0 : (0 : Int) ≤ (f1 : Int) := Int.natCast_nonneg _
      obtain ⟨bv2, n1, n2, HF2⟩ := unV HR.out
      obtain ⟨hB, hO, _, _, _⟩ := finAll HF2
      rw [← hLL.out] at hO
      have HB := hid hB
      have HO := hid hO
      have c0 := hB.cell (i := 0) rfl
      have c1 := hB.cell (i := 1) rfl
      have g1 := HR.out.drop.obj.cell (i := 1) rfl
      clear hB hO HF2
      go_upto_region 8 with (fail)
      go_cut [63] (fun s63 wx => ∃ bq : Bool, s63 = .bool bq ∧ Hid (bq = decide (t < tr ∧ 0 < d ∧ f1 < m)) ∧ ∃ n, wx = wr.drewN n)
      case first =>
        by_cases h1 : t < tr
        · have h1I : (t : Int) < (tr : Int) := by omega
          have b1 : decide ((t : Int) < (tr : Int)) = true := decide_eq_true h1I
          have b1' : decide (t < tr) = true := decide_eq_true h1
          by_cases h2 : 0 < d
          · have h2I : (0 : Int) < (d : Int) := by omega
            have b2 : decide ((0 : Int) < (d : Int)) = true := decide_eq_true h2I
            have b2' : decide (0 < d) = true := decide_eq_true h2
            by_cases h3 : f1 < m
            · have h3I : (f1 : Int) < (m : Int) := by omega
              have b3 : decide ((f1 : Int) < (m : Int)) = true := decide_eq_true h3I
              have b3' : decide (f1 < m) = true := decide_eq_true h3
              go_quiet (fail)
              go_wp2
              go_meet
              case rel => exact ⟨true, rfl, hid (by simp [h1, h2, h3]), _, rfl⟩
            · have h3I : ¬ (f1 : Int) < (m : Int) := by omega
              have b3 : decide ((f1 : Int) < (m : Int)) = false := decide_eq_false h3I
              have b3' : decide (f1 < m) = false := decide_eq_false h3
              go_quiet (fail)
              go_wp2
              go_meet
              case rel => exact ⟨false, rfl, hid (by simp [h3]), _, rfl⟩
          · obtain rfl : d = 0 := by omega
            have h2I : ¬ (0 : Int) < ((0 : Nat) : Int) := by omega
            have b2 : decide ((0 : Int) < ((0 : Nat) : Int)) = false := decide_eq_false h2I
            go_quiet (fail)
            go_wp2
            go_meet
            case rel => exact ⟨false, rfl, hid (by simp), _, rfl⟩
        · obtain rfl : t = tr := by omega
          have h1I : ¬ (t : Int) < (t : Int) := by omega
          have b1 : decide ((t : Int) < (t : Int)) = false := decide_eq_false h1I
          have b1' : decide (t < t) = false := decide_eq_false h1
          go_quiet (fail)
          go_wp2
          go_meet
          case rel => exact ⟨false, rfl, hid (by simp), _, rfl⟩
      case rest =>
        obtain ⟨bq, rfl, hbq, nn, hwq⟩ := hcut
        have H5 := hid (HR.out.drewN nn)
        have HB5 := hid (HB.out.kept ((Mod.refl wr (fun _ => False)).drewN nn) (fun h => h))
        have HO5 := hid (HO.out.kept ((Mod.refl wr (fun _ => False)).drewN nn) (fun _ _ h => h))
        rw [← hwq] at H5 HB5 HO5
        clear hwq HB HO HR c0 c1 g1
        obtain ⟨wq, hqq⟩ : ∃ wq, wq = wc := ⟨_, rfl⟩
        subst hqq
        by_cases hc : t < tr ∧ 0 < d ∧ f1 < m
        · obtain rfl : bq = true := by rw [hbq.out]; exact decide_eq_true hc
          obtain ⟨ht2, hd2, hf2⟩ := hc
          obtain ⟨hdW, hdI, hat⟩ := HD.out hd2
          have hdi : d ≤ i := by have := HII.out; have := HCW.out; omega
          obtain ⟨s, hs⟩ : ∃ s, s = i - d := ⟨_, rfl⟩
          have hsI : (i : Int) - (d : Int) = (s : Int) := by omega
          have hsL : s ≤ L := by omega
          have hs0 : (0 : Int) ≤ (s : Int) := Int.natCast_nonneg _
          have hsx : cut + s = I - d := by have := HII.out; omega
          have hcutF : ∀ wg, (Instr.sliceAt 22 (.slice lo L lcap) (some (.int .i64 (s : Int))) none none).run Tryd.prog wg = .ok (.slice (if lcap = s then lo else lo.map fun (x : Addr) => x.add (s * 1)) (L - s) (lcap - s)) wg := fun wg =>
            run_cut (P := Tryd.prog) 22 5 i0 1 Tryd.underlying22 hi0 hz1 lo L lcap s L (some (.int .i64 (s : Int))) none ⟨_, rfl⟩ rfl hsL hlc
          have hrf := HO5.out.rd.cut (L := s) (H := L) hsL (Nat.le_refl _)
          have hre := HRd.out _ HO5.out
          unfold sliced at hrf
          generalize (if lcap = s then lo else lo.map fun (x : Addr) => x.add (s * 1)) = fo at hcutF hrf
          have e2 : ((u8s (x.drop cut)).drop (s * 1)).take ((L - s) * 1) = u8s (x.drop (I - d)) := by
            rw [Nat.mul_one, Nat.mul_one, List.take_of_length_le (by rw [List.length_drop, u8s_length, ← hLL.out]; omega)]
            simp only [u8s, ← List.map_drop, List.drop_drop]
            rw [hsx]
          rw [e2] at hrf
          obtain ⟨F, hF⟩ : ∃ F, F = L - s := ⟨_, rfl⟩
          rw [← hF] at hrf hcutF
          generalize lcap - s = fcap at hcutF hrf
          have hKF : K ≤ F := by omega
          have hFl : F = (x.drop (I - d)).length := by have := hrf.1; rw [u8s_length] at this; omega
          obtain ⟨va, hva⟩ : ∃ va, (x.drop (I - d))[f1]? = some va := ⟨(x.drop (I - d))[f1]'(by omega), List.getElem?_eq_getElem _⟩
          obtain ⟨vb, hvb⟩ : ∃ vb, (restL 258 x I)[f1]? = some vb := ⟨(restL 258 x I)[f1]'(by have := HK.out; omega), List.getElem?_eq_getElem _⟩
          have c3 := HB5.out.cell (i := 3) rfl
          have g1 := H5.out.drop.obj.cell (i := 1) rfl
          have HSM := hid (fun (wz : World) (h1 : Rd wz 1 (.slice fo F fcap) F (u8s (x.drop (I - d)))) (h2 : Rd wz 1 (.slice ro K rcap) K (u8s (restL 258 x I))) => sameM_any _ _ F K _ _ wz h1 h2 hKF (by omega))
          have HRF := hid hrf
          have HRE := hid hre
          obtain ⟨gf, of, rfl, cf⟩ := hrf.spot (by omega)
          obtain ⟨gr, or', rfl, cr⟩ := hre.spot (by omega)
          have cfa := cf f1 (.int .u8 (va : Int)) (by rw [u8s_get, hva]; rfl)
          have crb := cr f1 (.int .u8 (vb : Int)) (by rw [u8s_get, hvb]; rfl)
          have hfFI : (f1 : Int) < (F : Int) := by omega
          have hfKI : (f1 : Int) < (K : Int) := by omega
          have hFb : F < 1000000000 := by omega
          have HV := hid (And.intro hva hvb)
          have HAT := hid hat
          have HSX := hid hsx
          have HSS := hid hs
          clear cf cr hva hvb hrf hre e2 hF hFl hs hsx hat
          go_upto_region 11 with (fail)
          go_cut [85] (fun s85 wx => s85 = .bool (decide (va = vb)) ∧ ∃ n, wx = wq.drewN n)
          case first =>
            by_cases hv : va = vb
            · subst hv
              go_quiet (fail)
              go_wp2
              go_meet
              case rel => exact ⟨by simp, _, rfl⟩
            · have hv1 : ((va : Int) == (vb : Int)) = false := by simp; omega
              have hv2 : decide ((va : Int) = (vb : Int)) = false := by simp; omega
              have hv3 : decide (va = vb) = false := by simpa using hv
              have hv4 : (va == vb) = false := by simpa using hv
              go_quiet (fail)
              go_wp2
              go_meet
              case rel => exact ⟨by rw [hv3], _, rfl⟩
          case rest =>
            obtain ⟨rfl, n2, hw2⟩ := hcut
            have H6 := hid (H5.out.drewN n2)
            have HRF6 := hid (HRF.out.kept ((Mod.refl wq (fun _ => False)).drewN n2) (fun _ _ h => h))
            have HRE6 := hid (HRE.out.kept ((Mod.refl wq (fun _ => False)).drewN n2) (fun _ _ h => h))
            rw [← hw2] at H6 HRF6 HRE6
            clear hw2 c3 g1 cfa crb
            obtain ⟨wp, hpp⟩ : ∃ wp, wp = wc := ⟨_, rfl⟩
            subst hpp
            go_upto_if 85 with (fail)
            go_cut [7] (fun s7 wx => s7 = .int .i64 (d : Int) ∧ ∃ (e1 e2 : Nat), e1 ≤ K ∧ Hid ((e1, e2) = stepS x I (restL 258 x I) d (f1, f2)) ∧ Hid (Held w0 wx (objT (N + 1) (tok0 (e1, e2)) 32 :: inV tr en la at' x cut I a1 B (.slice lo L lcap) :: objT N (tok0 (0, 0)) 32 :: Rs)))
            case first =>
              by_cases hv : va = vb
              · subst hv
                have hbv : decide (va = va) = true := by simp
                have g0 := H6.out.drop.obj.cell (i := 0) rfl
                have g1 := H6.out.drop.obj.cell (i := 1) rfl
                have g2 := H6.out.drop.obj.cell (i := 2) rfl
                obtain ⟨S, hS⟩ : ∃ S, S = same (x.drop (I - d)) (restL 258 x I) := ⟨_, rfl⟩
                have hSK : S ≤ K := by rw [hS, HK.out]; exact (same_spec _ _).2.1
                obtain ⟨e1, e2, he, heK, hLG⟩ : ∃ e1 e2 : Nat, (e1, e2) = stepS x I (restL 258 x I) d (f1, f2) ∧ e1 ≤ K ∧ ∀ wz, Calls Tryd.prog 27 #[.agg #[.int .u8 0, .int .i64 (f1 : Int), .int .i64 (f2 : Int)], .agg #[.int .u8 0, .int .i64 (S : Int), .int .i64 (d : Int)]] wz fun e w' => e = .returned (.agg #[.int .u8 0, .int .i64 (e1 : Int), .int .i64 (e2 : Int)]) ∧ Mod wz w' (fun _ => False) := by
                  have hst : stepS x I (restL 258 x I) d (f1, f2) = if f1 < S then (S, d) else (f1, f2) := by
                    unfold stepS; rw [if_pos (by rw [HV.out.1, HV.out.2]), ← hS]
                  by_cases c : f1 < S
                  · exact ⟨S, d, by rw [hst, if_pos c], hSK, fun wz => by have h := longer_any 0 f1 f2 0 S d wz; rw [if_pos c] at h; exact h⟩
                  · exact ⟨f1, f2, by rw [hst, if_neg c], hf1, fun wz => by have h := longer_any 0 f1 f2 0 S d wz; rw [if_neg c] at h; exact h⟩
                have HLG := hid hLG
                have HSM2 : Hid (∀ k, Calls Tryd.prog 28 #[.slice (some ⟨gf, of, none⟩) F fcap, .slice (some ⟨gr, or', none⟩) K rcap] (wp.drewN k) fun e w' => e = .returned (.int .i64 (S : Int)) ∧ ∃ k, w' = wp.drewN k) := hid fun k => by
                  have h := HSM.out (wp.drewN k) (HRF6.out.kept ((Mod.refl wp (fun _ => False)).drewN k) (fun _ _ h => h)) (HRE6.out.kept ((Mod.refl wp (fun _ => False)).drewN k) (fun _ _ h => h))
                  rw [← hS] at h
                  exact h.mono fun e w' ⟨h1, n, h2⟩ => ⟨h1, k + n, by rw [h2, World.drewN_drewN]⟩
                have HE := hid he
                clear hLG he hS
                go_wp2
                go_region_law ((first
                  | (go_simp; go_at_call 28; refine (HSM2.out 1).mono ?_; rintro e w5 ⟨rfl, k5, rfl⟩)
                  | (go_simp; go_at_call 27; refine (HLG.out _).mono ?_; rintro e w6 ⟨rfl, m6⟩; have H7 := hid ((H6.out.drewN k5).swap.same m6); have n0 := H7.out.obj.cell (i := 0) rfl; have n1 := H7.out.obj.cell (i := 1) rfl; have n2 := H7.out.obj.cell (i := 2) rfl; have p0 := H7.out.obj.frozen 0; have p1 := H7.out.obj.frozen 1; have p2 := H7.out.obj.frozen 2; clear m6)))
                all_goals
                  go_wp2
                  go_meet
                  case rel => exact ⟨rfl, e1, e2, heK, HE, hid (((H7.out.setObj 0 _).setObj 1 _).setObj 2 _)⟩
              · have hbv : decide (va = vb) = false := by simpa using hv
                go_wp2
                go_meet
                case rel =>
                  refine ⟨rfl, f1, f2, hf1, hid ?_, hid H6.out.swap⟩
                  unfold stepS
                  rw [if_neg (by rw [HV.out.1, HV.out.2]; simpa using hv)]
            case rest =>
              obtain ⟨rfl, e1, e2, heK, HE, H8⟩ := hcut
              have hfr := farther_any (inV_F H8.out.swap) i d (near 32768 x (I - d)) hdi (by have := HII.out; omega) (by rw [backs_get x cut I (i - d) (by have := HII.out; omega), show cut + (i - d) = I - d by have := HII.out; omega]) (near_le _ _ _).1
              have HFR : Hid (Calls Tryd.prog 29 #[.pointer (some ⟨B, 3, none⟩), .int .i64 (i : Int), .int .i64 (d : Int)] wc fun e w' => e = .returned (.int .i64 ((far 32768 x I d : Nat) : Int)) ∧ w' = wc) := hfr
              have HS2 : Hid (srch 32768 x I (restL 258 x I) en (tr - (t + 1)) (far 32768 x I d) (e1, e2) = best 32768 258 x tr en I) := hid (by
                have h := HS.out
                rw [show tr - t = tr - (t + 1) + 1 by omega, srch, if_pos ⟨hd2, by rw [← HK.out, ← HM.out]; exact hf2⟩, ← HE.out] at h
                exact h)
              have HD2 : Hid (0 < far 32768 x I d → far 32768 x I d ≤ 32768 ∧ far 32768 x I d ≤ I ∧ at3 x (I - far 32768 x I d) = at3 x I) := hid fun h => by
                obtain ⟨k1, k2, k3⟩ := far_spec hdI HAT.out h
                exact ⟨k2, k1, k3⟩
              generalize far 32768 x I d = d3 at HFR HS2 HD2
              clear hfr
              go_wp2_with fail
              refine HFR.out.mono ?_
              rintro e w9 ⟨rfl, rfl⟩
              go_wp2
              go_roundg (gk - 1)
              case measure => omega
              case rel => exact ⟨d3, t + 1, e1, e2, by omega, by omega, rfl, by go_num, heK, HS2, HD2, hid H8.out.swap⟩
        · obtain rfl : bq = false := by rw [hbq.out]; exact decide_eq_false hc
          have HBE2 : Hid ((f1, f2) = best 32768 258 x tr en I) := hid (by
            have h := HS.out
            by_cases c : t < tr
            · rw [show tr - t = tr - (t + 1) + 1 by omega, srch, if_neg (fun h2 => hc ⟨c, h2.1, by have := h2.2; rw [← HK.out, ← HM.out] at this; exact this⟩)] at h
              exact h
            · rw [show tr - t = 0 by omega] at h
              exact h)
          have H6 := hid H5.out.swap
          have g0 := H6.out.obj.cell (i := 0) rfl
          have g1 := H6.out.obj.cell (i := 1) rfl
          have g2 := H6.out.obj.cell (i := 2) rfl
          have H7 := hid H5.out.third
          have e0 := H7.out.obj.frozen 0
          have e1 := H7.out.obj.frozen 1
          have e2 := H7.out.obj.frozen 2
          have k0 := H7.out.obj.cell (i := 0) rfl
          have k1 := H7.out.obj.cell (i := 1) rfl
          have k2 := H7.out.obj.cell (i := 2) rfl
          clear hc
          go_wp2
          have H9 := ((H7.out.setObj 0 (.int .u8 0)).setObj 1 (.int .i64 (f1 : Int))).setObj 2 (.int .i64 (f2 : Int))
          refine ret_obj rfl _ 3 Tryd.underlying32 rfl infoTokM N (tok0 (f1, f2)) 32 (by with_unfolding_all rfl) rfl H9.obj rfl ⟨by rw [← HBE2.out], I, Nat.le_refl _, a1, HI1.out, inV_F H9.drop.swap.drop⟩
end
end Go.Proofs.YtjmdgcppllnkdaaDoor
