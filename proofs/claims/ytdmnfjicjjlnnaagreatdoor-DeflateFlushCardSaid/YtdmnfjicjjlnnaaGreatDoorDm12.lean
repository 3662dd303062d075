/-
  The landed finder's best match at a place.
-/
import Derived.Test.YtdmnfjicjjlnnaaGreatDoorDm11
import Derived.Test.YtdmnfjicjjlnnaaGreatDoorDm03
import Derived.WalkSpells
namespace Go.Proofs.YtdmnfjicjjlnnaaGreatDoor
set_option maxRecDepth 5000
open Go.RowKit
section
variable {w0 w : World} {Rs : List Thing} {tr en la at' cut a P : Nat} {B : Place} {x : List Nat}
def tok0 (f : Nat × Nat) : List Value := [.int .u8 0, .int .i64 (f.1 : Int), .int .i64 (f.2 : Int)]
theorem restE {L i E : Nat} {x : List Nat} (hL : L = (x.drop cut).length) (hE : E = min (i + 258) L) : ((u8s (x.drop cut)).drop (i * 1)).take ((E - i) * 1) = u8s (restL 258 x (cut + i)) ∧ E - i = (restL 258 x (cut + i)).length := by
  have h2 : E - i = (restL 258 x (cut + i)).length := by rw [restL_length, hE, hL, List.length_drop]; omega
  refine ⟨?_, h2⟩
  rw [Nat.mul_one, Nat.mul_one, h2]
  simp only [u8s, ← List.map_drop, ← List.map_take, List.drop_drop]
  congr 1
  unfold restL
  rw [List.length_take]
  by_cases c : 258 ≤ (x.drop (cut + i)).length
  · rw [Nat.min_eq_left c]
  · rw [List.take_of_length_le (by omega), List.take_of_length_le (by omega)]
set_option maxHeartbeats 6400000 in
theorem best_any (H : Held w0 w (inF tr en la at' x cut P a B :: Rs)) (HI : InpOK x cut P a) (I : Nat) (hPI : P ≤ I) (hIx : I ≤ x.length) (hcw : cut = 0 ∨ cut + 32768 ≤ I) (hlen : x.length < 1000000000) (hb : ∀ b ∈ x, b < 256) (htr : tr < 1000000000) :
    Calls Tryz.prog 69 #[.pointer (some ⟨B.b, B.o, none⟩), .int .i64 ((I - cut : Nat) : Int)] w fun e w' => e = .returned (.agg (tok0 (best 32768 258 x tr en I)).toArray) ∧ ∃ P' a', P' ≤ I ∧ InpOK x cut P' a' ∧ Held w0 w' (inF tr en la at' x cut P' a' B :: Rs) := by
  obtain ⟨i0, hi0, hz0, hz1, hz2⟩ := info_parts infoByteM
  obtain ⟨i, hi⟩ : ∃ i, i = I - cut := ⟨_, rfl⟩
  rw [← hi]
  have hcP := HI.cut_le
  have hiI : cut + i = I := by omega
  obtain ⟨lv, H⟩ := inF_V H
  obtain ⟨bv, m1, m2, HF⟩ := unV H
  obtain ⟨hB, hO, _, _, _⟩ := finAll HF
  obtain ⟨L, hL⟩ : ∃ L, L = (x.drop cut).length := ⟨_, rfl⟩
  have hLx : L = x.length - cut := by rw [hL, List.length_drop]
  have hiL : i ≤ L := by omega
  obtain ⟨q, hq⟩ : ∃ q, q = i + 258 := ⟨_, rfl⟩
  obtain ⟨E, hE⟩ : ∃ E, E = min (i + 258) L := ⟨_, rfl⟩
  have hEL : E ≤ L := by omega
  have hiE : i ≤ E := by omega
  have hqI : (i : Int) + 258 = (q : Int) := by omega
  have hif : (if L < q then (L : Int) else (q : Int)) = (E : Int) := by split <;> omega
  obtain ⟨hr1, hr2⟩ := restE (cut := cut) (x := x) hL hE
  rw [hiI] at hr1 hr2
  rw [← hL] at hO
  obtain ⟨lo, lcap, rfl, hlc, hlm⟩ := hO.form
  have c3 := hB.cell (i := 3) rfl
  obtain ⟨K, hK⟩ : ∃ K, K = E - i := ⟨_, rfl⟩
  have hcutE : ∀ wg, (Instr.sliceAt 22 (.slice lo L lcap) (some (.int .i64 (i : Int))) (some (.int .i64 (E : Int))) none).run Tryz.prog wg = .ok (.slice (if lcap = i then lo else lo.map fun (x : Addr) => x.add (i * 1)) (E - i) (lcap - i)) wg := fun wg =>
    run_cut (P := Tryz.prog) 22 5 i0 1 Tryz.underlying22 hi0 hz1 lo L lcap i E (some (.int .i64 (i : Int))) (some (.int .i64 (E : Int))) ⟨_, rfl⟩ ⟨_, rfl⟩ hiE (by omega)
  have hrd : ∀ w', Own w' 5 1 (.slice lo L lcap) L (u8s (x.drop cut)) → Rd w' 1 (.slice (if lcap = i then lo else lo.map fun (x : Addr) => x.add (i * 1)) (E - i) (lcap - i)) (E - i) (((u8s (x.drop cut)).drop (i * 1)).take ((E - i) * 1)) := fun w' h => by
    have hrd := h.rd.cut (L := i) (H := E) hiE hEL
    unfold sliced at hrd
    exact hrd
  generalize (if lcap = i then lo else lo.map fun (x : Addr) => x.add (i * 1)) = ro at hcutE hrd
  rw [hr1, ← hK] at hrd
  rw [← hK] at hcutE hr2
  have hKiL : K + i ≤ L := by omega
  have hLb : L < 1000000000 := by omega
  generalize lcap - i = rcap at hcutE hrd
  have HRd := hid hrd
  have HBB := hid hB
  have HK := hid hr2
  have HH := hid H
  have HIN := hid HI
  have HII := hid hiI
  have HPI := hid hPI
  have hqb : q < 1000001000 := by omega
  have hEb : E < 1000000000 := by omega
  have hK0 : (0 : Int) ≤ (K : Int) := Int.natCast_nonneg _
  have hLL := hid hL
  clear hi hrd hr1 hr2 H HI hB hO HF hL hLx hq hE hK hiI hPI hcP
  have hB2 : Held w0 ((w.alloc (.cells #[.int .u8 0, .int .i64 0, .int .i64 0] 80)).alloc (.cells #[.int .u8 0, .int .i64 0, .int .i64 0] 80)) (objT (w.heap.size + 1) (tok0 (0, 0)) 80 :: objT w.heap.size (tok0 (0, 0)) 80 :: inV tr en la at' x cut P a B (.slice lo L lcap) :: Rs) := by
    have h := (HH.out.newObj (tok0 (0, 0)) 80).newObj (tok0 (0, 0)) 80
    rw [show (w.alloc (.cells (tok0 (0, 0)).toArray 80)).heap.size = w.heap.size + 1 by simp] at h
    exact h
  have c3a : ((w.alloc (.cells #[.int .u8 0, .int .i64 0, .int .i64 0] 80)).alloc (.cells #[.int .u8 0, .int .i64 0, .int .i64 0] 80)).cell? ⟨B.b, B.o + 3, none⟩ = some (.slice lo L lcap) := ((HBB.out.alloc _).alloc _).cell (i := 3) rfl
  go_enter Tryz.func69, Tryz.ntmps69
  go_upto_region 2 with (fail)
  generalize (w.alloc (.cells #[.int .u8 0, .int .i64 0, .int .i64 0] 80)).alloc (.cells #[.int .u8 0, .int .i64 0, .int .i64 0] 80) = wA at hB2 c3a ⊢
  generalize w.heap.size = N at hB2 ⊢
  have HB2 := hid hB2
  clear hB2 HBB HH c3
  by_cases hK3 : K < 3
  · have hK3I : (K : Int) < 3 := by omega
    have HBE : Hid (best 32768 258 x tr en I = (0, 0)) := hid (by unfold best; rw [if_pos (by rw [← HK.out]; exact hK3)])
    have q0 := HB2.out.obj.cell0 rfl
    have q1 := HB2.out.obj.cell (i := 1) rfl
    have q2 := HB2.out.obj.cell (i := 2) rfl
    have e0 := HB2.out.drop.obj.frozen0
    have e1 := HB2.out.drop.obj.frozen 1
    have e2 := HB2.out.drop.obj.frozen 2
    have k0 := HB2.out.drop.obj.cell0 rfl
    have k1 := HB2.out.drop.obj.cell (i := 1) rfl
    have k2 := HB2.out.drop.obj.cell (i := 2) rfl
    go_quiet (fail)
    go_wp2
    have H9 := (((HB2.out.drewN nq).swap.setObj 0 (.int .u8 0)).setObj 1 (.int .i64 0)).setObj 2 (.int .i64 0)
    refine ret_obj rfl _ 3 Tryz.underlying80 rfl infoTokM N (tok0 (0, 0)) 80 rfl rfl H9.obj rfl ⟨by rw [HBE.out], P, HPI.out, a, HIN.out, inV_F H9.drop.drop⟩
  · have hK3I : ¬ (K : Int) < 3 := by omega
    have hI3 : I + 3 ≤ x.length := by have := HK.out; rw [restL_length] at this; omega
    have HLn := hid (fun wz (h : Held w0 wz (inV tr en la at' x cut P a B (.slice lo L lcap) :: objT (N + 1) (tok0 (0, 0)) 80 :: objT N (tok0 (0, 0)) 80 :: Rs)) => learn_any h HIN.out I (by have := HII.out; omega) (.inr (by omega)) hlen hb)
    rw [show I - cut = i by have := HII.out; omega, Nat.max_eq_right HPI.out] at HLn
    go_quiet (fail)
    go_wp2_with fail
    refine (HLn.out _ (HB2.out.drewN nq).third).mono ?_
    rintro e w3 ⟨rfl, a1, hI1, h3⟩
    have HI1 := hid hI1
    have H3 := hid h3
    have HN := hid (nearest_any (n := I) (inV_F h3) (by have := HII.out; omega) hI3 hlen hI1.a_le hb)
    rw [show I - cut = i by have := HII.out; omega] at HN
    clear hI1 h3 HLn
    go_wp2_with fail
    refine HN.out.mono ?_
    rintro e w4 ⟨rfl, m4⟩
    have H4 := hid (H3.out.same m4)
    clear m4 HN H3 HB2
    have HBE : Hid (srch 32768 x I (restL 258 x I) en tr (near 32768 x I) (0, 0) = best 32768 258 x tr en I) := hid (by unfold best; rw [if_neg (by rw [← HK.out]; exact hK3)])
    obtain ⟨m, hm⟩ : ∃ m, m = min en K := ⟨_, rfl⟩
    have hif2 : (if K < en then (K : Int) else (en : Int)) = (m : Int) := by split <;> omega
    have hmK : m ≤ K := by omega
    have HM := hid hm
    have HCW := hid hcw
    have hIb : I < 1000000000 := by omega
    clear hm hif hcw hcutE
    go_wp2
    go_loopg [7, 8, 9] (tr + 2) (fun gg t7 t8 t9 wr => ∃ (d t f1 f2 : Nat), t ≤ tr ∧ tr + 1 - t < gg ∧ t7 = .int .i64 (d : Int) ∧ t8 = .int .i64 (t : Int) ∧ f1 ≤ K ∧ Hid (srch 32768 x I (restL 258 x I) en (tr - t) d (f1, f2) = best 32768 258 x tr en I) ∧
      Hid (0 < d → d ≤ 32768 ∧ d ≤ I ∧ at3 x (I - d) = at3 x I) ∧ Hid (Held w0 wr (inV tr en la at' x cut I a1 B (.slice lo L lcap) :: objT (N + 1) (tok0 (f1, f2)) 80 :: objT N (tok0 (0, 0)) 80 :: Rs)))
    case atStart => exact ⟨near 32768 x I, 0, 0, 0, by omega, by omega, rfl, rfl, by omega, HBE, hid (fun h => ⟨(near_le _ _ _).1, (near_le _ _ _).2, near_spec h⟩), H4⟩
    case round =>
      obtain ⟨d, t, f1, f2, ht, hg, rfl, rfl, hf1, HS, HD, HR⟩ := hrel
      have hd0 : (0 : Int) ≤ (d : Int) := Int.natCast_nonneg _
      have ht0 : (0 : Int) ≤ (t : Int) := Int.natCast_nonneg _
      have hf0 : (0 : Int) ≤ (f1 : Int) := Int.natCast_nonneg _
      obtain ⟨bv2, n1, n2, HF2⟩ := unV HR.out
      obtain ⟨hB, hO, _, _, _⟩ := finAll HF2
      rw [← hLL.out] at hO
      have HB := hid hB
      have HO := hid hO
      have c0 := hB.cell0 rfl
      have c1 := hB.cell (i := 1) rfl
      have g1 := HR.out.drop.obj.cell (i := 1) rfl
      clear hB hO HF2
      go_upto_region 8 with (fail)
      go_cut [63] (fun s63 wx => ∃ bq : Bool, s63 = .bool bq ∧ Hid (bq = decide (t < tr ∧ 0 < d ∧ f1 < m)) ∧ ∃ n, wx = wr.drewN n)
      case first =>
        by_cases h1 : t < tr
        · have h1I : (t : Int) < (tr : Int) := by omega
          have b1 : decide ((t : Int) < (tr : Int)) = true := decide_eq_true h1I
          have b1' : decide (t < tr) = true := decide_eq_true h1
          by_cases h2 : 0 < d
          · have h2I : (0 : Int) < (d : Int) := by omega
            have b2 : decide ((0 : Int) < (d : Int)) = true := decide_eq_true h2I
            have b2' : decide (0 < d) = true := decide_eq_true h2
            by_cases h3 : f1 < m
            · have h3I : (f1 : Int) < (m : Int) := by omega
              have b3 : decide ((f1 : Int) < (m : Int)) = true := decide_eq_true h3I
              have b3' : decide (f1 < m) = true := decide_eq_true h3
              go_quiet (fail)
              go_wp2
              go_meet
              case rel => exact ⟨true, rfl, hid (by simp [h1, h2, h3]), _, rfl⟩
            · have h3I : ¬ (f1 : Int) < (m : Int) := by omega
              have b3 : decide ((f1 : Int) < (m : Int)) = false := decide_eq_false h3I
              have b3' : decide (f1 < m) = false := decide_eq_false h3
              go_quiet (fail)
              go_wp2
              go_meet
              case rel => exact ⟨false, rfl, hid (by simp [h3]), _, rfl⟩
          · obtain rfl : d = 0 := by omega
            have h2I : ¬ (0 : Int) < ((0 : Nat) : Int) := by omega
            have b2 : decide ((0 : Int) < ((0 : Nat) : Int)) = false := decide_eq_false h2I
            go_quiet (fail)
            go_wp2
            go_meet
            case rel => exact ⟨false, rfl, hid (by simp), _, rfl⟩
        · obtain rfl : t = tr := by omega
          have h1I : ¬ (t : Int) < (t : Int) := by omega
          have b1 : decide ((t : Int) < (t : Int)) = false := decide_eq_false h1I
          have b1' : decide (t < t) = false := decide_eq_false h1
          go_quiet (fail)
          go_wp2
          go_meet
          case rel => exact ⟨false, rfl, hid (by simp), _, rfl⟩
      case rest =>
        obtain ⟨bq, rfl, hbq, nn, hwq⟩ := hcut
        have H5 := hid (HR.out.drewN nn)
        have HB5 := hid (HB.out.kept ((Mod.refl wr (fun _ => False)).drewN nn) (fun h => h))
        have HO5 := hid (HO.out.kept ((Mod.refl wr (fun _ => False)).drewN nn) (fun _ _ h => h))
        rw [← hwq] at H5 HB5 HO5
        clear hwq HB HO HR c0 c1 g1
        obtain ⟨wq, hqq⟩ : ∃ wq, wq = wc := ⟨_, rfl⟩
        subst hqq
        by_cases hc : t < tr ∧ 0 < d ∧ f1 < m
        · obtain rfl : bq = true := by rw [hbq.out]; exact decide_eq_true hc
          obtain ⟨ht2, hd2, hf2⟩ := hc
          obtain ⟨hdW, hdI, hat⟩ := HD.out hd2
          have hdi : d ≤ i := by have := HII.out; have := HCW.out; omega
          obtain ⟨s, hs⟩ : ∃ s, s = i - d := ⟨_, rfl⟩
          have hsI : (i : Int) - (d : Int) = (s : Int) := by omega
          have hsL : s ≤ L := by omega
          have hs0 : (0 : Int) ≤ (s : Int) := Int.natCast_nonneg _
          have hsx : cut + s = I - d := by have := HII.out; omega
          have hcutF : ∀ wg, (Instr.sliceAt 22 (.slice lo L lcap) (some (.int .i64 (s : Int))) none none).run Tryz.prog wg = .ok (.slice (if lcap = s then lo else lo.map fun (x : Addr) => x.add (s * 1)) (L - s) (lcap - s)) wg := fun wg =>
            run_cut (P := Tryz.prog) 22 5 i0 1 Tryz.underlying22 hi0 hz1 lo L lcap s L (some (.int .i64 (s : Int))) none ⟨_, rfl⟩ rfl hsL hlc
          have hrf := HO5.out.rd.cut (L := s) (H := L) hsL (Nat.le_refl _)
          have hre := HRd.out _ HO5.out
          unfold sliced at hrf
          generalize (if lcap = s then lo else lo.map fun (x : Addr) => x.add (s * 1)) = fo at hcutF hrf
          have e2 : ((u8s (x.drop cut)).drop (s * 1)).take ((L - s) * 1) = u8s (x.drop (I - d)) := by
            rw [Nat.mul_one, Nat.mul_one, List.take_of_length_le (by rw [List.length_drop, u8s_length, ← hLL.out]; omega)]
            simp only [u8s, ← List.map_drop, List.drop_drop]
            rw [hsx]
          rw [e2] at hrf
          obtain ⟨F, hF⟩ : ∃ F, F = L - s := ⟨_, rfl⟩
          rw [← hF] at hrf hcutF
          generalize lcap - s = fcap at hcutF hrf
          have hKF : K ≤ F := by omega
          have hFl : F = (x.drop (I - d)).length := by have := hrf.1; rw [u8s_length] at this; omega
          obtain ⟨va, hva⟩ : ∃ va, (x.drop (I - d))[f1]? = some va := ⟨(x.drop (I - d))[f1]'(by omega), List.getElem?_eq_getElem _⟩
          obtain ⟨vb, hvb⟩ : ∃ vb, (restL 258 x I)[f1]? = some vb := ⟨(restL 258 x I)[f1]'(by have := HK.out; omega), List.getElem?_eq_getElem _⟩
          have c3 := HB5.out.cell (i := 3) rfl
          have g1 := H5.out.drop.obj.cell (i := 1) rfl
          have HSM := hid (fun (wz : World) (h1 : Rd wz 1 (.slice fo F fcap) F (u8s (x.drop (I - d)))) (h2 : Rd wz 1 (.slice ro K rcap) K (u8s (restL 258 x I))) => sameM_any _ _ F K _ _ wz h1 h2 hKF (by omega))
          have HRF := hid hrf
          have HRE := hid hre
          obtain ⟨gf, of, rfl, cf⟩ := hrf.spot (by omega)
          obtain ⟨gr, or', rfl, cr⟩ := hre.spot (by omega)
          have cfa := cf f1 (.int .u8 (va : Int)) (by rw [u8s_get, hva]; rfl)
          have crb := cr f1 (.int .u8 (vb : Int)) (by rw [u8s_get, hvb]; rfl)
          have hfFI : (f1 : Int) < (F : Int) := by omega
          have hfKI : (f1 : Int) < (K : Int) := by omega
          have hFb : F < 1000000000 := by omega
          have HV := hid (And.intro hva hvb)
          have HAT := hid hat
          have HSX := hid hsx
          have HSS := hid hs
          clear cf cr hva hvb hrf hre e2 hF hFl hs hsx hat
          go_upto_region 11 with (fail)
          go_cut [85] (fun s85 wx => s85 = .bool (decide (va = vb)) ∧ ∃ n, wx = wq.drewN n)
          case first =>
            by_cases hv : va = vb
            · subst hv
              go_quiet (fail)
              go_wp2
              go_meet
              case rel => exact ⟨by simp, _, rfl⟩
            · have hv1 : ((va : Int) == (vb : Int)) = false := by simp; omega
              have hv2 : decide ((va : Int) = (vb : Int)) = false := by simp; omega
              have hv3 : decide (va = vb) = false := by simpa using hv
              have hv4 : (va == vb) = false := by simpa using hv
              go_quiet (fail)
              go_wp2
              go_meet
              case rel => exact ⟨by rw [hv3], _, rfl⟩
          case rest =>
            obtain ⟨rfl, n2, hw2⟩ := hcut
            have H6 := hid (H5.out.drewN n2)
            have HRF6 := hid (HRF.out.kept ((Mod.refl wq (fun _ => False)).drewN n2) (fun _ _ h => h))
            have HRE6 := hid (HRE.out.kept ((Mod.refl wq (fun _ => False)).drewN n2) (fun _ _ h => h))
            rw [← hw2] at H6 HRF6 HRE6
            clear hw2 c3 g1 cfa crb
            obtain ⟨wp, hpp⟩ : ∃ wp, wp = wc := ⟨_, rfl⟩
            subst hpp
            go_upto_if 85 with (fail)
            go_cut [7] (fun s7 wx => s7 = .int .i64 (d : Int) ∧ ∃ (e1 e2 : Nat), e1 ≤ K ∧ Hid ((e1, e2) = stepS x I (restL 258 x I) d (f1, f2)) ∧ Hid (Held w0 wx (objT (N + 1) (tok0 (e1, e2)) 80 :: inV tr en la at' x cut I a1 B (.slice lo L lcap) :: objT N (tok0 (0, 0)) 80 :: Rs)))
            case first =>
              by_cases hv : va = vb
              · subst hv
                have hbv : decide (va = va) = true := by simp
                have g0 := H6.out.drop.obj.cell0 rfl
                have g1 := H6.out.drop.obj.cell (i := 1) rfl
                have g2 := H6.out.drop.obj.cell (i := 2) rfl
                obtain ⟨S, hS⟩ : ∃ S, S = same (x.drop (I - d)) (restL 258 x I) := ⟨_, rfl⟩
                have hSK : S ≤ K := by rw [hS, HK.out]; exact (same_spec _ _).2.1
                obtain ⟨e1, e2, he, heK, hLG⟩ : ∃ e1 e2 : Nat, (e1, e2) = stepS x I (restL 258 x I) d (f1, f2) ∧ e1 ≤ K ∧ ∀ wz, Calls Tryz.prog 89 #[.agg #[.int .u8 0, .int .i64 (f1 : Int), .int .i64 (f2 : Int)], .agg #[.int .u8 0, .int .i64 (S : Int), .int .i64 (d : Int)]] wz fun e w' => e = .returned (.agg #[.int .u8 0, .int .i64 (e1 : Int), .int .i64 (e2 : Int)]) ∧ Mod wz w' (fun _ => False) := by
                  have hst : stepS x I (restL 258 x I) d (f1, f2) = if f1 < S then (S, d) else (f1, f2) := by
                    unfold stepS; rw [if_pos (by rw [HV.out.1, HV.out.2]), ← hS]
                  by_cases c : f1 < S
                  · exact ⟨S, d, by rw [hst, if_pos c], hSK, fun wz => by have h := longer_any 0 f1 f2 0 S d wz; rw [if_pos c] at h; exact h⟩
                  · exact ⟨f1, f2, by rw [hst, if_neg c], hf1, fun wz => by have h := longer_any 0 f1 f2 0 S d wz; rw [if_neg c] at h; exact h⟩
                have HLG := hid hLG
                have HSM2 : Hid (∀ k, Calls Tryz.prog 90 #[.slice (some ⟨gf, of, none⟩) F fcap, .slice (some ⟨gr, or', none⟩) K rcap] (wp.drewN k) fun e w' => e = .returned (.int .i64 (S : Int)) ∧ ∃ k, w' = wp.drewN k) := hid fun k => by
                  have h := HSM.out (wp.drewN k) (HRF6.out.kept ((Mod.refl wp (fun _ => False)).drewN k) (fun _ _ h => h)) (HRE6.out.kept ((Mod.refl wp (fun _ => False)).drewN k) (fun _ _ h => h))
                  rw [← hS] at h
                  exact h.mono fun e w' ⟨h1, n, h2⟩ => ⟨h1, k + n, by rw [h2, World.drewN_drewN]⟩
                have HE := hid he
                clear hLG he hS
                go_wp2
                go_region_law ((first
                  | (go_simp; go_at_call 90; refine (HSM2.out 1).mono ?_; rintro e w5 ⟨rfl, k5, rfl⟩)
                  | (go_simp; go_at_call 89; refine (HLG.out _).mono ?_; rintro e w6 ⟨rfl, m6⟩; have H7 := hid ((H6.out.drewN k5).swap.same m6); have n0 := H7.out.obj.cell0 rfl; have n1 := H7.out.obj.cell (i := 1) rfl; have n2 := H7.out.obj.cell (i := 2) rfl; have p0 := H7.out.obj.frozen0; have p1 := H7.out.obj.frozen 1; have p2 := H7.out.obj.frozen 2; clear m6)))
                all_goals
                  go_wp2
                  go_meet
                  case rel => exact ⟨rfl, e1, e2, heK, HE, hid (((H7.out.setObj 0 _).setObj 1 _).setObj 2 _)⟩
              · have hbv : decide (va = vb) = false := by simpa using hv
                go_wp2
                go_meet
                case rel =>
                  refine ⟨rfl, f1, f2, hf1, hid ?_, hid H6.out.swap⟩
                  unfold stepS
                  rw [if_neg (by rw [HV.out.1, HV.out.2]; simpa using hv)]
            case rest =>
              obtain ⟨rfl, e1, e2, heK, HE, H8⟩ := hcut
              have hfr := farther_any (inV_F H8.out.swap) i d (near 32768 x (I - d)) hdi (by have := HII.out; omega) (by rw [backs_get x cut I (i - d) (by have := HII.out; omega), show cut + (i - d) = I - d by have := HII.out; omega]) (near_le _ _ _).1
              have HFR : Hid (Calls Tryz.prog 91 #[.pointer (some ⟨B.b, B.o + 3, none⟩), .int .i64 (i : Int), .int .i64 (d : Int)] wc fun e w' => e = .returned (.int .i64 ((far 32768 x I d : Nat) : Int)) ∧ w' = wc) := hfr
              have HS2 : Hid (srch 32768 x I (restL 258 x I) en (tr - (t + 1)) (far 32768 x I d) (e1, e2) = best 32768 258 x tr en I) := hid (by
                have h := HS.out
                rw [show tr - t = tr - (t + 1) + 1 by omega, srch, if_pos ⟨hd2, by rw [← HK.out, ← HM.out]; exact hf2⟩, ← HE.out] at h
                exact h)
              have HD2 : Hid (0 < far 32768 x I d → far 32768 x I d ≤ 32768 ∧ far 32768 x I d ≤ I ∧ at3 x (I - far 32768 x I d) = at3 x I) := hid fun h => by
                obtain ⟨k1, k2, k3⟩ := far_spec hdI HAT.out h
                exact ⟨k2, k1, k3⟩
              generalize far 32768 x I d = d3 at HFR HS2 HD2
              clear hfr
              go_wp2_with fail
              refine HFR.out.mono ?_
              rintro e w9 ⟨rfl, rfl⟩
              go_wp2
              go_roundg (gk - 1)
              case measure => omega
              case rel => exact ⟨d3, t + 1, e1, e2, by omega, by omega, rfl, by go_num, heK, HS2, HD2, hid H8.out.swap⟩
        · obtain rfl : bq = false := by rw [hbq.out]; exact decide_eq_false hc
          have HBE2 : Hid ((f1, f2) = best 32768 258 x tr en I) := hid (by
            have h := HS.out
            by_cases c : t < tr
            · rw [show tr - t = tr - (t + 1) + 1 by omega, srch, if_neg (fun h2 => hc ⟨c, h2.1, by have := h2.2; rw [← HK.out, ← HM.out] at this; exact this⟩)] at h
              exact h
            · rw [show tr - t = 0 by omega] at h
              exact h)
          have H6 := hid H5.out.swap
          have g0 := H6.out.obj.cell0 rfl
          have g1 := H6.out.obj.cell (i := 1) rfl
          have g2 := H6.out.obj.cell (i := 2) rfl
          have H7 := hid H5.out.third
          have e0 := H7.out.obj.frozen0
          have e1 := H7.out.obj.frozen 1
          have e2 := H7.out.obj.frozen 2
          have k0 := H7.out.obj.cell0 rfl
          have k1 := H7.out.obj.cell (i := 1) rfl
          have k2 := H7.out.obj.cell (i := 2) rfl
          clear hc
          go_wp2
          have H9 := ((H7.out.setObj 0 (.int .u8 0)).setObj 1 (.int .i64 (f1 : Int))).setObj 2 (.int .i64 (f2 : Int))
          refine ret_obj rfl _ 3 Tryz.underlying80 rfl infoTokM N (tok0 (f1, f2)) 80 (by with_unfolding_all rfl) rfl H9.obj rfl ⟨by rw [← HBE2.out], I, Nat.le_refl _, a1, HI1.out, inV_F H9.drop.swap.drop⟩
end
end Go.Proofs.YtdmnfjicjjlnnaaGreatDoor
/-
  The landed finder's next token.
-/
namespace Go.Proofs.YtdmnfjicjjlnnaaGreatDoor
set_option maxRecDepth 5000
open Go.RowKit
theorem field_tok (a l d : Int) (w : World) : (Instr.field 80 (.agg #[.int .u8 a, .int .i64 l, .int .i64 d]) 1).run Tryz.prog w = .ok (.int .i64 l) w := by kernel_rfl
section
variable {w0 w : World} {Rs : List Thing} {tr en la cut a P : Nat} {B : Place} {x : List Nat}
set_option maxHeartbeats 6400000 in
theorem nextM_any (A : Nat) (H : Held w0 w (inF tr en la (A - cut) x cut P a B :: Rs)) (HI : InpOK x cut P a) (hPA : P ≤ A) (hAx : A < x.length) (hcw : cut = 0 ∨ cut + 32768 ≤ A) (hlen : x.length < 1000000000) (hb : ∀ b ∈ x, b < 256) (htr : tr < 1000000000) :
    Calls Tryz.prog 57 #[.pointer (some ⟨B.b, B.o, none⟩)] w fun e w' => e = .returned (tokV (nextT 32768 258 x tr en la A)) ∧ ∃ P' a', P' ≤ A + 1 ∧ InpOK x cut P' a' ∧ Held w0 w' (inF tr en la (A - cut) x cut P' a' B :: Rs) := by
  obtain ⟨i, hi⟩ : ∃ i, i = A - cut := ⟨_, rfl⟩
  have hcP := HI.cut_le
  have hiA : A = cut + i := by omega
  have hj1 : A + 1 - cut = i + 1 := by omega
  have HB1 := fun (wz : World) (Rz : List Thing) (h : Held w0 wz (inF tr en la (A - cut) x cut P a B :: Rz)) => best_any h HI A hPA (by omega) hcw hlen hb htr
  have HB2 := fun (wz : World) (Rz : List Thing) (P1 a1 : Nat) (h : Held w0 wz (inF tr en la (A - cut) x cut P1 a1 B :: Rz)) (h1 : InpOK x cut P1 a1) (h2 : P1 ≤ A) => best_any h h1 (A + 1) (by omega) (by omega) (by omega) hlen hb htr
  rw [← hi] at H HB1 HB2 ⊢
  obtain ⟨j, hj⟩ : ∃ j, j = i + 1 := ⟨_, rfl⟩
  have hjI : (i : Int) + 1 = (j : Int) := by omega
  have hjb : j < 1000000000 := by omega
  rw [hj1, ← hj] at HB2
  obtain ⟨lv, bv, m1, m2, HF⟩ := unFin H
  obtain ⟨hB, _, _, _, _⟩ := finAll HF
  obtain ⟨f1, f2, hf⟩ : ∃ f1 f2, best 32768 258 x tr en A = (f1, f2) := ⟨_, _, rfl⟩
  obtain ⟨s1, s2, hs⟩ : ∃ s1 s2, best 32768 258 x tr en (A + 1) = (s1, s2) := ⟨_, _, rfl⟩
  have hf1 : f1 ≤ 258 := by have := best_le (W := 32768) (L := 258) (tr := tr) (en := en) x A (by omega); rw [hf] at this; omega
  have hs1 : s1 ≤ 258 := by have := best_le (W := 32768) (L := 258) (tr := tr) (en := en) x (A + 1) (by omega); rw [hs] at this; omega
  rw [hf] at HB1
  rw [hs] at HB2
  have HNX : Hid (nextT 32768 258 x tr en la A = if f1 = 0 ∨ (f1 < la ∧ f1 < s1) then litT x A else (0, (f1 : Int), (f2 : Int))) := hid (by unfold nextT; rw [hf, hs])
  have HC1 : Hid (∀ (wz : World) (Rz : List Thing), Held w0 wz (inF tr en la i x cut P a B :: Rz) → Calls Tryz.prog 69 #[.pointer (some ⟨B.b, B.o, none⟩), .int .i64 (i : Int)] wz fun e w' => e = .returned (.agg #[.int .u8 0, .int .i64 (f1 : Int), .int .i64 (f2 : Int)]) ∧ ∃ P' a', P' ≤ A ∧ InpOK x cut P' a' ∧ Held w0 w' (inF tr en la i x cut P' a' B :: Rz)) := HB1
  have HC2 : Hid (∀ (wz : World) (Rz : List Thing) (P1 a1 : Nat), Held w0 wz (inF tr en la i x cut P1 a1 B :: Rz) → InpOK x cut P1 a1 → P1 ≤ A → Calls Tryz.prog 69 #[.pointer (some ⟨B.b, B.o, none⟩), .int .i64 (j : Int)] wz fun e w' => e = .returned (.agg #[.int .u8 0, .int .i64 (s1 : Int), .int .i64 (s2 : Int)]) ∧ ∃ P' a', P' ≤ A + 1 ∧ InpOK x cut P' a' ∧ Held w0 w' (inF tr en la i x cut P' a' B :: Rz)) := HB2
  have HH := hid H
  have HB0 := hid hB
  have HIA := hid hiA
  have hib : i < 1000000000 := by omega
  have hi0 : (0 : Int) ≤ (i : Int) := Int.natCast_nonneg _
  have hPAh := hid hPA
  have hAxh := hid hAx
  have h0 : Held w0 (w.alloc (.cells #[.int .u8 0, .int .i64 0, .int .i64 0] 80)) (inF tr en la i x cut P a B :: objT w.heap.size (tok0 (0, 0)) 80 :: Rs) := (HH.out.newObj (tok0 (0, 0)) 80).swap
  have c8 : (w.alloc (.cells #[.int .u8 0, .int .i64 0, .int .i64 0] 80)).cell? ⟨B.b, B.o + 8, none⟩ = some (.int .i64 (i : Int)) := (hB.alloc _).cell (i := 8) rfl
  have H0 := hid h0
  clear hj hf hs hi hcP hiA hj1 HB1 HB2 HF hB hPA hAx h0 HI hcw
  go_enter Tryz.func57, Tryz.ntmps57
  go_wp2_with fail
  generalize w.alloc (.cells #[.int .u8 0, .int .i64 0, .int .i64 0] 80) = wA at c8 H0 ⊢
  generalize w.heap.size = N at H0 ⊢
  refine (HC1.out _ _ H0.out).mono ?_
  rintro e w1 ⟨rfl, P1, a1, hP1, hI1, h1⟩
  have HI1 := hid hI1
  have h2 : Held w0 (w1.alloc (.cells #[.int .u8 0, .int .i64 (f1 : Int), .int .i64 (f2 : Int)] 80)) (objT w1.heap.size (tok0 (f1, f2)) 80 :: inF tr en la i x cut P1 a1 B :: objT N (tok0 (0, 0)) 80 :: Rs) := h1.newObj _ _
  have H2 := hid h2
  clear h1 h2 hI1 c8 H0 HC1
  go_upto_region 2 with (fail)
  generalize w1.alloc (.cells #[.int .u8 0, .int .i64 (f1 : Int), .int .i64 (f2 : Int)] 80) = wB at H2 ⊢
  generalize w1.heap.size = M at H2 ⊢
  have hf0 : (0 : Int) ≤ (f1 : Int) := Int.natCast_nonneg _
  have g1 := H2.out.obj.cell (i := 1) rfl
  obtain ⟨lv2, bv2, n1, n2, HF2⟩ := unFin H2.out.swap
  have hB2 := (finAll HF2).1
  have c2 := hB2.cell (i := 2) rfl
  have c8 := hB2.cell (i := 8) rfl
  clear HF2 hB2
  go_cut [35] (fun s35 wx => ∃ bq : Bool, s35 = .bool bq ∧ Hid (bq = decide (f1 = 0 ∨ (f1 < la ∧ f1 < s1))) ∧ ∃ P2 a2, P2 ≤ A + 1 ∧ Hid (InpOK x cut P2 a2) ∧ Hid (Held w0 wx (objT M (tok0 (f1, f2)) 80 :: inF tr en la i x cut P2 a2 B :: objT N (tok0 (0, 0)) 80 :: Rs)))
  case first =>
    by_cases hf : f1 = 0
    · subst hf
      have b0 : (((0 : Nat) : Int) == 0) = true := rfl
      go_quiet (fail)
      go_wp2
      go_meet
      case rel => exact ⟨true, rfl, hid (by simp), P1, a1, by omega, HI1, hid (H2.out.drewN _)⟩
    · have b0 : ((f1 : Int) == 0) = false := by simp; omega
      have b0' : decide ((f1 : Int) = 0) = false := by simp; omega
      by_cases hl : f1 < la
      · have b1 : decide ((f1 : Int) < (la : Int)) = true := decide_eq_true (by omega)
        have b1' : decide (f1 < la) = true := decide_eq_true hl
        obtain ⟨b2q, hb2q⟩ : ∃ b2q, b2q = decide (f1 < s1) := ⟨_, rfl⟩
        have b2 : decide ((f1 : Int) < (s1 : Int)) = b2q := by
          rw [hb2q]
          by_cases c : f1 < s1
          · rw [decide_eq_true c, decide_eq_true (by omega)]
          · rw [decide_eq_false c, decide_eq_false (by omega)]
        have b2' : decide (f1 < s1) = b2q := hb2q.symm
        have HQ : Hid (b2q = decide (f1 = 0 ∨ (f1 < la ∧ f1 < s1))) := hid (by rw [hb2q]; simp [hf, hl])
        clear hb2q
        have hfld := fun wg => field_tok 0 (s1 : Int) (s2 : Int) wg
        have hjw : IntKind.i64.wrap (j : Int) = (j : Int) := IntWalk.i64_in _ (by omega)
        go_region_held3 (fun w' => w'.cell? ⟨M, 1, none⟩ = some (.int .i64 (f1 : Int)) ∧ w'.cell? ⟨B.b, B.o + 8, none⟩ = some (.int .i64 (i : Int)) ∧ w'.cell? ⟨B.b, B.o + 2, none⟩ = some (.int .i64 (la : Int))) (first | exact ⟨k1, k8, k2⟩ | exact ⟨g1, c8, c2⟩) ((first
          | (go_at_call 69; refine (HC2.out _ _ P1 a1 H2.out.drew.swap HI1.out hP1).mono ?_; rintro e w5 ⟨rfl, P2, a2, hP2, hI2, h5⟩; have HI2 := hid hI2; have H5 := hid h5.swap; have k1 := H5.out.obj.cell (i := 1) rfl; obtain ⟨lv5, bv5, q1, q2, HF5⟩ := unFin h5; have k8 := (finAll HF5).1.cell (i := 8) rfl; have k2 := (finAll HF5).1.cell (i := 2) rfl; clear hI2 h5 HF5)))
        go_wp2
        go_meet
        case rel => exact ⟨b2q, rfl, HQ, P2, a2, hP2, HI2, H5⟩
      · have b1 : decide ((f1 : Int) < (la : Int)) = false := decide_eq_false (by omega)
        have b1' : decide (f1 < la) = false := decide_eq_false hl
        go_quiet (fail)
        go_wp2
        go_meet
        case rel => exact ⟨false, rfl, hid (by simp [hf, hl]), P1, a1, by omega, HI1, hid (H2.out.drewN _)⟩
  case rest =>
    obtain ⟨bq, rfl, hbq, P2, a2, hP2, HI2, H6⟩ := hcut
    have H7 := hid H6.out.third
    have e0 := H7.out.obj.frozen0
    have e1 := H7.out.obj.frozen 1
    have e2 := H7.out.obj.frozen 2
    have k0 := H7.out.obj.cell0 rfl
    have k1 := H7.out.obj.cell (i := 1) rfl
    have k2 := H7.out.obj.cell (i := 2) rfl
    clear g1 c2 c8
    cases bq with
    | true =>
      have hc : f1 = 0 ∨ (f1 < la ∧ f1 < s1) := of_decide_eq_true hbq.out.symm
      have HNE : Hid (nextT 32768 258 x tr en la A = litT x A) := hid (by rw [HNX.out, if_pos hc])
      obtain ⟨lv6, bv6, q1, q2, HF6⟩ := unFin H6.out.swap
      obtain ⟨hB6, hO6, _, _, _⟩ := finAll HF6
      obtain ⟨L, hL⟩ : ∃ L, L = (x.drop cut).length := ⟨_, rfl⟩
      rw [← hL] at hO6
      have hiL : i < L := by have := HIA.out; have := hAxh.out; rw [hL, List.length_drop]; omega
      obtain ⟨lo, lcap, rfl, hlc, hlm⟩ := hO6.form
      have c3 := hB6.cell (i := 3) rfl
      have c8 := hB6.cell (i := 8) rfl
      obtain ⟨gl, off, rfl, hcell, _, _⟩ := hO6.site (by omega)
      obtain ⟨va, hva⟩ : ∃ va, x[A]? = some va := ⟨x[A]'hAxh.out, List.getElem?_eq_getElem _⟩
      have hd : (x.drop cut)[i]? = some va := by rw [List.getElem?_drop, ← HIA.out]; exact hva
      have cl := hcell i (.int .u8 (va : Int)) (by rw [u8s_get, hd]; rfl)
      have hiLI : (i : Int) < (L : Int) := by omega
      have HVA := hid (show litT x A = ((va : Int), 0, 0) by unfold litT; rw [hva]; rfl)
      clear hcell hd hva hO6 hB6 HF6 hL hc
      go_wp2
      go_region
      all_goals
        go_wp2
        have H9 := ((H7.out.drew.setObj 0 (.int .u8 (va : Int))).setObj 1 (.int .i64 0)).setObj 2 (.int .i64 0)
        refine ret_obj rfl _ 3 Tryz.underlying80 rfl infoTokM N [.int .u8 (va : Int), .int .i64 0, .int .i64 0] 80 rfl rfl H9.obj rfl ⟨by rw [HNE.out, HVA.out]; rfl, P2, a2, hP2, HI2.out, H9.drop.drop⟩
    | false =>
      have hc : ¬ (f1 = 0 ∨ (f1 < la ∧ f1 < s1)) := of_decide_eq_false hbq.out.symm
      have HNE : Hid (nextT 32768 258 x tr en la A = (0, (f1 : Int), (f2 : Int))) := hid (by rw [HNX.out, if_neg hc])
      have g0 := H6.out.obj.cell0 rfl
      have g1 := H6.out.obj.cell (i := 1) rfl
      have g2 := H6.out.obj.cell (i := 2) rfl
      clear hc
      go_wp2
      have H9 := ((H7.out.setObj 0 (.int .u8 0)).setObj 1 (.int .i64 (f1 : Int))).setObj 2 (.int .i64 (f2 : Int))
      refine ret_obj rfl _ 3 Tryz.underlying80 rfl infoTokM N (tok0 (f1, f2)) 80 rfl rfl H9.obj rfl ⟨by rw [HNE.out]; rfl, ?_⟩
      first | exact ⟨P2, a2, hP2, HI2.out, H9.drop.drop⟩ | exact ⟨P2, hP2, a2, HI2.out, H9.drop.drop⟩
end
end Go.Proofs.YtdmnfjicjjlnnaaGreatDoor
/-
  The landed finder: what it forgets, what is written to it, how much waits, literals.
-/
namespace Go.Proofs.YtdmnfjicjjlnnaaGreatDoor
set_option maxRecDepth 5000
open Go.RowKit
section
variable {w0 w : World} {Rs : List Thing} {tr en la at' cut gone n a P : Nat} {B : Place} {x bs bk : List Nat} {g h : List Nat → Option Nat}
theorem cloneM8_any (v : Value) (n : Nat) (l : List Nat) (h : Held w0 w Rs) (hv : Rd w 1 v n (u8s l)) (hn : n ≤ 1000000000) :
    Calls Tryz.prog 92 #[v] w fun e w' => ∃ v', e = .returned v' ∧ Held w0 w' (ownT 5 1 v' n (u8s l) :: Rs) := by
  obtain ⟨i0, hi0, hz0, hz1, hz2⟩ := info_parts infoByteM
  have q22 : ∀ (w : World) (a : Option Addr) (n c n' c' : Nat), (binOp .eql 22 (.slice a n c) (.slice none n' c')).run Tryz.prog w = .ok (.bool a.isNone) w := fun w a n c n' c' => Lib.run_eql_slice_nil w _ _ a n c n' c' Tryz.underlying22
  obtain ⟨hl, ao, cap, rfl, hnc, hcm, h0, hr⟩ := hv
  cases ao with
  | none =>
    obtain rfl := h0 rfl
    obtain rfl : n = 0 := by omega
    have hx : u8s l = [] := List.eq_nil_of_length_eq_zero (by omega)
    rw [hx]
    have HH := hid (h.nil 5 1)
    clear h hl h0 hr
    go_enter Tryz.func92, Tryz.ntmps92
    go_wp2
    go_ret
    exact ⟨_, rfl, HH.out⟩
  | some a =>
    have hv : Rd w 1 (.slice (some a) n cap) n (u8s l) := ⟨hl, _, _, rfl, hnc, hcm, h0, hr⟩
    have H1 := hid (h.lit 5 1 [] 0 (by decide) rfl)
    have HV := hid (hv.kept ((Mod.refl w (fun _ => False)).alloc (.cells #[] 5)) (fun _ _ h => h))
    clear h hl h0 hr hv
    go_enter Tryz.func92, Tryz.ntmps92
    go_wp2_with (refine wpList_app_held rfl (.tmp 5) (.tmp 6) 22 rfl 5 i0 (.int .u8 0) 1 1 Tryz.underlying22 hi0 hz0 hz1 hz2 rfl (by decide) _ 0 [] rfl H1.out _ n (u8s l) rfl HV.out (u8s_one l) n (by omega) (by unfold maxLen; omega) (by omega) ?_; intro ao1 cap1 w1 h1; have H2 := hid h1; clear h1)
    go_ret
    exact ⟨_, rfl, H2.out⟩
theorem cloneM16_any (v : Value) (n : Nat) (l : List Nat) (h : Held w0 w Rs) (hv : Rd w 1 v n (nums .u16 l)) (hn : n ≤ 1000000000) :
    Calls Tryz.prog 93 #[v] w fun e w' => ∃ v', e = .returned v' ∧ Held w0 w' (ownT 23 1 v' n (nums .u16 l) :: Rs) := by
  obtain ⟨i0, hi0, hz0, hz1, hz2⟩ := info_parts infoU16M
  have q22 : ∀ (w : World) (a : Option Addr) (n c n' c' : Nat), (binOp .eql 55 (.slice a n c) (.slice none n' c')).run Tryz.prog w = .ok (.bool a.isNone) w := fun w a n c n' c' => Lib.run_eql_slice_nil w _ _ a n c n' c' Tryz.underlying55
  obtain ⟨hl, ao, cap, rfl, hnc, hcm, h0, hr⟩ := hv
  cases ao with
  | none =>
    obtain rfl := h0 rfl
    obtain rfl : n = 0 := by omega
    have hx : nums .u16 l = [] := List.eq_nil_of_length_eq_zero (by omega)
    rw [hx]
    have HH := hid (h.nil 23 1)
    clear h hl h0 hr
    go_enter Tryz.func93, Tryz.ntmps93
    go_wp2
    go_ret
    exact ⟨_, rfl, HH.out⟩
  | some a =>
    have hv : Rd w 1 (.slice (some a) n cap) n (nums .u16 l) := ⟨hl, _, _, rfl, hnc, hcm, h0, hr⟩
    have H1 := hid (h.lit 23 1 [] 0 (by decide) rfl)
    have HV := hid (hv.kept ((Mod.refl w (fun _ => False)).alloc (.cells #[] 23)) (fun _ _ h => h))
    clear h hl h0 hr hv
    go_enter Tryz.func93, Tryz.ntmps93
    go_wp2_with (refine wpList_app_held rfl (.tmp 5) (.tmp 6) 55 rfl 23 i0 (.int .u16 0) 1 2 Tryz.underlying55 hi0 hz0 hz1 hz2 rfl (by decide) _ 0 [] rfl H1.out _ n (nums .u16 l) rfl HV.out (nums_one _ l) n (by omega) (by unfold maxLen; omega) (by omega) ?_; intro ao1 cap1 w1 h1; have H2 := hid h1; clear h1)
    go_ret
    exact ⟨_, rfl, H2.out⟩
theorem cutW (lo : Option Addr) (L lcap n : Nat) (T E : TypeId) (i0 : TypeInfo) (hT : Tryz.prog.underlying T = some (.slice E)) (hi0 : Tryz.prog.info? E = some i0) (hz1 : i0.size = 1) (hn : n ≤ L) (hlc : L ≤ lcap) (wg : World) :
    (Instr.sliceAt T (.slice lo L lcap) (some (.int .i64 (n : Int))) none none).run Tryz.prog wg = .ok (.slice (if lcap = n then lo else lo.map fun (x : Addr) => x.add (n * 1)) (L - n) (lcap - n)) wg :=
  run_cut (P := Tryz.prog) T E i0 1 hT hi0 hz1 lo L lcap n L (some (.int .i64 (n : Int))) none ⟨_, rfl⟩ rfl hn hlc
set_option maxHeartbeats 3200000 in
theorem forget_any (H : Held w0 w (inF tr en la at' x cut P a B :: Rs)) (HI : InpOK x cut P a) (n : Nat) (hn : cut + n + 2 ≤ x.length) (hlen : x.length < 1000000000) (hb : ∀ b ∈ x, b < 256) :
    Calls Tryz.prog 70 #[.pointer (some ⟨B.b, B.o + 3, none⟩), .int .i64 (n : Int)] w fun e w' => e = .returned (.tuple #[]) ∧ ∃ a', InpOK x (cut + n) (max P (cut + n)) a' ∧ Held w0 w' (inF tr en la at' x (cut + n) (max P (cut + n)) a' B :: Rs) := by
  obtain ⟨i0, hi0, hz0, hz1, hz2⟩ := info_parts infoByteM
  obtain ⟨i1, hi1, hy0, hy1, hy2⟩ := info_parts infoU16M
  obtain ⟨lv, H⟩ := inF_V H
  have hL := learn_any H HI (cut + n) (by omega) (.inr hn) hlen hb
  rw [show cut + n - cut = n by omega] at hL
  have HL := hid hL
  have HCP := hid HI.cut_le
  obtain ⟨Q, hQ⟩ : ∃ Q, Q = max P (cut + n) := ⟨_, rfl⟩
  rw [← hQ] at HL ⊢
  have HQ := hid hQ
  have hn0 : (0 : Int) ≤ (n : Int) := Int.natCast_nonneg _
  clear hL H HI hQ
  go_enter Tryz.func70, Tryz.ntmps70
  go_wp2_with fail
  refine HL.out.mono ?_
  rintro e w1 ⟨rfl, a1, hI1, h1⟩
  have HI1 := hid hI1
  obtain ⟨bv, m1, m2, HF⟩ := unV h1
  obtain ⟨hB, hO1, hO2, _, _⟩ := finAll HF
  have H1 : Hid (Held w0 w1 (objP B (finV tr en la lv cut (.map (some m1)) (.map (some m2)) bv at') :: ownT 5 1 lv (x.drop cut).length (u8s (x.drop cut)) :: ownT 23 1 bv (backs x cut Q).length (nums .u16 (backs x cut Q)) :: mapS (.map (some m1)) (mLast x a1 Q) Q :: mapS (.map (some m2)) (mOlder 32768 x a1) Q :: Rs)) := HF
  obtain ⟨L, hL⟩ : ∃ L, L = (x.drop cut).length := ⟨_, rfl⟩
  obtain ⟨M, hM⟩ : ∃ M, M = (backs x cut Q).length := ⟨_, rfl⟩
  have hLx : L = x.length - cut := by rw [hL, List.length_drop]
  have hMx : M = Q - cut := by rw [hM, backs_length]
  rw [← hL] at hO1
  rw [← hM] at hO2
  obtain ⟨lo, lcap, rfl, hlc, hlm⟩ := hO1.form
  obtain ⟨bo, bcap, rfl, hbc, hbm⟩ := hO2.form
  have hnL : n ≤ L := by omega
  have hnM : n ≤ M := by have := HQ.out; omega
  have hc1 := fun wg => cutW lo L lcap n 22 5 i0 Tryz.underlying22 hi0 hz1 hnL hlc wg
  have hc2 := fun wg => cutW bo M bcap n 55 23 i1 Tryz.underlying55 hi1 hy1 hnM hbc wg
  have hr1 := hO1.rd.cut (L := n) (H := L) hnL (Nat.le_refl _)
  have hr2 := fun (wz : World) (h : Rd wz 1 (.slice bo M bcap) M (nums .u16 (backs x cut Q))) => h.cut (L := n) (H := M) hnM (Nat.le_refl _)
  unfold sliced at hr1 hr2
  generalize (if lcap = n then lo else lo.map fun (x : Addr) => x.add (n * 1)) = lo2 at hc1 hr1
  generalize (if bcap = n then bo else bo.map fun (x : Addr) => x.add (n * 1)) = bo2 at hc2 hr2
  have e1 : ((u8s (x.drop cut)).drop (n * 1)).take ((L - n) * 1) = u8s (x.drop (cut + n)) := by
    rw [Nat.mul_one, Nat.mul_one, List.take_of_length_le (by rw [List.length_drop, u8s_length, ← hL]; omega)]
    simp only [u8s, ← List.map_drop, List.drop_drop]
  have e2 : ((nums .u16 (backs x cut Q)).drop (n * 1)).take ((M - n) * 1) = nums .u16 (backs x (cut + n) Q) := by
    rw [Nat.mul_one, Nat.mul_one, List.take_of_length_le (by rw [List.length_drop, nums_length, ← hM]; omega), ← backs_drop]
    simp only [nums, ← List.map_drop]
  rw [e1] at hr1
  rw [e2] at hr2
  obtain ⟨K, hK⟩ : ∃ K, K = L - n := ⟨_, rfl⟩
  obtain ⟨J, hJ⟩ : ∃ J, J = M - n := ⟨_, rfl⟩
  rw [← hK] at hc1 hr1
  rw [← hJ] at hc2 hr2
  generalize lcap - n = lcap2 at hc1 hr1
  generalize bcap - n = bcap2 at hc2 hr2
  have HK : Hid (K = (x.drop (cut + n)).length ∧ J = (backs x (cut + n) Q).length) := hid ⟨by rw [List.length_drop]; omega, by rw [backs_length]; omega⟩
  have HC1 := hid (cloneM8_any _ K _ H1.out hr1 (by omega))
  have HR2 := hid hr2
  have HBM := hid hM
  have HJ : Hid (J ≤ 1000000000) := hid (by have := HI1.out.room; omega)
  have c3 := hB.cell (i := 3) rfl
  have hcb : cut < 1000000000 := by omega
  have hnb : n < 1000000000 := by omega
  have hcut0 : (0 : Int) ≤ (cut : Int) := Int.natCast_nonneg _
  clear hI1 h1 HF hB hO1 hO2 hL hM hLx hMx hr1 hr2 e1 e2 hK hJ HL
  go_wp2_with fail
  refine HC1.out.mono ?_
  rintro e w2 ⟨v1, rfl, h2⟩
  obtain ⟨vo1, vc1, rfl, _, _⟩ := h2.own.form
  have h3 := h2.swap
  have hb3 := h3.objp
  have f3 := hb3.frozen 3
  have c3' := hb3.cell (i := 3) rfl
  have h4 := h3.setObjP 3 (.slice vo1 K vc1)
  have H4 := hid h4
  have hb4 := h4.objp
  have c7 := hb4.cell (i := 7) rfl
  have hO4 := h4.drop.drop.drop.own
  rw [← HBM.out] at hO4
  have hc3 := cloneM16_any _ J _ h4 (HR2.out _ hO4.rd) HJ.out
  have HC2 := hid hc3
  clear h2 h3 h4 hb3 hb4 hO4 hc3 HC1 c3
  go_wp2_with fail
  refine HC2.out.mono ?_
  rintro e w3 ⟨v2, rfl, h5⟩
  obtain ⟨vo2, vc2, rfl, _, _⟩ := h5.own.form
  have h6 := h5.swap
  have hb6 := h6.objp
  have f7 := hb6.frozen 7
  have f4 := hb6.frozen 4
  have c7' := hb6.cell (i := 7) rfl
  have h7 := h6.setObjP 7 (.slice vo2 J vc2)
  have hb7 := h7.objp
  have c4 := hb7.cell (i := 4) rfl
  have f4' := hb7.frozen 4
  obtain ⟨C, hC⟩ : ∃ C, C = cut + n := ⟨_, rfl⟩
  have H7 := hid (h7.setObjP 4 (.int .i64 (C : Int)))
  have hcn : (cut : Int) + (n : Int) = (C : Int) := by omega
  have HC := hid hC
  clear h5 h6 h7 hb6 hb7 HC2 hC
  go_wp2
  go_end0
  refine ⟨rfl, a1, ⟨by have := HQ.out; omega, HI1.out.room, HI1.out.a_le, HI1.out.le_a, HI1.out.mod, HI1.out.some⟩, ?_⟩
  have h8 := perm23 H7.out.fourth.drop.fourth.drop
  have hk := HK.out
  rw [← HC.out] at h8 hk ⊢
  refine mkFin (.slice vo1 K vc1) (.slice vo2 J vc2) m1 m2 ?_
  unfold finL
  rw [← hk.1, ← hk.2]
  exact h8
theorem trim_any (A : Nat) (H : Held w0 w (inF tr en la (A - cut) x cut P a B :: Rs)) (HI : InpOK x cut P a) (hPA : P ≤ A) (hAx : A ≤ x.length) (hcA : cut ≤ A) (hcw : cut = 0 ∨ cut + 32768 ≤ A) (hlen : x.length < 1000000000) (hb : ∀ b ∈ x, b < 256) :
    Calls Tryz.prog 58 #[.pointer (some ⟨B.b, B.o, none⟩)] w fun e w' => e = .returned (.tuple #[]) ∧ ∃ cut' P' a', cut' ≤ A ∧ P' ≤ A ∧ (cut' = 0 ∨ cut' + 32768 ≤ A) ∧ InpOK x cut' P' a' ∧ Held w0 w' (inF tr en la (A - cut') x cut' P' a' B :: Rs) := by
  obtain ⟨t, ht⟩ : ∃ t, t = A - cut := ⟨_, rfl⟩
  have htA : A = cut + t := by omega
  obtain ⟨lv, bv, m1, m2, HF⟩ := unFin H
  have hB := (finAll HF).1
  have c8 := hB.cell (i := 8) rfl
  rw [← ht] at c8
  have ht0 : (0 : Int) ≤ (t : Int) := Int.natCast_nonneg _
  have htb : t < 1000000000 := by omega
  by_cases hbig : 65536 ≤ t
  · obtain ⟨o, ho⟩ : ∃ o, o = t - 32768 := ⟨_, rfl⟩
    have hoI : (t : Int) - 32768 = (o : Int) := by omega
    have ho2 : (32768 : Int) ≤ (o : Int) := by omega
    have ho0 : (0 : Int) ≤ (o : Int) := Int.natCast_nonneg _
    have HFo := hid (forget_any H HI o (by omega) hlen hb)
    have HT : Hid (cut + o ≤ A ∧ max P (cut + o) ≤ A ∧ cut + o + 32768 ≤ A ∧ A - (cut + o) = 32768) := hid (by omega)
    have htoI : (t : Int) - (o : Int) = 32768 := by omega
    rw [← ht] at HFo
    have hob : o < 1000000000 := by omega
    clear HF hB H HI ho htA ht hPA hAx hcA hcw hbig
    go_enter Tryz.func58, Tryz.ntmps58
    go_wp2_with fail
    refine HFo.out.mono ?_
    rintro e w1 ⟨rfl, a1, hI1, h1⟩
    have HI1 := hid hI1
    obtain ⟨lv1, bv1, q1, q2, hF1⟩ := unFin h1
    have hB1 := (finAll hF1).1
    have d8 := hB1.cell (i := 8) rfl
    have f8 := hB1.frozen 8
    have h2 : Held w0 w1 (objP B (finV tr en la lv1 (cut + o) (.map (some q1)) (.map (some q2)) bv1 t) :: _) := hF1
    have H2 := hid (h2.setObjP 8 (.int .i64 32768))
    clear hI1 h1 hF1 hB1 h2 HFo
    go_wp2
    go_end0
    refine ⟨rfl, cut + o, max P (cut + o), a1, HT.out.1, HT.out.2.1, .inr HT.out.2.2.1, HI1.out, ?_⟩
    rw [HT.out.2.2.2]
    exact mkFin _ _ _ _ H2.out
  · have HH := hid H
    have HG := hid (And.intro HI (And.intro hPA (And.intro hcA hcw)))
    obtain ⟨z, hz⟩ : ∃ z : Int, z = (t : Int) - 32768 := ⟨_, rfl⟩
    have hzI : (t : Int) - 32768 = z := hz.symm
    have hz2 : ¬ (32768 : Int) ≤ z := by omega
    have hz3 : -9223372036854775808 ≤ z := by omega
    have hz4 : z ≤ 9223372036854775807 := by omega
    clear HF hB H HI htA ht hPA hAx hcA hcw hbig hz
    go_enter Tryz.func58, Tryz.ntmps58
    go_wp2
    go_end0
    first | exact ⟨rfl, cut, P, a, HG.out.2.2.1, HG.out.2.1, HG.out.2.2.2, HG.out.1, HH.out⟩ | exact ⟨rfl, cut, HG.out.2.2.1, P, HG.out.2.1, HG.out.2.2.2, a, HG.out.1, HH.out⟩
end
end Go.Proofs.YtdmnfjicjjlnnaaGreatDoor
