/-
  The landed finder learns places: the two maps change at each full window, the distances back are kept in a list.
-/
import Derived.Test.YtjmdgcppllnkdaaDoorMatSrch
import Derived.Deep.DeepCutAuto
namespace Go.Proofs.YtjmdgcppllnkdaaDoor
open Go.RowKit

def backs (x : List Nat) (cut P : Nat) : List Nat := (List.range (P - cut)).map fun k => near 32768 x (cut + k)
theorem backs_length (x : List Nat) (cut P : Nat) : (backs x cut P).length = P - cut := by simp [backs]
theorem backs_snoc (x : List Nat) (cut P : Nat) (h : cut ≤ P) : backs x cut (P + 1) = backs x cut P ++ [near 32768 x P] := by
  unfold backs
  rw [show P + 1 - cut = P - cut + 1 by omega, List.range_succ, List.map_append, List.map_singleton, show cut + (P - cut) = P by omega]
theorem backs_get (x : List Nat) (cut P k : Nat) (h : k < P - cut) : (backs x cut P)[k]? = some (near 32768 x (cut + k)) := by simp [backs, h]
theorem backs_app (x y : List Nat) (cut P : Nat) (h : P = 0 ∨ P + 2 ≤ x.length) : backs (x ++ y) cut P = backs x cut P := by
  unfold backs
  refine List.map_congr_left fun k hk => ?_
  rw [List.mem_range] at hk
  exact near_app 32768 x y (cut + k) (by omega)
theorem backs_drop (x : List Nat) (cut n P : Nat) : (backs x cut P).drop n = backs x (cut + n) P := by
  refine List.ext_getElem? fun j => ?_
  rw [List.getElem?_drop]
  by_cases c : n + j < P - cut
  · rw [backs_get x cut P _ c, backs_get x (cut + n) P j (by omega), Nat.add_assoc]
  · rw [List.getElem?_eq_none (by rw [backs_length]; omega), List.getElem?_eq_none (by rw [backs_length]; omega)]
/-- how far an input is learned, and where the newer map begins -/
structure InpOK (x : List Nat) (cut P a : Nat) : Prop where
  cut_le : cut ≤ P
  room : P = 0 ∨ P + 2 ≤ x.length
  a_le : a ≤ P
  le_a : P ≤ a + 32768
  mod : a % 32768 = 0
  some : a < P ∨ P = 0
/-- a finder whose input is learned so far -/
def inF (tr en la at' : Nat) (x : List Nat) (cut P a B : Nat) : Thing := rawF tr en la at' cut (x.drop cut) (backs x cut P) (mLast x a P) (mOlder 32768 x a) P B
/-- .. whose list lies where it is said -/
def inV (tr en la at' : Nat) (x : List Nat) (cut P a B : Nat) (lv : Value) : Thing :=
  exT fun q : Value × Nat × Nat => allT (finL tr en la at' cut (x.drop cut) (backs x cut P) (mLast x a P) (mOlder 32768 x a) P B lv q.1 q.2.1 q.2.2)
section
variable {w0 w : World} {Rs : List Thing} {tr en la at' cut B a P : Nat} {x : List Nat}
theorem unV {lv : Value} (H : Held w0 w (inV tr en la at' x cut P a B lv :: Rs)) : ∃ (bv : Value) (m1 m2 : Nat), Held w0 w (finL tr en la at' cut (x.drop cut) (backs x cut P) (mLast x a P) (mOlder 32768 x a) P B lv bv m1 m2 ++ Rs) := by
  obtain ⟨⟨bv, m1, m2⟩, h1⟩ := H.ex
  exact ⟨bv, m1, m2, h1.unall⟩
theorem mkV {lv : Value} (bv : Value) (m1 m2 : Nat) (H : Held w0 w (finL tr en la at' cut (x.drop cut) (backs x cut P) (mLast x a P) (mOlder 32768 x a) P B lv bv m1 m2 ++ Rs)) : Held w0 w (inV tr en la at' x cut P a B lv :: Rs) :=
  Held.mk (R := fun q : Value × Nat × Nat => allT (finL tr en la at' cut (x.drop cut) (backs x cut P) (mLast x a P) (mOlder 32768 x a) P B lv q.1 q.2.1 q.2.2)) (bv, m1, m2) H.all
theorem inF_V (H : Held w0 w (inF tr en la at' x cut P a B :: Rs)) : ∃ lv, Held w0 w (inV tr en la at' x cut P a B lv :: Rs) := by
  obtain ⟨lv, bv, m1, m2, h⟩ := unFin H
  exact ⟨lv, mkV bv m1 m2 h⟩
theorem inV_F {lv : Value} (H : Held w0 w (inV tr en la at' x cut P a B lv :: Rs)) : Held w0 w (inF tr en la at' x cut P a B :: Rs) := by
  obtain ⟨bv, m1, m2, h⟩ := unV H
  exact mkFin lv bv m1 m2 h
theorem perm45 {R1 R2 R3 R4 R5 : Thing} (H : Held w0 w (R1 :: R2 :: R3 :: R4 :: R5 :: Rs)) : Held w0 w (R1 :: R2 :: R3 :: R5 :: R4 :: Rs) :=
  H.perm (List.Perm.cons _ (List.Perm.cons _ (List.Perm.cons _ (List.Perm.swap _ _ _))))
theorem perm23 {R1 R2 R3 : Thing} (H : Held w0 w (R1 :: R2 :: R3 :: Rs)) : Held w0 w (R1 :: R3 :: R2 :: Rs) := H.perm (List.Perm.cons _ (List.Perm.swap _ _ _))
theorem perm4 {R1 R2 R3 R4 : Thing} (H : Held w0 w (R1 :: R2 :: R3 :: R4 :: Rs)) : Held w0 w (R4 :: R1 :: R2 :: R3 :: Rs) := H.fourth
theorem perm4b {R1 R2 R3 R4 : Thing} (H : Held w0 w (R4 :: R1 :: R2 :: R3 :: Rs)) : Held w0 w (R1 :: R2 :: R3 :: R4 :: Rs) := H.fourth.fourth.fourth
theorem perm3b {R1 R2 R3 : Thing} (H : Held w0 w (R3 :: R1 :: R2 :: Rs)) : Held w0 w (R1 :: R2 :: R3 :: Rs) := H.third.third
theorem moreMap5 {R1 R2 R3 R4 : Thing} {v : Value} {g : List Nat → Option Nat} {n n' : Nat} (hn : n ≤ n') (H : Held w0 w (R1 :: R2 :: R3 :: R4 :: mapS v g n :: Rs)) : Held w0 w (R1 :: R2 :: R3 :: R4 :: mapS v g n' :: Rs) :=
  perm45 (perm4b ((perm45 H).fourth.moreMap hn))
set_option maxHeartbeats 3200000 in
theorem learn_any {lv : Value} (H : Held w0 w (inV tr en la at' x cut P a B lv :: Rs)) (HI : InpOK x cut P a) (I : Nat) (hcI : cut ≤ I) (hI : I = 0 ∨ I + 2 ≤ x.length) (hlen : x.length < 1000000000) (hb : ∀ b ∈ x, b < 256) :
    Calls Tryd.prog 25 #[.pointer (some ⟨B, 3, none⟩), .int .i64 ((I - cut : Nat) : Int)] w fun e w' => e = .returned (.tuple #[]) ∧ ∃ a', InpOK x cut (max P I) a' ∧ Held w0 w' (inV tr en la at' x cut (max P I) a' B lv :: Rs) := by
  obtain ⟨i0, hi0, hz0, hz1, hz2⟩ := info_parts infoByteM
  obtain ⟨i1, hi1, hy0, hy1, hy2⟩ := info_parts infoU16M
  obtain ⟨i, hi⟩ : ∃ i, i = I - cut := ⟨_, rfl⟩
  rw [← hi]
  have hiI : I = cut + i := by omega
  have hIx : 0 < i → cut + i + 2 ≤ x.length := fun h => by omega
  have HII := hid hiI
  have HI1 := hid HI
  have HH := hid H
  obtain ⟨k0, hk0⟩ : ∃ k0, k0 = P - cut := ⟨_, rfl⟩
  obtain ⟨bv, m1, m2, HF⟩ := unV H
  obtain ⟨hB, _, hO, _, _⟩ := finAll HF
  have hbl := backs_length x cut P
  rw [hbl, ← hk0] at hO
  have hPk : P = cut + k0 := by have := HI.cut_le; omega
  obtain ⟨ao, cap, rfl, _, _⟩ := hO.form
  have c7 := hB.cell (i := 7) rfl
  have HPK := hid hPk
  clear hB hO HF H hi HI hbl hk0 hPk hI hiI hcI
  go_enter Tryd.func25, Tryd.ntmps25
  go_wp2
  go_loopg [4, 5] (i + 2) (fun gg t4 t5 wr => ∃ (k a1 : Nat), k0 ≤ k ∧ (k = k0 ∨ k ≤ i) ∧ i + 1 - k < gg ∧ t4 = .int .i64 (k : Int) ∧ Hid (InpOK x cut (cut + k) a1) ∧ Hid (Held w0 wr (inV tr en la at' x cut (cut + k) a1 B lv :: Rs)))
  case atStart => exact ⟨k0, a, Nat.le_refl _, .inl rfl, by omega, rfl, by rw [← HPK.out]; exact HI1, by rw [← HPK.out]; exact HH⟩
  case round =>
    obtain ⟨k, a1, hk0, hk, hg, rfl, HI2, HR⟩ := hrel
    have hkn : (0 : Int) ≤ (k : Int) := Int.natCast_nonneg _
    by_cases hki : k < i
    · have hkI : (k : Int) < (i : Int) := by omega
      obtain ⟨p, hp⟩ : ∃ p, p = cut + k := ⟨_, rfl⟩
      rw [← hp] at HI2 HR
      have hpI : (cut : Int) + (k : Int) = (p : Int) := by omega
      have hp3 : p + 3 ≤ x.length := by have := hIx (by omega); omega
      have hpb : p < 1000000000 := by omega
      have hp0 : (0 : Int) ≤ (p : Int) := Int.natCast_nonneg _
      have hkp : k = p - cut := by omega
      obtain ⟨bv, m1, m2, HF⟩ := unV HR.out
      obtain ⟨hB, hO1, hO2, hM1, hM2⟩ := finAll HF
      have HB := hid hB
      have c4 := hB.cell (i := 4) rfl
      have c5 := hB.cell (i := 5) rfl
      have c6 := hB.cell (i := 6) rfl
      have f5 := hB.frozen 5
      have f6 := hB.frozen 6
      have HP := hid hp
      have HKP := hid hkp
      obtain ⟨r, hr⟩ : ∃ r, r = p % 32768 := ⟨_, rfl⟩
      have hrI : (p : Int) % 32768 = (r : Int) := by omega
      have hrT : (p : Int).tmod 32768 = (r : Int) := by rw [hr]; rfl
      have HRr := hid hr
      clear hp hkp hB hr
      have HFx := hid HF
      go_upto_if 24 with (fail)
      go_cut [5] (fun s5 wx => s5 = .int .i64 (p : Int) ∧ ∃ (a2 n1 n2 : Nat), a2 ≤ p ∧ p < a2 + 32768 ∧ Hid (a2 % 32768 = 0) ∧ a2 < p + 1 ∧ Hid (Held w0 wx (finL tr en la at' cut (x.drop cut) (backs x cut p) (mLast x a2 p) (mOlder 32768 x a2) p B lv bv n1 n2 ++ Rs)))
      case first =>
        by_cases hr0 : r = 0
        · have hr0I : ((r : Int) == 0) = true := by subst hr0; rfl
          subst hr0
          have hpa : (p = 0 ∧ a1 = 0) ∨ p = a1 + 32768 := by
            have h1 := HI2.out.a_le
            have h2 := HI2.out.le_a
            have h3 := HI2.out.mod
            have h4 := HI2.out.some
            have h5 := HRr.out
            omega
          have HG : Hid (mOlder 32768 x p = mLast x a1 p) := by
            rcases hpa with ⟨e1, e2⟩ | e1
            · subst e1; subst e2; exact hid (by rw [mLast_zero, mOlder_zero])
            · subst e1; exact hid (mOlder_new _ _ _)
          clear hpa
          go_wp2
          go_region
          have h5 := ((HFx.out.setObj 5 (.map (some m2))).setObj 6 (.map (some m1))).drew
          have h6 : Held w0 _ (mapS (.map (some m2)) (mOlder 32768 x a1) p :: objT B (finV tr en la lv cut (.map (some m2)) (.map (some m1)) bv at') 58 :: ownT 5 1 lv (x.drop cut).length (u8s (x.drop cut)) :: ownT 42 1 bv (backs x cut p).length (nums .u16 (backs x cut p)) :: mapS (.map (some m1)) (mLast x a1 p) p :: Rs) := (perm45 h5).fourth
          have H6 := hid h6
          clear h5 h6
          go_wp2_with (refine wpList_clear_held rfl (.tmp 42) rfl Tryd.underlying52 rfl H6.out ?_; intro w7 h7; have H7 := hid h7; clear h7)
          go_meet
          case rel =>
            refine ⟨rfl, p, m2, m1, Nat.le_refl _, by omega, hid ?_, by omega, hid ?_⟩
            · have := HRr.out; omega
            · rw [mLast_new, HG.out]
              exact perm4b (H7.out.moreMap (Nat.zero_le _))
        · have hr0I : ((r : Int) == 0) = false := by simp; omega
          go_wp2
          go_meet
          case rel =>
            have h1 := HI2.out.a_le
            have h2 := HI2.out.le_a
            have h3 := HI2.out.mod
            exact ⟨rfl, a1, m1, m2, h1, by have := HRr.out; omega, hid h3, by omega, HFx⟩
      case rest =>
        obtain ⟨rfl, a2, n1, n2, h1, h2, h3, h4, H8⟩ := hcut
        obtain ⟨hB, hO1, hO2, hM1, hM2⟩ := finAll H8.out
        obtain ⟨D, hD⟩ : ∃ D, D = near 32768 x p := ⟨_, rfl⟩
        have hDle : D ≤ 32768 := by rw [hD]; exact (near_le _ _ _).1
        have hN := nearest_any (mkFin _ _ _ _ H8.out.drew) (by have := HP.out; omega) hp3 hlen h1 hb
        rw [← hD, ← HKP.out] at hN
        have HN := hid hN
        have hb2 := backs_length x cut p
        rw [hb2, ← HKP.out] at hO2
        have hb2' := hb2
        obtain ⟨bo, bcap, rfl, hbc, hbm⟩ := hO2.form
        have HB := hid hB
        have HO := hid hO2
        have c7 := hB.cell (i := 7) rfl
        have f7 := hB.frozen 7
        have hD0 : (0 : Int) ≤ (D : Int) := Int.natCast_nonneg _
        have hDw : IntKind.u16.wrap (D : Int) = (D : Int) := IntWalk.u16_in _ (by omega)
        have HDD := hid hD
        have hH8 : Held w0 wc (objT B (finV tr en la lv cut (.map (some n1)) (.map (some n2)) (.slice bo k bcap) at') 58 :: ownT 5 1 lv (x.drop cut).length (u8s (x.drop cut)) :: ownT 42 1 (.slice bo k bcap) (backs x cut p).length (nums .u16 (backs x cut p)) :: mapS (.map (some n1)) (mLast x a2 p) p :: mapS (.map (some n2)) (mOlder 32768 x a2) p :: Rs) := H8.out
        have HA := hid hH8.third.swap.apart
        have H8' := hid hH8
        rw [hb2', ← HKP.out] at H8'
        clear hb2 hb2' hH8 hN hB hO1 hO2 hM1 hM2 HF HFx hD c4 c5 c6 f5 f6
        go_upto_region 7 with (fail)
        go_cut [5] (fun s5 wx => s5 = .int .i64 (p : Int) ∧ ∃ (bo' : Option Addr) (bcap' : Nat), Hid (Held w0 wx (objT B (finV tr en la lv cut (.map (some n1)) (.map (some n2)) (.slice bo' (k + 1) bcap') at') 58 :: ownT 5 1 lv (x.drop cut).length (u8s (x.drop cut)) ::
          ownT 42 1 (.slice bo' (k + 1) bcap') (k + 1) (nums .u16 (backs x cut (p + 1))) :: mapS (.map (some n1)) (mLast x a2 p) p :: mapS (.map (some n2)) (mOlder 32768 x a2) p :: Rs)))
        case first =>
          go_wp2
          go_region_law ((first
            | (refine step_app _ (by rfl) (.tmp 47) (.tmp 52) 53 (by rfl) 42 i1 (.int .u16 0) 1 2 Tryd.underlying53 hi1 hy0 hy1 hy2 (by rfl) (by decide) (.slice bo k bcap) k (nums .u16 (backs x cut p)) (by rfl) (by exact (HO5.out.alloc _)) (.slice (some ⟨w5.heap.size, 0, none⟩) 1 1) 1 (nums .u16 [D]) (by rfl) (by exact (Rd.lit w5 [_] _ 1 1 (by decide) rfl)) (nums_one _ _) (by unfold maxLen; omega) (by omega) ?_; intro ao1 cap1 w6 hown1 hgrow hat; have HB6 := hid ((HB5.out.alloc _).grown hgrow HA.out); have c67 := HB6.out.cell (i := 7) rfl; have f67 := HB6.out.frozen 7; have H6 := hid (((H9.out.alloc _).third.app hown1 hgrow hat).swap.setObj 7 (.slice ao1 (k + 1) cap1)); clear hown1 hgrow hat)
            | (go_simp; go_at_call 26; refine HN.out.mono ?_; rintro e w5 ⟨rfl, m5⟩; have H9 := hid (H8'.out.drew.same m5); have HB5 := hid (HB.out.drew.kept m5 (fun h => h)); have HO5 := hid (HO.out.drew.kept m5 (fun _ _ h => h)); have d7 := HB5.out.cell (i := 7) rfl; have g7 := HB5.out.frozen 7; have da7 : ∀ o, (w5.alloc o).cell? ⟨B, 7, none⟩ = some (.slice bo k bcap) := fun o => (HB5.out.alloc o).cell (i := 7) rfl; clear m5)))
          all_goals
            go_wp2
            go_meet
            case rel =>
              refine ⟨rfl, ao1, cap1, hid ?_⟩
              have h6 := perm23 H6.out
              have e : nums .u16 (backs x cut p) ++ nums .u16 [D] = nums .u16 (backs x cut (p + 1)) := by
                rw [backs_snoc x cut p (by have := HP.out; omega), ← HDD.out]; simp [nums]
              rw [e] at h6
              exact h6
        case rest =>
          obtain ⟨rfl, bo', bcap', H10⟩ := hcut
          have hB := H10.out.obj
          have HB := hid hB
          have hO1 := H10.out.drop.own
          obtain ⟨b4, e4, hM⟩ := H10.out.drop.drop.drop.map
          simp only [Value.map.injEq, Option.some.injEq] at e4
          subst e4
          have HM1 := hid hM
          obtain ⟨L, hL⟩ : ∃ L, L = (x.drop cut).length := ⟨_, rfl⟩
          have hLx : L = x.length - cut := by rw [hL, List.length_drop]
          rw [← hL] at hO1
          have hkL : k ≤ L := by omega
          obtain ⟨lo, lcap, rfl, hlc, hlm⟩ := hO1.form
          have c3 := hB.cell (i := 3) rfl
          have c5 := hB.cell (i := 5) rfl
          have hcutE : ∀ wg, (Instr.sliceAt 22 (.slice lo L lcap) (some (.int .i64 (k : Int))) none none).run Tryd.prog wg = .ok (.slice (if lcap = k then lo else lo.map fun (x : Addr) => x.add (k * 1)) (L - k) (lcap - k)) wg := fun wg =>
            run_cut (P := Tryd.prog) 22 5 i0 1 Tryd.underlying22 hi0 hz1 lo L lcap k L (some (.int .i64 (k : Int))) none ⟨_, rfl⟩ rfl hkL hlc
          have hrd := hO1.rd.cut (L := k) (H := L) hkL (Nat.le_refl _)
          unfold sliced at hrd
          generalize (if lcap = k then lo else lo.map fun (x : Addr) => x.add (k * 1)) = lo' at hcutE hrd
          have e2 : ((u8s (x.drop cut)).drop (k * 1)).take ((L - k) * 1) = u8s (x.drop p) := by
            rw [Nat.mul_one, Nat.mul_one, List.take_of_length_le (by rw [List.length_drop, u8s_length, ← hL]; omega)]
            simp only [u8s, ← List.map_drop, List.drop_drop]
            rw [HP.out]
          rw [e2] at hrd
          obtain ⟨K, hK⟩ : ∃ K, K = L - k := ⟨_, rfl⟩
          rw [← hK] at hrd hcutE
          have hS := startOf_any _ K (x.drop p) wc.drew hrd.drew (by have := HP.out; omega)
          obtain ⟨s0, s1, s2, hs, hg⟩ := at3_good hp3 hb
          have hs3 : (x.drop p).take 3 = [s0, s1, s2] := hs
          rw [hs3] at hS
          have HS : Hid (Calls Tryd.prog 32 _ wc.drew fun e w' => e = .returned (.agg #[.int .u8 (s0 : Int), .int .u8 (s1 : Int), .int .u8 (s2 : Int)]) ∧ Mod wc.drew w' (fun _ => False)) := hS
          have HST : Hid (∀ w5, Mod wc.drew w5 (fun _ => False) → ∃ w7, (Instr.mapUpdate 52 (.map (some n1)) (.agg #[.int .u8 (s0 : Int), .int .u8 (s1 : Int), .int .u8 (s2 : Int)]) (.int .i64 (p : Int))).run Tryd.prog w5 = .ok () w7 ∧
              MapIs (arrV .u8) goodS (fun p : Nat => .int .i64 (p : Int)) w7 n1 (mLast x a2 (p + 1)) (p + 1) ∧ Mod w5 w7 (fun j => j = n1)) := hid fun w5 m5 => by
            have hm : MapIs (arrV .u8) goodS (fun p : Nat => .int .i64 (p : Int)) wc.drew n1 (mLast x a2 p) p := hM
            rw [hs] at hg
            exact (hm.kept m5 (fun h => h)).store startKey (t := 52) Tryd.underlying52 [s0, s1, s2] hg p (mLast x a2 (p + 1)) (by rw [mLast_learn x a2 p h1, hs]; exact if_pos rfl) (fun s' hs' => by rw [mLast_learn x a2 p h1, hs]; exact if_neg hs')
          have HSG := hid (And.intro hs hg)
          have HL := hid hL
          clear hS hs hg hs3 hrd e2 hK hL hLx hO1 hB hM H8 HN HO
          go_wp2
          go_region_law ((first
            | (go_simp; go_at_call 32; refine HS.out.mono ?_; rintro e w5 ⟨rfl, m5⟩; have H11 := hid (H10.out.drew.same m5); have HB5 := hid (HB.out.drew.kept m5 (fun h => h)); have d3 := HB5.out.cell (i := 3) rfl; have d5 := HB5.out.cell (i := 5) rfl
               obtain ⟨w7, hrun, hM7, hm7⟩ := HST.out w5 m5
               have HM7 := hid hM7; have Hm7 := hid hm7; clear m5 hM7 hm7)))
          all_goals
            have h6 : Held w0 w5 (mapT (arrV .u8) goodS (fun p : Nat => .int .i64 (p : Int)) (.map (some n1)) (mLast x a2 p) p :: objT B (finV tr en la (.slice lo L lcap) cut (.map (some n1)) (.map (some n2)) (.slice bo' (k + 1) bcap') at') 58 ::
                ownT 5 1 (.slice lo L lcap) (x.drop cut).length (u8s (x.drop cut)) :: ownT 42 1 (.slice bo' (k + 1) bcap') (k + 1) (nums .u16 (backs x cut (p + 1))) :: mapS (.map (some n2)) (mOlder 32768 x a2) p :: Rs) := H11.out.fourth
            have h7 := moreMap5 (n' := p + 1) (by omega) (perm4b (h6.putMap HM7.out Hm7.out))
            have hl : (backs x cut (p + 1)).length = k + 1 := by rw [backs_length]; have := HP.out; omega
            rw [← hl] at h7
            have H12 := hid (mkV _ _ _ h7)
            have hI9 : Hid (InpOK x cut (p + 1) a2) := hid ⟨by have := HP.out; omega, .inr (by omega), by omega, by omega, h3.out, .inl h4⟩
            have hpk : Hid (p + 1 = cut + (k + 1)) := hid (by have := HP.out; omega)
            clear h6 h7 hl H11 HB5 HM7 Hm7 hrun d3 d5
            go_wp2
            go_roundg (gk - 1)
            case measure => omega
            case rel =>
              refine ⟨k + 1, a2, by omega, .inr (by omega), by omega, by go_num, ?_, ?_⟩
              · rw [← hpk.out]; exact hI9
              · rw [← hpk.out]; exact H12
    · have hkI : ¬ (k : Int) < (i : Int) := by omega
      have hmax : Hid (cut + k = max P I) := hid (by have := HPK.out; have := HII.out; omega)
      rw [hmax.out] at HI2 HR
      go_wp2
      go_end0
      exact ⟨rfl, a1, HI2.out, HR.out⟩
end
end Go.Proofs.YtjmdgcppllnkdaaDoor
