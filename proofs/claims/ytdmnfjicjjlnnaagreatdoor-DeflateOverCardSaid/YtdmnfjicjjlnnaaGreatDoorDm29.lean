/-
  The reference's stream: Inflate itself.
-/
import Derived.Test.YtdmnfjicjjlnnaaGreatDoorDm07
import Derived.Test.YtdmnfjicjjlnnaaGreatDoorDm28
import Derived.Test.YtdmnfjicjjlnnaaGreatDoorDm06
import Derived.Test.YtdmnfjicjjlnnaaGreatDoorDm05
import Derived.Deep.DeepCutAuto
import Derived.Deep.CutBlock
import Derived.Test.YtdmnfjicjjlnnaaGreatDoorDm27
import Derived.Test.YtdmnfjicjjlnnaaGreatDoorDm03
import Derived.Laws.BytesArg
import Derived.Lib.SlBytesConst
import Derived.Test.YtdmnfjicjjlnnaaGreatDoorRows
import Derived.Test.YtdmnfjicjjlnnaaGreatDoorDm18
import Derived.ProofKit
import Derived.LaidMore
import Derived.OpenShut
import Derived.Deep.Strs
import Derived.Stop.Joined
import Derived.Test.YtdmnfjicjjlnnaaGreatDoorDm13
import Derived.Test.YtdmnfjicjjlnnaaGreatDoorDm02
import Derived.Test.YtdmnfjicjjlnnaaGreatDoorDm01
import Derived.Deep.Slices
namespace Go.Proofs.YtdmnfjicjjlnnaaGreatDoor
set_option maxRecDepth 5000
open Go.RowKit
section
variable {w0 w : World} {Rs : List Thing}
theorem Held.builtR {w0 w w' : World} {v : Value} {l : List Nat} {Rs : List Thing} (h : Held w0 w Rs) (hb : Built w w' v l) : Held w0 w' (ownT 5 1 v l.length (u8s l) :: Rs) := h.pushOwn hb.1 hb.2.1 hb.2.2
theorem Held.nilN (h : Held w0 w Rs) (e : TypeId) (size : Nat) : Held w0 w (ownT e size (.slice none 0 0) 0 [] :: Rs) := h.nil e size
theorem Held.nth5 {R1 R2 R3 R4 R5 : Thing} (h : Held w0 w (R1 :: R2 :: R3 :: R4 :: R5 :: Rs)) : Held w0 w (R5 :: R1 :: R2 :: R3 :: R4 :: Rs) := h.perm (List.perm_middle (l₁ := [R1, R2, R3, R4]))
theorem Held.nth6 {R1 R2 R3 R4 R5 R6 : Thing} (h : Held w0 w (R1 :: R2 :: R3 :: R4 :: R5 :: R6 :: Rs)) : Held w0 w (R6 :: R1 :: R2 :: R3 :: R4 :: R5 :: Rs) := h.perm (List.perm_middle (l₁ := [R1, R2, R3, R4, R5]))
theorem Held.nth7 {R1 R2 R3 R4 R5 R6 R7 : Thing} (h : Held w0 w (R1 :: R2 :: R3 :: R4 :: R5 :: R6 :: R7 :: Rs)) : Held w0 w (R7 :: R1 :: R2 :: R3 :: R4 :: R5 :: R6 :: Rs) := h.perm (List.perm_middle (l₁ := [R1, R2, R3, R4, R5, R6]))
def intsN (l : List Nat) : List Value := ints (l.map fun (x : Nat) => (x : Int))
theorem intsN_app (a : List Nat) (b : Nat) : intsN (a ++ [b]) = intsN a ++ ints [(b : Int)] := by unfold intsN; rw [List.map_append, ints_append]; rfl
def InfAt (w0 w : World) (Rs : List Thing) (B : Nat) (bo : Option Addr) (bc m M : Nat) (all : List Nat) (e a rest : Nat) (O : List Nat) (T : List Tok) (ks ss : List Nat) : Prop :=
  ∃ (oo : Option Addr) (oc k : Nat) (ko : Option Addr) (kc nk : Nat) (so : Option Addr) (sc ns : Nat) (tt : Option Addr) (tc nt : Nat) (li di lc dc : Value), k = O.length ∧ nk = ks.length ∧ ns = ss.length ∧ nt = T.length ∧
    Held w0 w (strT B (.slice oo k oc) e (.int .i64 (rest : Int)) (.slice ko nk kc) (.slice so ns sc) (.slice bo m bc) a (M : Int) li di lc dc (.slice tt nt tc) :: rdT 1 (.slice bo m bc) m (u8s all) ::
      ownT 5 1 (.slice oo k oc) k (u8s O) :: ownT 3 1 (.slice ko nk kc) nk (intsN ks) :: ownT 3 1 (.slice so ns sc) ns (intsN ss) :: ownT 80 3 (.slice tt nt tc) nt (toksV T) :: Rs)
theorem tokInf {w' : World} {Rz : List Thing} {S : Nat × Nat × List Nat × List Tok} {B : Nat} {ko so bo : Option Addr} {nk kc ns sc bc m M nl nd : Nat} {li di : Value} {lit dist : List Int} {all ks ss : List Nat}
    (h : TokEnd w0 w' (ownT 3 1 (.slice ko nk kc) nk (intsN ks) :: ownT 3 1 (.slice so ns sc) ns (intsN ss) :: Rz) S B (.int .i64 ((0 : Nat) : Int)) (.slice ko nk kc) (.slice so ns sc) bo bc m M nl nd li di lit dist all) (hk : nk = ks.length) (hs : ns = ss.length) :
    ∃ a', (S.1 = 0 → a' = S.2.1) ∧ InfAt w0 w' Rz B bo bc m M all S.1 a' 0 S.2.2.1 S.2.2.2 ks ss := by
  obtain ⟨oo', oc', k', a', tt', tc', nt', lcv, dcv, h1, h2, h3, hh⟩ := h
  exact ⟨a', h3, oo', oc', k', ko, kc, nk, so, sc, ns, tt', tc', nt', li, di, lcv, dcv, h1, hk, hs, h2, hh.third.drop.third.drop.fourth.drop.fourth.nth6.nth6.nth6.nth6.nth6⟩
theorem fix_fine : (∀ y ∈ fixLit, 0 ≤ y ∧ y ≤ 15) ∧ (∀ y ∈ fixDist, 0 ≤ y ∧ y ≤ 15) ∧ fixLit.length = 288 ∧ fixDist.length = 32 := by decide +kernel
theorem Held.k4 {R1 R2 R3 R4 : Thing} (h : Held w0 w (R1 :: R2 :: R3 :: R4 :: Rs)) : Held w0 w (R1 :: R3 :: R4 :: R2 :: Rs) := h.perm (List.Perm.cons _ (List.perm_middle (l₁ := [R3, R4])).symm)
theorem Held.s5 {R1 R2 R3 R4 R5 : Thing} (h : Held w0 w (R1 :: R2 :: R3 :: R4 :: R5 :: Rs)) : Held w0 w (R1 :: R3 :: R4 :: R5 :: R2 :: Rs) := h.perm (List.Perm.cons _ (List.perm_middle (l₁ := [R3, R4, R5])).symm)
def InfEnd (w0 w' : World) (Rs : List Thing) (S : InfS) (B : Nat) (bits : List Nat) (M : Nat) : Prop := ∃ (bo : Option Addr) (bc m a' : Nat), m = bits.length ∧ InfAt w0 w' Rs B bo bc m M bits S.e a' S.rest S.out S.tk S.kinds S.stops
set_option maxRecDepth 100000 in
set_option maxHeartbeats 6400000 in
theorem inflate_of {Rz : List Thing} (v : Value) (l : List Nat) (mo : Int)
    (h : Held w0 w Rz) (hrd : Rd w 1 v l.length (u8s l)) (hb : ∀ b ∈ l, b < 256) (hl : l.length < 400000) (hmo : mo < 1000000000) (hmo2 : -1000000000 < mo) :
    Calls Tryz.prog 9 #[v, .int .i64 mo] w fun e' w' => ∃ B, e' = .returned (ptrV B) ∧ InfEnd w0 w' Rz (inflF (bits8 l) mo.toNat ((bits8 l).length + 1) 0 [] [] [] []) B (bits8 l) mo.toNat := by
  obtain ⟨i0, hi0, hz0, hz1, hz2⟩ := info_parts infoInt10
  have H := hid h
  have HB1 := hid (bits_any v l w hrd hb (by omega))
  obtain ⟨M, hM⟩ : ∃ M, M = mo.toNat := ⟨_, rfl⟩
  rw [← hM]
  obtain ⟨m, hm⟩ : ∃ m, m = (bits8 l).length := ⟨_, rfl⟩
  have hm8 : m ≤ 3200000 := by rw [hm, bits8_length]; omega
  rw [← hm]
  have HBITS : Hid (isBits (bits8 l)) := hid (bits8_isBits l)
  have hbt0 : (bits8 l).length = m := hm.symm
  generalize bits8 l = all at *
  generalize hS : inflF all M (m + 1) 0 [] [] [] [] = S
  have HS := hid hS
  have HML := hid hm
  have HMO : Hid ((mo < 0 → (0 : Int) = (M : Int)) ∧ (¬ mo < 0 → mo = (M : Int)) ∧ M < 1000000000) := hid ⟨fun h => by omega, fun h => by omega, by omega⟩
  have hMb : M < 1000000000 := by omega
  clear h hrd hS hm hb hl hmo hmo2 hM
  go_enter Tryz.func9, Tryz.ntmps9
  go_wp2_with fail
  refine HB1.out.mono ?_
  rintro e' w1 ⟨v1, rfl, hbt⟩
  have h1 := H.out.builtR hbt
  rw [hbt0] at h1
  obtain ⟨bo, bc, hform, _, _⟩ := hbt.1.form
  subst hform
  rw [hbt0] at h1 ⊢
  have H1 := hid h1
  clear HB1 hbt h1
  have START : ∀ wl (mv : Int), Held w0 wl (objT w1.heap.size [.slice none 0 0, .int .i64 0, .int .i64 0, .slice none 0 0, .slice none 0 0, .slice bo m bc, .int .i64 0, .int .i64 mv, .slice none 0 0, .slice none 0 0, .slice none 0 0, .slice none 0 0, .slice none 0 0] 36 :: ownT 5 1 (.slice bo m bc) m (u8s all) :: Rz) → mv = (M : Int) →
      InfAt w0 wl Rz w1.heap.size bo bc m M all 0 0 0 [] [] [] [] := fun wl mv hh hmv => by
    subst hmv
    have h2 := ((((hh.swap.toRd.swap.nilN 80 3).third.third.nilN 3 1).third.third.nilN 3 1).third.third.nilN 5 1).third.third
    exact ⟨none, 0, 0, none, 0, 0, none, 0, 0, none, 0, 0, .slice none 0 0, .slice none 0 0, .slice none 0 0, .slice none 0 0, rfl, rfl, rfl, rfl, h2⟩
  have START2 := hid START
  have HNW := hid (H1.out.newObj [.slice none 0 0, .int .i64 0, .int .i64 0, .slice none 0 0, .slice none 0 0, .slice bo m bc, .int .i64 0, .int .i64 mo, .slice none 0 0, .slice none 0 0, .slice none 0 0, .slice none 0 0, .slice none 0 0] 36)
  have f7 := HNW.out.obj.frozen 7
  have c7 := HNW.out.obj.cell (i := 7) rfl
  clear START
  go_upto_if 15 with (fail)
  go_cut [5] (fun s5 wx => s5 = .pointer (some ⟨w1.heap.size, 0, none⟩) ∧ Hid (InfAt w0 wx Rz w1.heap.size bo bc m M all 0 0 0 [] [] [] []))
  case first =>
    by_cases hneg : mo < 0
    · go_wp2
      go_meet
      case rel => exact ⟨rfl, hid (START2.out _ 0 (H1.out.newObj [.slice none 0 0, .int .i64 0, .int .i64 0, .slice none 0 0, .slice none 0 0, .slice bo m bc, .int .i64 0, .int .i64 0, .slice none 0 0, .slice none 0 0, .slice none 0 0, .slice none 0 0, .slice none 0 0] 36) (HMO.out.1 hneg))⟩
    · go_wp2
      go_meet
      case rel => exact ⟨rfl, hid (START2.out _ mo HNW.out (HMO.out.2.1 hneg))⟩
  case rest =>
    obtain ⟨rfl, HI⟩ := hcut
    clear HNW START2 f7 c7 H1 H
    generalize w1.heap.size = B at *
    go_wp2
    go_loopg [] (m + 2) (fun g wr => ∃ (a f : Nat) (O : List Nat) (T : List Tok) (ks ss : List Nat), a ≤ m ∧ m - a < f ∧ f < g ∧ Hid (O.length ≤ M ∧ O.length ≤ 258 * a ∧ T.length ≤ a ∧ ks.length ≤ a ∧ ss.length = ks.length ∧ S = inflF all M f a O T ks ss) ∧ Hid (InfAt w0 wr Rz B bo bc m M all 0 a 0 O T ks ss))
    case atStart => exact ⟨0, m + 1, [], [], [], [], by omega, by omega, by omega, hid ⟨by simp, by simp, by simp, by simp, rfl, HS.out.symm⟩, HI⟩
    case round =>
      obtain ⟨a, f, O, T, ks, ss, ham, hf, hg, HO, HQ⟩ := hrel
      obtain ⟨f', rfl⟩ : ∃ f', f = f' + 1 := ⟨f - 1, by omega⟩
      obtain ⟨oo, oc, k, ko, kc, nk, so, sc, ns, tt, tc, nt, li, di, lc, dc, hk, hnk, hns, hnt, hq⟩ := HQ.out
      cases ht : takeM all a 3 with
      | none =>
        have hT := take_no B (.slice oo k oc) 0 (.int .i64 ((0 : Nat) : Int)) (.slice ko nk kc) (.slice so ns sc) bo bc m a 3 (M : Int) li di lc dc (.slice tt nt tc) all hq ht (by omega) (by decide)
        rw [show ((3 : Nat) : Int) = 3 from rfl] at hT
        unfold ptrV at hT
        have HT := hid hT
        have HSe : Hid (S = ⟨5, a, O, T, ks, ss, 0⟩) := hid (by rw [HO.out.2.2.2.2.2, inflF_over (round_end ht)])
        have HL := hid (And.intro hk (And.intro hnk (And.intro hns hnt)))
        clear hT ht hq hk hnk hns hnt
        go_wp2_with fail
        refine HT.out.mono ?_
        rintro e' w6 ⟨rfl, hh⟩
        have H6 := hid hh
        clear hh HT HQ
        go_wp2
        go_ret
        refine ⟨B, rfl, bo, bc, m, a, HML.out, ?_⟩
        rw [HSe.out]
        exact ⟨oo, oc, k, ko, kc, nk, so, sc, ns, tt, tc, nt, li, di, lc, dc, HL.out.1, HL.out.2.1, HL.out.2.2.1, HL.out.2.2.2, H6.out⟩
      | some v3 =>
        obtain ⟨htl, htv⟩ := take_some ht
        have hv8 : v3 < 8 := by rw [htv]; exact num16_lt HBITS.out a 3
        have hT := take_yes B (.slice oo k oc) 0 (.int .i64 ((0 : Nat) : Int)) (.slice ko nk kc) (.slice so ns sc) bo bc m a 3 v3 (M : Int) li di lc dc (.slice tt nt tc) all hq ht HBITS.out (by omega) (by decide)
        rw [show ((3 : Nat) : Int) = 3 from rfl] at hT
        unfold ptrV at hT
        have HT := hid hT
        have HTK := hid ht
        have ham3 : a + 3 ≤ m := by rw [HML.out]; exact htl
        obtain ⟨kd, hkd⟩ : ∃ kd, kd = v3 / 2 := ⟨_, rfl⟩
        obtain ⟨fl, hfl⟩ : ∃ fl, fl = v3 % 2 := ⟨_, rfl⟩
        have hkdI : (v3 : Int) / 2 = (kd : Int) := by omega
        have hflI : (v3 : Int) % 2 = (fl : Int) := by omega
        have hkdT : (v3 : Int).tdiv 2 = (kd : Int) := by rw [hkd]; rfl
        have hflT : (v3 : Int).tmod 2 = (fl : Int) := by rw [hfl]; rfl
        have hkd4 : kd < 4 := by omega
        have hfl2 : fl < 2 := by omega
        have hkd0 : (0 : Int) ≤ (kd : Int) := Int.natCast_nonneg _
        have hv30 : (0 : Int) ≤ (v3 : Int) := Int.natCast_nonneg _
        have HKD := hid (And.intro hkd hfl)
        have hnkb : nk ≤ 3200000 := by have := HO.out.2.2.2.1; omega
        have HL := hid (And.intro hk (And.intro hnk (And.intro hns hnt)))
        clear hT ht htl htv hkd hfl hq hk hnk hns hnt
        go_wp2_with fail
        refine HT.out.mono ?_
        rintro e' w6 ⟨rfl, hh⟩
        have hb' := hh.obj
        have d3 := hb'.cell (i := 3) rfl
        have H6 := hid hh
        clear hh HT HQ hb'
        go_upto_block 2 with (refine wpList_app_held rfl (.tmp 33) (.tmp 35) 32 rfl 3 i0 (.int .i64 0) 1 8 Tryz.underlying32 hi0 hz0 hz1 hz2 rfl (by decide) _ nk _ rfl (H6.out.fourth.alloc _) _ 1 (ints [(kd : Int)]) rfl (Rd.lit _ [_] _ 1 1 (by decide) rfl) (ints_one _) (nk + 1) rfl (by unfold maxLen; omega) (by omega) ?_; intro lo' lcap' w7 h7; rw [← intsN_app] at h7; have hb' := h7.swap.obj; have e3 := hb'.cell (i := 3) rfl; have g3 := hb'.frozen 3; have H7 := hid ((h7.swap).setObj 3 (.slice lo' (nk + 1) lcap')); clear h7 hb')
        go_cut [7] (fun s7 wx => ∃ (bq : Bool) (e a2 a3 : Nat) (O2 : List Nat) (T2 : List Tok), s7 = .bool bq ∧ Hid (bq = decide (e = 0)) ∧ Hid (blockF all M kd (a + 3) O T = (e, a3, O2, T2) ∧ (e = 0 → a2 = a3)) ∧ Hid (InfAt w0 wx Rz B bo bc m M all e a2 0 O2 T2 (ks ++ [kd]) ss))
        case first =>
          have H8 := hid H7.out.k4
          have hkb : k ≤ 258 * a := by have := HO.out; have := HL.out; omega
          have hntb : nt ≤ a := by have := HO.out; have := HL.out; omega
          have hkM : k ≤ M := by have := HO.out; have := HL.out; omega
          have HKL : Hid (nk + 1 = (ks ++ [kd]).length) := hid (by rw [List.length_append, ← HL.out.2.1]; rfl)
          clear H7 H6 d3 e3 g3
          have ht3 : kd = 0 ∨ kd = 1 ∨ kd = 2 ∨ kd = 3 := by omega
          rcases ht3 with hk | hk | hk | hk
          · have q0 : ((kd : Int) == 0) = true := by rw [hk]; rfl
            have hs := stored_any B oo oc k _ _ _ bo bc m (a + 3) M li di lc dc (.slice tt nt tc) all O H8.out HBITS.out (by omega) (by omega) (by omega)
            unfold ptrV at hs
            obtain ⟨qe, qa, qo, hq⟩ : ∃ qe qa qo, storedF all M (a + 3) O = (qe, qa, qo) := ⟨_, _, _, rfl⟩
            rw [hq] at hs
            have HS1 := hid hs
            have HBF : Hid (blockF all M kd (a + 3) O T = (qe, qa, qo, T)) := hid (by unfold blockF; rw [if_pos hk, hq])
            clear hs hq hk H8
            go_wp2_with fail
            refine HS1.out.mono ?_
            rintro e' w8 ⟨rfl, oo', oc', k', a', h1, h2, hh⟩
            have HX := hid (And.intro h1 (And.intro h2 hh))
            clear h1 h2 hh HS1
            go_wp2
            go_meet
            case rel => exact ⟨_, qe, a', qa, qo, T, rfl, hid rfl, hid ⟨HBF.out, HX.out.2.1⟩, hid ⟨oo', oc', k', lo', lcap', nk + 1, so, sc, ns, tt, tc, nt, li, di, lc, dc, HX.out.1, HKL.out, HL.out.2.2.1, HL.out.2.2.2, HX.out.2.2⟩⟩
          · have q0 : ((kd : Int) == 0) = false := by simp; omega
            have q1 : ((kd : Int) == 1) = true := by rw [hk]; rfl
            have HF := hid (fixed_any B _ _ _ _ _ _ _ _ _ _ _ _ _ H8.out)
            unfold ptrV at HF
            have HBF : Hid (blockF all M kd (a + 3) O T = tokF fixLit fixDist all M (m + 1) (a + 3) O T) := hid (by unfold blockF; rw [if_neg (by omega), if_pos hk, HML.out])
            clear hk H8
            go_wp2_with fail
            refine HF.out.mono ?_
            rintro e' w8 ⟨rfl, li', di', hh⟩
            have hs := tokens_any B oo oc k _ _ _ bo bc m (a + 3) M li' di' lc dc tt nt tc 288 32 fixLit fixDist all O T hh.nth6.nth6.nth7.nth5.nth7.nth7.nth7 HBITS.out (by omega) (by omega) hkM (by omega) (by omega) fix_fine.2.2.1.symm fix_fine.2.2.2.symm (by omega) (by omega) fix_fine.1 fix_fine.2.1
            unfold ptrV at hs
            rw [← HBF.out] at hs
            have HS1 := hid hs
            clear hs hh HF
            go_wp2_with fail
            refine HS1.out.mono ?_
            rintro e' w9 ⟨rfl, hte⟩
            obtain ⟨a', h3, hi⟩ := tokInf hte HKL.out HL.out.2.2.1
            have HX := hid (And.intro h3 hi)
            clear hte h3 hi HS1
            go_wp2
            go_meet
            case rel => exact ⟨_, (blockF all M kd (a + 3) O T).1, a', (blockF all M kd (a + 3) O T).2.1, (blockF all M kd (a + 3) O T).2.2.1, (blockF all M kd (a + 3) O T).2.2.2, rfl, hid rfl, hid ⟨rfl, HX.out.1⟩, hid HX.out.2⟩
          · have q0 : ((kd : Int) == 0) = false := by simp; omega
            have q1 : ((kd : Int) == 1) = false := by simp; omega
            have q2 : ((kd : Int) == 2) = true := by rw [hk]; rfl
            have hd := dynamic_any B (.slice oo k oc) _ _ _ bo bc m (a + 3) M li di lc dc (.slice tt nt tc) all H8.out HBITS.out (by omega) (by omega)
            unfold ptrV at hd
            have HBF : Hid (blockF all M kd (a + 3) O T = if (dynF all (a + 3)).1 ≠ 0 then ((dynF all (a + 3)).1, (dynF all (a + 3)).2.1, O, T) else tokF (dynF all (a + 3)).2.2.1 (dynF all (a + 3)).2.2.2 all M (m + 1) (dynF all (a + 3)).2.1 O T) := hid (by unfold blockF; rw [if_neg (by omega), if_neg (by omega), if_pos hk, HML.out])
            have hgr : (dynF all (a + 3)).1 = 0 → _ := fun h => dynF_grow h
            obtain ⟨de, da, dl, dd, hdd⟩ : ∃ de da dl dd, dynF all (a + 3) = (de, da, dl, dd) := ⟨_, _, _, _, rfl⟩
            rw [hdd] at hd HBF hgr
            have HD := hid hd
            have HG := hid hgr
            clear hk H8 hd hdd hgr
            by_cases hde : de = 0
            · subst hde
              have hgr := HG.out rfl
              have HBF2 : Hid (blockF all M kd (a + 3) O T = tokF dl dd all M (m + 1) da O T) := hid (by rw [HBF.out, if_neg (fun h => h rfl)])
              have HD2 : Hid (Calls Tryz.prog 21 #[.pointer (some ⟨B, 0, none⟩)] _ fun e' w' => e' = .returned (.bool true) ∧ _) := HD
              clear HBF HD
              go_wp2_with fail
              refine HD2.out.mono ?_
              rintro e' w8 ⟨rfl, hde⟩
              rcases hde with ⟨_, li', di', hh⟩ | ⟨hne, _⟩
              rotate_left
              · exact absurd rfl hne
              have hs := tokens_any B oo oc k _ _ _ bo bc m da M li' di' lc dc tt nt tc dl.length dd.length dl dd all O T hh.nth6.nth6.nth7.nth6.nth7.nth7.nth7 HBITS.out (by have := hgr.2.1; have := HML.out; omega) (by omega) hkM (by have := hgr.1; omega) (by have := hgr.1; omega) rfl rfl hgr.2.2.1 hgr.2.2.2.1 hgr.2.2.2.2.1 hgr.2.2.2.2.2
              unfold ptrV at hs
              rw [← HBF2.out] at hs
              have HS1 := hid hs
              clear hs hh hgr HD2 HG
              go_wp2_with fail
              refine HS1.out.mono ?_
              rintro e' w9 ⟨rfl, hte⟩
              obtain ⟨a', h3, hi⟩ := tokInf hte HKL.out HL.out.2.2.1
              have HX := hid (And.intro h3 hi)
              clear hte h3 hi HS1
              go_wp2
              go_meet
              case rel => exact ⟨_, (blockF all M kd (a + 3) O T).1, a', (blockF all M kd (a + 3) O T).2.1, (blockF all M kd (a + 3) O T).2.2.1, (blockF all M kd (a + 3) O T).2.2.2, rfl, hid rfl, hid ⟨rfl, HX.out.1⟩, hid HX.out.2⟩
            · have HBF2 : Hid (blockF all M kd (a + 3) O T = (de, da, O, T)) := hid (by rw [HBF.out, if_pos hde])
              have hdf : decide (de = 0) = false := decide_eq_false hde
              have HDE := hid hde
              have HD2 := hid HD.out
              simp only [hdf] at HD2
              clear HBF HD HG hdf hde
              go_wp2_with fail
              refine HD2.out.mono ?_
              rintro e' w8 ⟨rfl, hdn⟩
              rcases hdn with ⟨h0, _⟩ | ⟨_, a', li', di', hh⟩
              · exact absurd h0 HDE.out
              have HX := hid hh
              clear hh HD2
              go_wp2
              go_meet
              case rel => exact ⟨false, de, a', da, O, T, rfl, hid (decide_eq_false HDE.out).symm, hid ⟨HBF2.out, fun h => absurd h HDE.out⟩, hid ⟨oo, oc, k, lo', lcap', nk + 1, so, sc, ns, tt, tc, nt, li', di', lc, dc, HL.out.1, HKL.out, HL.out.2.2.1, HL.out.2.2.2, HX.out⟩⟩
          · have q0 : ((kd : Int) == 0) = false := by simp; omega
            have q1 : ((kd : Int) == 1) = false := by simp; omega
            have q2 : ((kd : Int) == 2) = false := by simp; omega
            have HBF : Hid (blockF all M kd (a + 3) O T = (2, a + 3, O, T)) := hid (by unfold blockF; rw [if_neg (by omega), if_neg (by omega), if_neg (by omega)])
            have g1 := H8.out.obj.frozen 1
            have e1 := H8.out.obj.cell (i := 1) rfl
            clear hk
            go_wp2
            go_meet
            case rel => exact ⟨false, 2, a + 3, a + 3, O, T, rfl, hid rfl, hid ⟨HBF.out, fun h => rfl⟩, hid ⟨oo, oc, k, lo', lcap', nk + 1, so, sc, ns, tt, tc, nt, li, di, lc, dc, HL.out.1, HKL.out, HL.out.2.2.1, HL.out.2.2.2, H8.out.setObj 1 (.int .i64 2)⟩⟩
        case rest =>
          obtain ⟨bq, e, a2, a3, O2, T2, rfl, hbq, HBK, HI2⟩ := hcut
          clear H7 H6 d3 e3 g3
          have HO2 := hid HO.out
          cases bq with
          | false =>
            have he : e ≠ 0 := of_decide_eq_false hbq.out.symm
            have HSe : Hid (S = ⟨e, a3, O2, T2, ks ++ [kd], ss, 0⟩) := hid (by
              rw [HO.out.2.2.2.2.2, HKD.out.1]
              exact inflF_over (round_err HTK.out (by rw [← HKD.out.1]; exact HBK.out.1) he))
            clear he
            go_wp2
            go_ret
            refine ⟨B, rfl, bo, bc, m, a2, HML.out, ?_⟩
            rw [HSe.out]
            exact HI2.out
          | true =>
            have he : e = 0 := of_decide_eq_true hbq.out.symm
            subst he
            have ha23 : a2 = a3 := HBK.out.2 rfl
            subst ha23
            have hgr := blockF_grow (kind := kd) (out := O) (tk := T) (M := M) (a := a + 3) HBITS.out (by rw [← HML.out]; exact ham3) HO.out.1 (by rw [HBK.out.1])
            rw [HBK.out.1] at hgr
            have HGR : Hid (a + 3 ≤ a2 ∧ a2 ≤ m ∧ O2.length ≤ O.length + 258 * (a2 - (a + 3)) ∧ T2.length ≤ T.length + (a2 - (a + 3)) ∧ O2.length ≤ M) := hid (by rw [HML.out]; exact hgr)
            obtain ⟨po, pc, pk, ro, rc, rn, uo, uc, un, xo, xc, xn, xli, xdi, xlc, xdc, h1, h2, h3, h4, hh⟩ := HI2.out
            have HLN := hid (And.intro h1 (And.intro h2 (And.intro h3 h4)))
            have hunb : un ≤ 3200000 := by have := HO.out.2.2.2.1; have := HO.out.2.2.2.2.1; omega
            have hpk0 : (0 : Int) ≤ (pk : Int) := Int.natCast_nonneg _
            have H9 := hid hh
            have hb9 := hh.obj
            have s0 := hb9.cell (i := 0) rfl
            have s4 := hb9.cell (i := 4) rfl
            have HB9 := hid hb9
            have HA9 := hid hh.nth5.swap.apart
            clear hgr h1 h2 h3 h4 hh hb9
            have sa0 : ∀ o, (wc.alloc o).cell? ⟨B, 0, none⟩ = some (.slice po pk pc) := fun o => (HB9.out.alloc o).cell (i := 0) rfl
            have sa4 : ∀ o, (wc.alloc o).cell? ⟨B, 4, none⟩ = some (.slice uo un uc) := fun o => (HB9.out.alloc o).cell (i := 4) rfl
            go_upto_region 21 with (fail)
            go_cut [6] (fun s6 wx => s6 = .int .i64 (v3 : Int) ∧ Hid (InfAt w0 wx Rz B bo bc m M all 0 a2 0 O2 T2 (ks ++ [kd]) (ss ++ [O2.length])))
            case first =>
              go_region_law ((refine step_app _ (by rfl) (.tmp 68) (.tmp 74) 32 (by rfl) 3 i0 (.int .i64 0) 1 8 Tryz.underlying32 hi0 hz0 hz1 hz2 (by rfl) (by decide) (.slice uo un uc) un (intsN ss) (by rfl) (by exact (H9.out.nth5.own.alloc _).drew) (.slice (some ⟨wc.heap.size, 0, none⟩) 1 1) 1 (ints [(pk : Int)]) (by rfl) (by exact (Rd.lit wc [_] _ 1 1 (by decide) rfl).drew) (ints_one _) (by unfold maxLen; omega) (by omega) ?_; intro ao1 cap1 w2 hown1 hgrow hat; have HBa := hid ((HB9.out.alloc _).drew.grown hgrow HA9.out); have f1 := HBa.out.frozen 4; have c1 := HBa.out.cell (i := 4) rfl; have H10 := hid ((((H9.out.nth5.alloc _).drew.app hown1 hgrow hat).swap.setObj 4 (.slice ao1 (un + 1) cap1)).s5); clear hown1 hgrow hat))
              all_goals
                go_wp2
                go_meet
                case rel =>
                  refine ⟨rfl, hid ⟨po, pc, pk, ro, rc, rn, ao1, cap1, un + 1, xo, xc, xn, xli, xdi, xlc, xdc, HLN.out.1, HLN.out.2.1, by rw [List.length_append, ← HLN.out.2.2.1]; rfl, HLN.out.2.2.2, ?_⟩⟩
                  rw [intsN_app ss, ← HLN.out.1]
                  exact H10.out
            case rest =>
              obtain ⟨rfl, HI3⟩ := hcut
              clear H9 HB9 HA9 s0 s4 sa0 sa4 HI2 HLN
              by_cases hf1 : fl = 1
              · subst hf1
                obtain ⟨po, pc, pk, ro, rc, rn, uo, uc, un, xo, xc, xn, xli, xdi, xlc, xdc, h1, h2, h3, h4, hh⟩ := HI3.out
                have HLN := hid (And.intro h1 (And.intro h2 (And.intro h3 h4)))
                have s6 := hh.obj.cell (i := 6) rfl
                have s2 := hh.obj.cell (i := 2) rfl
                have g2 := hh.obj.frozen 2
                obtain ⟨q7, hq7⟩ : ∃ q7, q7 = a2 + 7 := ⟨_, rfl⟩
                obtain ⟨R, hR⟩ : ∃ R, R = (a2 + 7) / 8 := ⟨_, rfl⟩
                have h7I : (a2 : Int) + 7 = (q7 : Int) := by omega
                have hRI : (q7 : Int) / 8 = (R : Int) := by omega
                have hRT : (q7 : Int).tdiv 8 = (R : Int) := by rw [Int.tdiv_eq_ediv_of_nonneg (by omega)]; omega
                have hq70 : (0 : Int) ≤ (q7 : Int) := Int.natCast_nonneg _
                have ha2b : a2 < 1000000000 := by have := HGR.out.2.1; omega
                have hq7b : q7 < 1000001000 := by omega
                have HSe : Hid (S = ⟨0, a2, O2, T2, ks ++ [kd], ss ++ [O2.length], R⟩) := hid (by
                  rw [HO.out.2.2.2.2.2, hR, HKD.out.1]
                  exact inflF_over (round_last HTK.out (by rw [← HKD.out.1]; exact HBK.out.1) HKD.out.2.symm))
                have H11 := hid (hh.setObj 2 (.int .i64 (R : Int)))
                clear hq7 hR h1 h2 h3 h4 hh HI3
                go_wp2
                go_ret
                refine ⟨B, rfl, bo, bc, m, a2, HML.out, ?_⟩
                rw [HSe.out]
                exact ⟨po, pc, pk, ro, rc, rn, uo, uc, un, xo, xc, xn, xli, xdi, xlc, xdc, HLN.out.1, HLN.out.2.1, HLN.out.2.2.1, HLN.out.2.2.2, H11.out⟩
              · have hf0 : ((fl : Int) == 1) = false := by simp; omega
                have HNE := hid hf1
                have hf0b : ¬ (fl : Int) = 1 := by omega
                clear hf1
                go_wp2
                go_roundg (gk - 1)
                case measure => omega
                case rel =>
                  have hg2 := HGR.out
                  have ho := HO.out
                  refine ⟨a2, f', O2, T2, ks ++ [kd], ss ++ [O2.length], hg2.2.1, by omega, by omega, hid ⟨hg2.2.2.2.2, by omega, by omega, ?_, ?_, ?_⟩, HI3⟩
                  · rw [List.length_append]; simp only [List.length_singleton]; omega
                  · rw [List.length_append, List.length_append]; simp only [List.length_singleton]; omega
                  · rw [ho.2.2.2.2.2, HKD.out.1]
                    exact inflF_on (round_more HTK.out (by rw [← HKD.out.1]; exact HBK.out.1) (by rw [← HKD.out.2]; exact HNE.out))
theorem inflate_any (v : Value) (l : List Nat) (mo : Int)
    (h : Held w0 w (rdT 1 v l.length (u8s l) :: Rs)) (hb : ∀ b ∈ l, b < 256) (hl : l.length < 400000) (hmo : mo < 1000000000) (hmo2 : -1000000000 < mo) :
    Calls Tryz.prog 9 #[v, .int .i64 mo] w fun e' w' => ∃ B, e' = .returned (ptrV B) ∧ InfEnd w0 w' (rdT 1 v l.length (u8s l) :: Rs) (inflF (bits8 l) mo.toNat ((bits8 l).length + 1) 0 [] [] [] []) B (bits8 l) mo.toNat :=
  inflate_of v l mo h h.rdv hb hl hmo hmo2
end
end Go.Proofs.YtdmnfjicjjlnnaaGreatDoor
/-
  The laws' own example: 'ab' as a stream is read as 'ab'.
-/
namespace Go.Proofs.YtdmnfjicjjlnnaaGreatDoor
set_option maxRecDepth 5000
open Go.RowKit
theorem reads_rdT (w0 : World) (size : Nat) (v : Value) (n : Nat) (xs : List Value) : Reads w0 (rdT size v n xs) size v n xs := fun _ _ _ h => ⟨h.1, fun _ k hk => .inr (h.2 k hk)⟩
section
variable {w0 w : World} {Rs : List Thing}
set_option maxRecDepth 100000 in
set_option maxHeartbeats 3200000 in
theorem h_answers11 (hl : Levs w0) (hO : Ordr w0) (h : Held w0 w Rs) :
    Calls Tryz.prog 6 #[] w fun e w' => e = .returned (.bool true) ∧ Held w0 w' Rs := by
  have H0 := hid h
  have hcv : (convert 22 22 (.slice (some ⟨w.heap.size, 0, none⟩) 2 2)).run Tryz.prog (w.alloc (.cells #[.int .u8 97, .int .u8 98] 5)) = .ok (.slice (some ⟨w.heap.size, 0, none⟩) 2 2) (w.alloc (.cells #[.int .u8 97, .int .u8 98] 5 (2, 3))) :=
    Lib.run_convert_bytes_const w _ 5 #[.int .u8 97, .int .u8 98] 2 2 Tryz.underlying22 Tryz.underlying5
  have h1 : Held w0 (w.alloc (.cells #[.int .u8 97, .int .u8 98] 5 (2, 3))) (rdT 1 (.slice (some ⟨w.heap.size, 0, none⟩) 2 2) 2 (u8s [97, 98]) :: Rs) :=
    h.push _ (fun k => k = w.heap.size) ⟨Rd.marked9 w (u8s [97, 98]) 2 5 (2, 3) rfl (by decide), fun k hk => by simp [Value.ownBlock] at hk; exact hk.symm⟩ ((Mod.refl w _).alloc _) (fun k hk => by subst hk; exact ⟨Nat.le_refl _, by simp⟩)
  have HW := hid (dwhole_any 6 hl hO (.slice (some ⟨w.heap.size, 0, none⟩) 2 2) 2 [97, 98] h1 (reads_rdT _ _ _ _ _) (by decide) (by decide))
  obtain ⟨_, hb, hlen, hr⟩ := whole_is finLaws blkLaw [97, 98] 6 (by decide) (by decide)
  obtain ⟨tk, ks, ss, p, hr, hks, _, _, _⟩ := hr 100 (by decide)
  generalize wholeF finM (blkF lensF) [97, 98] 6 = W at *
  have hWl : W.length < 400000 := by simp only [List.length_cons, List.length_nil] at hlen; omega
  have HI := hid (fun (w' : World) (Rz : List Thing) (d : Value) (hz : Held w0 w' (rdT 1 d W.length (u8s W) :: Rz)) => inflate_any d W 100 hz hb hWl (by decide) (by decide))
  have e100 : (100 : Int).toNat = 100 := rfl
  rw [e100] at HI
  simp only [hr] at HI
  clear h h1 hb hlen hr hks
  go_enter Tryz.func6, Tryz.ntmps6
  go_wp2_with fail
  with_reducible refine HW.out.mono ?_
  rintro e w1 ⟨d, rfl, h1⟩
  have HI2 := hid (HI.out _ _ _ h1.toRd)
  clear h1 HI HW hcv
  go_wp2_with fail
  with_reducible refine HI2.out.mono ?_
  rintro e w2 ⟨B2, rfl, sb, sc, sm, sa, hsm, oo, oc, k, ko, kc, nk, so, stc, ns, tt, tc, nt, li, di, lc, dc, hk, hnk, hns, hnt, hh⟩
  dsimp only at hk hnk hns hnt hh
  obtain rfl : k = 2 := hk
  unfold ptrV
  obtain ⟨g, off, rfl, hcell, _, _⟩ := hh.third.own.site (by omega)
  have q0 := hh.obj.cell (i := 0) rfl
  have q1 := hh.obj.cell (i := 1) rfl
  have hcs := run_convert_bytes_arg (P := Tryz.prog) w2 22 5 Tryz.underlying22 Tryz.underlying5 g off 2 oc [97, 98] rfl (fun i hi => hcell i _ (by
    match i, hi with
    | 0, _ | 1, _ => rfl)) 9 Tryz.underlying9
  have hst : strOfNums [97, 98] = ⟨#[97, 98]⟩ := by decide
  rw [hst] at hcs
  have HE := hid ((hh.drop.drop.drop.drop.drop.drop).drop.drop)
  clear hh HI2 hcell hnk hns hnt
  go_wp2
  go_ret
  exact ⟨rfl, HE.out⟩
end
end Go.Proofs.YtdmnfjicjjlnnaaGreatDoor
/-
  From the row's condition on the package-level array of the order of lengths to the array's cells; a start that meets it.
-/
namespace Go.Proofs.YtdmnfjicjjlnnaaGreatDoor
set_option maxRecDepth 5000
open Go.ChangeShapes Go.WideShapes Go.ChangeAt Go.RowKit
def laidOrd : List (String × DataW Unit) := [("concertina/block.order", Rows.laid_concertina_block_order)]
theorem gOrd : Tryz.prog.globalNamed "concertina/block.order" = some 1 := by kernel_rfl
theorem tOrd : (Tryz.prog.globals[1]?).map (·.type) = some 157 := by kernel_rfl
theorem cells_intO : Tryz.prog.cellsOf 3 = 1 := by kernel_rfl
section
variable {H : Type} {enc : TypeId × Value → H} {W : World} {base : Nat} {sp : Nat → Bool} {held : Bool}
theorem ord_int {m : Nat} {cs : List Value} {y : DataW H × List MemPlace} {a : Int} (h : DataW.trod enc Tryz.prog W base sp held m 3 cs = some y) (hy : y.1 = .lit (.int .i64 a)) : cs = [.int .i64 a] := by
  obtain ⟨n, e1, e2, _⟩ := DataW.trod_int Tryz.underlying3 h
  rw [e2] at hy
  have : n = a := by simpa using hy
  rw [← this]; exact e1
theorem ord_of_laid (h : laidMetH Tryz.prog laidOrd W) : Ordr W := by
  rw [MakeChecks.laidMetH_plain _ _ _ (by kernel_rfl)] at h
  obtain ⟨ps, ⟨g0, t0, cs, f0, p0, q0, hg0, ht0, hv0, hd0, _, _⟩, _, _⟩ := h
  obtain rfl := Option.some.inj (gOrd.symm.trans hg0)
  obtain rfl := Option.some.inj (tOrd.symm.trans ht0)
  obtain ⟨xs, m, _, hx, hlen, hn, hel⟩ := DataW.trod_array Tryz.underlying157 hd0
  have hxs : xs.map (·.1) = orderF.map fun (t : Nat) => DataW.lit (.int .i64 (t : Int)) := by
    have e := congrArg Prod.fst hx
    exact (DataW.agg.inj e).symm
  intro i v hv
  have hi : i < 19 := (List.getElem?_eq_some_iff.1 hv).1
  have hcell := World.var?_cell hg0 hv0 i
  rw [hcell]
  have h1 := hel i hi
  rw [cells_intO] at h1
  have h2 : xs[i]? = some (xs[i]'(by omega)) := List.getElem?_eq_getElem _
  rw [h2] at h1
  obtain ⟨o, ho⟩ : ∃ o, orderF[i]? = some o := ⟨orderF[i]'hi, List.getElem?_eq_getElem _⟩
  have h3 := congrArg (fun l => l[i]?) hxs
  simp only [List.getElem?_map] at h3
  rw [h2, ho] at h3
  have h4 := ord_int h1 (by simpa using h3)
  have h5 := congrArg (fun l => l[0]?) h4
  simp only [List.getElem?_take, List.getElem?_drop] at h5
  rw [Nat.mul_one] at h5
  simp at h5
  have h6 : v = .int .i64 (o : Int) := by
    simp [nums, ho] at hv
    exact hv.symm
  rw [h6, h5]
end
end Go.Proofs.YtdmnfjicjjlnnaaGreatDoor
/-
  From the row's condition on the package-level table of levels to the table's cells; a start that meets it.
-/
namespace Go.Proofs.YtdmnfjicjjlnnaaGreatDoor
set_option maxRecDepth 5000
open Go.ChangeShapes Go.WideShapes Go.ChangeAt Go.RowKit
def laidLev : List (String × DataW Unit) := [("concertina/match.levels", Rows.laid_concertina_match_levels)]
theorem gLev : Tryz.prog.globalNamed "concertina/match.levels" = some 0 := by kernel_rfl
theorem tLev : (Tryz.prog.globals[0]?).map (·.type) = some 101 := by kernel_rfl
theorem cells_search : Tryz.prog.cellsOf 53 = 3 := by kernel_rfl
theorem cells_intM : Tryz.prog.cellsOf 3 = 1 := by kernel_rfl
section
variable {H : Type} {enc : TypeId × Value → H} {W : World} {base : Nat} {sp : Nat → Bool} {held : Bool}
theorem lev_int {m : Nat} {cs : List Value} {y : DataW H × List MemPlace} {a : Int} (h : DataW.trod enc Tryz.prog W base sp held m 3 cs = some y) (hy : y.1 = .lit (.int .i64 a)) : cs = [.int .i64 a] := by
  obtain ⟨n, e1, e2, _⟩ := DataW.trod_int Tryz.underlying3 h
  rw [e2] at hy
  have : n = a := by simpa using hy
  rw [← this]; exact e1
theorem lev_search {m : Nat} {cs : List Value} {y : DataW H × List MemPlace} {a b c : Int} (h : DataW.trod enc Tryz.prog W base sp held m 53 cs = some y) (hy : y.1 = .agg [.lit (.int .i64 a), .lit (.int .i64 b), .lit (.int .i64 c)]) : cs = [.int .i64 a, .int .i64 b, .int .i64 c] := by
  obtain ⟨y0, y1, y2, n, rfl, hl, h0, h1, h2⟩ := Deep.trod_struct3 Tryz.underlying53 h
  simp only [DataW.agg.injEq, List.cons.injEq, and_true] at hy
  rw [cells_search] at hl
  have k0 := lev_int h0 hy.1
  have k1 := lev_int h1 hy.2.1
  have k2 := lev_int h2 hy.2.2
  simp only [cells_intM] at k0 k1 k2
  match cs, hl with
  | [c0, c1, c2], _ =>
    simp at k0 k1 k2
    rw [k0, k1, k2]
theorem levs_of_laid (h : laidMetH Tryz.prog laidLev W) : Levs W := by
  rw [MakeChecks.laidMetH_plain _ _ _ (by kernel_rfl)] at h
  obtain ⟨ps, ⟨g0, t0, cs, f0, p0, q0, hg0, ht0, hv0, hd0, _, _⟩, _, _⟩ := h
  obtain rfl := Option.some.inj (gLev.symm.trans hg0)
  obtain rfl := Option.some.inj (tLev.symm.trans ht0)
  obtain ⟨xs, m, _, hx, hlen, hn, hel⟩ := DataW.trod_array Tryz.underlying101 hd0
  have hxs : xs.map (·.1) = lvls.map fun t => DataW.agg [.lit (.int .i64 (t.1 : Int)), .lit (.int .i64 (t.2.1 : Int)), .lit (.int .i64 (t.2.2 : Int))] := by
    have e := congrArg Prod.fst hx
    exact (DataW.agg.inj e).symm
  have hcs : ∀ k, k < 10 → (cs.toList.drop (k * 3)).take 3 = [.int .i64 (((lvls[k]?.getD (0, 0, 0)).1 : Nat) : Int), .int .i64 (((lvls[k]?.getD (0, 0, 0)).2.1 : Nat) : Int), .int .i64 (((lvls[k]?.getD (0, 0, 0)).2.2 : Nat) : Int)] := by
    intro k hk
    have h1 := hel k hk
    rw [cells_search] at h1
    have h2 : xs[k]? = some (xs[k]'(by omega)) := List.getElem?_eq_getElem _
    rw [h2] at h1
    refine lev_search h1 ?_
    have h3 := congrArg (fun l => l[k]?) hxs
    simp only [List.getElem?_map] at h3
    rw [h2] at h3
    have hk2 : k < lvls.length := hk
    rw [List.getElem?_eq_getElem hk2] at h3 ⊢
    simpa using h3
  intro i v hv
  have hi : i < 30 := (List.getElem?_eq_some_iff.1 hv).1
  have hcell := World.var?_cell hg0 hv0 i
  rw [hcell]
  obtain ⟨k, j, hij, hk, hj⟩ : ∃ k j, i = k * 3 + j ∧ k < 10 ∧ j < 3 := ⟨i / 3, i % 3, by omega, by omega, by omega⟩
  have h1 := hcs k hk
  have h2 := lvl_cells k hk
  have h3 := congrArg (fun l => l[j]?) h1
  simp only [List.getElem?_take, if_pos hj, List.getElem?_drop] at h3
  rw [← hij, Array.getElem?_toList] at h3
  rw [h3]
  rw [hij] at hv
  match j, hj with
  | 0, _ => rw [Nat.add_zero, h2.1] at hv; exact hv
  | 1, _ => rw [h2.2.1] at hv; exact hv
  | 2, _ => rw [h2.2.2] at hv; exact hv
end
end Go.Proofs.YtdmnfjicjjlnnaaGreatDoor
/-
  What a law is handed, opened: numbers, bools, strings, slices of any of these, structs. A 'Shape' says what the cells of a type hold; no program is named here.
-/
namespace Go.Proofs.YtdmnfjicjjlnnaaGreatDoor
set_option maxRecDepth 5000
open Go.RowKit
structure Shape (P : Program) (α : Type) where
  t : TypeId
  size : Nat
  good : World → List Value → α → Prop
  sized : P.cellsOf t = size
  long : ∀ w cs a, good w cs a → cs.length = size
  opens : ∀ {H : Type} {enc : TypeId × Value → H} {W : World} {fuel : Nat} {cs : List Value} {x : DataW H × List MemPlace},
    DataW.trod enc P W 0 (fun _ => true) true fuel t cs = some x → ∃ a, good W cs a
section
variable {P : Program}
def shInt (t : TypeId) (k : IntKind) (ht : P.underlying t = some (.int k)) (hc : P.cellsOf t = 1) : Shape P Int where
  t := t
  size := 1
  good := fun _ cs n => cs = [.int k n] ∧ (Lit.int k n).wf = true
  sized := hc
  long := fun _ _ _ h => by rw [h.1]; rfl
  opens := fun h => by
    obtain ⟨n, h1, _, h2⟩ := DataW.trod_int ht h
    exact ⟨n, h1, h2⟩
def IsSlice {α : Type} (S : Shape P α) (W : World) (v : Value) (l : List α) : Prop :=
  ∃ ao cap, v = .slice ao l.length cap ∧ l.length ≤ cap ∧ cap ≤ maxLen ∧ (ao = none → cap = 0) ∧ (l.length = 0 ∨ ∃ g off, ao = some ⟨g, off, none⟩ ∧
    ∀ i a, l[i]? = some a → ∃ xs, S.good W xs a ∧ ∀ j u, xs[j]? = some u → W.cell? ⟨g, off + i * S.size + j, none⟩ = some u)
def shSlice {α : Type} (S : Shape P α) (t : TypeId) (ht : P.underlying t = some (.slice S.t)) (hc : P.cellsOf t = 1) (hs : 0 < S.size) [Inhabited α] : Shape P (List α) where
  t := t
  size := 1
  good := fun W cs l => ∃ v, cs = [v] ∧ IsSlice S W v l
  sized := hc
  long := fun _ _ _ h => by obtain ⟨v, h, _⟩ := h; rw [h]; rfl
  opens := fun {H enc W fuel cs x} h => by
    rcases Go.Deep.open_slice ht h with ⟨hcs, _⟩ | ⟨ad, l, c, m, n, D, Pl, hcs, _, hl, hm, hmm, _, hel⟩
    · exact ⟨[], _, hcs, none, 0, rfl, Nat.le_refl _, Nat.zero_le _, fun _ => rfl, .inl rfl⟩
    · simp only [if_true] at hmm
      subst hmm
      rw [S.sized] at hel
      by_cases h0 : l = 0
      · subst h0
        exact ⟨[], _, hcs, some ad, m, rfl, by simp, hm, (fun h => by cases h), .inl rfl⟩
      · obtain ⟨g, off, spot⟩ := ad
        have hspot : spot = none := by
          obtain ⟨cs', hc0, _⟩ := hel 0 (by omega)
          obtain ⟨_, hcl, hcc⟩ := World.cells?_some hc0
          have hx := hcc 0 hs
          rw [List.getElem?_eq_getElem (by omega)] at hx
          have := World.cell?_spot hx
          simpa [Addr.add] using this
        subst hspot
        obtain ⟨A, hA⟩ := Go.Deep.choose_lt (α := α) (n := l) (p := fun i a => ∃ xs, S.good W xs a ∧ ∀ j u, xs[j]? = some u → W.cell? ⟨g, off + i * S.size + j, none⟩ = some u) (fun i hi => by
          obtain ⟨cs', hc0, ht⟩ := hel i (by omega)
          obtain ⟨a, ha⟩ := S.opens ht
          obtain ⟨_, hcl, hcc⟩ := World.cells?_some hc0
          refine ⟨a, cs', ha, fun j u hu => ?_⟩
          have hj := hcc j (by have := (List.getElem?_eq_some_iff.1 hu).1; omega)
          rw [Addr.add_lit, Addr.add_lit] at hj
          rw [hj]; exact hu)
        refine ⟨(List.range l).map A, _, hcs, some ⟨g, off, none⟩, m, by simp, by simpa using hl, hm, (fun h => by cases h), .inr ⟨g, off, rfl, fun i a hi => ?_⟩⟩
        have hil : i < l := by have := (List.getElem?_eq_some_iff.1 hi).1; simpa using this
        rw [List.getElem?_map, List.getElem?_range hil] at hi
        simp only [Option.map_some, Option.some.injEq] at hi
        subst hi
        exact hA i hil
theorem IsSlice.form {α : Type} {S : Shape P α} {W : World} {v : Value} {l : List α} (h : IsSlice S W v l) : ∃ ao cap, v = .slice ao l.length cap ∧ l.length ≤ cap ∧ cap ≤ maxLen := by
  obtain ⟨ao, cap, h1, h2, h3, _⟩ := h
  exact ⟨ao, cap, h1, h2, h3⟩
theorem IsSlice.spot {α : Type} {S : Shape P α} {W : World} {ao : Option Addr} {n cap : Nat} {l : List α} (h : IsSlice S W (.slice ao n cap) l) (hn : 0 < n) : ∃ g off, ao = some ⟨g, off, none⟩ ∧
    ∀ i a, l[i]? = some a → ∃ xs, S.good W xs a ∧ ∀ j u, xs[j]? = some u → W.cell? ⟨g, off + i * S.size + j, none⟩ = some u := by
  obtain ⟨ao', cap', h1, _, _, _, h2⟩ := h
  simp only [Value.slice.injEq] at h1
  obtain ⟨rfl, rfl, rfl⟩ := h1
  exact h2.resolve_left (by omega)
theorem IsSlice.rd {α : Type} {S : Shape P α} {W : World} {v : Value} {l : List α} (h : IsSlice S W v l) (f : α → Value) (hf : ∀ W xs a, S.good W xs a → xs = [f a]) (hs : S.size = 1) : Rd W 1 v l.length (l.map f) := by
  obtain ⟨ao, cap, h1, h2, h3, h4, h5⟩ := h
  refine ⟨by simp, ao, cap, h1, h2, h3, h4, ?_⟩
  rcases h5 with h5 | ⟨g, off, h5, h6⟩
  · exact .inl h5
  · refine .inr ⟨g, off, h5, fun j u hu => ?_⟩
    rw [List.getElem?_map, Option.map_eq_some_iff] at hu
    obtain ⟨a, ha, rfl⟩ := hu
    obtain ⟨xs, hg, hc⟩ := h6 j a ha
    have := hc 0 (f a) (by rw [hf W xs a hg]; rfl)
    rwa [hs, Nat.mul_one, Nat.add_zero] at this
theorem IsSlice.each {α : Type} {S : Shape P α} {W : World} {v : Value} {l : List α} (h : IsSlice S W v l) {i : Nat} {a : α} (ha : l[i]? = some a) : ∃ xs, S.good W xs a := by
  obtain ⟨ao, cap, h1, h2, h3, h4, h5⟩ := h
  have hi := (List.getElem?_eq_some_iff.1 ha).1
  rcases h5 with h5 | ⟨g, off, h5, h6⟩
  · omega
  · obtain ⟨xs, h7, _⟩ := h6 i a ha
    exact ⟨xs, h7⟩
theorem IsSlice.bytes {t : TypeId} {ht : P.underlying t = some (.int .u8)} {hc : P.cellsOf t = 1} {W : World} {v : Value} {l : List Int} (h : IsSlice (shInt t .u8 ht hc) W v l) :
    ∃ b : List Nat, b.length = l.length ∧ (∀ x ∈ b, x < 256) ∧ Rd W 1 v b.length (u8s b) := by
  have hw : ∀ x ∈ l, 0 ≤ x ∧ x ≤ 255 := by
    intro x hx
    obtain ⟨i, hi⟩ := List.mem_iff_getElem?.1 hx
    obtain ⟨xs, h1, h2⟩ := h.each hi
    exact bounds_u8 h2
  refine ⟨l.map Int.toNat, by simp, fun x hx => ?_, ?_⟩
  · obtain ⟨y, hy, rfl⟩ := List.mem_map.1 hx
    have := hw y hy; omega
  · have h1 := h.rd (fun n => .int .u8 n) (fun W xs a hg => hg.1) rfl
    have e : u8s (l.map Int.toNat) = l.map (fun n => Value.int .u8 n) := by
      unfold u8s
      rw [List.map_map]
      refine List.map_congr_left fun x hx => ?_
      have := hw x hx
      simp only [Function.comp]
      rw [Int.toNat_of_nonneg this.1]
    rw [e, List.length_map]
    exact h1
def shStruct3 {α0 : Type} {α1 : Type} {α2 : Type} (S0 : Shape P α0) (S1 : Shape P α1) (S2 : Shape P α2) (t : TypeId) {f0 f1 f2 : Field} (ht : P.underlying t = some (.struct #[f0, f1, f2])) (hc : P.cellsOf t = S0.size + S1.size + S2.size) (e0 : f0.type = S0.t) (o0 : f0.offset = 0) (e1 : f1.type = S1.t) (o1 : f1.offset = S0.size) (e2 : f2.type = S2.t) (o2 : f2.offset = S0.size + S1.size) : Shape P (α0 × α1 × α2) where
  t := t
  size := S0.size + S1.size + S2.size
  good := fun W cs a => ∃ c0 c1 c2, cs = c0 ++ (c1 ++ (c2)) ∧ S0.good W c0 a.1 ∧ S1.good W c1 a.2.1 ∧ S2.good W c2 a.2.2
  sized := hc
  long := fun _ _ _ ⟨_, _, _, h, g0, g1, g2⟩ => by
    rw [h]; simp only [List.length_append, S0.long _ _ _ g0, S1.long _ _ _ g1, S2.long _ _ _ g2]; try omega
  opens := fun {H enc W fuel cs x} h => by
    obtain ⟨xs, n, _, _, hl, hxl, hf⟩ := DataW.trod_struct ht h
    rw [hc] at hl
    have h0 := hf 0 f0 rfl
    rw [e0, o0, S0.sized, List.getElem?_eq_getElem (by rw [hxl]; simp)] at h0
    obtain ⟨a0, g0⟩ := S0.opens h0
    have h1 := hf 1 f1 rfl
    rw [e1, o1, S1.sized, List.getElem?_eq_getElem (by rw [hxl]; simp)] at h1
    obtain ⟨a1, g1⟩ := S1.opens h1
    have h2 := hf 2 f2 rfl
    rw [e2, o2, S2.sized, List.getElem?_eq_getElem (by rw [hxl]; simp)] at h2
    obtain ⟨a2, g2⟩ := S2.opens h2
    refine ⟨(a0, a1, a2), _, _, _, ?_, g0, g1, g2⟩
    have l2 : (cs.drop (S0.size + S1.size)).take S2.size = cs.drop (S0.size + S1.size) := List.take_of_length_le (by rw [List.length_drop]; omega)
    rw [l2]
    rw [show cs.drop (S0.size + S1.size) = (cs.drop (S0.size)).drop S1.size by rw [List.drop_drop], List.take_append_drop]
    rw [show cs.drop (S0.size) = (cs.drop 0).drop S0.size by rw [List.drop_drop, Nat.zero_add], List.take_append_drop, List.drop_zero]
end
end Go.Proofs.YtdmnfjicjjlnnaaGreatDoor
