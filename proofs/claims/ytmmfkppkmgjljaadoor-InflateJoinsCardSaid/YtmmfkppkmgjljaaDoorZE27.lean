/-
  The reference's stream: Inflate itself.
-/
import Derived.Test.YtmmfkppkmgjljaaDoorZE10
import Derived.Test.YtmmfkppkmgjljaaDoorZE26
import Derived.Test.YtmmfkppkmgjljaaDoorZE08
import Derived.Test.YtmmfkppkmgjljaaDoorZE06
import Derived.Deep.DeepCutAuto
import Derived.Deep.CutBlock
namespace Go.Proofs.YtmmfkppkmgjljaaDoor
set_option maxRecDepth 5000
open Go.RowKit
section
variable {w0 w : World} {Rs : List Thing}
theorem Held.builtR {w0 w w' : World} {v : Value} {l : List Nat} {Rs : List Thing} (h : Held w0 w Rs) (hb : Built w w' v l) : Held w0 w' (ownT 5 1 v l.length (u8s l) :: Rs) := h.pushOwn hb.1 hb.2.1 hb.2.2
theorem Held.nilN (h : Held w0 w Rs) (e : TypeId) (size : Nat) : Held w0 w (ownT e size (.slice none 0 0) 0 [] :: Rs) := h.nil e size
theorem Held.nth5 {R1 R2 R3 R4 R5 : Thing} (h : Held w0 w (R1 :: R2 :: R3 :: R4 :: R5 :: Rs)) : Held w0 w (R5 :: R1 :: R2 :: R3 :: R4 :: Rs) := h.perm (List.perm_middle (l₁ := [R1, R2, R3, R4]))
theorem Held.nth6 {R1 R2 R3 R4 R5 R6 : Thing} (h : Held w0 w (R1 :: R2 :: R3 :: R4 :: R5 :: R6 :: Rs)) : Held w0 w (R6 :: R1 :: R2 :: R3 :: R4 :: R5 :: Rs) := h.perm (List.perm_middle (l₁ := [R1, R2, R3, R4, R5]))
theorem Held.nth7 {R1 R2 R3 R4 R5 R6 R7 : Thing} (h : Held w0 w (R1 :: R2 :: R3 :: R4 :: R5 :: R6 :: R7 :: Rs)) : Held w0 w (R7 :: R1 :: R2 :: R3 :: R4 :: R5 :: R6 :: Rs) := h.perm (List.perm_middle (l₁ := [R1, R2, R3, R4, R5, R6]))
def intsN (l : List Nat) : List Value := ints (l.map fun (x : Nat) => (x : Int))
theorem intsN_app (a : List Nat) (b : Nat) : intsN (a ++ [b]) = intsN a ++ ints [(b : Int)] := by unfold intsN; rw [List.map_append, ints_append]; rfl
def InfAt (w0 w : World) (Rs : List Thing) (B : Nat) (bo : Option Addr) (bc m M : Nat) (all : List Nat) (e a rest : Nat) (O : List Nat) (T : List Tok) (ks ss : List Nat) : Prop :=
  ∃ (oo : Option Addr) (oc k : Nat) (ko : Option Addr) (kc nk : Nat) (so : Option Addr) (sc ns : Nat) (tt : Option Addr) (tc nt : Nat) (li di lc dc : Value), k = O.length ∧ nk = ks.length ∧ ns = ss.length ∧ nt = T.length ∧
    Held w0 w (strT B (.slice oo k oc) e (.int .i64 (rest : Int)) (.slice ko nk kc) (.slice so ns sc) (.slice bo m bc) a (M : Int) li di lc dc (.slice tt nt tc) :: rdT 1 (.slice bo m bc) m (u8s all) ::
      ownT 5 1 (.slice oo k oc) k (u8s O) :: ownT 3 1 (.slice ko nk kc) nk (intsN ks) :: ownT 3 1 (.slice so ns sc) ns (intsN ss) :: ownT 78 3 (.slice tt nt tc) nt (toksV T) :: Rs)
theorem tokInf {w' : World} {Rz : List Thing} {S : Nat × Nat × List Nat × List Tok} {B : Nat} {ko so bo : Option Addr} {nk kc ns sc bc m M nl nd : Nat} {li di : Value} {lit dist : List Int} {all ks ss : List Nat}
    (h : TokEnd w0 w' (ownT 3 1 (.slice ko nk kc) nk (intsN ks) :: ownT 3 1 (.slice so ns sc) ns (intsN ss) :: Rz) S B (.int .i64 ((0 : Nat) : Int)) (.slice ko nk kc) (.slice so ns sc) bo bc m M nl nd li di lit dist all) (hk : nk = ks.length) (hs : ns = ss.length) :
    ∃ a', (S.1 = 0 → a' = S.2.1) ∧ InfAt w0 w' Rz B bo bc m M all S.1 a' 0 S.2.2.1 S.2.2.2 ks ss := by
  obtain ⟨oo', oc', k', a', tt', tc', nt', lcv, dcv, h1, h2, h3, hh⟩ := h
  exact ⟨a', h3, oo', oc', k', ko, kc, nk, so, sc, ns, tt', tc', nt', li, di, lcv, dcv, h1, hk, hs, h2, hh.third.drop.third.drop.fourth.drop.fourth.nth6.nth6.nth6.nth6.nth6⟩
theorem fix_fine : (∀ y ∈ fixLit, 0 ≤ y ∧ y ≤ 15) ∧ (∀ y ∈ fixDist, 0 ≤ y ∧ y ≤ 15) ∧ fixLit.length = 288 ∧ fixDist.length = 32 := by decide +kernel
theorem Held.k4 {R1 R2 R3 R4 : Thing} (h : Held w0 w (R1 :: R2 :: R3 :: R4 :: Rs)) : Held w0 w (R1 :: R3 :: R4 :: R2 :: Rs) := h.perm (List.Perm.cons _ (List.perm_middle (l₁ := [R3, R4])).symm)
theorem Held.s5 {R1 R2 R3 R4 R5 : Thing} (h : Held w0 w (R1 :: R2 :: R3 :: R4 :: R5 :: Rs)) : Held w0 w (R1 :: R3 :: R4 :: R5 :: R2 :: Rs) := h.perm (List.Perm.cons _ (List.perm_middle (l₁ := [R3, R4, R5])).symm)
def InfEnd (w0 w' : World) (Rs : List Thing) (S : InfS) (B : Nat) (bits : List Nat) (M : Nat) : Prop := ∃ (bo : Option Addr) (bc m a' : Nat), m = bits.length ∧ InfAt w0 w' Rs B bo bc m M bits S.e a' S.rest S.out S.tk S.kinds S.stops
set_option maxRecDepth 100000 in
set_option maxHeartbeats 6400000 in
theorem inflate_of {Rz : List Thing} (v : Value) (l : List Nat) (mo : Int)
    (h : Held w0 w Rz) (hrd : Rd w 1 v l.length (u8s l)) (hb : ∀ b ∈ l, b < 256) (hl : l.length < 400000) (hmo : mo < 1000000000) (hmo2 : -1000000000 < mo) :
    Calls Tryd.prog 8 #[v, .int .i64 mo] w fun e' w' => ∃ B, e' = .returned (ptrV B) ∧ InfEnd w0 w' Rz (inflF (bits8 l) mo.toNat ((bits8 l).length + 1) 0 [] [] [] []) B (bits8 l) mo.toNat := by
  obtain ⟨i0, hi0, hz0, hz1, hz2⟩ := info_parts infoInt10
  have H := hid h
  have HB1 := hid (bits_any v l w hrd hb (by omega))
  obtain ⟨M, hM⟩ : ∃ M, M = mo.toNat := ⟨_, rfl⟩
  rw [← hM]
  obtain ⟨m, hm⟩ : ∃ m, m = (bits8 l).length := ⟨_, rfl⟩
  have hm8 : m ≤ 3200000 := by rw [hm, bits8_length]; omega
  rw [← hm]
  have HBITS : Hid (isBits (bits8 l)) := hid (bits8_isBits l)
  have hbt0 : (bits8 l).length = m := hm.symm
  generalize bits8 l = all at *
  generalize hS : inflF all M (m + 1) 0 [] [] [] [] = S
  have HS := hid hS
  have HML := hid hm
  have HMO : Hid ((mo < 0 → (0 : Int) = (M : Int)) ∧ (¬ mo < 0 → mo = (M : Int)) ∧ M < 1000000000) := hid ⟨fun h => by omega, fun h => by omega, by omega⟩
  have hMb : M < 1000000000 := by omega
  clear h hrd hS hm hb hl hmo hmo2 hM
  go_enter Tryd.func8, Tryd.ntmps8
  go_wp2_with fail
  refine HB1.out.mono ?_
  rintro e' w1 ⟨v1, rfl, hbt⟩
  have h1 := H.out.builtR hbt
  rw [hbt0] at h1
  obtain ⟨bo, bc, hform, _, _⟩ := hbt.1.form
  subst hform
  rw [hbt0] at h1 ⊢
  have H1 := hid h1
  clear HB1 hbt h1
  have START : ∀ wl (mv : Int), Held w0 wl (objT w1.heap.size [.slice none 0 0, .int .i64 0, .int .i64 0, .slice none 0 0, .slice none 0 0, .slice bo m bc, .int .i64 0, .int .i64 mv, .slice none 0 0, .slice none 0 0, .slice none 0 0, .slice none 0 0, .slice none 0 0] 32 :: ownT 5 1 (.slice bo m bc) m (u8s all) :: Rz) → mv = (M : Int) →
      InfAt w0 wl Rz w1.heap.size bo bc m M all 0 0 0 [] [] [] [] := fun wl mv hh hmv => by
    subst hmv
    have h2 := ((((hh.swap.toRd.swap.nilN 78 3).third.third.nilN 3 1).third.third.nilN 3 1).third.third.nilN 5 1).third.third
    exact ⟨none, 0, 0, none, 0, 0, none, 0, 0, none, 0, 0, .slice none 0 0, .slice none 0 0, .slice none 0 0, .slice none 0 0, rfl, rfl, rfl, rfl, h2⟩
  have START2 := hid START
  have HNW := hid (H1.out.newObj [.slice none 0 0, .int .i64 0, .int .i64 0, .slice none 0 0, .slice none 0 0, .slice bo m bc, .int .i64 0, .int .i64 mo, .slice none 0 0, .slice none 0 0, .slice none 0 0, .slice none 0 0, .slice none 0 0] 32)
  have f7 := HNW.out.obj.frozen 7
  have c7 := HNW.out.obj.cell (i := 7) rfl
  clear START
  go_upto_if 15 with (fail)
  go_cut [5] (fun s5 wx => s5 = .pointer (some ⟨w1.heap.size, 0, none⟩) ∧ Hid (InfAt w0 wx Rz w1.heap.size bo bc m M all 0 0 0 [] [] [] []))
  case first =>
    by_cases hneg : mo < 0
    · go_wp2
      go_meet
      case rel => exact ⟨rfl, hid (START2.out _ 0 (H1.out.newObj [.slice none 0 0, .int .i64 0, .int .i64 0, .slice none 0 0, .slice none 0 0, .slice bo m bc, .int .i64 0, .int .i64 0, .slice none 0 0, .slice none 0 0, .slice none 0 0, .slice none 0 0, .slice none 0 0] 32) (HMO.out.1 hneg))⟩
    · go_wp2
      go_meet
      case rel => exact ⟨rfl, hid (START2.out _ mo HNW.out (HMO.out.2.1 hneg))⟩
  case rest =>
    obtain ⟨rfl, HI⟩ := hcut
    clear HNW START2 f7 c7 H1 H
    generalize w1.heap.size = B at *
    go_wp2
    go_loopg [] (m + 2) (fun g wr => ∃ (a f : Nat) (O : List Nat) (T : List Tok) (ks ss : List Nat), a ≤ m ∧ m - a < f ∧ f < g ∧ Hid (O.length ≤ M ∧ O.length ≤ 258 * a ∧ T.length ≤ a ∧ ks.length ≤ a ∧ ss.length = ks.length ∧ S = inflF all M f a O T ks ss) ∧ Hid (InfAt w0 wr Rz B bo bc m M all 0 a 0 O T ks ss))
    case atStart => exact ⟨0, m + 1, [], [], [], [], by omega, by omega, by omega, hid ⟨by simp, by simp, by simp, by simp, rfl, HS.out.symm⟩, HI⟩
    case round =>
      obtain ⟨a, f, O, T, ks, ss, ham, hf, hg, HO, HQ⟩ := hrel
      obtain ⟨f', rfl⟩ : ∃ f', f = f' + 1 := ⟨f - 1, by omega⟩
      obtain ⟨oo, oc, k, ko, kc, nk, so, sc, ns, tt, tc, nt, li, di, lc, dc, hk, hnk, hns, hnt, hq⟩ := HQ.out
      cases ht : takeM all a 3 with
      | none =>
        have hT := take_no B (.slice oo k oc) 0 (.int .i64 ((0 : Nat) : Int)) (.slice ko nk kc) (.slice so ns sc) bo bc m a 3 (M : Int) li di lc dc (.slice tt nt tc) all hq ht (by omega) (by decide)
        rw [show ((3 : Nat) : Int) = 3 from rfl] at hT
        unfold ptrV at hT
        have HT := hid hT
        have HSe : Hid (S = ⟨5, a, O, T, ks, ss, 0⟩) := hid (by rw [HO.out.2.2.2.2.2, inflF_over (round_end ht)])
        have HL := hid (And.intro hk (And.intro hnk (And.intro hns hnt)))
        clear hT ht hq hk hnk hns hnt
        go_wp2_with fail
        refine HT.out.mono ?_
        rintro e' w6 ⟨rfl, hh⟩
        have H6 := hid hh
        clear hh HT HQ
        go_wp2
        go_ret
        refine ⟨B, rfl, bo, bc, m, a, HML.out, ?_⟩
        rw [HSe.out]
        exact ⟨oo, oc, k, ko, kc, nk, so, sc, ns, tt, tc, nt, li, di, lc, dc, HL.out.1, HL.out.2.1, HL.out.2.2.1, HL.out.2.2.2, H6.out⟩
      | some v3 =>
        obtain ⟨htl, htv⟩ := take_some ht
        have hv8 : v3 < 8 := by rw [htv]; exact num16_lt HBITS.out a 3
        have hT := take_yes B (.slice oo k oc) 0 (.int .i64 ((0 : Nat) : Int)) (.slice ko nk kc) (.slice so ns sc) bo bc m a 3 v3 (M : Int) li di lc dc (.slice tt nt tc) all hq ht HBITS.out (by omega) (by decide)
        rw [show ((3 : Nat) : Int) = 3 from rfl] at hT
        unfold ptrV at hT
        have HT := hid hT
        have HTK := hid ht
        have ham3 : a + 3 ≤ m := by rw [HML.out]; exact htl
        obtain ⟨kd, hkd⟩ : ∃ kd, kd = v3 / 2 := ⟨_, rfl⟩
        obtain ⟨fl, hfl⟩ : ∃ fl, fl = v3 % 2 := ⟨_, rfl⟩
        have hkdI : (v3 : Int) / 2 = (kd : Int) := by omega
        have hflI : (v3 : Int) % 2 = (fl : Int) := by omega
        have hkdT : (v3 : Int).tdiv 2 = (kd : Int) := by rw [hkd]; rfl
        have hflT : (v3 : Int).tmod 2 = (fl : Int) := by rw [hfl]; rfl
        have hkd4 : kd < 4 := by omega
        have hfl2 : fl < 2 := by omega
        have hkd0 : (0 : Int) ≤ (kd : Int) := Int.natCast_nonneg _
        have hv30 : (0 : Int) ≤ (v3 : Int) := Int.natCast_nonneg _
        have HKD := hid (And.intro hkd hfl)
        have hnkb : nk ≤ 3200000 := by have := HO.out.2.2.2.1; omega
        have HL := hid (And.intro hk (And.intro hnk (And.intro hns hnt)))
        clear hT ht htl htv hkd hfl hq hk hnk hns hnt
        go_wp2_with fail
        refine HT.out.mono ?_
        rintro e' w6 ⟨rfl, hh⟩
        have hb' := hh.obj
        have d3 := hb'.cell (i := 3) rfl
        have H6 := hid hh
        clear hh HT HQ hb'
        go_upto_block 2 with (refine wpList_app_held rfl (.tmp 33) (.tmp 35) 28 rfl 3 i0 (.int .i64 0) 1 8 Tryd.underlying28 hi0 hz0 hz1 hz2 rfl (by decide) _ nk _ rfl (H6.out.fourth.alloc _) _ 1 (ints [(kd : Int)]) rfl (Rd.lit _ [_] _ 1 1 (by decide) rfl) (ints_one _) (nk + 1) rfl (by unfold maxLen; omega) (by omega) ?_; intro lo' lcap' w7 h7; rw [← intsN_app] at h7; have hb' := h7.swap.obj; have e3 := hb'.cell (i := 3) rfl; have g3 := hb'.frozen 3; have H7 := hid ((h7.swap).setObj 3 (.slice lo' (nk + 1) lcap')); clear h7 hb')
        go_cut [7] (fun s7 wx => ∃ (bq : Bool) (e a2 a3 : Nat) (O2 : List Nat) (T2 : List Tok), s7 = .bool bq ∧ Hid (bq = decide (e = 0)) ∧ Hid (blockF all M kd (a + 3) O T = (e, a3, O2, T2) ∧ (e = 0 → a2 = a3)) ∧ Hid (InfAt w0 wx Rz B bo bc m M all e a2 0 O2 T2 (ks ++ [kd]) ss))
        case first =>
          have H8 := hid H7.out.k4
          have hkb : k ≤ 258 * a := by have := HO.out; have := HL.out; omega
          have hntb : nt ≤ a := by have := HO.out; have := HL.out; omega
          have hkM : k ≤ M := by have := HO.out; have := HL.out; omega
          have HKL : Hid (nk + 1 = (ks ++ [kd]).length) := hid (by rw [List.length_append, ← HL.out.2.1]; rfl)
          clear H7 H6 d3 e3 g3
          have ht3 : kd = 0 ∨ kd = 1 ∨ kd = 2 ∨ kd = 3 := by omega
          rcases ht3 with hk | hk | hk | hk
          · have q0 : ((kd : Int) == 0) = true := by rw [hk]; rfl
            have hs := stored_any B oo oc k _ _ _ bo bc m (a + 3) M li di lc dc (.slice tt nt tc) all O H8.out HBITS.out (by omega) (by omega) (by omega)
            unfold ptrV at hs
            obtain ⟨qe, qa, qo, hq⟩ : ∃ qe qa qo, storedF all M (a + 3) O = (qe, qa, qo) := ⟨_, _, _, rfl⟩
            rw [hq] at hs
            have HS1 := hid hs
            have HBF : Hid (blockF all M kd (a + 3) O T = (qe, qa, qo, T)) := hid (by unfold blockF; rw [if_pos hk, hq])
            clear hs hq hk H8
            go_wp2_with fail
            refine HS1.out.mono ?_
            rintro e' w8 ⟨rfl, oo', oc', k', a', h1, h2, hh⟩
            have HX := hid (And.intro h1 (And.intro h2 hh))
            clear h1 h2 hh HS1
            go_wp2
            go_meet
            case rel => exact ⟨_, qe, a', qa, qo, T, rfl, hid rfl, hid ⟨HBF.out, HX.out.2.1⟩, hid ⟨oo', oc', k', lo', lcap', nk + 1, so, sc, ns, tt, tc, nt, li, di, lc, dc, HX.out.1, HKL.out, HL.out.2.2.1, HL.out.2.2.2, HX.out.2.2⟩⟩
          · have q0 : ((kd : Int) == 0) = false := by simp; omega
            have q1 : ((kd : Int) == 1) = true := by rw [hk]; rfl
            have HF := hid (fixed_any B _ _ _ _ _ _ _ _ _ _ _ _ _ H8.out)
            unfold ptrV at HF
            have HBF : Hid (blockF all M kd (a + 3) O T = tokF fixLit fixDist all M (m + 1) (a + 3) O T) := hid (by unfold blockF; rw [if_neg (by omega), if_pos hk, HML.out])
            clear hk H8
            go_wp2_with fail
            refine HF.out.mono ?_
            rintro e' w8 ⟨rfl, li', di', hh⟩
            have hs := tokens_any B oo oc k _ _ _ bo bc m (a + 3) M li' di' lc dc tt nt tc 288 32 fixLit fixDist all O T hh.nth6.nth6.nth7.nth5.nth7.nth7.nth7 HBITS.out (by omega) (by omega) hkM (by omega) (by omega) fix_fine.2.2.1.symm fix_fine.2.2.2.symm (by omega) (by omega) fix_fine.1 fix_fine.2.1
            unfold ptrV at hs
            rw [← HBF.out] at hs
            have HS1 := hid hs
            clear hs hh HF
            go_wp2_with fail
            refine HS1.out.mono ?_
            rintro e' w9 ⟨rfl, hte⟩
            obtain ⟨a', h3, hi⟩ := tokInf hte HKL.out HL.out.2.2.1
            have HX := hid (And.intro h3 hi)
            clear hte h3 hi HS1
            go_wp2
            go_meet
            case rel => exact ⟨_, (blockF all M kd (a + 3) O T).1, a', (blockF all M kd (a + 3) O T).2.1, (blockF all M kd (a + 3) O T).2.2.1, (blockF all M kd (a + 3) O T).2.2.2, rfl, hid rfl, hid ⟨rfl, HX.out.1⟩, hid HX.out.2⟩
          · have q0 : ((kd : Int) == 0) = false := by simp; omega
            have q1 : ((kd : Int) == 1) = false := by simp; omega
            have q2 : ((kd : Int) == 2) = true := by rw [hk]; rfl
            have hd := dynamic_any B (.slice oo k oc) _ _ _ bo bc m (a + 3) M li di lc dc (.slice tt nt tc) all H8.out HBITS.out (by omega) (by omega)
            unfold ptrV at hd
            have HBF : Hid (blockF all M kd (a + 3) O T = if (dynF all (a + 3)).1 ≠ 0 then ((dynF all (a + 3)).1, (dynF all (a + 3)).2.1, O, T) else tokF (dynF all (a + 3)).2.2.1 (dynF all (a + 3)).2.2.2 all M (m + 1) (dynF all (a + 3)).2.1 O T) := hid (by unfold blockF; rw [if_neg (by omega), if_neg (by omega), if_pos hk, HML.out])
            have hgr : (dynF all (a + 3)).1 = 0 → _ := fun h => dynF_grow h
            obtain ⟨de, da, dl, dd, hdd⟩ : ∃ de da dl dd, dynF all (a + 3) = (de, da, dl, dd) := ⟨_, _, _, _, rfl⟩
            rw [hdd] at hd HBF hgr
            have HD := hid hd
            have HG := hid hgr
            clear hk H8 hd hdd hgr
            by_cases hde : de = 0
            · subst hde
              have hgr := HG.out rfl
              have HBF2 : Hid (blockF all M kd (a + 3) O T = tokF dl dd all M (m + 1) da O T) := hid (by rw [HBF.out, if_neg (fun h => h rfl)])
              have HD2 : Hid (Calls Tryd.prog 24 #[.pointer (some ⟨B, 0, none⟩)] _ fun e' w' => e' = .returned (.bool true) ∧ _) := HD
              clear HBF HD
              go_wp2_with fail
              refine HD2.out.mono ?_
              rintro e' w8 ⟨rfl, hde⟩
              rcases hde with ⟨_, li', di', hh⟩ | ⟨hne, _⟩
              rotate_left
              · exact absurd rfl hne
              have hs := tokens_any B oo oc k _ _ _ bo bc m da M li' di' lc dc tt nt tc dl.length dd.length dl dd all O T hh.nth6.nth6.nth7.nth6.nth7.nth7.nth7 HBITS.out (by have := hgr.2.1; have := HML.out; omega) (by omega) hkM (by have := hgr.1; omega) (by have := hgr.1; omega) rfl rfl hgr.2.2.1 hgr.2.2.2.1 hgr.2.2.2.2.1 hgr.2.2.2.2.2
              unfold ptrV at hs
              rw [← HBF2.out] at hs
              have HS1 := hid hs
              clear hs hh hgr HD2 HG
              go_wp2_with fail
              refine HS1.out.mono ?_
              rintro e' w9 ⟨rfl, hte⟩
              obtain ⟨a', h3, hi⟩ := tokInf hte HKL.out HL.out.2.2.1
              have HX := hid (And.intro h3 hi)
              clear hte h3 hi HS1
              go_wp2
              go_meet
              case rel => exact ⟨_, (blockF all M kd (a + 3) O T).1, a', (blockF all M kd (a + 3) O T).2.1, (blockF all M kd (a + 3) O T).2.2.1, (blockF all M kd (a + 3) O T).2.2.2, rfl, hid rfl, hid ⟨rfl, HX.out.1⟩, hid HX.out.2⟩
            · have HBF2 : Hid (blockF all M kd (a + 3) O T = (de, da, O, T)) := hid (by rw [HBF.out, if_pos hde])
              have hdf : decide (de = 0) = false := decide_eq_false hde
              have HDE := hid hde
              have HD2 := hid HD.out
              simp only [hdf] at HD2
              clear HBF HD HG hdf hde
              go_wp2_with fail
              refine HD2.out.mono ?_
              rintro e' w8 ⟨rfl, hdn⟩
              rcases hdn with ⟨h0, _⟩ | ⟨_, a', li', di', hh⟩
              · exact absurd h0 HDE.out
              have HX := hid hh
              clear hh HD2
              go_wp2
              go_meet
              case rel => exact ⟨false, de, a', da, O, T, rfl, hid (decide_eq_false HDE.out).symm, hid ⟨HBF2.out, fun h => absurd h HDE.out⟩, hid ⟨oo, oc, k, lo', lcap', nk + 1, so, sc, ns, tt, tc, nt, li', di', lc, dc, HL.out.1, HKL.out, HL.out.2.2.1, HL.out.2.2.2, HX.out⟩⟩
          · have q0 : ((kd : Int) == 0) = false := by simp; omega
            have q1 : ((kd : Int) == 1) = false := by simp; omega
            have q2 : ((kd : Int) == 2) = false := by simp; omega
            have HBF : Hid (blockF all M kd (a + 3) O T = (2, a + 3, O, T)) := hid (by unfold blockF; rw [if_neg (by omega), if_neg (by omega), if_neg (by omega)])
            have g1 := H8.out.obj.frozen 1
            have e1 := H8.out.obj.cell (i := 1) rfl
            clear hk
            go_wp2
            go_meet
            case rel => exact ⟨false, 2, a + 3, a + 3, O, T, rfl, hid rfl, hid ⟨HBF.out, fun h => rfl⟩, hid ⟨oo, oc, k, lo', lcap', nk + 1, so, sc, ns, tt, tc, nt, li, di, lc, dc, HL.out.1, HKL.out, HL.out.2.2.1, HL.out.2.2.2, H8.out.setObj 1 (.int .i64 2)⟩⟩
        case rest =>
          obtain ⟨bq, e, a2, a3, O2, T2, rfl, hbq, HBK, HI2⟩ := hcut
          clear H7 H6 d3 e3 g3
          have HO2 := hid HO.out
          cases bq with
          | false =>
            have he : e ≠ 0 := of_decide_eq_false hbq.out.symm
            have HSe : Hid (S = ⟨e, a3, O2, T2, ks ++ [kd], ss, 0⟩) := hid (by
              rw [HO.out.2.2.2.2.2, HKD.out.1]
              exact inflF_over (round_err HTK.out (by rw [← HKD.out.1]; exact HBK.out.1) he))
            clear he
            go_wp2
            go_ret
            refine ⟨B, rfl, bo, bc, m, a2, HML.out, ?_⟩
            rw [HSe.out]
            exact HI2.out
          | true =>
            have he : e = 0 := of_decide_eq_true hbq.out.symm
            subst he
            have ha23 : a2 = a3 := HBK.out.2 rfl
            subst ha23
            have hgr := blockF_grow (kind := kd) (out := O) (tk := T) (M := M) (a := a + 3) HBITS.out (by rw [← HML.out]; exact ham3) HO.out.1 (by rw [HBK.out.1])
            rw [HBK.out.1] at hgr
            have HGR : Hid (a + 3 ≤ a2 ∧ a2 ≤ m ∧ O2.length ≤ O.length + 258 * (a2 - (a + 3)) ∧ T2.length ≤ T.length + (a2 - (a + 3)) ∧ O2.length ≤ M) := hid (by rw [HML.out]; exact hgr)
            obtain ⟨po, pc, pk, ro, rc, rn, uo, uc, un, xo, xc, xn, xli, xdi, xlc, xdc, h1, h2, h3, h4, hh⟩ := HI2.out
            have HLN := hid (And.intro h1 (And.intro h2 (And.intro h3 h4)))
            have hunb : un ≤ 3200000 := by have := HO.out.2.2.2.1; have := HO.out.2.2.2.2.1; omega
            have hpk0 : (0 : Int) ≤ (pk : Int) := Int.natCast_nonneg _
            have H9 := hid hh
            have hb9 := hh.obj
            have s0 := hb9.cell (i := 0) rfl
            have s4 := hb9.cell (i := 4) rfl
            have HB9 := hid hb9
            have HA9 := hid hh.nth5.swap.apart
            clear hgr h1 h2 h3 h4 hh hb9
            have sa0 : ∀ o, (wc.alloc o).cell? ⟨B, 0, none⟩ = some (.slice po pk pc) := fun o => (HB9.out.alloc o).cell (i := 0) rfl
            have sa4 : ∀ o, (wc.alloc o).cell? ⟨B, 4, none⟩ = some (.slice uo un uc) := fun o => (HB9.out.alloc o).cell (i := 4) rfl
            go_upto_region 21 with (fail)
            go_cut [6] (fun s6 wx => s6 = .int .i64 (v3 : Int) ∧ Hid (InfAt w0 wx Rz B bo bc m M all 0 a2 0 O2 T2 (ks ++ [kd]) (ss ++ [O2.length])))
            case first =>
              go_region_law ((refine step_app _ (by rfl) (.tmp 68) (.tmp 74) 28 (by rfl) 3 i0 (.int .i64 0) 1 8 Tryd.underlying28 hi0 hz0 hz1 hz2 (by rfl) (by decide) (.slice uo un uc) un (intsN ss) (by rfl) (by exact (H9.out.nth5.own.alloc _).drew) (.slice (some ⟨wc.heap.size, 0, none⟩) 1 1) 1 (ints [(pk : Int)]) (by rfl) (by exact (Rd.lit wc [_] _ 1 1 (by decide) rfl).drew) (ints_one _) (by unfold maxLen; omega) (by omega) ?_; intro ao1 cap1 w2 hown1 hgrow hat; have HBa := hid ((HB9.out.alloc _).drew.grown hgrow HA9.out); have f1 := HBa.out.frozen 4; have c1 := HBa.out.cell (i := 4) rfl; have H10 := hid ((((H9.out.nth5.alloc _).drew.app hown1 hgrow hat).swap.setObj 4 (.slice ao1 (un + 1) cap1)).s5); clear hown1 hgrow hat))
              all_goals
                go_wp2
                go_meet
                case rel =>
                  refine ⟨rfl, hid ⟨po, pc, pk, ro, rc, rn, ao1, cap1, un + 1, xo, xc, xn, xli, xdi, xlc, xdc, HLN.out.1, HLN.out.2.1, by rw [List.length_append, ← HLN.out.2.2.1]; rfl, HLN.out.2.2.2, ?_⟩⟩
                  rw [intsN_app ss, ← HLN.out.1]
                  exact H10.out
            case rest =>
              obtain ⟨rfl, HI3⟩ := hcut
              clear H9 HB9 HA9 s0 s4 sa0 sa4 HI2 HLN
              by_cases hf1 : fl = 1
              · subst hf1
                obtain ⟨po, pc, pk, ro, rc, rn, uo, uc, un, xo, xc, xn, xli, xdi, xlc, xdc, h1, h2, h3, h4, hh⟩ := HI3.out
                have HLN := hid (And.intro h1 (And.intro h2 (And.intro h3 h4)))
                have s6 := hh.obj.cell (i := 6) rfl
                have s2 := hh.obj.cell (i := 2) rfl
                have g2 := hh.obj.frozen 2
                obtain ⟨q7, hq7⟩ : ∃ q7, q7 = a2 + 7 := ⟨_, rfl⟩
                obtain ⟨R, hR⟩ : ∃ R, R = (a2 + 7) / 8 := ⟨_, rfl⟩
                have h7I : (a2 : Int) + 7 = (q7 : Int) := by omega
                have hRI : (q7 : Int) / 8 = (R : Int) := by omega
                have hRT : (q7 : Int).tdiv 8 = (R : Int) := by rw [Int.tdiv_eq_ediv_of_nonneg (by omega)]; omega
                have hq70 : (0 : Int) ≤ (q7 : Int) := Int.natCast_nonneg _
                have ha2b : a2 < 1000000000 := by have := HGR.out.2.1; omega
                have hq7b : q7 < 1000001000 := by omega
                have HSe : Hid (S = ⟨0, a2, O2, T2, ks ++ [kd], ss ++ [O2.length], R⟩) := hid (by
                  rw [HO.out.2.2.2.2.2, hR, HKD.out.1]
                  exact inflF_over (round_last HTK.out (by rw [← HKD.out.1]; exact HBK.out.1) HKD.out.2.symm))
                have H11 := hid (hh.setObj 2 (.int .i64 (R : Int)))
                clear hq7 hR h1 h2 h3 h4 hh HI3
                go_wp2
                go_ret
                refine ⟨B, rfl, bo, bc, m, a2, HML.out, ?_⟩
                rw [HSe.out]
                exact ⟨po, pc, pk, ro, rc, rn, uo, uc, un, xo, xc, xn, xli, xdi, xlc, xdc, HLN.out.1, HLN.out.2.1, HLN.out.2.2.1, HLN.out.2.2.2, H11.out⟩
              · have hf0 : ((fl : Int) == 1) = false := by simp; omega
                have HNE := hid hf1
                have hf0b : ¬ (fl : Int) = 1 := by omega
                clear hf1
                go_wp2
                go_roundg (gk - 1)
                case measure => omega
                case rel =>
                  have hg2 := HGR.out
                  have ho := HO.out
                  refine ⟨a2, f', O2, T2, ks ++ [kd], ss ++ [O2.length], hg2.2.1, by omega, by omega, hid ⟨hg2.2.2.2.2, by omega, by omega, ?_, ?_, ?_⟩, HI3⟩
                  · rw [List.length_append]; simp only [List.length_singleton]; omega
                  · rw [List.length_append, List.length_append]; simp only [List.length_singleton]; omega
                  · rw [ho.2.2.2.2.2, HKD.out.1]
                    exact inflF_on (round_more HTK.out (by rw [← HKD.out.1]; exact HBK.out.1) (by rw [← HKD.out.2]; exact HNE.out))
end
end Go.Proofs.YtmmfkppkmgjljaaDoor
