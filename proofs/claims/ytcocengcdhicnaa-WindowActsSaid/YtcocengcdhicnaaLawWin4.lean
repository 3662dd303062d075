/-
  The law WindowActs, of WindowOK.
-/
import Derived.Test.YtcocengcdhicnaaLawWin0
import Derived.Test.YtcocengcdhicnaaArr
import Derived.Test.YtcocengcdhicnaaHeldApp
import Derived.Deep.DeepCutAuto
import Derived.Deep.RegionHeld3
namespace Go.Proofs.Ytcocengcdhicnaa
open Go.RowKit

def shWinInt : Shape Try.prog Int := shInt 3 .i64 Try.underlying3 (by kernel_rfl)
def shWinU16 : Shape Try.prog Int := shInt 27 .u16 Try.underlying27 (by kernel_rfl)
def shAct7 : Shape Try.prog (Int × Int × Int × Int × List Int) := shStruct5 shWinInt shWinInt shWinInt shWinU16 shWinBytes 29 Try.underlying29 (by kernel_rfl) rfl rfl rfl rfl rfl rfl rfl rfl rfl rfl
def shActs7 : Shape Try.prog (List (Int × Int × Int × Int × List Int)) := shSlice shAct7 22 Try.underlying22 (by kernel_rfl) (by decide)
/-- an act, as it lies in memory -/
theorem act7_open {W : World} {g off : Nat} {a : Int × Int × Int × Int × List Int} {xs : List Value} (h : shAct7.good W xs a) (hc : ∀ j u, xs[j]? = some u → W.cell? ⟨g, off + j, none⟩ = some u) :
    ∃ (b : List Nat) (bv : Value), (∀ x ∈ b, x < 256) ∧ Rd W 1 bv b.length (u8s b) ∧ W.cell? ⟨g, off, none⟩ = some (.int .i64 a.1) ∧ W.cell? ⟨g, off + 1, none⟩ = some (.int .i64 a.2.1) ∧ W.cell? ⟨g, off + 2, none⟩ = some (.int .i64 a.2.2.1) ∧
      W.cell? ⟨g, off + 3, none⟩ = some (.int .u16 a.2.2.2.1) ∧ W.cell? ⟨g, off + 4, none⟩ = some bv ∧ (Lit.int .i64 a.2.1).wf = true ∧ (Lit.int .i64 a.2.2.1).wf = true ∧ (Lit.int .u16 a.2.2.2.1).wf = true := by
  obtain ⟨c0, c1, c2, c3, c4, rfl, ⟨rfl, w0⟩, ⟨rfl, w1⟩, ⟨rfl, w2⟩, ⟨rfl, w3⟩, bv, rfl, hb⟩ := h
  obtain ⟨b, _, hb256, hrd⟩ := IsSlice.bytes hb
  exact ⟨b, bv, hb256, hrd, hc 0 _ rfl, hc 1 _ rfl, hc 2 _ rfl, hc 3 _ rfl, hc 4 _ rfl, w1, w2, w3⟩
/-- each is a byte, whichever -/
def AllU8w (ys : List Value) : Prop := ∀ (j : Nat) u, ys[j]? = some u → ∃ x : Int, u = .int .u8 x
theorem AllU8w.u8s (l : List Nat) : AllU8w (u8s l) := by
  intro j u hu
  rw [u8s_get, Option.map_eq_some_iff] at hu
  obtain ⟨x, _, rfl⟩ := hu
  exact ⟨_, rfl⟩
theorem AllU8w.set {ys : List Value} (h : AllU8w ys) (i : Nat) (x : Int) : AllU8w (ys.set i (.int .u8 x)) := by
  intro j u hu
  by_cases hij : i = j
  · subst hij
    have hl := (List.getElem?_eq_some_iff.1 hu).1
    rw [List.getElem?_set_self (by simpa using hl)] at hu
    exact ⟨x, by injection hu with hu; exact hu.symm⟩
  · rw [List.getElem?_set_ne hij] at hu
    exact h j u hu
set_option maxRecDepth 100000 in
set_option maxHeartbeats 3200000 in
theorem windowActs_from {W : List Nat → Nat → Thing} (HW : WindowOK W) (v : Value) (acts : List (Int × Int × Int × Int × List Int)) (last : Int) (w : World) (ha : shActs7.good w [v] acts) (hl : (Lit.int .i64 last).wf = true) :
    Calls Try.prog 3 #[v, .int .i64 last] w fun e w' => e = .returned (.bool true) ∧ Below w.heap.size w w' := by
  obtain ⟨v', hv, ha⟩ := ha
  obtain rfl : v = v' := by simpa using hv
  clear hv
  obtain ⟨ao, cap, rfl, hac, hcm⟩ := ha.form
  obtain ⟨n, hn⟩ : ∃ n, n = acts.length := ⟨_, rfl⟩
  rw [← hn] at hac ha ⊢
  have HN := hid hn
  have HA := hid ha
  unfold maxLen at hcm
  have hlr := Go.bounds_i64 hl
  obtain ⟨iu, hiu, hu0, hu1, hu2⟩ := info_parts infoByte7
  have HNW := hid (HW.new w w [] (Held.start w))
  clear hn ha hl
  go_enter Try.func3, Try.ntmps3
  go_wp2_with fail
  refine HNW.out.mono ?_
  rintro e w1 ⟨B, rfl, hh⟩
  have H1 := hid (h_answers7 HW hh)
  clear hh HNW
  go_wp2_with fail
  refine H1.out.mono ?_
  rintro e w2 ⟨rfl, hh⟩
  have H2 := hid ((hh.nil 5 1).swap)
  clear hh H1
  go_wp2
  go_loopg [6, 7] 32 (fun k t6 t7 wr => ∃ (i L : Nat) (l : List Nat) (lo : Option Addr) (lc : Nat), i ≤ 30 ∧ 30 - i < k ∧ L ≤ 101000 * i ∧ t7 = .int .i64 (i : Int) ∧ t6 = .slice lo L lc ∧ Hid (L = l.length ∧ ∀ b ∈ l, b < 256) ∧
    Hid (Held w wr [W l B, ownT 5 1 (.slice lo L lc) L (u8s l)]))
  case atStart => exact ⟨0, 0, [], none, 0, by omega, by omega, by omega, rfl, rfl, hid ⟨rfl, fun _ h => by cases h⟩, H2⟩
  case round =>
    obtain ⟨i, L, l, lo, lc, hi, hk, hLi, rfl, rfl, HL, HR⟩ := hrel
    have hL0 : (0 : Int) ≤ (L : Int) := Int.natCast_nonneg _
    by_cases hgo : i < n ∧ i < 30
    · obtain ⟨hin, hi30⟩ := hgo
      obtain ⟨g, off, rfl, hcell⟩ := HA.out.spot (by omega)
      obtain ⟨a, haa⟩ : ∃ a, acts[i]? = some a := ⟨acts[i]'(by have := HN.out; omega), List.getElem?_eq_getElem _⟩
      obtain ⟨xs, hg, hcx⟩ := hcell i a haa
      obtain ⟨b, bv, hb256, hrd, c0, c1, c2, c3, c4, wf1, wf2, wf3⟩ := act7_open hg hcx
      obtain ⟨dd, dn, ds, dt, _⟩ := a
      simp only at c0 c1 c2 c3 wf1 wf2 wf3
      have hM := HR.out.mod
      have hgl := World.block_lt_of_cell? w _ c0
      have d0 := (hM.cell (p := ⟨g, off + i * 5, none⟩) hgl (fun h => h)).trans c0
      have d1 := (hM.cell (p := ⟨g, off + i * 5 + 1, none⟩) hgl (fun h => h)).trans c1
      have d2 := (hM.cell (p := ⟨g, off + i * 5 + 2, none⟩) hgl (fun h => h)).trans c2
      have d3 := (hM.cell (p := ⟨g, off + i * 5 + 3, none⟩) hgl (fun h => h)).trans c3
      have d4 := (hM.cell (p := ⟨g, off + i * 5 + 4, none⟩) hgl (fun h => h)).trans c4
      obtain ⟨bo, bc, rfl, hbc, hbm⟩ := hrd.form
      obtain ⟨bl, hbl⟩ : ∃ bl, bl = b.length := ⟨_, rfl⟩
      rw [← hbl] at hrd hbc d4
      have hdn := Go.bounds_i64 wf1
      have hds := Go.bounds_i64 wf2
      have hdt := Go.bounds_u16 wf3
      obtain ⟨tt, rfl⟩ := Int.eq_ofNat_of_zero_le hdt.1
      have hi0 : (0 : Int) ≤ (i : Int) := Int.natCast_nonneg _
      have hi1 : (i : Int) < (n : Int) := by omega
      have hi2 : (i : Int) < 30 := by omega
      have HRD := hid hrd
      have HB := hid (And.intro hbl hb256)
      clear hcell haa hcx hg c0 c1 c2 c3 c4 hM hrd hb256 hbl wf1 wf2 wf3
      by_cases h3 : bl ≤ 500
      · have h3' : ¬ (500 : Int) < (bl : Int) := by omega
        have H3 : Held w (wr.alloc (.cells #[.int .i64 dd, .int .i64 dn, .int .i64 ds, .int .u16 (tt : Int), .slice bo bl bc] 29)) _ := ((HR.out.newObj [.int .i64 dd, .int .i64 dn, .int .i64 ds, .int .u16 (tt : Int), .slice bo bl bc] 29).swap)
        obtain ⟨Ba, hBa⟩ : ∃ Ba, Ba = wr.heap.size := ⟨_, rfl⟩
        have HBa := hid hBa
        clear hBa
        go_upto_if 46 with (fail)
        rw [← HBa.out] at H3 ⊢
        obtain ⟨wa, hwa⟩ : ∃ wa, wa = wr.alloc (.cells #[.int .i64 dd, .int .i64 dn, .int .i64 ds, .int .u16 (tt : Int), .slice bo bl bc] 29) := ⟨_, rfl⟩
        rw [← hwa] at H3 ⊢
        clear hwa HBa d0 d1 d2 d3 d4 HR
        have H4 := hid H3
        clear H3
        go_cut [6] (fun s6 wx => ∃ (L' : Nat) (l' : List Nat) (lo' : Option Addr) (lc' : Nat), s6 = .slice lo' L' lc' ∧ L' ≤ L + 100000 ∧ Hid (L' = l'.length ∧ ∀ b ∈ l', b < 256) ∧
          Hid (Held w wx [W l' B, objT Ba [.int .i64 dd, .int .i64 dn, .int .i64 ds, .int .u16 (tt : Int), .slice bo bl bc] 29, ownT 5 1 (.slice lo' L' lc') L' (u8s l')]))
        case first =>
          by_cases k1 : dd = 1
          · subst k1
            as_aux_lemma =>
              obtain ⟨T, hT⟩ : ∃ T, T = tt % 200 := ⟨_, rfl⟩
              have hTI : (tt : Int) % 200 = (T : Int) := by omega
              have hT199 : T ≤ 199 := by omega
              have hT0 : (0 : Int) ≤ (T : Int) := Int.natCast_nonneg _
              clear hT
              go_step
              go_wp2
              go_loopg [6, 9] (T + 3) (fun k t6 t9 wq => ∃ (q L' : Nat) (l' : List Nat) (lo' : Option Addr) (lc' : Nat), q ≤ T + 1 ∧ T + 1 - q < k ∧ L' ≤ L + 500 * q ∧ t9 = .int .i64 (q : Int) ∧ t6 = .slice lo' L' lc' ∧ Hid (L' = l'.length ∧ ∀ b ∈ l', b < 256) ∧
                Hid (Held w wq [W l' B, objT Ba [.int .i64 1, .int .i64 dn, .int .i64 ds, .int .u16 (tt : Int), .slice bo bl bc] 29, ownT 5 1 (.slice lo' L' lc') L' (u8s l')]))
              case atStart => exact ⟨0, L, l, lo, lc, by omega, by omega, by omega, rfl, rfl, HL, H4⟩
              case round =>
                obtain ⟨q, L', l', lo', lc', hq, hkq, hLq, rfl, rfl, HL', HQ⟩ := hrel
                obtain ⟨gx, rfl⟩ : ∃ g, g = gk := ⟨gk, rfl⟩
                have hq0 : (0 : Int) ≤ (q : Int) := Int.natCast_nonneg _
                have hL'0 : (0 : Int) ≤ (L' : Int) := Int.natCast_nonneg _
                have e3 := HQ.out.swap.obj.cell (i := 3) rfl
                by_cases hqT : q ≤ T
                · have hqI : (q : Int) ≤ (T : Int) := by omega
                  have HQ0 := hid (HQ.out.lit 5 1 [] 0 (by decide) rfl)
                  have e4 := HQ0.out.third.obj.cell (i := 4) rfl
                  clear HQ
                  go_wp2_with ((with_reducible show wpList _ _ _ (⟨some 58, _, _, _, _, _⟩ :: _) _ _); refine wpList_app_held rfl (.tmp 55) (.tmp 57) 26 rfl 5 iu (.int .u8 0) 1 1 Try.underlying26 hiu hu0 hu1 hu2 rfl (by decide) _ 0 [] rfl HQ0.out _ bl (u8s b) rfl (HQ0.out.old HRD.out) (u8s_one _) bl (by omega) (by unfold maxLen; omega) (by omega) ?_; intro ao1 cap1 w3 h1; rw [List.nil_append] at h1; have HQ1 := hid h1; clear h1 HQ0 e4 e3)
                  have HAD := hid (HW.add l' B (.slice ao1 bl cap1) bl b w w3 _ HQ1.out.swap HQ1.out.own.rd HB.out.2 HL'.out.2 (by rw [← HL'.out.1]; omega))
                  clear HQ1
                  refine HAD.out.mono ?_
                  rintro e w4 ⟨rfl, hh⟩
                  have HQ2 := hid hh.swap
                  clear hh HAD
                  go_wp2
                  go_loopg [11] (bl + 2) (fun kk t11 wy => ∃ (j : Nat) (ys : List Value), j ≤ bl ∧ bl - j < kk ∧ t11 = .int .i64 (j : Int) ∧ Hid (AllU8w ys) ∧
                    Hid (Held w wy [ownT 5 1 (.slice ao1 bl cap1) bl ys, W (l' ++ b) B, objT Ba [.int .i64 1, .int .i64 dn, .int .i64 ds, .int .u16 (tt : Int), .slice bo bl bc] 29, ownT 5 1 (.slice lo' L' lc') L' (u8s l')]))
                  case atStart => exact ⟨0, _, by omega, by omega, rfl, AllU8w.u8s _, HQ2⟩
                  case round =>
                    obtain ⟨j, ys, hj, hkk, rfl, HY, HZ⟩ := hrel
                    have hj0 : (0 : Int) ≤ (j : Int) := Int.natCast_nonneg _
                    by_cases hjq : j < bl
                    · obtain ⟨g2, off2, rfl, hcell, hfr, hput⟩ := HZ.out.own.site (by omega)
                      have hyl := HZ.out.own.1
                      obtain ⟨u, hu⟩ : ∃ u, ys[j]? = some u := ⟨ys[j]'(by omega), List.getElem?_eq_getElem _⟩
                      obtain ⟨x, rfl⟩ := HY.out j u hu
                      have hc1 := hcell j _ hu
                      have hf1 := hfr j
                      have hj1 : (j : Int) < (bl : Int) := by omega
                      have HPut : Hid (∀ z : Int, Held w (wr.setCell ⟨g2, off2 + j, none⟩ (.int .u8 z)) _) := fun z => HZ.out.putOwn (hput j (.int .u8 z) hjq) (Mod.set wr g2 (off2 + j) _)
                      clear hcell hfr hput hu hyl
                      go_wp2
                      go_roundg (gk - 1)
                      case measure => omega
                      case rel => exact ⟨j + 1, _, by omega, by omega, by go_num, HY.out.set j _, HPut.out _⟩
                    · have hj1 : ¬ (j : Int) < (bl : Int) := by omega
                      have e4 := HZ.out.third.obj.cell (i := 4) rfl
                      have HZ2 := hid HZ.out.fourth
                      clear HZ
                      go_wp2_with ((with_reducible show wpList _ _ _ (⟨some 77, _, _, _, _, _⟩ :: _) _ _); refine wpList_app_held rfl (.tmp 74) (.tmp 76) 26 rfl 5 iu (.int .u8 0) 1 1 Try.underlying26 hiu hu0 hu1 hu2 rfl (by decide) _ L' (u8s l') rfl HZ2.out _ bl (u8s b) rfl (HZ2.out.old HRD.out) (u8s_one _) (L' + bl) rfl (by unfold maxLen; omega) (by omega) ?_; intro ao2 cap2 w5 h1; rw [← u8s_append] at h1; have HZ3 := hid h1.swap.drop.third.third; clear h1 HZ2 e4)
                      go_roundg (gx - 1)
                      case measure => omega
                      case rel =>
                        refine ⟨q + 1, L' + bl, l' ++ b, ao2, cap2, by omega, by omega, by omega, by go_num, rfl, hid ⟨?_, ?_⟩, HZ3⟩
                        · rw [List.length_append, ← HL'.out.1, ← HB.out.1]
                        · intro x hx
                          exact (List.mem_append.1 hx).elim (HL'.out.2 x) (HB.out.2 x)
                · have hqI : ¬ (q : Int) ≤ (T : Int) := by omega
                  go_wp2
                  go_meet
                  exact ⟨L', l', lo', lc', rfl, by omega, HL', HQ⟩
          · have n1 : (dd == 1) = false := by simp [k1]
            go_wp2
            go_meet
            exact ⟨L, l, lo, lc, rfl, by omega, HL, H4⟩
        case rest =>
          obtain ⟨L1, l1, lo1, lc1, rfl, hL1, HL1, HC1⟩ := hcut
          have hL10 : (0 : Int) ≤ (L1 : Int) := Int.natCast_nonneg _
          obtain ⟨K, hK⟩ : ∃ K, K = min L1 32768 := ⟨_, rfl⟩
          have hKc : (32768 < L1 ∧ K = 32768) ∨ (L1 ≤ 32768 ∧ K = L1) := by omega
          have hKL : K ≤ L1 := by omega
          have hK3 : K ≤ 32768 := by omega
          have hK0 : (0 : Int) ≤ (K : Int) := Int.natCast_nonneg _
          have HK := hid (And.intro hK hKc)
          clear hK hKc
          go_upto_if 81 with (fail)
          go_cut [12] (fun s12 wx => s12 = .int .i64 (K : Int) ∧ wc = wx)
          case first =>
            rcases HK.out.2 with ⟨h6, h7⟩ | ⟨h6, h7⟩
            · have hb : (32768 : Int) < (L1 : Int) := by omega
              have hb' : 32768 < L1 := h6
              subst h7
              go_wp2
              go_meet
              exact ⟨rfl, rfl⟩
            · have hb : ¬ (32768 : Int) < (L1 : Int) := by omega
              have hb' : ¬ 32768 < L1 := by omega
              subst h7
              go_wp2
              go_meet
              exact ⟨rfl, rfl⟩
          case rest =>
            obtain ⟨rfl, rfl⟩ := hcut
            have e0 := HC1.out.swap.obj.cell (i := 0) rfl
            go_upto_if 84 with (fail)
            go_cut [6] (fun s6 wx => ∃ (L' : Nat) (l' : List Nat) (lo' : Option Addr) (lc' : Nat), s6 = .slice lo' L' lc' ∧ L' ≤ L1 + 258 ∧ Hid (L' = l'.length ∧ ∀ b ∈ l', b < 256) ∧
              Hid (Held w wx [W l' B, objT Ba [.int .i64 dd, .int .i64 dn, .int .i64 ds, .int .u16 (tt : Int), .slice bo bl bc] 29, ownT 5 1 (.slice lo' L' lc') L' (u8s l')]))
            case first =>
              by_cases k2 : dd = 2
              · subst k2
                as_aux_lemma =>
                  have e1 := HC1.out.swap.obj.cell (i := 1) rfl
                  have e2 := HC1.out.swap.obj.cell (i := 2) rfl
                  have h6 : (dn < 1 ∨ 258 < dn) ∨ (1 ≤ dn ∧ dn ≤ 258 ∧ (ds < 1 ∨ (K : Int) < ds)) ∨ (1 ≤ dn ∧ dn ≤ 258 ∧ 1 ≤ ds ∧ ds ≤ (K : Int)) := by omega
                  rcases h6 with h6 | ⟨h6, h7, h8⟩ | ⟨h6, h7, h8, h9⟩
                  · have HCP := hid (HW.copyArg l1 B dn ds w wc _ HC1.out (by rw [← HL1.out.1]; omega) h6)
                    clear HC1
                    have h10 : dn < 1 ∨ ¬ dn < 1 ∧ 258 < dn := by omega
                    clear h6
                    rcases h10 with h10 | ⟨h10, h11⟩
                    · have hb1 : decide (dn < 1) = true := by simp; omega
                      go_wp2_with fail
                      refine HCP.out.mono ?_
                      rintro e w5 ⟨v, rfl, hv, hh⟩
                      obtain ⟨vo, vc, rfl, _, _⟩ := hv.form
                      have f1 := hh.swap.obj.cell (i := 1) rfl
                      have HE := hid hh
                      clear hh hv HCP e0 e1 e2
                      go_wp2
                      go_meet
                      exact ⟨L1, l1, lo1, lc1, rfl, by omega, HL1, HE⟩
                    · have hb1 : decide (dn < 1) = false := by simp; omega
                      have hb2 : decide ((258 : Int) < dn) = true := by simp; omega
                      go_wp2_with fail
                      refine HCP.out.mono ?_
                      rintro e w5 ⟨v, rfl, hv, hh⟩
                      obtain ⟨vo, vc, rfl, _, _⟩ := hv.form
                      have f1 := hh.swap.obj.cell (i := 1) rfl
                      have HE := hid hh
                      clear hh hv HCP e0 e1 e2
                      go_wp2
                      go_meet
                      exact ⟨L1, l1, lo1, lc1, rfl, by omega, HL1, HE⟩
                  · have hKm : ((min l1.length 32768 : Nat) : Int) = (K : Int) := by rw [HK.out.1, HL1.out.1]
                    have HCP := hid (HW.copyCode l1 B dn ds w wc _ HC1.out (by rw [← HL1.out.1]; omega) h6 h7 (by rw [hKm]; exact h8))
                    clear HC1 hKm
                    have hb1 : decide (dn < 1) = false := by simp; omega
                    have hb2 : decide ((258 : Int) < dn) = false := by simp; omega
                    have h10 : ds < 1 ∨ ¬ ds < 1 ∧ (K : Int) < ds := by omega
                    clear h8
                    rcases h10 with h10 | ⟨h10, h11⟩
                    · have hb3 : decide (ds < 1) = true := by simp; omega
                      go_wp2_with fail
                      refine HCP.out.mono ?_
                      rintro e w5 ⟨v, rfl, hv, hh⟩
                      obtain ⟨vo, vc, rfl, _, _⟩ := hv.form
                      have f1 := hh.swap.obj.cell (i := 1) rfl
                      have f2 := hh.swap.obj.cell (i := 2) rfl
                      have HE := hid hh
                      clear hh hv HCP e0 e1 e2
                      go_wp2
                      go_meet
                      exact ⟨L1, l1, lo1, lc1, rfl, by omega, HL1, HE⟩
                    · have hb3 : decide (ds < 1) = false := by simp; omega
                      have hb4 : decide ((K : Int) < ds) = true := by simp; omega
                      go_wp2_with fail
                      refine HCP.out.mono ?_
                      rintro e w5 ⟨v, rfl, hv, hh⟩
                      obtain ⟨vo, vc, rfl, _, _⟩ := hv.form
                      have f1 := hh.swap.obj.cell (i := 1) rfl
                      have f2 := hh.swap.obj.cell (i := 2) rfl
                      have HE := hid hh
                      clear hh hv HCP e0 e1 e2
                      go_wp2
                      go_meet
                      exact ⟨L1, l1, lo1, lc1, rfl, by omega, HL1, HE⟩
                  · obtain ⟨kn, rfl⟩ := Int.eq_ofNat_of_zero_le (show 0 ≤ dn by omega)
                    obtain ⟨kd, rfl⟩ := Int.eq_ofNat_of_zero_le (show 0 ≤ ds by omega)
                    have hkd : kd ≤ L1 := by omega
                    have hkd1 : 1 ≤ kd := by omega
                    have hkn1 : 1 ≤ kn := by omega
                    have hkn2 : kn ≤ 258 := by omega
                    have HCP := hid (HW.copy l1 B kn kd w wc _ HC1.out HL1.out.2 (by rw [← HL1.out.1]; omega) hkn1 hkn2 hkd1 (by rw [← HL1.out.1]; omega) (by omega))
                    have hb1 : decide ((kn : Int) < 1) = false := by simp; omega
                    have hb2 : decide ((258 : Int) < (kn : Int)) = false := by simp; omega
                    have hb3 : decide ((kd : Int) < 1) = false := by simp; omega
                    have hb4 : decide ((K : Int) < (kd : Int)) = false := by simp; omega
                    have hb4' : decide (K < kd) = false := by simp; omega
                    have hkn0 : (0 : Int) ≤ (kn : Int) := Int.natCast_nonneg _
                    have hkd0 : (0 : Int) ≤ (kd : Int) := Int.natCast_nonneg _
                    clear HC1 h6 h7 h8 h9
                    go_wp2_with fail
                    refine HCP.out.mono ?_
                    rintro e w5 ⟨v, rfl, hh⟩
                    obtain ⟨vo, vc, rfl, _, _⟩ := hh.own.form
                    have H5 : Hid (Held w w5 [ownT 5 1 (.slice vo kn vc) kn (u8s (out l1 kd kn)), W (ext l1 kd kn) B, objT Ba [.int .i64 2, .int .i64 (kn : Int), .int .i64 (kd : Int), .int .u16 (tt : Int), .slice bo bl bc] 29, ownT 5 1 (.slice lo1 (L1 + 0) lc1) (L1 + 0) (u8s (ext l1 kd 0))]) := hid hh
                    have f1 := hh.third.obj.cell (i := 1) rfl
                    have f2 := hh.third.obj.cell (i := 2) rfl
                    clear hh HCP e0 e1 e2
                    go_wp2
                    go_loopg [6, 17] (kn + 2) (fun k t6 t17 wq => ∃ (j : Nat) (lo' : Option Addr) (lc' : Nat), j ≤ kn ∧ kn - j < k ∧ t17 = .int .i64 (j : Int) ∧ t6 = .slice lo' (L1 + j) lc' ∧
                      Hid (Held w wq [ownT 5 1 (.slice vo kn vc) kn (u8s (out l1 kd kn)), W (ext l1 kd kn) B, objT Ba [.int .i64 2, .int .i64 (kn : Int), .int .i64 (kd : Int), .int .u16 (tt : Int), .slice bo bl bc] 29, ownT 5 1 (.slice lo' (L1 + j) lc') (L1 + j) (u8s (ext l1 kd j))]))
                    case atStart => exact ⟨0, lo1, lc1, by omega, by omega, rfl, rfl, H5⟩
                    case round =>
                      obtain ⟨j, lo', lc', hj, hkj, rfl, rfl, HJ⟩ := hrel
                      have hj0 : (0 : Int) ≤ (j : Int) := Int.natCast_nonneg _
                      have f1 := HJ.out.third.obj.cell (i := 1) rfl
                      by_cases hjn : j < kn
                      · have hjI : (j : Int) < (kn : Int) := by omega
                        have f2 := HJ.out.third.obj.cell (i := 2) rfl
                        have hel : (ext l1 kd j).length = L1 + j := by rw [ext_length, ← HL1.out.1]
                        obtain ⟨x, hx⟩ : ∃ x, (ext l1 kd j)[L1 + j - kd]? = some x := ⟨(ext l1 kd j)[L1 + j - kd]'(by omega), List.getElem?_eq_getElem _⟩
                        have hES : u8s (ext l1 kd j) ++ u8s [x] = u8s (ext l1 kd (j + 1)) := by
                          rw [← u8s_append, ext, ← HL1.out.1, hx]; rfl
                        obtain ⟨g2, off2, rfl, hcell, _, _⟩ := HJ.out.fourth.own.site (by omega)
                        have c1 := hcell (L1 + j - kd) (.int .u8 (x : Int)) (by rw [u8s_get, hx]; rfl)
                        obtain ⟨p, hp⟩ : ∃ p, p = L1 + j - kd := ⟨_, rfl⟩
                        rw [← hp] at c1
                        have hpI : (L1 : Int) + (j : Int) - (kd : Int) = (p : Int) := by omega
                        have hpl : (p : Int) < (L1 : Int) + (j : Int) := by omega
                        have hp0 : (0 : Int) ≤ (p : Int) := Int.natCast_nonneg _
                        have hpl2 : p < L1 + j := by omega
                        have HES := hid hES
                        have HJ1 := hid (HJ.out.fourth.lit 5 1 (u8s [x]) 1 (by decide) rfl).swap
                        clear hel hx hES hcell hp HJ
                        go_wp2_with ((with_reducible show wpList _ _ _ (⟨some 134, _, _, _, _, _⟩ :: _) _ _); refine wpList_app_held rfl (.tmp 124) (.tmp 133) 26 rfl 5 iu (.int .u8 0) 1 1 Try.underlying26 hiu hu0 hu1 hu2 rfl (by decide) _ (L1 + j) (u8s (ext l1 kd j)) rfl HJ1.out _ 1 (u8s [x]) rfl HJ1.out.swap.own.rd (u8s_one _) (L1 + (j + 1)) rfl (by unfold maxLen; omega) (by omega) ?_; intro ao2 cap2 w6 h1; rw [HES.out] at h1; have HJ2 := hid h1.swap.drop.fourth.fourth.fourth; clear h1 HJ1)
                        go_roundg (gk - 1)
                        case measure => omega
                        case rel => exact ⟨j + 1, ao2, cap2, by omega, by omega, by go_num, rfl, HJ2⟩
                      · obtain rfl : kn = j := by omega
                        have hjI : ¬ (kn : Int) < (kn : Int) := by omega
                        obtain ⟨_, _, hfm, hlc1, hlc2⟩ := HJ.out.fourth.own.form
                        simp only [Value.slice.injEq, true_and] at hfm
                        obtain ⟨rfl, rfl⟩ := hfm
                        obtain ⟨g2, off2, rfl, hcell, _, _⟩ := HJ.out.fourth.own.site (by omega)
                        have hlc : ¬ lc' = L1 := by omega
                        have HRD' : Hid (Rd wr 1 (.slice (some ⟨g2, off2 + L1, none⟩) kn (lc' - L1)) kn (u8s (out l1 kd kn))) := by
                          refine hid ⟨by rw [u8s_length, out_length]; omega, _, _, rfl, by omega, by omega, by simp, .inr ⟨_, _, rfl, fun t u hu => ?_⟩⟩
                          have := hcell (L1 + t) u (by rw [u8s_get] at hu ⊢; rw [out, List.getElem?_drop, ← HL1.out.1] at hu; exact hu)
                          rw [Nat.add_assoc]; exact this
                        clear hcell
                        go_wp2_with fail
                        have HSM := hid (h_equal HJ.out (.slice vo kn vc) (.slice (some ⟨g2, off2 + L1, none⟩) kn (lc' - L1)) (out l1 kd kn) kn HJ.out.own.rd HRD'.out (by omega))
                        clear HJ
                        refine HSM.out.mono ?_
                        rintro e w7 ⟨rfl, hh⟩
                        have H7 := hid hh
                        clear hh HSM HRD'
                        go_wp2
                        go_loopg [18] (kn + 2) (fun kk t18 wy => ∃ (t : Nat) (ys : List Value), t ≤ kn ∧ kn - t < kk ∧ t18 = .int .i64 (t : Int) ∧ Hid (AllU8w ys) ∧
                          Hid (Held w wy [ownT 5 1 (.slice vo kn vc) kn ys, W (ext l1 kd kn) B, objT Ba [.int .i64 2, .int .i64 (kn : Int), .int .i64 (kd : Int), .int .u16 (tt : Int), .slice bo bl bc] 29, ownT 5 1 (.slice (some ⟨g2, off2, none⟩) (L1 + kn) lc') (L1 + kn) (u8s (ext l1 kd kn))]))
                        case atStart => exact ⟨0, _, by omega, by omega, rfl, AllU8w.u8s _, H7⟩
                        case round =>
                          obtain ⟨t, ys, ht, hkk, rfl, HY, HZ⟩ := hrel
                          have ht0 : (0 : Int) ≤ (t : Int) := Int.natCast_nonneg _
                          by_cases htq : t < kn
                          · obtain ⟨g4, off4, rfl, hcell, hfr, hput⟩ := HZ.out.own.site (by omega)
                            have hyl := HZ.out.own.1
                            obtain ⟨u, hu⟩ : ∃ u, ys[t]? = some u := ⟨ys[t]'(by omega), List.getElem?_eq_getElem _⟩
                            obtain ⟨x, rfl⟩ := HY.out t u hu
                            have hc1 := hcell t _ hu
                            have hf1 := hfr t
                            have ht1 : (t : Int) < (kn : Int) := by omega
                            have HPut : Hid (∀ z : Int, Held w (wr.setCell ⟨g4, off4 + t, none⟩ (.int .u8 z)) _) := fun z => HZ.out.putOwn (hput t (.int .u8 z) htq) (Mod.set wr g4 (off4 + t) _)
                            clear hcell hfr hput hu hyl
                            go_wp2
                            go_roundg (gk - 1)
                            case measure => omega
                            case rel => exact ⟨t + 1, _, by omega, by omega, by go_num, HY.out.set t _, HPut.out _⟩
                          · have ht1 : ¬ (t : Int) < (kn : Int) := by omega
                            have HE := hid HZ.out.drop
                            have HEL : Hid (L1 + kn = (ext l1 kd kn).length ∧ ∀ b ∈ ext l1 kd kn, b < 256) := hid ⟨by rw [ext_length, ← HL1.out.1], ext_lt l1 kd HL1.out.2 kn⟩
                            clear HZ
                            go_wp2
                            go_meet
                            exact ⟨L1 + kn, ext l1 kd kn, some ⟨g2, off2, none⟩, lc', rfl, by omega, HEL, HE⟩
              · have n2 : (dd == 2) = false := by simp [k2]
                go_wp2
                go_meet
                exact ⟨L1, l1, lo1, lc1, rfl, by omega, HL1, HC1⟩
            case rest =>
              as_aux_lemma =>
                obtain ⟨L2, l2, lo2, lc2, rfl, hL2, HL2, HC2⟩ := hcut
                have hL20 : (0 : Int) ≤ (L2 : Int) := Int.natCast_nonneg _
                obtain ⟨K2, hK2⟩ : ∃ K2, K2 = min L2 32768 := ⟨_, rfl⟩
                have hK2c : (32768 < L2 ∧ K2 = 32768) ∨ (L2 ≤ 32768 ∧ K2 = L2) := by omega
                have hK20 : (0 : Int) ≤ (K2 : Int) := Int.natCast_nonneg _
                have HLN := hid (HW.len l2 B K2 w wc _ HC2.out (by rw [← HL2.out.1]; omega) (by rw [hK2, HL2.out.1]))
                have HK2 := hid hK2c
                clear hK2 hK2c HC2
                go_upto_if 159 with (fail)
                go_cut [12] (fun s12 wx => s12 = .int .i64 (K2 : Int) ∧ wc = wx)
                case first =>
                  rcases HK2.out with ⟨h6, h7⟩ | ⟨h6, h7⟩
                  · have hb : (32768 : Int) < (L2 : Int) := by omega
                    have hb' : 32768 < L2 := h6
                    subst h7
                    go_wp2
                    go_meet
                    exact ⟨rfl, rfl⟩
                  · have hb : ¬ (32768 : Int) < (L2 : Int) := by omega
                    have hb' : ¬ 32768 < L2 := by omega
                    subst h7
                    go_wp2
                    go_meet
                    exact ⟨rfl, rfl⟩
                case rest =>
                  obtain ⟨rfl, rfl⟩ := hcut
                  have hkk : ((K2 : Int) != (K2 : Int)) = false := by simp
                  go_wp2_with fail
                  refine HLN.out.mono ?_
                  rintro e w8 ⟨rfl, hh⟩
                  have HE := hid hh.swap.drop
                  clear hh HLN
                  go_wp2
                  go_roundg (gk - 1)
                  case measure => omega
                  case rel => exact ⟨i + 1, L2, l2, lo2, lc2, by omega, by omega, by omega, by go_num, rfl, HL2, HE⟩
      · have h3' : (500 : Int) < (bl : Int) := by omega
        have H3 : Hid (Held w (wr.alloc (.cells #[.int .i64 dd, .int .i64 dn, .int .i64 ds, .int .u16 (tt : Int), .slice bo bl bc] 29)) _) := hid (HR.out.alloc _)
        go_wp2
        go_roundg (gk - 1)
        case measure => omega
        case rel => exact ⟨i + 1, L, l, lo, lc, by omega, by omega, by omega, by go_num, rfl, HL, H3⟩
    · obtain ⟨K, hK⟩ : ∃ K, K = min L 32768 := ⟨_, rfl⟩
      have hKL : K ≤ L := by omega
      have hK3 : K ≤ 32768 := by omega
      have hK0 : (0 : Int) ≤ (K : Int) := Int.natCast_nonneg _
      have hL3 : L ≤ 3030000 := by omega
      have HLN := hid (HW.len l B K w wr _ HR.out (by rw [← HL.out.1]; omega) (by rw [hK, HL.out.1]))
      have hLlc : L ≤ lc := HR.out.swap.own.le
      have HKE := hid hK
      have hgo' : ¬ (i : Int) < (n : Int) ∨ ((i : Int) < (n : Int) ∧ ¬ (i : Int) < 30) := by omega
      clear hK HR hgo
      rcases hgo' with hg0 | ⟨hg0, hg1⟩
      all_goals
        go_upto_if 167 with (go_at_call 12; refine HLN.out.mono ?_; rintro e w8 ⟨rfl, hh⟩; have H8 := hid hh; clear hh HLN)
        go_cut [1] (fun s1 wx => ∃ x : Int, s1 = .int .i64 x ∧ (((K : Int) < last ∧ x = (K : Int)) ∨ (last ≤ (K : Int) ∧ x = last)) ∧ Hid (Held w wx [W l B, ownT 5 1 (.slice lo L lc) L (u8s l)]))
        case first =>
          by_cases hlk : (K : Int) < last
          · have HLN2 := hid (HW.len l B K w _ _ H8.out (by rw [← HL.out.1]; omega) (by rw [HKE.out, HL.out.1]))
            clear H8
            go_wp2_with fail
            refine HLN2.out.mono ?_
            rintro e w9 ⟨rfl, hh⟩
            have H9 := hid hh
            clear hh HLN2
            go_wp2
            go_meet
            exact ⟨_, rfl, .inl ⟨hlk, rfl⟩, H9⟩
          · have hlk' : last ≤ (K : Int) := by omega
            go_wp2
            go_meet
            exact ⟨_, rfl, .inr ⟨hlk', rfl⟩, H8⟩
        case rest =>
          as_aux_lemma =>
            obtain ⟨x, rfl, hx, H9⟩ := hcut
            have hxK : x ≤ (K : Int) := by omega
            clear hx
            go_upto_if 171 with (fail)
            go_cut [1] (fun s1 wx => ∃ m : Nat, s1 = .int .i64 (m : Int) ∧ m ≤ K ∧ wc = wx)
            case first =>
              by_cases hx0 : x < 0
              · go_wp2
                go_meet
                exact ⟨0, rfl, by omega, rfl⟩
              · obtain ⟨m, rfl⟩ := Int.eq_ofNat_of_zero_le (show 0 ≤ x by omega)
                have hx1 : ¬ (m : Int) < 0 := by omega
                go_wp2
                go_meet
                exact ⟨m, rfl, by omega, rfl⟩
            case rest =>
              obtain ⟨m, rfl, hmK, rfl⟩ := hcut
              have hm0 : (0 : Int) ≤ (m : Int) := Int.natCast_nonneg _
              obtain ⟨p, hp⟩ : ∃ p, p = L - m := ⟨_, rfl⟩
              have hpL : p ≤ L := by omega
              have hpm : L - p = m := by omega
              have hpI : (L : Int) - (m : Int) = (p : Int) := by omega
              have hw0 : IntKind.i64.wrap ((L : Int) - (m : Int)) = (p : Int) := by rw [hpI]; exact IntWalk.i64_in _ (by omega)
              have HLS := hid (HW.last l B m w wc.drew _ H9.out.drew HL.out.2 (by rw [← HL.out.1]; omega) (by rw [← HL.out.1]; omega) (by omega))
              rw [← HL.out.1, ← hp] at HLS
              have HTK : Hid (((u8s l).drop (p * 1)).take (m * 1) = u8s (l.drop p)) := by
                rw [Nat.mul_one, Nat.mul_one, List.take_of_length_le (by rw [List.length_drop, u8s_length, ← HL.out.1]; omega)]
                exact hid (by simp [u8s, List.map_drop])
              have hp0 : (0 : Int) ≤ (p : Int) := Int.natCast_nonneg _
              have hpLI : (p : Int) ≤ (L : Int) := by omega
              have hpc : p ≤ lc := by omega
              have hpcI : (p : Int) ≤ (lc : Int) := by omega
              have hLcI : (L : Int) ≤ (lc : Int) := by omega
              have hcut : ∀ wg, (Instr.sliceAt 26 (.slice lo L lc) (some (.int .i64 (p : Int))) none none).run Try.prog wg = .ok (.slice (if lc = p then lo else lo.map fun (x : Addr) => x.add (p * 1)) (L - p) (lc - p)) wg := fun wg =>
                run_cut (P := Try.prog) 26 5 iu 1 Try.underlying26 hiu hu1 lo L lc p L (some (.int .i64 (p : Int))) none ⟨_, rfl⟩ rfl hpL hLlc
              rw [hpm] at hcut
              have hRC : ∀ wg, Held w wg [W l B, ownT 5 1 (.slice lo L lc) L (u8s l)] → Rd wg 1 (.slice (if lc = p then lo else lo.map fun (x : Addr) => x.add (p * 1)) m (lc - p)) m (u8s (l.drop p)) := by
                intro wg h
                have h := h.swap.own.rd.cut (L := p) (H := L) hpL (Nat.le_refl _)
                unfold sliced at h
                rw [hpm, HTK.out] at h
                exact h
              generalize (if lc = p then lo else lo.map fun (x : Addr) => x.add (p * 1)) = a2 at hcut hRC
              generalize lc - p = c2 at hcut hRC
              have hw1 : IntKind.i64.wrap (p : Int) = (p : Int) := IntWalk.i64_in _ (by omega)
              have HRC := hid hRC
              clear hp H9 hpc hpcI hLcI hpL hpm hRC HTK hw0 hpLI hmK hKL hK3 hL3 hLlc
              go_wp2
              go_region_held3 (fun _ => True) (trivial) ((first
                | (go_at_call 13; refine HLS.out.mono ?_; rintro e wf ⟨lv, rfl, hlv, hh⟩; obtain ⟨vo, vc, rfl, _, _⟩ := hlv.form; have HSM := hid (h_equal hh (.slice vo m vc) (.slice a2 m c2) (l.drop p) m hlv (HRC.out _ hh) (by omega)); clear hh hlv)
                | (go_at_call 11; refine HSM.out.mono ?_; rintro e wg ⟨rfl, hh2⟩; have HE := hid hh2.below; clear hh2)))
              go_wp2
              go_ret
              exact ⟨rfl, HE.out⟩
end Go.Proofs.Ytcocengcdhicnaa
