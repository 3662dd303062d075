/-
  The walk of the law RingActs.
-/
import Derived.Test.YthlfomeggobnaaaRingByte
import Derived.Test.YthlfomeggobnaaaRingAns
import Derived.Test.YthlfomeggobnaaaOpen
import Derived.Test.YthlfomeggobnaaaPut
import Derived.Deep.DeepCutAuto
namespace Go.Proofs.Ythlfomeggobnaaa
open Go.RowKit

def shInt64 : Shape Try.prog Int := shInt 3 .i64 Try.underlying3 (by kernel_rfl)
def shByte : Shape Try.prog Int := shInt 5 .u8 Try.underlying5 (by kernel_rfl)
def shBytes : Shape Try.prog (List Int) := shSlice shByte 27 Try.underlying27 (by kernel_rfl) (by decide)
def shAct3 : Shape Try.prog (Int × Int × List Int) := shStruct3 shInt64 shInt64 shBytes 29 Try.underlying29 (by kernel_rfl) rfl rfl rfl rfl rfl rfl
def shActs3 : Shape Try.prog (List (Int × Int × List Int)) := shSlice shAct3 22 Try.underlying22 (by kernel_rfl) (by decide)

/-- an act, as it lies in memory -/
theorem act3_open {W : World} {g off : Nat} {a : Int × Int × List Int} {xs : List Value} (h : shAct3.good W xs a) (hc : ∀ j u, xs[j]? = some u → W.cell? ⟨g, off + j, none⟩ = some u) :
    ∃ (b : List Nat) (bv : Value), (∀ x ∈ b, x < 256) ∧ Rd W 1 bv b.length (u8s b) ∧ W.cell? ⟨g, off, none⟩ = some (.int .i64 a.1) ∧ W.cell? ⟨g, off + 1, none⟩ = some (.int .i64 a.2.1) ∧ W.cell? ⟨g, off + 2, none⟩ = some bv ∧
      (Lit.int .i64 a.1).wf = true ∧ (Lit.int .i64 a.2.1).wf = true := by
  obtain ⟨c0, c1, c2, rfl, ⟨rfl, w0⟩, ⟨rfl, w1⟩, bv, rfl, hb⟩ := h
  obtain ⟨b, _, hb256, hrd⟩ := IsSlice.bytes hb
  exact ⟨b, bv, hb256, hrd, hc 0 _ rfl, hc 1 _ rfl, hc 2 _ rfl, w0, w1⟩

/-- each is a byte, whichever -/
def AllU8 (ys : List Value) : Prop := ∀ (j : Nat) u, ys[j]? = some u → ∃ x : Int, u = .int .u8 x
theorem AllU8.u8s (l : List Nat) : AllU8 (u8s l) := by
  intro j u hu
  rw [u8s_get, Option.map_eq_some_iff] at hu
  obtain ⟨x, _, rfl⟩ := hu
  exact ⟨_, rfl⟩
theorem AllU8.set {ys : List Value} (h : AllU8 ys) (i : Nat) (x : Int) : AllU8 (ys.set i (.int .u8 x)) := by
  intro j u hu
  by_cases hij : i = j
  · subst hij
    have hl := (List.getElem?_eq_some_iff.1 hu).1
    rw [List.getElem?_set_self (by simpa using hl)] at hu
    exact ⟨x, by injection hu with hu; exact hu.symm⟩
  · rw [List.getElem?_set_ne hij] at hu
    exact h j u hu

set_option maxRecDepth 100000 in
set_option maxHeartbeats 3200000 in
theorem ringActs_walk (m : Int) (v : Value) (acts : List (Int × Int × List Int)) (w : World) (_ : (Lit.int .i64 m).wf = true) (ha : shActs3.good w [v] acts) :
    Calls Try.prog 3 #[.int .i64 m, v] w fun e w' => e = .returned (.bool true) ∧ Below w.heap.size w w' := by
  obtain ⟨v', hv, ha⟩ := ha
  obtain rfl : v = v' := by simpa using hv
  clear hv
  obtain ⟨ao, cap, rfl, hac, hcm⟩ := ha.form
  obtain ⟨n, hn⟩ : ∃ n, n = acts.length := ⟨_, rfl⟩
  rw [← hn] at hac ha ⊢
  have HN := hid hn
  have HA := hid ha
  unfold maxLen at hcm
  clear hn ha
  obtain ⟨M, hM⟩ : ∃ M, M = lim m := ⟨_, rfl⟩
  have hM6 : M ≤ 65536 := by rw [hM]; exact lim_le m
  have HNew := hid (newByte m w w [] (Held.start w))
  have HBd : Hid (∀ w, _) := hid (bound_any m)
  rw [← hM] at HNew HBd
  clear hM
  go_enter Try.func3, Try.ntmps3
  go_wp2_with fail
  refine HNew.out.mono ?_
  rintro e w1 ⟨B, rfl, h1⟩
  have H1 := hid h1
  clear h1
  go_wp2_with fail
  refine (answers_any w w1 _ H1.out).mono ?_
  rintro e w2 ⟨rfl, h2⟩
  have H2 := hid h2
  clear h2
  go_wp2_with fail
  refine (HBd.out w2).mono ?_
  rintro e w' ⟨rfl, rfl⟩
  go_wp2
  go_loopg [6, 7] 101 (fun k t6 t7 wr => ∃ (i : Nat) (l : List Nat) (lo : Option Addr) (lc : Nat), i ≤ 100 ∧ 100 - i < k ∧ t7 = .int .i64 (i : Int) ∧ t6 = .slice lo l.length lc ∧ l.length ≤ M ∧
    Held w wr [ringTByte B M l.length (u8s l), ownT 5 1 (.slice lo l.length lc) l.length (u8s l)])
  case atStart => exact ⟨0, [], none, 0, by omega, by omega, rfl, rfl, by simp, (H2.out.nil _ _).swap⟩
  case round =>
    obtain ⟨i, l, lo, lc, hi, hk, rfl, rfl, hl, HR⟩ := hrel
    obtain ⟨L, hL⟩ : ∃ L, L = l.length := ⟨_, rfl⟩
    rw [← hL] at hl HR ⊢
    have HL := hid hL
    clear hL
    by_cases hgo : i < n ∧ i < 100
    · obtain ⟨hin, hi100⟩ := hgo
      obtain ⟨g, off, rfl, hcell⟩ := HA.out.spot (by omega)
      obtain ⟨a, haa⟩ : ∃ a, acts[i]? = some a := ⟨acts[i]'(by have := HN.out; omega), List.getElem?_eq_getElem _⟩
      obtain ⟨xs, hg, hcx⟩ := hcell i a haa
      obtain ⟨b, bv, hb256, hrd, c0, c1, c2, wf0, wf1⟩ := act3_open hg hcx
      obtain ⟨dd, dn, _⟩ := a
      simp only at c0 c1
      have hM := HR.mod
      have hgl := World.block_lt_of_cell? w _ c0
      have d0 := (hM.cell (p := ⟨g, off + i * 3, none⟩) hgl (fun h => h)).trans c0
      have d1 := (hM.cell (p := ⟨g, off + i * 3 + 1, none⟩) hgl (fun h => h)).trans c1
      have d2 := (hM.cell (p := ⟨g, off + i * 3 + 2, none⟩) hgl (fun h => h)).trans c2
      obtain ⟨bo, bc, rfl, hbc, hbm⟩ := hrd.form
      obtain ⟨bl, hbl⟩ : ∃ bl, bl = b.length := ⟨_, rfl⟩
      rw [← hbl] at hrd hbc d2
      have hdn := bounds_i64 wf1
      have hi0 : (0 : Int) ≤ (i : Int) := Int.natCast_nonneg _
      have hi1 : (i : Int) < (n : Int) := by omega
      have hi2 : (i : Int) < 100 := by omega
      have HRD := hid hrd
      have HBL := hid hbl
      clear hbl
      have HB256 := hid hb256
      clear hcell haa hcx hg c0 c1 c2 hM hrd hb256 wf0 wf1
      by_cases h3 : bl ≤ 1000
      · have h3' : ¬ (1000 : Int) < (bl : Int) := by omega
        have H3 : Held w (wr.alloc (.cells #[.int .i64 dd, .int .i64 dn, .slice bo bl bc] 29)) _ := (HR.newObj [.int .i64 dd, .int .i64 dn, .slice bo bl bc] 29)
        obtain ⟨Ba, hBa⟩ : ∃ Ba, Ba = wr.heap.size := ⟨_, rfl⟩
        have HBa := hid hBa
        clear hBa
        obtain ⟨q, hq⟩ : ∃ q, q = few dn L := ⟨_, rfl⟩
        have hqL : q ≤ L := by rw [hq]; exact Nat.min_le_right _ _
        have hqc : ((L : Int) < dn ∧ q = L) ∨ (dn ≤ (L : Int) ∧ dn < 0 ∧ q = 0) ∨ (dn ≤ (L : Int) ∧ 0 ≤ dn ∧ dn = (q : Int)) := by unfold few at hq; omega
        have HQ := hid hq
        have HQC := hid hqc
        have HDN := hid hdn
        clear hq hqc hdn
        go_upto_if 49 with (fail)
        rw [← HBa.out] at H3 ⊢
        obtain ⟨wa, hwa⟩ : ∃ wa, wa = wr.alloc (.cells #[.int .i64 dd, .int .i64 dn, .slice bo bl bc] 29) := ⟨_, rfl⟩
        rw [← hwa] at H3 ⊢
        clear hwa HBa d0 d1 d2 HR
        go_cut [9] (fun s9 wx => ∃ x : Int, s9 = .int .i64 x ∧ ((x < 0 ∧ q = 0) ∨ (0 ≤ x ∧ x = (q : Int))) ∧ wa = wx)
        case first =>
          have hqc := HQC.out
          by_cases hdl : (L : Int) < dn
          · have HF : Hid (((L : Int) < 0 ∧ q = 0) ∨ (0 ≤ (L : Int) ∧ (L : Int) = (q : Int))) := by unfold Hid; omega
            clear hqc
            go_wp2
            go_meet
            exact ⟨_, rfl, HF.out, rfl⟩
          · have HF : Hid ((dn < 0 ∧ q = 0) ∨ (0 ≤ dn ∧ dn = (q : Int))) := by unfold Hid; omega
            clear hqc
            go_wp2
            go_meet
            exact ⟨_, rfl, HF.out, rfl⟩
        case rest =>
          obtain ⟨x, rfl, hx, rfl⟩ := hcut
          have HX := hid hx
          clear hx
          go_upto_if 53 with (fail)
          go_cut [9] (fun s9 wx => s9 = .int .i64 (q : Int) ∧ wa = wx)
          case first =>
            have hx := HX.out
            by_cases hx0 : x < 0
            · have HF : Hid (q = 0) := by unfold Hid; omega
              clear hx
              go_wp2
              go_meet
              exact ⟨by rw [HF.out]; rfl, rfl⟩
            · have HF : Hid (x = (q : Int)) := by unfold Hid; omega
              clear hx
              go_wp2
              go_meet
              exact ⟨by rw [HF.out], rfl⟩
          case rest =>
            obtain ⟨rfl, rfl⟩ := hcut
            have e0 := H3.obj.cell (i := 0) rfl
            have e1 := H3.obj.cell (i := 1) rfl
            have e2 := H3.obj.cell (i := 2) rfl
            go_step
            go_step
            go_cut [6] (fun s6 wx => ∃ (l' : List Nat) (lo' : Option Addr) (lc' : Nat), s6 = .slice lo' l'.length lc' ∧ l'.length ≤ M ∧ Held w wx [ringTByte B M l'.length (u8s l'), ownT 5 1 (.slice lo' l'.length lc') l'.length (u8s l')])
            case first =>
              obtain ⟨ii, hii, hz0, hz1, hz2⟩ := info_parts infoByte
              have hL0 : (0 : Int) ≤ (L : Int) := Int.natCast_nonneg _
              have hLlc : L ≤ lc := H3.third.own.le
              have hcut : (u8s l).take (q * 1) = u8s (l.take q) := by rw [Nat.mul_one]; simp [u8s]
              have hcut2 : (u8s l).drop (q * 1) = u8s (l.drop q) := by rw [Nat.mul_one]; simp [u8s]
              have HC1 := hid hcut
              have HC2 := hid hcut2
              clear hcut hcut2
              by_cases k1 : dd = 1
              · subst k1
                have hrdb : Rd wa 1 (.slice bo bl bc) bl (u8s b) := H3.old HRD.out
                have ea2 : ∀ o, (wa.alloc o).cell? ⟨Ba, 2, none⟩ = some (.slice bo bl bc) := fun o => (H3.obj.alloc o).cell (i := 2) rfl
                have hrdb' : Rd (wa.alloc (.cells #[] 5)) 1 (.slice bo bl bc) bl (u8s b) := hrdb.kept (S := fun _ => False) ((Mod.refl wa _).alloc _) (fun _ _ h => h)
                have H3' : Held w (wa.alloc (.cells #[] 5)) _ := H3.lit 5 1 [] 0 (by decide) rfl
                have HRA := hid hrdb'
                have HA3 := hid H3'
                clear hrdb hrdb' H3'
                go_wp2_with (at_builtin; refine wpList_app _ rfl (.tmp 58) (.tmp 60) 27 rfl 5 ii (.int .u8 0) 1 1 Try.underlying27 hii hz0 hz1 hz2 rfl (by decide) (.slice (some ⟨wa.heap.size, 0, none⟩) 0 0) 0 [] rfl HA3.out.own (.slice bo bl bc) bl (u8s b) rfl HRA.out (u8s_one _) (by unfold maxLen; omega) (by omega) ?_; intro ao1 cap1 w4 hown1 hgrow hat)
                have H4 := (HA3.out.app hown1 hgrow hat).third
                simp only [Nat.zero_add, List.nil_append] at H4
                obtain ⟨r, hr⟩ : ∃ r, r = M - L := ⟨_, rfl⟩
                have hrI : (M : Int) - (L : Int) = (r : Int) := by omega
                obtain ⟨k, hk⟩ : ∃ k, k = min bl r := ⟨_, rfl⟩
                have hkb : k ≤ bl := by omega
                have hkr : L + k ≤ M := by omega
                have hkc : ((r : Int) < (bl : Int) ∧ k = r) ∨ (¬ (r : Int) < (bl : Int) ∧ k = bl) := by omega
                have HPu := hid (pushByte B M L bl (u8s l) (u8s b) (.slice ao1 bl cap1) w w4 _ H4 hM6 hl H4.swap.own.rd (u8s_one _))
                rw [← hr, ← hk] at HPu
                have hcb : (u8s b).take (k * 1) = u8s (b.take k) := by rw [Nat.mul_one]; simp [u8s]
                have HCB := hid hcb
                have HKC := hid hkc
                clear hr hk hkc hown1 hgrow hat H4 hcb
                refine HPu.out.mono ?_
                rw [HCB.out, ← u8s_append]
                rintro e w5 ⟨rfl, h5⟩
                have g2 := h5.third.obj.cell (i := 2) rfl
                have H5 := hid h5
                have hkbc : k ≤ bc := by omega
                have hk0 : (0 : Int) ≤ (k : Int) := Int.natCast_nonneg _
                have hbl0 : (0 : Int) ≤ (bl : Int) := Int.natCast_nonneg _
                have HRb : Hid (Rd w5 1 (.slice bo k bc) k (u8s (b.take k))) := by
                  unfold Hid
                  rw [← HCB.out]
                  exact (h5.old HRD.out).front hkb
                clear h5
                have hkk : ((k : Int) != (k : Int)) = false := by simp
                rcases HKC.out with ⟨hcc, hke⟩ | ⟨hcc, hke⟩
                · subst hke
                  go_wp2_with (at_builtin; refine wpList_app _ rfl (.tmp 81) (.tmp 85) 27 rfl 5 ii (.int .u8 0) 1 1 Try.underlying27 hii hz0 hz1 hz2 rfl (by decide) (.slice lo L lc) L (u8s l) rfl H5.out.fourth.own (.slice bo k bc) k (u8s (b.take k)) rfl HRb.out (u8s_one _) (by unfold maxLen; omega) (by omega) ?_; intro ao2 cap2 w6 hown2 hgrow2 hat2)
                  have h6 := ((H5.out.fourth.app hown2 hgrow2 hat2).third).three
                  rw [← u8s_append] at h6
                  have H6 : Hid (Held w w6 [ownT 5 1 (.slice ao1 bl cap1) bl (u8s b), ownT 5 1 (.slice ao2 (L + k) cap2) (L + k) (u8s (l ++ b.take k)), ringTByte B M (L + k) (u8s (l ++ b.take k))]) := by
                    unfold Hid
                    exact h6
                  clear hown2 hgrow2 hat2 h6
                  go_loopg [13] (bl + 1) (fun kk t13 wy => ∃ (j : Nat) (ys : List Value), j ≤ bl ∧ bl - j < kk ∧ t13 = .int .i64 (j : Int) ∧ Hid (AllU8 ys) ∧
                    Hid (Held w wy [ownT 5 1 (.slice ao1 bl cap1) bl ys, ownT 5 1 (.slice ao2 (L + k) cap2) (L + k) (u8s (l ++ b.take k)), ringTByte B M (L + k) (u8s (l ++ b.take k))]))
                  case atStart => exact ⟨0, _, by omega, by omega, rfl, AllU8.u8s _, H6.out⟩
                  case round =>
                    obtain ⟨j, ys, hj, hkk, rfl, HY, HW⟩ := hrel
                    by_cases hjq : j < bl
                    · obtain ⟨g2, off2, rfl, hcell, hfr, hput⟩ := HW.out.own.site (by omega)
                      have hyl := HW.out.own.1
                      obtain ⟨u, hu⟩ : ∃ u, ys[j]? = some u := ⟨ys[j]'(by omega), List.getElem?_eq_getElem _⟩
                      obtain ⟨x, rfl⟩ := HY.out j u hu
                      have hc1 := hcell j _ hu
                      have hf1 := hfr j
                      have hj0 : (0 : Int) ≤ (j : Int) := Int.natCast_nonneg _
                      have hj1 : (j : Int) < (bl : Int) := by omega
                      have HPut : Hid (∀ z : Int, Held w (wr.setCell ⟨g2, off2 + j, none⟩ (.int .u8 z)) _) := fun z => HW.out.putOwn (hput j (.int .u8 z) hjq) (Mod.set wr g2 (off2 + j) _)
                      clear hcell hfr hput hu hyl
                      go_wp2
                      go_roundg (gk - 1)
                      case measure => omega
                      case rel => exact ⟨j + 1, _, by omega, by omega, by go_num, HY.out.set j _, HPut.out _⟩
                    · have hj1 : ¬ (j : Int) < (bl : Int) := by omega
                      have HE := hid HW.out.drop.swap
                      have HLL : Hid ((l ++ b.take k).length = L + k) := by
                        unfold Hid
                        rw [List.length_append, List.length_take, ← HL.out, ← HBL.out]; omega
                      go_wp2
                      go_meet
                      exact ⟨l ++ b.take k, ao2, cap2, by rw [HLL.out], by rw [HLL.out]; omega, by rw [HLL.out]; exact HE.out⟩
                · subst hke
                  go_wp2_with (at_builtin; refine wpList_app _ rfl (.tmp 81) (.tmp 85) 27 rfl 5 ii (.int .u8 0) 1 1 Try.underlying27 hii hz0 hz1 hz2 rfl (by decide) (.slice lo L lc) L (u8s l) rfl H5.out.fourth.own (.slice bo k bc) k (u8s (b.take k)) rfl HRb.out (u8s_one _) (by unfold maxLen; omega) (by omega) ?_; intro ao2 cap2 w6 hown2 hgrow2 hat2)
                  have h6 := ((H5.out.fourth.app hown2 hgrow2 hat2).third).three
                  rw [← u8s_append] at h6
                  have H6 : Hid (Held w w6 [ownT 5 1 (.slice ao1 k cap1) k (u8s b), ownT 5 1 (.slice ao2 (L + k) cap2) (L + k) (u8s (l ++ b.take k)), ringTByte B M (L + k) (u8s (l ++ b.take k))]) := by
                    unfold Hid
                    exact h6
                  clear hown2 hgrow2 hat2 h6
                  go_loopg [13] (k + 1) (fun kk t13 wy => ∃ (j : Nat) (ys : List Value), j ≤ k ∧ k - j < kk ∧ t13 = .int .i64 (j : Int) ∧ Hid (AllU8 ys) ∧
                    Hid (Held w wy [ownT 5 1 (.slice ao1 k cap1) k ys, ownT 5 1 (.slice ao2 (L + k) cap2) (L + k) (u8s (l ++ b.take k)), ringTByte B M (L + k) (u8s (l ++ b.take k))]))
                  case atStart => exact ⟨0, _, by omega, by omega, rfl, AllU8.u8s _, H6.out⟩
                  case round =>
                    obtain ⟨j, ys, hj, hkk, rfl, HY, HW⟩ := hrel
                    by_cases hjq : j < k
                    · obtain ⟨g2, off2, rfl, hcell, hfr, hput⟩ := HW.out.own.site (by omega)
                      have hyl := HW.out.own.1
                      obtain ⟨u, hu⟩ : ∃ u, ys[j]? = some u := ⟨ys[j]'(by omega), List.getElem?_eq_getElem _⟩
                      obtain ⟨x, rfl⟩ := HY.out j u hu
                      have hc1 := hcell j _ hu
                      have hf1 := hfr j
                      have hj0 : (0 : Int) ≤ (j : Int) := Int.natCast_nonneg _
                      have hj1 : (j : Int) < (k : Int) := by omega
                      have HPut : Hid (∀ z : Int, Held w (wr.setCell ⟨g2, off2 + j, none⟩ (.int .u8 z)) _) := fun z => HW.out.putOwn (hput j (.int .u8 z) hjq) (Mod.set wr g2 (off2 + j) _)
                      clear hcell hfr hput hu hyl
                      go_wp2
                      go_roundg (gk - 1)
                      case measure => omega
                      case rel => exact ⟨j + 1, _, by omega, by omega, by go_num, HY.out.set j _, HPut.out _⟩
                    · have hj1 : ¬ (j : Int) < (k : Int) := by omega
                      have HE := hid HW.out.drop.swap
                      have HLL : Hid ((l ++ b.take k).length = L + k) := by
                        unfold Hid
                        rw [List.length_append, List.length_take, ← HL.out, ← HBL.out]; omega
                      go_wp2
                      go_meet
                      exact ⟨l ++ b.take k, ao2, cap2, by rw [HLL.out], by rw [HLL.out]; omega, by rw [HLL.out]; exact HE.out⟩
              · have n1 : (dd == 1) = false := by simp [k1]
                by_cases k2 : dd = 2
                · subst k2
                  have he1 : wa.drew.cell? ⟨Ba, 1, none⟩ = some (.int .i64 dn) := e1
                  have hqlc : q ≤ lc := by omega
                  go_wp2_with fail
                  go_region_held3 (fun w' => w'.cell? ⟨Ba, 1, none⟩ = some (.int .i64 dn)) (first | go_keep)
                    (first
                      | (go_at_call 11; refine (popByte B M L dn (u8s l) w _ _ H3.swap.drew (by omega) (u8s_one _)).mono ?_; rw [← HQ.out, HC1.out, HC2.out]; rintro e w4 ⟨pv, rfl, h4⟩; have f1 := h4.third.obj.cell (i := 1) rfl)
                      | (go_at_call 10; refine (h_same_yes h4 _ _ (l.take q) q h4.own.rd (by rw [← HC1.out]; exact h4.fourth.own.rd.front hqL) (by omega)).mono ?_; rintro e w5 ⟨rfl, h5⟩; have f2 := h5.third.obj.cell (i := 1) rfl))
                  have H5 := hid h5
                  clear h5 h4 f1 f2 he1
                  go_wp2_with ((with_reducible show wpList _ _ _ (⟨some 112, _, _, _, _, _⟩ :: _) _ _); refine wpList_cut_own rfl 27 (.tmp 110) (some (.tmp 111)) none rfl 5 ii 1 Try.underlying27 hii hz1 lo L lc q L (u8s l) rfl H5.out.fourth.own ⟨_, rfl⟩ rfl hqL (Nat.le_refl _) ?_; intro a' hown' hbl')
                  have hcc : ((u8s l).drop (q * 1)).take ((L - q) * 1) = u8s (l.drop q) := by
                    rw [HC2.out, List.take_of_length_le (by rw [u8s_length, List.length_drop, ← HL.out]; omega)]
                  rw [hcc] at hown'
                  have hll : (l.drop q).length = L - q := by rw [List.length_drop, HL.out]
                  have HE := hid ((H5.out.fourth.recut hown' hbl').swap.drop.swap.two)
                  have HLL := hid hll
                  clear hcc hown' hbl' hll
                  go_meet
                  exact ⟨l.drop q, a', lc - q, by rw [HLL.out], by rw [HLL.out]; omega, by rw [HLL.out]; exact HE.out⟩
                · have n2 : (dd == 2) = false := by simp [k2]
                  by_cases k3 : dd = 3
                  · subst k3
                    have HPk := hid (peekByte B M L dn (u8s l) w wa _ H3.swap (by omega) (u8s_one _))
                    rw [← HQ.out] at HPk
                    go_wp2_with fail
                    refine HPk.out.mono ?_
                    rintro e w4 ⟨pv, rfl, h4⟩
                    obtain ⟨po, pc, rfl, _, _⟩ := h4.own.form
                    rw [HC1.out] at h4
                    have hlrd : Rd w4 1 (.slice lo q lc) q (u8s (l.take q)) := by rw [← HC1.out]; exact h4.fourth.own.rd.front hqL
                    have HS := hid (h_same_yes h4 _ _ _ q h4.own.rd hlrd (by omega))
                    have H4 := hid h4
                    clear h4 hlrd
                    have hqlc : q ≤ lc := by omega
                    go_wp2_with fail
                    refine HS.out.mono ?_
                    rintro e w5 ⟨rfl, h5⟩
                    have H5 := hid h5
                    clear h5
                    go_wp2
                    go_loopg [15] (q + 1) (fun kk t15 wy => ∃ (j : Nat) (ys : List Value), j ≤ q ∧ q - j < kk ∧ t15 = .int .i64 (j : Int) ∧ Hid (AllU8 ys) ∧
                      Hid (Held w wy [ownT 5 1 (.slice po q pc) q ys, ringTByte B M L (u8s l), objT Ba [.int .i64 3, .int .i64 dn, .slice bo bl bc] 29, ownT 5 1 (.slice lo L lc) L (u8s l)]))
                    case atStart => exact ⟨0, _, by omega, by omega, rfl, AllU8.u8s _, H5.out⟩
                    case round =>
                      obtain ⟨j, ys, hj, hkk, rfl, HY, HW⟩ := hrel
                      by_cases hjq : j < q
                      · obtain ⟨g2, off2, rfl, hcell, hfr, hput⟩ := HW.out.own.site (by omega)
                        have hyl := HW.out.own.1
                        obtain ⟨u, hu⟩ : ∃ u, ys[j]? = some u := ⟨ys[j]'(by omega), List.getElem?_eq_getElem _⟩
                        obtain ⟨x, rfl⟩ := HY.out j u hu
                        have hc1 := hcell j _ hu
                        have hf1 := hfr j
                        have hj0 : (0 : Int) ≤ (j : Int) := Int.natCast_nonneg _
                        have hj1 : (j : Int) < (q : Int) := by omega
                        have HPut : Hid (∀ z : Int, Held w (wr.setCell ⟨g2, off2 + j, none⟩ (.int .u8 z)) _) := fun z => HW.out.putOwn (hput j (.int .u8 z) hjq) (Mod.set wr g2 (off2 + j) _)
                        clear hcell hfr hput hu hyl
                        go_wp2
                        go_roundg (gk - 1)
                        case measure => omega
                        case rel => exact ⟨j + 1, _, by omega, by omega, by go_num, HY.out.set j _, HPut.out _⟩
                      · have hj1 : ¬ (j : Int) < (q : Int) := by omega
                        have HE := hid HW.out.drop.swap.drop
                        rw [HL.out] at HE
                        go_wp2
                        go_meet
                        exact ⟨l, lo, lc, by rw [← HL.out], by rw [← HL.out]; omega, HE.out⟩
                  · have n3 : (dd == 3) = false := by simp [k3]
                    have HE := hid H3.drop
                    rw [HL.out] at HE
                    go_wp2
                    go_meet
                    exact ⟨l, lo, lc, by rw [← HL.out], by rw [← HL.out]; omega, HE.out⟩
            case rest =>
              obtain ⟨l', lo', lc', rfl, hl', H6⟩ := hcut
              obtain ⟨L', hL'⟩ : ∃ L', L' = l'.length := ⟨_, rfl⟩
              rw [← hL'] at hl' H6 ⊢
              have HL' := hid hL'
              clear hL'
              obtain ⟨r, hr⟩ : ∃ r, r = M - L' := ⟨_, rfl⟩
              have hrI : (M : Int) - (L' : Int) = (r : Int) := by omega
              have HLn := hid (lenByte B M L' _ w wc _ H6)
              have HRm := hid (roomHByte B M L' _ w wc _ H6 hM6 hl')
              rw [← hr] at HRm
              have hq1 : ((L' : Int) != (L' : Int)) = false := by simp
              have hq2 : ((r : Int) != (r : Int)) = false := by simp
              clear hr
              go_wp2_with fail
              refine HLn.out.mono ?_
              rintro e w' ⟨rfl, rfl⟩
              go_wp2_with fail
              refine HRm.out.mono ?_
              rintro e w8 ⟨rfl, h8⟩
              have H8 := hid h8
              clear h8
              go_wp2
              go_roundg (gk - 1)
              case measure => omega
              case rel => exact ⟨i + 1, l', lo', lc', by omega, by omega, by go_num, by rw [← HL'.out], by rw [← HL'.out]; exact hl', by rw [← HL'.out]; exact H8.out⟩
      · have h3' : (1000 : Int) < (bl : Int) := by omega
        have H3 : Held w (wr.alloc (.cells #[.int .i64 dd, .int .i64 dn, .slice bo bl bc] 29)) _ := HR.alloc _
        go_wp2
        go_roundg (gk - 1)
        case measure => omega
        case rel => exact ⟨i + 1, l, lo, lc, by omega, by omega, by go_num, by rw [← HL.out], by rw [← HL.out]; omega, by rw [← HL.out]; exact H3⟩
    · have hex : ¬ (i : Int) < (n : Int) ∨ (i : Int) < (n : Int) ∧ ¬ (i : Int) < 100 := by omega
      have HE := hid HR.below
      rcases hex with hex | ⟨hex, hex2⟩
      all_goals
        go_wp2
        go_ret
        exact ⟨rfl, HE.out⟩
end Go.Proofs.Ythlfomeggobnaaa
