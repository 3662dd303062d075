/-
  The reference's answer in the laws; beginnings of a whole stream; limits.
-/
import Derived.Test.YtmmfkppkmgjljaaDoorZE26
import Derived.Test.YtmmfkppkmgjljaaDoorZE11
import Derived.Test.YtmmfkppkmgjljaaDoorZE27
import Derived.Test.YtmmfkppkmgjljaaDoorZE21
import Derived.Test.YtmmfkppkmgjljaaDoorZE09
import Derived.Test.YtmmfkppkmgjljaaDoorZE07
import Derived.Deep.LoopGhost
namespace Go.Proofs.YtmmfkppkmgjljaaDoor
set_option maxRecDepth 5000
open Go.RowKit
structure RefIs (M : Nat) (l : List Nat) (e R : Nat) (O : List Nat) : Prop where
  e : (inflF (bits8 l) M ((bits8 l).length + 1) 0 [] [] [] []).e = e
  rest : (inflF (bits8 l) M ((bits8 l).length + 1) 0 [] [] [] []).rest = R
  out : (inflF (bits8 l) M ((bits8 l).length + 1) 0 [] [] [] []).out = O
def refT (B : Nat) (x : Value) (e R : Nat) : Thing := exT fun r : List Value => objT B (x :: .int .i64 (e : Int) :: .int .i64 (R : Int) :: r) 32
section
variable {w0 w : World} {Rs Rz : List Thing}
theorem ref_cells {B e R : Nat} {x : Value} (h : Held w0 w (refT B x e R :: Rs)) : w.cell? ⟨B, 0, none⟩ = some x ∧ w.cell? ⟨B, 1, none⟩ = some (.int .i64 (e : Int)) ∧ w.cell? ⟨B, 2, none⟩ = some (.int .i64 (R : Int)) := by
  obtain ⟨r, h1⟩ := Held.ex h
  exact ⟨h1.obj.cell (i := 0) rfl, h1.obj.cell (i := 1) rfl, h1.obj.cell (i := 2) rfl⟩
theorem h_ref (v : Value) (l : List Nat) (mo : Int) (M : Nat) (hM : mo.toNat = M) (h : Held w0 w Rz) (hrd : Rd w 1 v l.length (u8s l)) (hb : ∀ b ∈ l, b < 256) (hl : l.length < 400000) (hmo : mo < 1000000000) (hmo2 : -1000000000 < mo) :
    Calls Tryd.prog 8 #[v, .int .i64 mo] w fun e' w' => ∃ (B : Nat) (oo : Option Addr) (oc e R k : Nat) (O : List Nat), e' = .returned (.pointer (some ⟨B, 0, none⟩)) ∧ RefIs M l e R O ∧ k = O.length ∧
      Held w0 w' (refT B (.slice oo k oc) e R :: ownT 5 1 (.slice oo k oc) k (u8s O) :: Rz) := by
  refine (inflate_of v l mo h hrd hb hl hmo hmo2).mono ?_
  rw [hM]
  rintro e' w' ⟨B, rfl, sb, sc, sm, sa, hsm, oo, oc, k, ko, kc, nk, so, stc, ns, tt, tc, nt, li, di, lc, dc, hk, hnk, hns, hnt, hh⟩
  refine ⟨B, oo, oc, _, _, k, _, rfl, ⟨rfl, rfl, rfl⟩, hk, ?_⟩
  have h1 := hh.swap.drop
  have h2 := h1.third.drop
  have h3 := h2.third.drop
  have h4 := h3.third.drop
  exact Held.mk (R := fun r : List Value => objT B (_ :: .int .i64 (_ : Int) :: .int .i64 (_ : Int) :: r) 32) _ h4
end
/-! ### What the machine says of the reference -/
theorem RefIs.ends {M : Nat} {l : List Nat} {e R : Nat} {O : List Nat} (h : RefIs M l e R O) (he : e = 0) : ∃ a, Ends M .hd (bits8 l) [] 8 ((bits8 l).drop a) O ∧ R = (a + 7) / 8 ∧ a ≤ (bits8 l).length ∧ O.length ≤ M ∧ 0 < a := by
  rcases inflF_ends (M := M) (bits8_isBits l) (by rw [bits8_length]; omega) ((bits8 l).length + 1) 0 [] [] [] [] (by omega) (Nat.zero_le _) (Nat.zero_le _) with ⟨h1, h2⟩ | ⟨h1, h2, h3, h4, h5, h6⟩
  · rw [h.e] at h1
    subst he
    rcases h1 with h1 | h1 | h1 | h1 <;> cases h1
  · rw [h.rest] at h3
    rw [h.out] at h4 h6
    exact ⟨_, h6, h3, h2, h4, h5⟩
theorem Ends.reach {M : Nat} {p : Ph} {l l' o o' : List Nat} {e : Nat} (h : Ends M p l o e l' o') (he : e ≠ 8) : ∃ p1 l1, Reach M p l o p1 l1 o' ∧ stepM M l1 o' p1 = .err e := by
  induction h with
  | done _ => exact absurd rfl he
  | err hs => exact ⟨_, _, .refl, hs⟩
  | go hs _ ih =>
    obtain ⟨p1, l1, h1, h2⟩ := ih he
    exact ⟨p1, l1, .step hs h1, h2⟩
theorem cut_whole {M k : Nat} {bs : List Nat} {e R : Nat} {O t r : List Nat} {er : Nat} (h : RefIs M bs e R O) (he : e = 0) (hk : k < R) (hw : WholeIs M (bs.take k) t r er) : er = 5 ∧ ∃ X, O = t ++ X := by
  obtain ⟨a, hE, hR, ha, _, _⟩ := h.ends he
  obtain ⟨e0, l', h1, h2, h3⟩ := hw.is
  have hsp : bits8 bs = bits8 (bs.take k) ++ bits8 (bs.drop k) := by rw [← bits8_append, List.take_append_drop]
  have hX := bits8_isBits (bs.drop k)
  have h8 : (bits8 (bs.drop k)).length % 8 = 0 := by rw [bits8_length]; omega
  have hkl : k ≤ bs.length := by rw [bits8_length] at ha; omega
  have hlk : (bits8 (bs.take k)).length = 8 * k := by rw [bits8_length, List.length_take]; omega
  have hlx : (bits8 (bs.drop k)).length = 8 * (bs.length - k) := by rw [bits8_length, List.length_drop]
  have hm := MOk.start (bits8_isBits (bs.take k))
  by_cases h5 : e0 = 5
  · subst h5
    refine ⟨h2, ?_⟩
    obtain ⟨p1, l1, hr, hs⟩ := h1.reach (by decide)
    have hr2 := hr.more hX h8 hm
    rw [← hsp] at hr2
    have hE2 := Ends.behind hr2 hE
    obtain ⟨hm2, _⟩ := (MOk.start (bits8_isBits bs)).reach hr2
    exact (hm2.ends hE2).2
  · have h4 := h1.more hX h8 hm h5
    rw [← hsp] at h4
    obtain ⟨rfl, hl, _⟩ := h4.det hE
    rw [if_pos rfl] at hl
    have hln := congrArg List.length hl
    rw [List.length_append, List.length_drop, hlx, bits8_length] at hln
    rw [bits8_length] at ha
    omega
theorem caps_whole {M k : Nat} {bs : List Nat} {e R : Nat} {O t r : List Nat} {er : Nat} (h : RefIs M bs e R O) (he : e = 0) (hk : k < O.length) (hw : WholeIs k bs t r er) : er = 6 ∧ t = O.take k := by
  obtain ⟨a, hE, _, _, hO, _⟩ := h.ends he
  have h1 := (Ends.cap (k := k) (by omega) (MOk.start (bits8_isBits bs)) hE rfl (Nat.zero_le _)).2 hk
  obtain ⟨h2, h3, _⟩ := hw.of h1
  exact ⟨h3, h2⟩
theorem just_whole {M : Nat} {bs : List Nat} {e R : Nat} {O t r : List Nat} {er : Nat} (h : RefIs M bs e R O) (he : e = 0) (hw : WholeIs O.length bs t r er) : er = 0 ∧ t = O := by
  obtain ⟨a, hE, _, _, hO, _⟩ := h.ends he
  have h1 := (Ends.cap (k := O.length) hO (MOk.start (bits8_isBits bs)) hE rfl (Nat.zero_le _)).1 (Nat.le_refl _)
  obtain ⟨h2, h3, _⟩ := hw.of h1
  exact ⟨h3, h2⟩
end Go.Proofs.YtmmfkppkmgjljaaDoor
/-
  The law InflateCut.
-/
namespace Go.Proofs.YtmmfkppkmgjljaaDoor
set_option maxRecDepth 5000
open Go.RowKit
set_option maxRecDepth 100000 in
set_option maxHeartbeats 3200000 in
theorem inflateCut_at (v : Value) (b : List Int) (nz : Int) (w : World) (hG : GlobI w) (hg : shIBs.good w [v] b) (hnz : (Lit.int .u16 nz).wf = true) :
    Calls Tryd.prog 3 #[v, .int .u16 nz] w fun e w' => e = .returned (.bool true) ∧ Below w.heap.size w w' := by
  obtain ⟨bs, hb, hv⟩ := ibs_of hg
  have hnb := Go.bounds_u16 hnz
  obtain ⟨q, rfl⟩ := Int.eq_ofNat_of_zero_le hnb.1
  clear hg hnz
  obtain ⟨n, hn⟩ : ∃ n, n = bs.length := ⟨_, rfl⟩
  rw [← hn] at hv
  obtain ⟨ao, cap, rfl, _, hcap⟩ := hv.form
  have hn0 : (0 : Int) ≤ (n : Int) := Int.natCast_nonneg _
  have HA := hid (fun (w' : World) (Rs : List Thing) (h : Held w w' Rs) => h_answers12 hG h)
  by_cases h1 : 3000 < n ∨ n = 0
  · have HA0 := hid (HA.out _ _ (Held.start w))
    have h2 : (3000 : Int) < (n : Int) ∨ ((¬ (3000 : Int) < (n : Int)) ∧ n = 0) := by omega
    clear hv hn HA
    rcases h2 with h2 | ⟨h2, rfl⟩
    all_goals
      go_enter Tryd.func3, Tryd.ntmps3
      go_wp2_with fail
      with_reducible refine HA0.out.mono ?_
      rintro e w1 ⟨rfl, hh⟩
      have H1 := hid hh.mod.toBelow
      clear hh
      go_wp2
      go_ret
      exact ⟨rfl, H1.out⟩
  · have h2 : ¬ (3000 : Int) < (n : Int) := by omega
    have h3 : ((n : Int) == 0) = false := by simp; omega
    have h3I : ¬ (n : Int) = 0 := by omega
    have HI := hid (h_ref (.slice ao n cap) bs 1048576 1048576 rfl (Held.start w) (by rw [← hn]; exact hv) hb (by omega) (by decide) (by decide))
    have HV := hid hv
    have HB := hid (And.intro hb (And.intro hn hG))
    have hn3 : n ≤ 3000 := by omega
    clear hv hn hb hG h1
    go_enter Tryd.func3, Tryd.ntmps3
    go_wp2_with fail
    with_reducible refine HI.out.mono ?_
    rintro e w1 ⟨B, oo, oc, er, R, kO, O, rfl, hr, hkO, hh⟩
    obtain ⟨c0, c1, c2⟩ := ref_cells hh
    have HR := hid (And.intro hr hkO)
    have H1 := hid hh
    clear hh HI hr hkO
    by_cases he : er = 0
    · subst he
      obtain ⟨a, _, hRa, hal, hOl, ha0⟩ := HR.out.1.ends rfl
      rw [bits8_length, ← HB.out.2.1] at hal
      have hR0 : 0 < R := by omega
      have hRn : R ≤ n := by omega
      have hRI : ¬ (R : Int) = 0 := by omega
      have hRI0 : (0 : Int) ≤ (R : Int) := Int.natCast_nonneg _
      obtain ⟨k, hk⟩ : ∃ k, k = q % R := ⟨_, rfl⟩
      have hkR : k < R := by rw [hk]; exact Nat.mod_lt _ hR0
      have hkI : (q : Int) % (R : Int) = (k : Int) := by rw [hk]; rfl
      have hkT : (q : Int).tmod (R : Int) = (k : Int) := by rw [hk]; rfl
      have hk0 : (0 : Int) ≤ (k : Int) := Int.natCast_nonneg _
      have hq0 : (0 : Int) ≤ (q : Int) := Int.natCast_nonneg _
      have hkn : k ≤ n := by omega
      have hrd := HV.out.front hkn
      have htk : (bs.take k).length = k := by rw [List.length_take, ← HB.out.2.1]; omega
      rw [Nat.mul_one, show (u8s bs).take k = u8s (bs.take k) by simp [u8s, List.map_take]] at hrd
      have HW := hid (whole_any (M := 1048576) (.slice ao k cap) k (bs.take k) 1048576 HB.out.2.2 (by decide) (by decide) H1.out (fun w' h => h.old hrd) (fun x hx => HB.out.1 x (List.mem_of_mem_take hx)) htk.symm (by rw [bits8_length, htk]; unfold bigD; omega))
      have HK := hid hkR
      have hk6 : k < 3000 := by omega
      clear hrd htk hal hRa hk
      go_wp2_with fail
      with_reducible refine HW.out.mono ?_
      rintro e w2 ⟨x, y, t, r, er2, rfl, hi, h2⟩
      obtain ⟨h5, X, hOX⟩ := cut_whole HR.out.1 rfl HK.out hi
      subst h5
      obtain ⟨c0, c1, c2⟩ := ref_cells h2.drop.drop
      obtain ⟨tl, htl⟩ : ∃ tl, tl = t.length := ⟨_, rfl⟩
      rw [← htl] at h2
      have hle : tl ≤ kO := by rw [HR.out.2, hOX, List.length_append]; omega
      have hOt : (u8s O).take tl = u8s t := by
        rw [hOX, htl]
        simp [u8s, List.map_append]
      obtain ⟨ax, cx, rfl, _, _⟩ := h2.own.form
      obtain ⟨ay, cy, rfl, _, _⟩ := h2.swap.own.form
      obtain ⟨_, oc', he, hoc, hom⟩ := h2.fourth.own.form
      simp only [Value.slice.injEq, true_and] at he
      obtain ⟨rfl, rfl⟩ := he
      have HC := hid (And.intro hOt (And.intro htl hle))
      have H3 := hid (HA.out _ _ h2)
      have hleI : (tl : Int) ≤ (kO : Int) := by omega
      have hleD : decide ((tl : Int) ≤ (kO : Int)) = true := decide_eq_true hleI
      have hleN : decide (tl ≤ kO) = true := decide_eq_true hle
      have htl0 : (0 : Int) ≤ (tl : Int) := Int.natCast_nonneg _
      clear h2 hOt htl hOX hi HW
      go_wp2_with fail
      with_reducible refine H3.out.mono ?_
      rintro e w3 ⟨rfl, h4⟩
      obtain ⟨c0, c1, c2⟩ := ref_cells h4.drop.drop
      have hrd := h4.fourth.own.rd.front HC.out.2.2
      rw [Nat.mul_one, HC.out.1] at hrd
      have HS := hid (h_same_eq h4 (.slice ax tl cx) (.slice oo tl oc) t t rfl (by rw [← HC.out.2.1]; exact h4.own.rd) (by rw [← HC.out.2.1]; exact hrd) (by have e1 := HR.out.2; have e2 := HC.out.2; omega))
      clear h4 hrd H3
      go_wp2_with fail
      with_reducible refine HS.out.mono ?_
      rintro e w4 ⟨rfl, h5⟩
      have H5 := hid h5.mod.toBelow
      clear h5 HS
      go_wp2
      go_ret
      exact ⟨rfl, H5.out⟩
    · have heI : ¬ (er : Int) = 0 := by omega
      have heB : ((er : Int) != 0) = true := by simp; omega
      have H2 := hid (HA.out _ _ H1.out)
      go_wp2_with fail
      with_reducible refine H2.out.mono ?_
      rintro e w2 ⟨rfl, hh⟩
      have H3 := hid hh.mod.toBelow
      clear hh H2
      go_wp2
      go_ret
      exact ⟨rfl, H3.out⟩
end Go.Proofs.YtmmfkppkmgjljaaDoor
/-
  The law InflateCaps.
-/
namespace Go.Proofs.YtmmfkppkmgjljaaDoor
set_option maxRecDepth 5000
open Go.RowKit
set_option maxRecDepth 100000 in
set_option maxHeartbeats 3200000 in
theorem inflateCaps_at (v : Value) (b : List Int) (nz : Int) (w : World) (hG : GlobI w) (hg : shIBs.good w [v] b) (hnz : (Lit.int .u16 nz).wf = true) :
    Calls Tryd.prog 4 #[v, .int .u16 nz] w fun e w' => e = .returned (.bool true) ∧ Below w.heap.size w w' := by
  obtain ⟨bs, hb, hv⟩ := ibs_of hg
  have hnb := Go.bounds_u16 hnz
  obtain ⟨q, rfl⟩ := Int.eq_ofNat_of_zero_le hnb.1
  clear hg hnz
  obtain ⟨n, hn⟩ : ∃ n, n = bs.length := ⟨_, rfl⟩
  rw [← hn] at hv
  obtain ⟨ao, cap, rfl, _, hcap⟩ := hv.form
  have hn0 : (0 : Int) ≤ (n : Int) := Int.natCast_nonneg _
  have HA := hid (fun (w' : World) (Rs : List Thing) (h : Held w w' Rs) => h_answers12 hG h)
  by_cases h1 : 3000 < n
  · have HA0 := hid (HA.out _ _ (Held.start w))
    have h2 : (3000 : Int) < (n : Int) := by omega
    clear hv hn HA
    go_enter Tryd.func4, Tryd.ntmps4
    go_wp2_with fail
    with_reducible refine HA0.out.mono ?_
    rintro e w1 ⟨rfl, hh⟩
    have H1 := hid hh.mod.toBelow
    clear hh
    go_wp2
    go_ret
    exact ⟨rfl, H1.out⟩
  · have h2 : ¬ (3000 : Int) < (n : Int) := by omega
    have HI := hid (h_ref (.slice ao n cap) bs 1048576 1048576 rfl (Held.start w) (by rw [← hn]; exact hv) hb (by omega) (by decide) (by decide))
    have HV := hid hv
    have HB := hid (And.intro hb (And.intro hn hG))
    have hn3 : n ≤ 3000 := by omega
    clear hv hn hb hG h1
    go_enter Tryd.func4, Tryd.ntmps4
    go_wp2_with fail
    with_reducible refine HI.out.mono ?_
    rintro e w1 ⟨B, oo, oc, er, R, kO, O, rfl, hr, hkO, hh⟩
    obtain ⟨c0, c1, c2⟩ := ref_cells hh
    have HR := hid (And.intro hr hkO)
    have H1 := hid hh
    have hkO0 : (0 : Int) ≤ (kO : Int) := Int.natCast_nonneg _
    clear hh HI hr hkO
    by_cases he : er = 0
    · subst he
      obtain ⟨a, _, hRa, hal, hOl, ha0⟩ := HR.out.1.ends rfl
      have hkM : kO ≤ 1048576 := by rw [HR.out.2]; exact hOl
      clear hRa hal hOl ha0
      by_cases hz : kO = 0
      · subst hz
        have H2 := hid (HA.out _ _ H1.out)
        go_wp2_with fail
        with_reducible refine H2.out.mono ?_
        rintro e w2 ⟨rfl, hh⟩
        have H3 := hid hh.mod.toBelow
        clear hh H2
        go_wp2
        go_ret
        exact ⟨rfl, H3.out⟩
      have hzB : ((kO : Int) == 0) = false := by simp; omega
      have hzI : ¬ (kO : Int) = 0 := by omega
      have hbig : ¬ (1048576 : Int) < (kO : Int) := by omega
      obtain ⟨k, hk⟩ : ∃ k, k = q % kO := ⟨_, rfl⟩
      have hkR : k < kO := by rw [hk]; exact Nat.mod_lt _ (by omega)
      have hkI : (q : Int) % (kO : Int) = (k : Int) := by rw [hk]; rfl
      have hkT : (q : Int).tmod (kO : Int) = (k : Int) := by rw [hk]; rfl
      have hk0 : (0 : Int) ≤ (k : Int) := Int.natCast_nonneg _
      have hq0 : (0 : Int) ≤ (q : Int) := Int.natCast_nonneg _
      have hblen : (bits8 bs).length < bigD := by rw [bits8_length, ← HB.out.2.1]; unfold bigD; omega
      have HW := hid (whole_any (M := k) (.slice ao n cap) n bs (k : Int) HB.out.2.2 (by unfold bigD; omega) (by omega) H1.out (fun w' h => h.old HV.out) HB.out.1 HB.out.2.1 hblen)
      have HW2 := hid (fun (w' : World) (Rs : List Thing) (h : Held w w' Rs) => whole_any (M := kO) (.slice ao n cap) n bs (kO : Int) HB.out.2.2 (by unfold bigD; omega) (by omega) h (fun w' h => h.old HV.out) HB.out.1 HB.out.2.1 hblen)
      clear hblen hk
      go_wp2_with fail
      with_reducible refine HW.out.mono ?_
      rintro e w2 ⟨x, y, t, r, er2, rfl, hi, h2⟩
      obtain ⟨h5, ht⟩ := caps_whole (k := k) HR.out.1 rfl (by rw [← HR.out.2]; exact hkR) hi
      subst h5 ht
      obtain ⟨c0, c1, c2⟩ := ref_cells h2.drop.drop
      have htl : (O.take k).length = k := by rw [List.length_take, ← HR.out.2]; omega
      rw [htl] at h2
      obtain ⟨ax, cx, rfl, _, _⟩ := h2.own.form
      obtain ⟨ay, ny, cy, rfl⟩ : ∃ ay ny cy, y = .slice ay ny cy := by obtain ⟨ay, cy, h, _⟩ := h2.swap.own.form; exact ⟨_, _, _, h⟩
      have H2 := hid (HW2.out _ _ h2)
      clear h2 htl hi HW HW2
      go_wp2_with fail
      with_reducible refine H2.out.mono ?_
      rintro e w3 ⟨x2, y2, t2, r2, er3, rfl, hi, h2⟩
      obtain ⟨h5, ht⟩ := just_whole HR.out.1 rfl (by rw [← HR.out.2]; exact hi)
      subst h5 ht
      rw [← HR.out.2] at h2
      obtain ⟨ax2, cx2, rfl, _, _⟩ := h2.own.form
      obtain ⟨ay2, ny2, cy2, rfl⟩ : ∃ ay ny cy, y2 = .slice ay ny cy := by obtain ⟨ay, cy, h, _⟩ := h2.swap.own.form; exact ⟨_, _, _, h⟩
      obtain ⟨c0, c1, c2⟩ := ref_cells h2.drop.drop.drop.drop
      have H3 := hid (HA.out _ _ h2)
      clear h2 hi H2
      go_wp2_with fail
      with_reducible refine H3.out.mono ?_
      rintro e w4 ⟨rfl, h4⟩
      obtain ⟨c0, c1, c2⟩ := ref_cells h4.drop.drop.drop.drop
      obtain ⟨_, oc', he', hoc, _⟩ := h4.drop.drop.drop.drop.drop.own.form
      simp only [Value.slice.injEq, true_and] at he'
      obtain ⟨rfl, rfl⟩ := he'
      have hkoc : k ≤ oc := by omega
      have hkocI : (k : Int) ≤ (oc : Int) := by omega
      have hOo := h4.drop.drop.drop.drop.drop.own.rd
      have hrd := hOo.front (H := k) (by omega)
      rw [Nat.mul_one, show (u8s t2).take k = u8s (t2.take k) by simp [u8s, List.map_take]] at hrd
      have htl : (t2.take k).length = k := by rw [List.length_take, ← HR.out.2]; omega
      have HS := hid (h_same_eq h4 (.slice ax k cx) (.slice oo k oc) (t2.take k) (t2.take k) rfl (by rw [htl]; exact h4.drop.drop.own.rd) (by rw [htl]; exact hrd) (by omega))
      clear h4 hrd H3 hOo htl
      go_wp2_with fail
      with_reducible refine HS.out.mono ?_
      rintro e w5 ⟨rfl, h5⟩
      obtain ⟨c0, c1, c2⟩ := ref_cells h5.drop.drop.drop.drop
      have hOo := h5.drop.drop.drop.drop.drop.own.rd
      have HS2 := hid (h_same_eq h5 (.slice ax2 kO cx2) (.slice oo kO oc) t2 t2 rfl (by rw [← HR.out.2]; exact h5.own.rd) (by rw [← HR.out.2]; exact hOo) (by rw [← HR.out.2]; omega))
      have H5 := hid h5
      clear h5 hOo HS
      go_wp2_with fail
      with_reducible refine HS2.out.mono ?_
      rintro e w6 ⟨rfl, h6⟩
      have H6 := hid h6.mod.toBelow
      clear h6 HS2
      go_wp2
      go_ret
      exact ⟨rfl, H6.out⟩
    · have heI : ¬ (er : Int) = 0 := by omega
      have heB : ((er : Int) != 0) = true := by simp; omega
      have H2 := hid (HA.out _ _ H1.out)
      go_wp2_with fail
      with_reducible refine H2.out.mono ?_
      rintro e w2 ⟨rfl, hh⟩
      have H3 := hid hh.mod.toBelow
      clear hh H2
      go_wp2
      go_ret
      exact ⟨rfl, H3.out⟩
end Go.Proofs.YtmmfkppkmgjljaaDoor
/-
  A stream of blocks that were written, block by block, as the model of reading has it; what a program that writes blocks is to do ('BlockOK'). The mathematics names no program.
-/
namespace Go.Proofs.YtmmfkppkmgjljaaDoor
set_option maxRecDepth 5000
def outOf (kind : Nat) (raw out o : List Nat) : List Nat := if kind = 0 then out ++ raw else o
def tksOf (kind : Nat) (tk l : List Tok) : List Tok := if kind = 0 then tk else tk ++ l
section
variable {l : List Tok} {raw bs out o pre post : List Nat} {tk : List Tok} {kind M f : Nat} {ks ss : List Nat}
theorem blk_at (h : BlockBits l raw (pre.length + 3) kind bs) (hp : isBits post) (he : expT out l = (0, o)) (ho : o.length ≤ M) (hr : out.length + raw.length ≤ M) (v : Nat) (hv : v < 8) (hvk : v / 2 = kind) :
    takeM (pre ++ (bitsOf 3 v ++ (bs ++ post))) pre.length 3 = some v ∧ blockF (pre ++ (bitsOf 3 v ++ (bs ++ post))) M (v / 2) (pre.length + 3) out tk = (0, pre.length + 3 + bs.length, outOf kind raw out o, tksOf kind tk l) := by
  refine ⟨take_read pre (bs ++ post) 3 v hv, ?_⟩
  have e : pre ++ (bitsOf 3 v ++ (bs ++ post)) = (pre ++ bitsOf 3 v) ++ (bs ++ post) := by simp
  have hl : (pre ++ bitsOf 3 v).length = pre.length + 3 := by rw [List.length_append, bitsOf_length]
  have h2 := block_read (pre ++ bitsOf 3 v) (by rw [hl]; exact h) hp M out o tk he ho hr
  rw [hl, ← e] at h2
  rw [hvk]
  exact h2
theorem infl_more (h : BlockBits l raw (pre.length + 3) kind bs) (hk : kind < 3) (hp : isBits post) (he : expT out l = (0, o)) (ho : o.length ≤ M) (hr : out.length + raw.length ≤ M) :
    inflF (pre ++ (bitsOf 3 (2 * kind) ++ (bs ++ post))) M (f + 1) pre.length out tk ks ss = inflF (pre ++ (bitsOf 3 (2 * kind) ++ (bs ++ post))) M f (pre.length + 3 + bs.length) (outOf kind raw out o) (tksOf kind tk l) (ks ++ [kind]) (ss ++ [(outOf kind raw out o).length]) := by
  obtain ⟨h1, h2⟩ := blk_at (tk := tk) h hp he ho hr (2 * kind) (by omega) (by omega)
  have h3 := inflF_on (f := f) (round_more (ks := ks) (ss := ss) h1 h2 (by omega))
  rw [show 2 * kind / 2 = kind by omega] at h3
  exact h3
theorem infl_last (h : BlockBits l raw (pre.length + 3) kind bs) (hk : kind < 3) (hp : isBits post) (he : expT out l = (0, o)) (ho : o.length ≤ M) (hr : out.length + raw.length ≤ M) :
    inflF (pre ++ (bitsOf 3 (1 + 2 * kind) ++ (bs ++ post))) M (f + 1) pre.length out tk ks ss = ⟨0, pre.length + 3 + bs.length, outOf kind raw out o, tksOf kind tk l, ks ++ [kind], ss ++ [(outOf kind raw out o).length], (pre.length + 3 + bs.length + 7) / 8⟩ := by
  obtain ⟨h1, h2⟩ := blk_at (tk := tk) h hp he ho hr (1 + 2 * kind) (by omega) (by omega)
  have h3 := inflF_over (f := f) (round_last (ks := ks) (ss := ss) h1 h2 (by omega))
  rw [show (1 + 2 * kind) / 2 = kind by omega] at h3
  exact h3
end
end Go.Proofs.YtmmfkppkmgjljaaDoor
/-
  The codes of a fixed block, as the law writes them.
-/
namespace Go.Proofs.YtmmfkppkmgjljaaDoor
set_option maxRecDepth 5000
open Go.RowKit
section
variable {w0 w : World} {Rs : List Thing}
theorem hi_snoc (n v m : Nat) (h : m < n) : (hiBits n v).take (n - (m + 1)) ++ [v / 2 ^ m % 2] = (hiBits n v).take (n - m) := by
  have h1 : n - m = (n - (m + 1)) + 1 := by omega
  have h2 : (hiBits n v)[n - (m + 1)]? = some (v / 2 ^ m % 2) := by
    unfold hiBits
    rw [List.getElem?_map, List.getElem?_range (by omega)]
    simp only [Option.map_some]
    rw [show n - 1 - (n - (m + 1)) = m by omega]
  rw [h1, List.take_add_one, h2]
  rfl
set_option maxHeartbeats 1600000 in
theorem high_any (v n : Nat) (h : Held w0 w Rs) (hv : v < 65536) (hn : n ≤ 16) :
    Calls Tryd.prog 32 #[.int .i64 (v : Int), .int .i64 (n : Int)] w fun e w' => ∃ x, e = .returned x ∧ Held w0 w' (ownT 5 1 x n (u8s (hiBits n v)) :: Rs) := by
  obtain ⟨i0, hi0, hz0, hz1, hz2⟩ := info_parts infoByte10
  have H0 := hid (h.nil 5 1)
  clear h
  go_enter Tryd.func32, Tryd.ntmps32
  go_wp2
  go_loopg [5, 6] (n + 2) (fun g t5 t6 wr => ∃ (m L : Nat) (a5 : Option Addr) (c5 : Nat), m ≤ n ∧ m < g ∧ L + m = n ∧ t6 = .int .i64 ((m : Int) - 1) ∧ t5 = .slice a5 L c5 ∧ Hid (Held w0 wr (ownT 5 1 (.slice a5 L c5) L (u8s ((hiBits n v).take L)) :: Rs)))
  case atStart => exact ⟨n, 0, none, 0, by omega, by omega, by omega, rfl, rfl, H0⟩
  case round =>
    obtain ⟨m, L, a5, c5, hm, hg, hL, rfl, rfl, HH⟩ := hrel
    cases m with
    | zero =>
      obtain rfl : L = n := by omega
      go_wp2
      go_ret
      have h1 := HH.out
      rw [List.take_of_length_le (by rw [hiBits_length]; exact Nat.le_refl _)] at h1
      exact ⟨_, rfl, h1⟩
    | succ j =>
      have hj : ((j + 1 : Nat) : Int) - 1 = (j : Int) := by omega
      rw [hj]
      have hj0 : (0 : Int) ≤ (j : Int) := Int.natCast_nonneg _
      obtain ⟨y, hy⟩ : ∃ y, y = v / 2 ^ j := ⟨_, rfl⟩
      have hyb : y < 65536 := by rw [hy]; exact Nat.lt_of_le_of_lt (Nat.div_le_self _ _) hv
      have hyI : (v : Int) / 2 ^ j = (y : Int) := by rw [hy]; push_cast; rfl
      have hy0 : (0 : Int) ≤ (y : Int) := Int.natCast_nonneg _
      obtain ⟨b, hb⟩ : ∃ b, b = y % 2 := ⟨_, rfl⟩
      have hb2 : b < 2 := by omega
      have hbI : (y : Int) % 2 = (b : Int) := by omega
      have hbT : (y : Int).tmod 2 = (b : Int) := by rw [hb]; rfl
      have hbw : IntKind.u8.wrap (b : Int) = (b : Int) := u8_bit b (by omega)
      have HLI := hid (And.intro hy hb)
      have hsn := hi_snoc n v j (by omega)
      rw [← hy, ← hb, show n - (j + 1) = L by omega, show n - j = L + 1 by omega] at hsn
      have HSN := hid hsn
      clear hy hb hsn hj
      have HL : Hid (Held w0 (wr.alloc (.cells #[.int .u8 (b : Int)] 5)) (ownT 5 1 (.slice (some ⟨wr.heap.size, 0, none⟩) 1 1) 1 (u8s [b]) :: _)) := hid (HH.out.lit 5 1 [.int .u8 (b : Int)] 1 (by decide) rfl)
      go_wp2_with (refine wpList_app_held rfl (.tmp 13) (.tmp 20) 22 rfl 5 i0 (.int .u8 0) 1 1 Tryd.underlying22 hi0 hz0 hz1 hz2 rfl (by decide) (.slice a5 L c5) L (u8s ((hiBits n v).take L)) rfl HL.out.swap _ 1 (u8s [b]) rfl HL.out.own.rd (u8s_one [b]) (L + 1) rfl (by unfold maxLen; omega) (by omega) ?_; intro ao1 cap1 w1 h1; rw [← u8s_append, HSN.out] at h1; have H1 := hid h1.swap.drop; clear h1)
      go_roundg (gk - 1)
      case measure => omega
      case rel => exact ⟨j, L + 1, ao1, cap1, by omega, by omega, by omega, rfl, rfl, H1⟩
def lenBits (k c : Nat) : List Nat := symBits fixLit (257 + c) ++ bitsOf (lX c) (k - lB c)
def distBits (d c : Nat) : List Nat := symBits fixDist c ++ bitsOf (dX c) (d - dB c)
theorem fix_low : ∀ c, c < 23 → symBits fixLit (257 + c) = hiBits 7 (257 + c - 256) := by decide +kernel
theorem fix_high : ∀ c, c < 29 → 23 ≤ c → symBits fixLit (257 + c) = hiBits 8 (257 + c - 280 + 192) := by decide +kernel
theorem fix_dist : ∀ c, c < 30 → symBits fixDist c = hiBits 5 c := by decide +kernel
theorem fix_has : (∀ c, c < 29 → HasSym fixLit (257 + c)) ∧ (∀ c, c < 30 → HasSym fixDist c) ∧ HasSym fixLit 256 := by
  refine ⟨fun c hc => ?_, fun c hc => ⟨5, ?_, by decide⟩, 7, by decide +kernel, by decide⟩
  · by_cases h : c < 23
    · exact ⟨7, (show ∀ c, c < 23 → fixLit[257 + c]? = some 7 by decide +kernel) c h, by decide⟩
    · exact ⟨8, (show ∀ c, c < 29 → 23 ≤ c → fixLit[257 + c]? = some 8 by decide +kernel) c hc (by omega), by decide⟩
  · exact (show ∀ c, c < 30 → fixDist[c]? = some 5 by decide +kernel) c hc
set_option maxHeartbeats 1600000 in
theorem length_any (k : Nat) (h : Held w0 w Rs) (h3 : 3 ≤ k) (h258 : k ≤ 258) :
    Calls Tryd.prog 16 #[.int .i64 (k : Int)] w fun e w' => ∃ x n c, e = .returned x ∧ CodeIs lB 29 k c ∧ n = (lenBits k c).length ∧ Held w0 w' (ownT 5 1 x n (u8s (lenBits k c)) :: Rs) := by
  obtain ⟨i0, hi0, hz0, hz1, hz2⟩ := info_parts infoByte10
  have HL := hid (refLenCode_any (k : Int) w)
  have H0 := hid h
  clear h
  go_enter Tryd.func16, Tryd.ntmps16
  go_wp2_with fail
  with_reducible refine HL.out.mono ?_
  rintro e w1 ⟨⟨v, rfl, hv⟩, rfl⟩
  rcases hv with ⟨h, _⟩ | ⟨k', c, q, x, z, h0, h1, h2, hc, hq, hx, hz, rfl⟩
  · omega
  obtain rfl : k = k' := by omega
  have hc29 := hc.1
  have hx5 : x ≤ 5 := by rw [hx]; exact lX_le c hc29
  have hzk : z ≤ 258 := by omega
  have HQ := hid (And.intro hc (And.intro hq (And.intro hx hz)))
  obtain ⟨s, hs⟩ : ∃ s, s = q - 256 := ⟨_, rfl⟩
  have hsI : (q : Int) - 256 = (s : Int) := by omega
  have hH : Calls Tryd.prog 32 #[.int .i64 (s : Int), .int .i64 7] w _ := high_any s 7 H0.out (by omega) (by decide)
  have HH := hid hH
  have hz32 : IntKind.u32.wrap (z : Int) = (z : Int) := by rw [IntKind.wrap_u32]; omega
  have hs30 : s ≤ 29 := by omega
  have HQS : Hid (q = s + 256) := hid (by omega)
  clear hc hq hx hz HL hs hH
  go_wp2_with fail
  with_reducible refine HH.out.mono ?_
  rintro e w2 ⟨u, rfl, hu⟩
  have H2 := hid hu
  clear hu HH
  by_cases hb : q < 280
  · have hbI : ¬ (280 : Int) ≤ (q : Int) := by omega
    have hB : symBits fixLit (257 + c) = hiBits 7 s := by rw [fix_low c (by have := HQ.out.2.1; omega)]; congr 1; have := HQ.out.2.1; have := HQS.out; omega
    have HB := hid hB
    have HO := hid (h_of H2.out z x (by omega) (by omega))
    clear hB
    go_wp2_with fail
    with_reducible refine HO.out.mono ?_
    rintro e w3 ⟨y, rfl, hy⟩
    have H3 := hid hy
    clear hy HO
    go_wp2_with (refine wpList_app_held rfl (.tmp 22) (.tmp 26) 22 rfl 5 i0 (.int .u8 0) 1 1 Tryd.underlying22 hi0 hz0 hz1 hz2 rfl (by decide) u 7 _ rfl H3.out.swap y x _ rfl H3.out.own.rd (u8s_one _) (7 + x) rfl (by unfold maxLen; omega) (by omega) ?_; intro ao1 cap1 w4 h4; rw [← u8s_append] at h4; have H4 := hid h4.swap.drop; clear h4)
    go_ret
    obtain ⟨hc, hq, hx, hz⟩ := HQ.out
    have h5 := H4.out
    have e : hiBits 7 s ++ bitsOf x z = lenBits k c := by rw [lenBits, HB.out, hx, hz]
    rw [e] at h5
    exact ⟨.slice ao1 (7 + x) cap1, 7 + x, c, rfl, hc, by rw [← e, List.length_append, hiBits_length, bitsOf_length], h5⟩
  · have hbI : (280 : Int) ≤ (q : Int) := by omega
    obtain ⟨s2, hs2⟩ : ∃ s2, s2 = q - 280 := ⟨_, rfl⟩
    have hs2I : (q : Int) - 280 = (s2 : Int) := by omega
    obtain ⟨s3, hs3⟩ : ∃ s3, s3 = s2 + 192 := ⟨_, rfl⟩
    have hs3I : (s2 : Int) + 192 = (s3 : Int) := by omega
    have hs3b : s3 < 300 := by omega
    have hB : symBits fixLit (257 + c) = hiBits 8 s3 := by rw [fix_high c hc29 (by have := HQ.out.2.1; omega)]; congr 1; have := HQ.out.2.1; omega
    have HB := hid hB
    have hH : Calls Tryd.prog 32 #[.int .i64 (s3 : Int), .int .i64 8] w2 _ := high_any s3 8 H2.out.drop (by omega) (by decide)
    have HH := hid hH
    clear hB hs2 hs3 hH
    go_wp2_with fail
    with_reducible refine HH.out.mono ?_
    rintro e w2b ⟨u2, rfl, hu⟩
    have H2b := hid hu
    have HO := hid (h_of H2b.out z x (by omega) (by omega))
    clear hu HH
    go_wp2_with fail
    with_reducible refine HO.out.mono ?_
    rintro e w3 ⟨y, rfl, hy⟩
    have H3 := hid hy
    clear hy HO
    go_wp2_with (refine wpList_app_held rfl (.tmp 22) (.tmp 26) 22 rfl 5 i0 (.int .u8 0) 1 1 Tryd.underlying22 hi0 hz0 hz1 hz2 rfl (by decide) u2 8 _ rfl H3.out.swap y x _ rfl H3.out.own.rd (u8s_one _) (8 + x) rfl (by unfold maxLen; omega) (by omega) ?_; intro ao1 cap1 w4 h4; rw [← u8s_append] at h4; have H4 := hid h4.swap.drop; clear h4)
    go_ret
    obtain ⟨hc, hq, hx, hz⟩ := HQ.out
    have h5 := H4.out
    have e : hiBits 8 s3 ++ bitsOf x z = lenBits k c := by rw [lenBits, HB.out, hx, hz]
    rw [e] at h5
    exact ⟨.slice ao1 (8 + x) cap1, 8 + x, c, rfl, hc, by rw [← e, List.length_append, hiBits_length, bitsOf_length], h5⟩
set_option maxHeartbeats 1600000 in
theorem distance_any (d : Nat) (h : Held w0 w Rs) (h3 : 1 ≤ d) (h258 : d ≤ 32768) :
    Calls Tryd.prog 17 #[.int .i64 (d : Int)] w fun e w' => ∃ x n c, e = .returned x ∧ CodeIs dB 30 d c ∧ n = (distBits d c).length ∧ Held w0 w' (ownT 5 1 x n (u8s (distBits d c)) :: Rs) := by
  obtain ⟨i0, hi0, hz0, hz1, hz2⟩ := info_parts infoByte10
  have HL := hid (refDistCode_any (d : Int) w)
  have H0 := hid h
  clear h
  go_enter Tryd.func17, Tryd.ntmps17
  go_wp2_with fail
  with_reducible refine HL.out.mono ?_
  rintro e w1 ⟨⟨v, rfl, hv⟩, rfl⟩
  rcases hv with ⟨h, _⟩ | ⟨k', c, q, x, z, h0, h1, h2, hc, hq, hx, hz, rfl⟩
  · omega
  obtain rfl : d = k' := by omega
  have hc29 := hc.1
  have hx5 : x ≤ 13 := by rw [hx]; exact dX_le c hc29
  have hzk : z ≤ 32768 := by omega
  have hB : symBits fixDist c = hiBits 5 q := by rw [fix_dist c hc29]; congr 1; omega
  have HQ := hid (And.intro hc (And.intro hB (And.intro hx hz)))
  have hH : Calls Tryd.prog 32 #[.int .i64 (q : Int), .int .i64 5] w _ := high_any q 5 H0.out (by omega) (by decide)
  have HH := hid hH
  have hz32 : IntKind.u32.wrap (z : Int) = (z : Int) := by rw [IntKind.wrap_u32]; omega
  have hq30 : q ≤ 29 := by omega
  clear hc hB hx hz HL hq hH
  go_wp2_with fail
  with_reducible refine HH.out.mono ?_
  rintro e w2 ⟨u, rfl, hu⟩
  have H2 := hid hu
  have HO := hid (h_of H2.out z x (by omega) (by omega))
  clear hu HH
  go_wp2_with fail
  with_reducible refine HO.out.mono ?_
  rintro e w3 ⟨y, rfl, hy⟩
  have H3 := hid hy
  clear hy HO
  go_wp2_with (refine wpList_app_held rfl (.tmp 13) (.tmp 17) 22 rfl 5 i0 (.int .u8 0) 1 1 Tryd.underlying22 hi0 hz0 hz1 hz2 rfl (by decide) u 5 _ rfl H3.out.swap y x _ rfl H3.out.own.rd (u8s_one _) (5 + x) rfl (by unfold maxLen; omega) (by omega) ?_; intro ao1 cap1 w4 h4; rw [← u8s_append] at h4; have H4 := hid h4.swap.drop; clear h4)
  go_ret
  obtain ⟨hc, hB, hx, hz⟩ := HQ.out
  have h5 := H4.out
  have e : hiBits 5 q ++ bitsOf x z = distBits d c := by rw [distBits, hB, hx, hz]
  rw [e] at h5
  exact ⟨.slice ao1 (5 + x) cap1, 5 + x, c, rfl, hc, by rw [← e, List.length_append, hiBits_length, bitsOf_length], h5⟩
end
end Go.Proofs.YtmmfkppkmgjljaaDoor
