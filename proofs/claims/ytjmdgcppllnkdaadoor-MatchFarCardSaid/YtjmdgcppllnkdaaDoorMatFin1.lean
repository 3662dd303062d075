/-
  The landed finder: what it forgets, what is written to it, how much waits, literals.
-/
import Derived.Test.YtjmdgcppllnkdaaDoorMatNext
import Derived.WalkSpells
namespace Go.Proofs.YtjmdgcppllnkdaaDoor
open Go.RowKit

section
variable {w0 w : World} {Rs : List Thing} {tr en la at' cut gone n B a P : Nat} {x bs bk : List Nat} {g h : List Nat → Option Nat}
/-- slices.Clone at bytes -/
theorem cloneM8_any (v : Value) (n : Nat) (l : List Nat) (h : Held w0 w Rs) (hv : Rd w 1 v n (u8s l)) (hn : n ≤ 1000000000) :
    Calls Tryd.prog 30 #[v] w fun e w' => ∃ v', e = .returned v' ∧ Held w0 w' (ownT 5 1 v' n (u8s l) :: Rs) := by
  obtain ⟨i0, hi0, hz0, hz1, hz2⟩ := info_parts infoByteM
  have q22 : ∀ (w : World) (a : Option Addr) (n c n' c' : Nat), (binOp .eql 22 (.slice a n c) (.slice none n' c')).run Tryd.prog w = .ok (.bool a.isNone) w := fun w a n c n' c' => Lib.run_eql_slice_nil w _ _ a n c n' c' Tryd.underlying22
  obtain ⟨hl, ao, cap, rfl, hnc, hcm, h0, hr⟩ := hv
  cases ao with
  | none =>
    obtain rfl := h0 rfl
    obtain rfl : n = 0 := by omega
    have hx : u8s l = [] := List.eq_nil_of_length_eq_zero (by omega)
    rw [hx]
    have HH := hid (h.nil 5 1)
    clear h hl h0 hr
    go_enter Tryd.func30, Tryd.ntmps30
    go_wp2
    go_ret
    exact ⟨_, rfl, HH.out⟩
  | some a =>
    have hv : Rd w 1 (.slice (some a) n cap) n (u8s l) := ⟨hl, _, _, rfl, hnc, hcm, h0, hr⟩
    have H1 := hid (h.lit 5 1 [] 0 (by decide) rfl)
    have HV := hid (hv.kept ((Mod.refl w (fun _ => False)).alloc (.cells #[] 5)) (fun _ _ h => h))
    clear h hl h0 hr hv
    go_enter Tryd.func30, Tryd.ntmps30
    go_wp2_with (refine wpList_app_held rfl (.tmp 5) (.tmp 6) 22 rfl 5 i0 (.int .u8 0) 1 1 Tryd.underlying22 hi0 hz0 hz1 hz2 rfl (by decide) _ 0 [] rfl H1.out _ n (u8s l) rfl HV.out (u8s_one l) n (by omega) (by unfold maxLen; omega) (by omega) ?_; intro ao1 cap1 w1 h1; have H2 := hid h1; clear h1)
    go_ret
    exact ⟨_, rfl, H2.out⟩
/-- .. at numbers of sixteen bits -/
theorem cloneM16_any (v : Value) (n : Nat) (l : List Nat) (h : Held w0 w Rs) (hv : Rd w 1 v n (nums .u16 l)) (hn : n ≤ 1000000000) :
    Calls Tryd.prog 31 #[v] w fun e w' => ∃ v', e = .returned v' ∧ Held w0 w' (ownT 42 1 v' n (nums .u16 l) :: Rs) := by
  obtain ⟨i0, hi0, hz0, hz1, hz2⟩ := info_parts infoU16M
  have q22 : ∀ (w : World) (a : Option Addr) (n c n' c' : Nat), (binOp .eql 53 (.slice a n c) (.slice none n' c')).run Tryd.prog w = .ok (.bool a.isNone) w := fun w a n c n' c' => Lib.run_eql_slice_nil w _ _ a n c n' c' Tryd.underlying53
  obtain ⟨hl, ao, cap, rfl, hnc, hcm, h0, hr⟩ := hv
  cases ao with
  | none =>
    obtain rfl := h0 rfl
    obtain rfl : n = 0 := by omega
    have hx : nums .u16 l = [] := List.eq_nil_of_length_eq_zero (by omega)
    rw [hx]
    have HH := hid (h.nil 42 1)
    clear h hl h0 hr
    go_enter Tryd.func31, Tryd.ntmps31
    go_wp2
    go_ret
    exact ⟨_, rfl, HH.out⟩
  | some a =>
    have hv : Rd w 1 (.slice (some a) n cap) n (nums .u16 l) := ⟨hl, _, _, rfl, hnc, hcm, h0, hr⟩
    have H1 := hid (h.lit 42 1 [] 0 (by decide) rfl)
    have HV := hid (hv.kept ((Mod.refl w (fun _ => False)).alloc (.cells #[] 42)) (fun _ _ h => h))
    clear h hl h0 hr hv
    go_enter Tryd.func31, Tryd.ntmps31
    go_wp2_with (refine wpList_app_held rfl (.tmp 5) (.tmp 6) 53 rfl 42 i0 (.int .u16 0) 1 2 Tryd.underlying53 hi0 hz0 hz1 hz2 rfl (by decide) _ 0 [] rfl H1.out _ n (nums .u16 l) rfl HV.out (nums_one _ l) n (by omega) (by unfold maxLen; omega) (by omega) ?_; intro ao1 cap1 w1 h1; have H2 := hid h1; clear h1)
    go_ret
    exact ⟨_, rfl, H2.out⟩
theorem cutW (lo : Option Addr) (L lcap n : Nat) (T E : TypeId) (i0 : TypeInfo) (hT : Tryd.prog.underlying T = some (.slice E)) (hi0 : Tryd.prog.info? E = some i0) (hz1 : i0.size = 1) (hn : n ≤ L) (hlc : L ≤ lcap) (wg : World) :
    (Instr.sliceAt T (.slice lo L lcap) (some (.int .i64 (n : Int))) none none).run Tryd.prog wg = .ok (.slice (if lcap = n then lo else lo.map fun (x : Addr) => x.add (n * 1)) (L - n) (lcap - n)) wg :=
  run_cut (P := Tryd.prog) T E i0 1 hT hi0 hz1 lo L lcap n L (some (.int .i64 (n : Int))) none ⟨_, rfl⟩ rfl hn hlc
set_option maxHeartbeats 3200000 in
theorem forget_any (H : Held w0 w (inF tr en la at' x cut P a B :: Rs)) (HI : InpOK x cut P a) (n : Nat) (hn : cut + n + 2 ≤ x.length) (hlen : x.length < 1000000000) (hb : ∀ b ∈ x, b < 256) :
    Calls Tryd.prog 24 #[.pointer (some ⟨B, 3, none⟩), .int .i64 (n : Int)] w fun e w' => e = .returned (.tuple #[]) ∧ ∃ a', InpOK x (cut + n) (max P (cut + n)) a' ∧ Held w0 w' (inF tr en la at' x (cut + n) (max P (cut + n)) a' B :: Rs) := by
  obtain ⟨i0, hi0, hz0, hz1, hz2⟩ := info_parts infoByteM
  obtain ⟨i1, hi1, hy0, hy1, hy2⟩ := info_parts infoU16M
  obtain ⟨lv, H⟩ := inF_V H
  have hL := learn_any H HI (cut + n) (by omega) (.inr hn) hlen hb
  rw [show cut + n - cut = n by omega] at hL
  have HL := hid hL
  have HCP := hid HI.cut_le
  obtain ⟨Q, hQ⟩ : ∃ Q, Q = max P (cut + n) := ⟨_, rfl⟩
  rw [← hQ] at HL ⊢
  have HQ := hid hQ
  have hn0 : (0 : Int) ≤ (n : Int) := Int.natCast_nonneg _
  clear hL H HI hQ
  go_enter Tryd.func24, Tryd.ntmps24
  go_wp2_with fail
  refine HL.out.mono ?_
  rintro e w1 ⟨rfl, a1, hI1, h1⟩
  have HI1 := hid hI1
  obtain ⟨bv, m1, m2, HF⟩ := unV h1
  obtain ⟨hB, hO1, hO2, _, _⟩ := finAll HF
  have H1 : Hid (Held w0 w1 (objT B (finV tr en la lv cut (.map (some m1)) (.map (some m2)) bv at') 58 :: ownT 5 1 lv (x.drop cut).length (u8s (x.drop cut)) :: ownT 42 1 bv (backs x cut Q).length (nums .u16 (backs x cut Q)) :: mapS (.map (some m1)) (mLast x a1 Q) Q :: mapS (.map (some m2)) (mOlder 32768 x a1) Q :: Rs)) := HF
  obtain ⟨L, hL⟩ : ∃ L, L = (x.drop cut).length := ⟨_, rfl⟩
  obtain ⟨M, hM⟩ : ∃ M, M = (backs x cut Q).length := ⟨_, rfl⟩
  have hLx : L = x.length - cut := by rw [hL, List.length_drop]
  have hMx : M = Q - cut := by rw [hM, backs_length]
  rw [← hL] at hO1
  rw [← hM] at hO2
  obtain ⟨lo, lcap, rfl, hlc, hlm⟩ := hO1.form
  obtain ⟨bo, bcap, rfl, hbc, hbm⟩ := hO2.form
  have hnL : n ≤ L := by omega
  have hnM : n ≤ M := by have := HQ.out; omega
  have hc1 := fun wg => cutW lo L lcap n 22 5 i0 Tryd.underlying22 hi0 hz1 hnL hlc wg
  have hc2 := fun wg => cutW bo M bcap n 53 42 i1 Tryd.underlying53 hi1 hy1 hnM hbc wg
  have hr1 := hO1.rd.cut (L := n) (H := L) hnL (Nat.le_refl _)
  have hr2 := fun (wz : World) (h : Rd wz 1 (.slice bo M bcap) M (nums .u16 (backs x cut Q))) => h.cut (L := n) (H := M) hnM (Nat.le_refl _)
  unfold sliced at hr1 hr2
  generalize (if lcap = n then lo else lo.map fun (x : Addr) => x.add (n * 1)) = lo2 at hc1 hr1
  generalize (if bcap = n then bo else bo.map fun (x : Addr) => x.add (n * 1)) = bo2 at hc2 hr2
  have e1 : ((u8s (x.drop cut)).drop (n * 1)).take ((L - n) * 1) = u8s (x.drop (cut + n)) := by
    rw [Nat.mul_one, Nat.mul_one, List.take_of_length_le (by rw [List.length_drop, u8s_length, ← hL]; omega)]
    simp only [u8s, ← List.map_drop, List.drop_drop]
  have e2 : ((nums .u16 (backs x cut Q)).drop (n * 1)).take ((M - n) * 1) = nums .u16 (backs x (cut + n) Q) := by
    rw [Nat.mul_one, Nat.mul_one, List.take_of_length_le (by rw [List.length_drop, nums_length, ← hM]; omega), ← backs_drop]
    simp only [nums, ← List.map_drop]
  rw [e1] at hr1
  rw [e2] at hr2
  obtain ⟨K, hK⟩ : ∃ K, K = L - n := ⟨_, rfl⟩
  obtain ⟨J, hJ⟩ : ∃ J, J = M - n := ⟨_, rfl⟩
  rw [← hK] at hc1 hr1
  rw [← hJ] at hc2 hr2
  generalize lcap - n = lcap2 at hc1 hr1
  generalize bcap - n = bcap2 at hc2 hr2
  have HK : Hid (K = (x.drop (cut + n)).length ∧ J = (backs x (cut + n) Q).length) := hid ⟨by rw [List.length_drop]; omega, by rw [backs_length]; omega⟩
  have HC1 := hid (cloneM8_any _ K _ H1.out hr1 (by omega))
  have HR2 := hid hr2
  have HBM := hid hM
  have HJ : Hid (J ≤ 1000000000) := hid (by have := HI1.out.room; omega)
  have c3 := hB.cell (i := 3) rfl
  have hcb : cut < 1000000000 := by omega
  have hnb : n < 1000000000 := by omega
  have hcut0 : (0 : Int) ≤ (cut : Int) := Int.natCast_nonneg _
  clear hI1 h1 HF hB hO1 hO2 hL hM hLx hMx hr1 hr2 e1 e2 hK hJ HL
  go_wp2_with fail
  refine HC1.out.mono ?_
  rintro e w2 ⟨v1, rfl, h2⟩
  obtain ⟨vo1, vc1, rfl, _, _⟩ := h2.own.form
  have h3 := h2.swap
  have hb3 := h3.obj
  have f3 := hb3.frozen 3
  have c3' := hb3.cell (i := 3) rfl
  have h4 := h3.setObj 3 (.slice vo1 K vc1)
  have H4 := hid h4
  have hb4 := h4.obj
  have c7 := hb4.cell (i := 7) rfl
  have hO4 := h4.drop.drop.drop.own
  rw [← HBM.out] at hO4
  have hc3 := cloneM16_any _ J _ h4 (HR2.out _ hO4.rd) HJ.out
  have HC2 := hid hc3
  clear h2 h3 h4 hb3 hb4 hO4 hc3 HC1 c3
  go_wp2_with fail
  refine HC2.out.mono ?_
  rintro e w3 ⟨v2, rfl, h5⟩
  obtain ⟨vo2, vc2, rfl, _, _⟩ := h5.own.form
  have h6 := h5.swap
  have hb6 := h6.obj
  have f7 := hb6.frozen 7
  have f4 := hb6.frozen 4
  have c7' := hb6.cell (i := 7) rfl
  have h7 := h6.setObj 7 (.slice vo2 J vc2)
  have hb7 := h7.obj
  have c4 := hb7.cell (i := 4) rfl
  have f4' := hb7.frozen 4
  obtain ⟨C, hC⟩ : ∃ C, C = cut + n := ⟨_, rfl⟩
  have H7 := hid (h7.setObj 4 (.int .i64 (C : Int)))
  have hcn : (cut : Int) + (n : Int) = (C : Int) := by omega
  have HC := hid hC
  clear h5 h6 h7 hb6 hb7 HC2 hC
  go_wp2
  go_end0
  refine ⟨rfl, a1, ⟨by have := HQ.out; omega, HI1.out.room, HI1.out.a_le, HI1.out.le_a, HI1.out.mod, HI1.out.some⟩, ?_⟩
  have h8 := perm23 H7.out.fourth.drop.fourth.drop
  have hk := HK.out
  rw [← HC.out] at h8 hk ⊢
  refine mkFin (.slice vo1 K vc1) (.slice vo2 J vc2) m1 m2 ?_
  unfold finL
  rw [← hk.1, ← hk.2]
  exact h8
theorem trim_any (A : Nat) (H : Held w0 w (inF tr en la (A - cut) x cut P a B :: Rs)) (HI : InpOK x cut P a) (hPA : P ≤ A) (hAx : A ≤ x.length) (hcA : cut ≤ A) (hcw : cut = 0 ∨ cut + 32768 ≤ A) (hlen : x.length < 1000000000) (hb : ∀ b ∈ x, b < 256) :
    Calls Tryd.prog 22 #[.pointer (some ⟨B, 0, none⟩)] w fun e w' => e = .returned (.tuple #[]) ∧ ∃ cut' P' a', cut' ≤ A ∧ P' ≤ A ∧ (cut' = 0 ∨ cut' + 32768 ≤ A) ∧ InpOK x cut' P' a' ∧ Held w0 w' (inF tr en la (A - cut') x cut' P' a' B :: Rs) := by
  obtain ⟨t, ht⟩ : ∃ t, t = A - cut := ⟨_, rfl⟩
  have htA : A = cut + t := by omega
  obtain ⟨lv, bv, m1, m2, HF⟩ := unFin H
  have hB := (finAll HF).1
  have c8 := hB.cell (i := 8) rfl
  rw [← ht] at c8
  have ht0 : (0 : Int) ≤ (t : Int) := Int.natCast_nonneg _
  have htb : t < 1000000000 := by omega
  by_cases hbig : 65536 ≤ t
  · obtain ⟨o, ho⟩ : ∃ o, o = t - 32768 := ⟨_, rfl⟩
    have hoI : (t : Int) - 32768 = (o : Int) := by omega
    have ho2 : (32768 : Int) ≤ (o : Int) := by omega
    have ho0 : (0 : Int) ≤ (o : Int) := Int.natCast_nonneg _
    have HFo := hid (forget_any H HI o (by omega) hlen hb)
    have HT : Hid (cut + o ≤ A ∧ max P (cut + o) ≤ A ∧ cut + o + 32768 ≤ A ∧ A - (cut + o) = 32768) := hid (by omega)
    have htoI : (t : Int) - (o : Int) = 32768 := by omega
    rw [← ht] at HFo
    have hob : o < 1000000000 := by omega
    clear HF hB H HI ho htA ht hPA hAx hcA hcw hbig
    go_enter Tryd.func22, Tryd.ntmps22
    go_wp2_with fail
    refine HFo.out.mono ?_
    rintro e w1 ⟨rfl, a1, hI1, h1⟩
    have HI1 := hid hI1
    obtain ⟨lv1, bv1, q1, q2, hF1⟩ := unFin h1
    have hB1 := (finAll hF1).1
    have d8 := hB1.cell (i := 8) rfl
    have f8 := hB1.frozen 8
    have h2 : Held w0 w1 (objT B (finV tr en la lv1 (cut + o) (.map (some q1)) (.map (some q2)) bv1 t) 58 :: _) := hF1
    have H2 := hid (h2.setObj 8 (.int .i64 32768))
    clear hI1 h1 hF1 hB1 h2 HFo
    go_wp2
    go_end0
    refine ⟨rfl, cut + o, max P (cut + o), a1, HT.out.1, HT.out.2.1, .inr HT.out.2.2.1, HI1.out, ?_⟩
    rw [HT.out.2.2.2]
    exact mkFin _ _ _ _ H2.out
  · have HH := hid H
    have HG := hid (And.intro HI (And.intro hPA (And.intro hcA hcw)))
    obtain ⟨z, hz⟩ : ∃ z : Int, z = (t : Int) - 32768 := ⟨_, rfl⟩
    have hzI : (t : Int) - 32768 = z := hz.symm
    have hz2 : ¬ (32768 : Int) ≤ z := by omega
    have hz3 : -9223372036854775808 ≤ z := by omega
    have hz4 : z ≤ 9223372036854775807 := by omega
    clear HF hB H HI htA ht hPA hAx hcA hcw hbig hz
    go_enter Tryd.func22, Tryd.ntmps22
    go_wp2
    go_end0
    first | exact ⟨rfl, cut, P, a, HG.out.2.2.1, HG.out.2.1, HG.out.2.2.2, HG.out.1, HH.out⟩ | exact ⟨rfl, cut, HG.out.2.2.1, P, HG.out.2.1, HG.out.2.2.2, a, HG.out.1, HH.out⟩
end
end Go.Proofs.YtjmdgcppllnkdaaDoor
