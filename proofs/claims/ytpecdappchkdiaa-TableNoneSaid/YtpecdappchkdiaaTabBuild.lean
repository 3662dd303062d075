/-
  Build: a table of every code that Check takes.
-/
import Derived.Test.YtpecdappchkdiaaTabAdd
import Derived.Test.YtpecdappchkdiaaTabOK
namespace Go.Proofs.Ytpecdappchkdiaa
open Go.RowKit

section
variable {w0 w : World} {Rs : List Thing}
theorem Held.allNil {e : TypeId} (h : Held w0 w Rs) : ∀ L : List Nat, Held w0 w (allT (L.map fun _ => ownT e 1 (.slice none 0 0) 0 []) :: Rs)
  | [] => h.noT
  | _ :: L => ((Held.allNil h L).nil e 1).pair
def tabZ (lv cv : Value) : List Value := [lv, cv, .int .u32 0, .slice none 0 0, .int .u32 0, .slice none 0 0, .int .u32 0, .slice none 0 0, .int .u32 0, .slice none 0 0, .int .u32 0, .slice none 0 0, .int .u32 0, .slice none 0 0, .int .u32 0, .slice none 0 0, .int .u32 0, .slice none 0 0, .int .u32 0, .slice none 0 0, .int .u32 0, .slice none 0 0, .int .u32 0, .slice none 0 0, .int .u32 0, .slice none 0 0, .int .u32 0, .slice none 0 0, .int .u32 0, .slice none 0 0, .int .u32 0, .slice none 0 0, .int .u32 0, .slice none 0 0]
theorem K_start {l : List Int} {B : Nat} {lv cv : Value} (h : Held w0 w (objT B (tabZ lv cv) 58 :: ownT 3 1 lv l.length (ints l) :: ownT 53 1 cv l.length (nums .u32 (codesOf l)) :: Rs)) :
    Held w0 w (tabK l 0 B lv cv (fun _ => .slice none 0 0) :: Rs) := by
  have h1 := Held.allNil (e := 3) h (List.range 16)
  have h2 := h1.perm (List.perm_middle (l₁ := [_, _, _]) (a := allT ((List.range 16).map fun _ => ownT 3 1 (.slice none 0 0) 0 [])) (l₂ := Rs)).symm
  refine mkK ?_
  have e1 : grpF l 0 = fun _ => 0 := funext fun n => grpF_none l n
  have e2 : (fun n : Nat => grpT (.slice none 0 0) (grp l 0 n)) = fun _ => ownT 3 1 (.slice none 0 0) 0 [] := funext fun n => by rw [grp_none]; rfl
  rw [e1, e2]
  exact h2
theorem K_open {l : List Int} {k B z : Nat} {lv cv : Value} {S : Nat → Value} (h : Held w0 w (tabK l k B lv cv S :: Rs)) (hz : z < 16) :
    Held w0 w (objT B (tabL lv cv (grpF l k) S) 58 :: grpT (S z) (grp l k z) :: allT (((List.range 16).map fun n => grpT (S n) (grp l k n)).eraseIdx z) :: ownT 3 1 lv l.length (ints l) :: ownT 53 1 cv l.length (nums .u32 (codesOf l)) :: Rs) :=
  ((unK h).fourth.allOut (i := z) (R := grpT (S z) (grp l k z)) (by simp [hz])).third
theorem K_step {l : List Int} {i B z : Nat} {lv cv v' : Value} {S : Nat → Value} (hi : l[i]? = some (z : Int)) (hz : 1 ≤ z) (hz2 : z ≤ 15)
    (h : Held w0 w (objT B (((tabL lv cv (grpF l i) S).set (2 + z * 2) (.int .u32 ((if (grp l i z).length = 0 then codeAt l i else grpF l i z : Nat) : Int))).set (2 + z * 2 + 1) v') 58 :: grpT v' (grp l i z ++ [i]) ::
      allT (((List.range 16).map fun n => grpT (S n) (grp l i n)).eraseIdx z) :: ownT 3 1 lv l.length (ints l) :: ownT 53 1 cv l.length (nums .u32 (codesOf l)) :: Rs)) :
    Held w0 w (tabK l (i + 1) B lv cv (upd S z v') :: Rs) := by
  have h1 := (h.swap.third.swap).allBack (by simp; omega)
  rw [tabL_set _ _ _ _ _ _ _ (by omega)] at h1
  have e1 : upd (grpF l i) z (if (grp l i z).length = 0 then codeAt l i else grpF l i z) = grpF l (i + 1) := funext fun n => by
    by_cases e : n = z
    · subst e; rw [upd_self, grpF_in l i n hi hz hz2]
    · rw [upd_ne _ _ e, grpF_out l i z n hi e]
  have e2 : ((List.range 16).map fun n => grpT (S n) (grp l i n)).set z (grpT v' (grp l i z ++ [i])) = (List.range 16).map fun n => grpT (upd S z v' n) (grp l (i + 1) n) := by
    refine List.ext_getElem? fun n => ?_
    rw [List.getElem?_set]
    by_cases hn : n < 16
    · by_cases e : z = n
      · subst e
        rw [if_pos rfl, if_pos (by simp; omega)]
        simp [hn, upd_self, grp_in l i z hi hz]
      · rw [if_neg e]
        have e' : n ≠ z := fun h => e h.symm
        simp [hn, upd_ne _ _ e', grp_out l i z n hi e']
    · rw [if_neg (by omega)]
      simp [hn]
  rw [e1, e2] at h1
  exact mkK (h1.perm (List.perm_middle (l₁ := [_, _, _])).symm)
theorem K_skip {l : List Int} {i B : Nat} {lv cv : Value} {S : Nat → Value} (hi : l[i]? = some 0) (h : Held w0 w (tabK l i B lv cv S :: Rs)) : Held w0 w (tabK l (i + 1) B lv cv S :: Rs) := by
  have e1 : grpF l (i + 1) = grpF l i := funext fun n => grpF_skip l i n hi
  have e2 : (fun n : Nat => grpT (S n) (grp l (i + 1) n)) = fun n => grpT (S n) (grp l i n) := funext fun n => by rw [grp_skip l i n hi]
  unfold tabK at h ⊢
  rw [e1, e2]; exact h
theorem codes_get (l : List Int) (i : Nat) (h : i < l.length) : (nums .u32 (codesOf l))[i]? = some (.int .u32 (codeAt l i : Int)) := by
  rw [nums_get]; simp [codesOf, h]
end
set_option maxRecDepth 20000 in
set_option maxHeartbeats 1600000 in
theorem build_any (v : Value) (n : Nat) (l : List Int) (most : Int) (w : World) (hv : Rd w 1 v n (ints l)) (hn : n ≤ 1000) :
    Calls Try.prog 8 #[v, .int .i64 most] w fun e w' =>
      (checkOf l most ≠ 0 ∧ e = .returned (.tuple #[.pointer none, .int .i64 ((checkOf l most : Nat) : Int)]) ∧ Held w w' []) ∨
      (checkOf l most = 0 ∧ ∃ B, e = .returned (.tuple #[.pointer (some ⟨B, 0, none⟩), .int .i64 0]) ∧ Held w w' [tabT l B]) := by
  have hnl : n = l.length := by have := hv.1; simpa [ints] using this.symm
  have HV := hid hv
  have HC := hid (check_any v l most w (by rw [← hnl]; exact hv) (by omega))
  have HOK := hid (fun h : checkOf l most = 0 => fine_of h)
  by_cases hc : checkOf l most = 0
  · obtain ⟨hl, hl2, _⟩ := HOK.out hc
    rw [hc] at HC
    have HCK := hid hc
    clear hc
    clear hv HOK
    have HN := hid hnl
    have HL := hid hl
    clear hl hnl
    go_enter Try.func8, Try.ntmps8
    go_wp2_with fail
    refine HC.out.mono ?_
    rintro e w1 ⟨rfl, hm1⟩
    have HM1 := hid hm1
    have HV1 := hid (HV.out.kept hm1 (fun _ _ h => h))
    have H1 := hid ((Held.start w).same hm1)
    clear hm1 HC HV
    go_wp2_with fail
    refine (clone_any v n l (Held.start w1) HV1.out hn).mono ?_
    rintro e w2 ⟨lv, rfl, h2⟩
    obtain ⟨lo, lcap, rfl, hln, _⟩ := h2.own.form
    have HV2 := hid (HV1.out.kept h2.mod (fun _ _ h => h))
    have H2 := hid (H1.out.frame h2)
    clear h2 HV1 H1
    go_wp2_with fail
    have HCD := hid (codes_any v l w2 (by rw [← HN.out]; exact HV2.out) hl2)
    rw [← HN.out] at HCD
    refine HCD.out.mono ?_
    rintro e w3 ⟨cv, rfl, ho3, hf3, hm3⟩
    obtain ⟨co, ccap, rfl, hcn, _⟩ := ho3.form
    have H3 := hid (H2.out.pushOwn ho3 hm3 hf3)
    clear ho3 hf3 hm3 H2 HV2 HCD
    have HK : Hid (Held w (w3.alloc (.cells (tabZ (.slice lo n lcap) (.slice co n ccap)).toArray 58)) [tabK l 0 w3.heap.size (.slice lo n lcap) (.slice co n ccap) (fun _ => .slice none 0 0)]) := by
      unfold Hid
      have h := H3.out.swap
      rw [HN.out] at h ⊢
      exact K_start (h.newObj _ _)
    clear H3
    have hn0 : (0 : Int) ≤ (n : Int) := Int.natCast_nonneg _
    go_wp2
    obtain ⟨B, hB⟩ : ∃ B, B = w3.heap.size := ⟨_, rfl⟩
    rw [← hB] at HK ⊢
    clear hB
    go_loopg [27] (n + 1) (fun k t27 wr => ∃ (i : Nat) (S : Nat → Value), i ≤ n ∧ n - i < k ∧ t27 = .int .i64 (i : Int) ∧ Hid (Held w wr [tabK l i B (.slice lo n lcap) (.slice co n ccap) S]))
    case atStart => exact ⟨0, _, by omega, by omega, rfl, HK⟩
    case round =>
      obtain ⟨i, S, hi, hk, rfl, HH⟩ := hrel
      clear HK
      by_cases hin : i < n
      · obtain ⟨a, hai⟩ : ∃ a, l[i]? = some a := ⟨l[i]'(by have := HN.out; omega), List.getElem?_eq_getElem _⟩
        have ha := HL.out a (List.mem_of_getElem? hai)
        obtain ⟨z, rfl⟩ := Int.eq_ofNat_of_zero_le ha.1
        have hi0 : (0 : Int) ≤ (i : Int) := Int.natCast_nonneg _
        have hi1 : (i : Int) < (n : Int) := by omega
        have hol := (unK HH.out).swap.own
        rw [← HN.out] at hol
        obtain ⟨g, off, rfl, hcell, _, _⟩ := hol.site (by omega)
        have hc1 := hcell i _ (by rw [ints_get, hai]; rfl)
        clear hcell hol
        by_cases hz : z = 0
        · subst hz
          have HR := hid (K_skip hai HH.out)
          clear hai ha HH
          go_wp2
          go_roundg (gk - 1)
          case measure => omega
          case rel => exact ⟨i + 1, S, by omega, by omega, by go_num, HR⟩
        · have hz0 : (0 : Int) < (z : Int) := by omega
          have hz16 : (z : Int) < 16 := by omega
          have hz16n : z < 16 := by omega
          have hKO := K_open HH.out hz16n
          have hco := (unK HH.out).third.own
          rw [← HN.out] at hco
          obtain ⟨g2, off2, rfl, hcell2, _, _⟩ := hco.site (by omega)
          have hc2 := hcell2 i _ (codes_get l i (by have := HN.out; omega))
          have hc3 := hKO.obj.cell (i := 1) (tabL_1 _ _ _ _)
          have HAI := hid hai
          have HZ := hid hz
          have HKO := hid hKO.drew
          obtain ⟨x, hx⟩ : ∃ x, x = codeAt l i := ⟨_, rfl⟩
          rw [← hx] at hc2
          have HX := hid hx
          clear hcell2 hco hKO hz hx hai ha HH
          go_wp2
          go_still_tail 13, (by kernel_rfl)
          change wpList _ _ _ _ _ wr.drew
          clear hc1 hc2 hc3
          generalize wr.drew = w5 at HKO ⊢
          have HA := hid (add_any B (2 + z * 2) (grp l i z).length i x (grpF l i z) _ _ _ _ HKO.out (tabL_F _ _ _ _ _ hz16n) (tabL_S _ _ _ _ _ hz16n) rfl (by have := grp_le l i z; omega))
          go_wp2_with fail
          refine HA.out.mono ?_
          rintro e w6 ⟨rfl, v', h6⟩
          rw [HX.out] at h6
          have HR := hid (K_step HAI.out (by have := HZ.out; omega) (by omega) h6)
          clear h6 HA HKO
          go_wp2
          go_roundg (gk - 1)
          case measure => omega
          case rel => exact ⟨i + 1, _, by omega, by omega, by go_num, HR⟩
      · have hi1 : ¬ (i : Int) < (n : Int) := by omega
        have HR : Hid (Held w wr [tabT l B]) := by
          unfold Hid
          have h := HH.out
          rw [show i = l.length by have := HN.out; omega] at h
          exact Held.mk (_, _, S) h
        go_wp2
        go_ret2
        exact .inr ⟨HCK.out, B, rfl, HR.out⟩
  · generalize checkOf l most = cv at HC hc ⊢
    have hI : ((cv : Int) != 0) = true := by simp; omega
    clear HOK hv
    have HCV := hid hc
    clear hc
    go_enter Try.func8, Try.ntmps8
    go_wp2_with fail
    refine HC.out.mono ?_
    rintro e w1 ⟨rfl, hm⟩
    have HM := hid ((Held.start w).same hm)
    clear hm HC
    go_wp2
    go_ret2
    exact .inl ⟨HCV.out, rfl, HM.out⟩
end Go.Proofs.Ytpecdappchkdiaa
