/-
  The table as a thing in memory: its object, the lengths and codes, a slice of symbols for each number of bits; slices.Clone; what 'add' does to a group.
-/
import Derived.Test.YtdmnfjicjjlnnaaGreatDoorDm05
import Derived.Test.YtdmnfjicjjlnnaaGreatDoorDm15
import Derived.Test.YtdmnfjicjjlnnaaGreatDoorDm03
import Derived.Test.YtdmnfjicjjlnnaaGreatDoorDm09
import Derived.WalkSpells
import Derived.Test.YtdmnfjicjjlnnaaGreatDoorDm08
import Derived.Test.YtdmnfjicjjlnnaaGreatDoorDm02
namespace Go.Proofs.YtdmnfjicjjlnnaaGreatDoor
set_option maxRecDepth 5000
open Go.RowKit
theorem infoIntT : (Tryz.prog.info? 3).map (fun i => (i.zero, i.size, i.bytes)) = some (some (Value.int .i64 0), 1, 8) := by kernel_rfl
def tabC (lv cv : Value) (F : Nat → Nat) (S : Nat → Value) (i : Nat) : Value :=
  if i = 0 then lv else if i = 1 then cv else if i % 2 = 0 then .int .u32 (F (i / 2 - 1) : Int) else S (i / 2 - 1)
def tabL (lv cv : Value) (F : Nat → Nat) (S : Nat → Value) : List Value := (List.range 34).map (tabC lv cv F S)
theorem tabL_get (lv cv : Value) (F : Nat → Nat) (S : Nat → Value) (i : Nat) (h : i < 34) : (tabL lv cv F S)[i]? = some (tabC lv cv F S i) := by
  simp [tabL, h]
theorem tabL_0 (lv cv : Value) (F : Nat → Nat) (S : Nat → Value) : (tabL lv cv F S)[0]? = some lv := rfl
theorem tabL_1 (lv cv : Value) (F : Nat → Nat) (S : Nat → Value) : (tabL lv cv F S)[1]? = some cv := rfl
theorem tabL_F (lv cv : Value) (F : Nat → Nat) (S : Nat → Value) (n : Nat) (h : n < 16) : (tabL lv cv F S)[2 + n * 2]? = some (.int .u32 (F n : Int)) := by
  rw [tabL_get _ _ _ _ _ (by omega)]
  unfold tabC
  rw [if_neg (by omega), if_neg (by omega), if_pos (by omega), show (2 + n * 2) / 2 - 1 = n by omega]
theorem tabL_S (lv cv : Value) (F : Nat → Nat) (S : Nat → Value) (n : Nat) (h : n < 16) : (tabL lv cv F S)[2 + n * 2 + 1]? = some (S n) := by
  rw [tabL_get _ _ _ _ _ (by omega)]
  unfold tabC
  rw [if_neg (by omega), if_neg (by omega), if_neg (by omega), show (2 + n * 2 + 1) / 2 - 1 = n by omega]
def upd {α : Type} (f : Nat → α) (n : Nat) (u : α) (k : Nat) : α := if k = n then u else f k
theorem upd_self {α : Type} (f : Nat → α) (n : Nat) (u : α) : upd f n u n = u := by simp [upd]
theorem upd_ne {α : Type} (f : Nat → α) {n k : Nat} (u : α) (h : k ≠ n) : upd f n u k = f k := by simp [upd, h]
theorem tabL_set (lv cv : Value) (F : Nat → Nat) (S : Nat → Value) (n x : Nat) (u : Value) (h : n < 16) :
    ((tabL lv cv F S).set (2 + n * 2) (.int .u32 (x : Int))).set (2 + n * 2 + 1) u = tabL lv cv (upd F n x) (upd S n u) := by
  refine List.ext_getElem? fun i => ?_
  have hlen : (tabL lv cv F S).length = 34 := by simp [tabL]
  by_cases hi : i < 34
  · rw [tabL_get _ _ _ _ _ hi, List.getElem?_set, List.getElem?_set, List.length_set, hlen, tabL_get _ _ _ _ _ hi]
    by_cases h1 : 2 + n * 2 + 1 = i
    · subst h1
      rw [if_pos rfl, if_pos hi]
      unfold tabC
      rw [if_neg (by omega), if_neg (by omega), if_neg (by omega), show (2 + n * 2 + 1) / 2 - 1 = n by omega, upd_self]
    · rw [if_neg h1]
      by_cases h2 : 2 + n * 2 = i
      · subst h2
        rw [if_pos rfl, if_pos hi]
        unfold tabC
        rw [if_neg (by omega), if_neg (by omega), if_pos (by omega), show (2 + n * 2) / 2 - 1 = n by omega, upd_self]
      · rw [if_neg h2]
        unfold tabC
        split
        · rfl
        · split
          · rfl
          · rw [upd_ne _ _ (by omega), upd_ne _ _ (by omega)]
  · rw [List.getElem?_eq_none (by simp [tabL]; omega), List.getElem?_eq_none (by simp [tabL]; omega)]
theorem set_same {L : List Value} {i : Nat} {u : Value} (h : L[i]? = some u) : L.set i u = L := by
  refine List.ext_getElem? fun j => ?_
  rw [List.getElem?_set]
  split
  · subst_vars; rw [if_pos (List.getElem?_eq_some_iff.1 h).1, h]
  · rfl
def grpT (v : Value) (xs : List Nat) : Thing := ownT 3 1 v xs.length (nums .i64 xs)
def tabK (l : List Int) (k B : Nat) (lv cv : Value) (S : Nat → Value) : Thing :=
  allT [objT B (tabL lv cv (grpF l k) S) 174, ownT 3 1 lv l.length (ints l), ownT 47 1 cv l.length (nums .u32 (codesOf l)), allT ((List.range 16).map fun n => grpT (S n) (grp l k n))]
def tabT (l : List Int) (B : Nat) : Thing := exT fun p : Value × Value × (Nat → Value) => tabK l l.length B p.1 p.2.1 p.2.2
section
variable {w0 w : World} {Rs : List Thing}
theorem unK {l : List Int} {k B : Nat} {lv cv : Value} {S : Nat → Value} (h : Held w0 w (tabK l k B lv cv S :: Rs)) :
    Held w0 w (objT B (tabL lv cv (grpF l k) S) 174 :: ownT 3 1 lv l.length (ints l) :: ownT 47 1 cv l.length (nums .u32 (codesOf l)) :: allT ((List.range 16).map fun n => grpT (S n) (grp l k n)) :: Rs) :=
  Held.unall h
theorem mkK {l : List Int} {k B : Nat} {lv cv : Value} {S : Nat → Value}
    (h : Held w0 w (objT B (tabL lv cv (grpF l k) S) 174 :: ownT 3 1 lv l.length (ints l) :: ownT 47 1 cv l.length (nums .u32 (codesOf l)) :: allT ((List.range 16).map fun n => grpT (S n) (grp l k n)) :: Rs)) :
    Held w0 w (tabK l k B lv cv S :: Rs) := Held.all (L := [_, _, _, _]) h
theorem clone_any (v : Value) (n : Nat) (l : List Int) (h : Held w0 w Rs) (hv : Rd w 1 v n (ints l)) (hn : n ≤ 1000) :
    Calls Tryz.prog 99 #[v] w fun e w' => ∃ v', e = .returned v' ∧ Held w0 w' (ownT 3 1 v' n (ints l) :: Rs) := by
  obtain ⟨i0, hi0, hz0, hz1, hz2⟩ := info_parts infoIntT
  have q22 : ∀ (w : World) (a : Option Addr) (n c n' c' : Nat), (binOp .eql 32 (.slice a n c) (.slice none n' c')).run Tryz.prog w = .ok (.bool a.isNone) w := fun w a n c n' c' => Lib.run_eql_slice_nil w _ _ a n c n' c' Tryz.underlying32
  obtain ⟨hl, ao, cap, rfl, hnc, hcm, h0, hr⟩ := hv
  cases ao with
  | none =>
    obtain rfl := h0 rfl
    obtain rfl : n = 0 := by omega
    have hx : ints l = [] := List.eq_nil_of_length_eq_zero (by omega)
    rw [hx]
    have HH := hid (h.nil 3 1)
    clear h hl h0 hr
    go_enter Tryz.func99, Tryz.ntmps99
    go_wp2
    go_ret
    exact ⟨_, rfl, HH.out⟩
  | some a =>
    have hv : Rd w 1 (.slice (some a) n cap) n (ints l) := ⟨hl, _, _, rfl, hnc, hcm, h0, hr⟩
    have H1 := hid (h.lit 3 1 [] 0 (by decide) rfl)
    have HV := hid (hv.kept ((Mod.refl w (fun _ => False)).alloc (.cells #[] 3)) (fun _ _ h => h))
    clear h hl h0 hr hv
    go_enter Tryz.func99, Tryz.ntmps99
    go_wp2_with (refine wpList_app_held rfl (.tmp 5) (.tmp 6) 32 rfl 3 i0 (.int .i64 0) 1 8 Tryz.underlying32 hi0 hz0 hz1 hz2 rfl (by decide) _ 0 [] rfl H1.out _ n (ints l) rfl HV.out (ints_one l) n (by omega) (by unfold maxLen; omega) (by omega) ?_; intro ao1 cap1 w1 h1; have H2 := hid h1; clear h1)
    go_ret
    exact ⟨_, rfl, H2.out⟩
theorem add_any (B o m x c : Nat) (f : Nat) (cs : List Value) (T : TypeId) (v : Value) (xs : List Nat) (h : Held w0 w (objT B cs T :: grpT v xs :: Rs)) (hf : cs[o]? = some (.int .u32 (f : Int))) (hv : cs[o + 1]? = some v) (hm : xs.length = m) (hm2 : m ≤ 1000) :
    Calls Tryz.prog 101 #[.pointer (some ⟨B, o, none⟩), .int .i64 (x : Int), .int .u32 (c : Int)] w fun e w' => e = .returned (.tuple #[]) ∧ ∃ v',
      Held w0 w' (objT B ((cs.set o (.int .u32 ((if m = 0 then c else f : Nat) : Int))).set (o + 1) v') T :: grpT v' (xs ++ [x]) :: Rs) := by
  obtain ⟨i0, hi0, hz0, hz1, hz2⟩ := info_parts infoIntT
  unfold grpT at h ⊢
  rw [hm] at h
  obtain ⟨ao, cap, rfl, hnc, hcm⟩ := h.swap.own.form
  have hxs : nums .i64 (xs ++ [x]) = nums .i64 xs ++ [.int .i64 (x : Int)] := by simp [nums]
  rw [List.length_append, hm, List.length_singleton, hxs]
  have hc0 := h.obj.cell hf
  have hc1 := h.obj.cell hv
  have hf0 := h.obj.frozen o
  have HH := hid h
  have HF := hid hf
  have HV := hid hv
  have hm0 : (0 : Int) ≤ (m : Int) := Int.natCast_nonneg _
  clear h hf hv hxs hm
  by_cases h0 : m = 0
  · have hI : ((m : Int) == 0) = true := by simp; omega
    have HS := hid (HH.out.setObj o (.int .u32 (c : Int)))
    have HE : Hid ((cs.set o (.int .u32 (c : Int)))[o + 1]? = some (.slice ao m cap)) := by unfold Hid; rw [List.getElem?_set_ne (by omega)]; exact HV.out
    have hc2 := HS.out.obj.cell (i := o + 1) HE.out
    have hf2 := HS.out.obj.frozen (o + 1)
    rw [if_pos h0]
    clear HH HF h0
    go_enter Tryz.func101, Tryz.ntmps101
    go_wp2_with ((with_reducible show wpList _ _ _ (⟨some 23, _, _, _, _, _⟩ :: _) _ _); have HL := hid ((HS.out.swap).litN 3 1 [.int .i64 (x : Int)] 1 (by decide) rfl w.heap.size (by simp [World.setCell])).swap; refine wpList_app_held rfl (.tmp 20) (.tmp 22) 32 rfl 3 i0 (.int .i64 0) 1 8 Tryz.underlying32 hi0 hz0 hz1 hz2 rfl (by decide) _ m (nums .i64 xs) rfl HL.out _ 1 [.int .i64 (x : Int)] rfl HL.out.swap.own.rd (by simp [Value.oneCell']) (m + 1) rfl (by unfold maxLen; omega) (by omega) ?_; intro ao1 cap1 w1 h1; have hf3 := h1.third.obj.frozen (o + 1); have hc3 := h1.third.obj.cell (i := o + 1) HE.out; have HK := hid h1; clear h1)
    go_end0
    exact ⟨rfl, _, (HK.out.swap.drop.swap).setObj (o + 1) _⟩
  · have hI : ((m : Int) == 0) = false := by simp; omega
    rw [if_neg h0, set_same HF.out]
    clear HF
    go_enter Tryz.func101, Tryz.ntmps101
    go_wp2_with ((with_reducible show wpList _ _ _ (⟨some 23, _, _, _, _, _⟩ :: _) _ _); have HL := hid ((HH.out.swap).litN 3 1 [.int .i64 (x : Int)] 1 (by decide) rfl w.heap.size rfl).swap; refine wpList_app_held rfl (.tmp 20) (.tmp 22) 32 rfl 3 i0 (.int .i64 0) 1 8 Tryz.underlying32 hi0 hz0 hz1 hz2 rfl (by decide) _ m (nums .i64 xs) rfl HL.out _ 1 [.int .i64 (x : Int)] rfl HL.out.swap.own.rd (by simp [Value.oneCell']) (m + 1) rfl (by unfold maxLen; omega) (by omega) ?_; intro ao1 cap1 w1 h1; have hf3 := h1.third.obj.frozen (o + 1); have hc3 := h1.third.obj.cell (i := o + 1) HV.out; have HK := hid h1; clear h1)
    go_end0
    exact ⟨rfl, _, (HK.out.swap.drop.swap).setObj (o + 1) _⟩
end
end Go.Proofs.YtdmnfjicjjlnnaaGreatDoor
/-
  What Build, Next and Write are to do, as a statement that the program's own text must show ('TableOK', for some thing that a table is); the laws' own example.
-/
namespace Go.Proofs.YtdmnfjicjjlnnaaGreatDoor
set_option maxRecDepth 5000
open Go.RowKit
def Fine (l : List Int) : Prop := (∀ a ∈ l, 0 ≤ a ∧ a ≤ 15) ∧ l.length ≤ 288 ∧ (sumOf l = 0 ∨ sumOf l = 32768 ∨ sumOf l = 16384 ∧ l.count 1 = 1)
theorem fine_of {l : List Int} {m : Int} (h : checkOf l m = 0) : Fine l := by
  unfold checkOf at h
  split at h
  · cases h
  · rename_i hb
    split at h
    · rename_i hs
      simp only [argBad, Bool.or_eq_true, decide_eq_true_eq, Bool.not_eq_true', not_or, Bool.not_eq_false] at hb
      have h1 := (allIn_iff l m).1 hb.2
      exact ⟨fun a ha => ⟨(h1 a ha).1, by have := (h1 a ha).2; omega⟩, by omega, hs⟩
    · cases h
section
variable {w0 w : World} {Rs : List Thing}
end
end Go.Proofs.YtdmnfjicjjlnnaaGreatDoor
/-
  Build: a table of every code that Check takes.
-/
namespace Go.Proofs.YtdmnfjicjjlnnaaGreatDoor
set_option maxRecDepth 5000
open Go.RowKit
section
variable {w0 w : World} {Rs : List Thing}
theorem Held.allNil {e : TypeId} (h : Held w0 w Rs) : ∀ L : List Nat, Held w0 w (allT (L.map fun _ => ownT e 1 (.slice none 0 0) 0 []) :: Rs)
  | [] => h.noT
  | _ :: L => ((Held.allNil h L).nil e 1).pair
def tabZ (lv cv : Value) : List Value := [lv, cv, .int .u32 0, .slice none 0 0, .int .u32 0, .slice none 0 0, .int .u32 0, .slice none 0 0, .int .u32 0, .slice none 0 0, .int .u32 0, .slice none 0 0, .int .u32 0, .slice none 0 0, .int .u32 0, .slice none 0 0, .int .u32 0, .slice none 0 0, .int .u32 0, .slice none 0 0, .int .u32 0, .slice none 0 0, .int .u32 0, .slice none 0 0, .int .u32 0, .slice none 0 0, .int .u32 0, .slice none 0 0, .int .u32 0, .slice none 0 0, .int .u32 0, .slice none 0 0, .int .u32 0, .slice none 0 0]
theorem K_start {l : List Int} {B : Nat} {lv cv : Value} (h : Held w0 w (objT B (tabZ lv cv) 174 :: ownT 3 1 lv l.length (ints l) :: ownT 47 1 cv l.length (nums .u32 (codesOf l)) :: Rs)) :
    Held w0 w (tabK l 0 B lv cv (fun _ => .slice none 0 0) :: Rs) := by
  have h1 := Held.allNil (e := 3) h (List.range 16)
  have h2 := h1.perm (List.perm_middle (l₁ := [_, _, _]) (a := allT ((List.range 16).map fun _ => ownT 3 1 (.slice none 0 0) 0 [])) (l₂ := Rs)).symm
  refine mkK ?_
  have e1 : grpF l 0 = fun _ => 0 := funext fun n => grpF_none l n
  have e2 : (fun n : Nat => grpT (.slice none 0 0) (grp l 0 n)) = fun _ => ownT 3 1 (.slice none 0 0) 0 [] := funext fun n => by rw [grp_none]; rfl
  rw [e1, e2]
  exact h2
theorem K_open {l : List Int} {k B z : Nat} {lv cv : Value} {S : Nat → Value} (h : Held w0 w (tabK l k B lv cv S :: Rs)) (hz : z < 16) :
    Held w0 w (objT B (tabL lv cv (grpF l k) S) 174 :: grpT (S z) (grp l k z) :: allT (((List.range 16).map fun n => grpT (S n) (grp l k n)).eraseIdx z) :: ownT 3 1 lv l.length (ints l) :: ownT 47 1 cv l.length (nums .u32 (codesOf l)) :: Rs) :=
  ((unK h).fourth.allOut (i := z) (R := grpT (S z) (grp l k z)) (by simp [hz])).third
theorem K_step {l : List Int} {i B z : Nat} {lv cv v' : Value} {S : Nat → Value} (hi : l[i]? = some (z : Int)) (hz : 1 ≤ z) (hz2 : z ≤ 15)
    (h : Held w0 w (objT B (((tabL lv cv (grpF l i) S).set (2 + z * 2) (.int .u32 ((if (grp l i z).length = 0 then codeAt l i else grpF l i z : Nat) : Int))).set (2 + z * 2 + 1) v') 174 :: grpT v' (grp l i z ++ [i]) ::
      allT (((List.range 16).map fun n => grpT (S n) (grp l i n)).eraseIdx z) :: ownT 3 1 lv l.length (ints l) :: ownT 47 1 cv l.length (nums .u32 (codesOf l)) :: Rs)) :
    Held w0 w (tabK l (i + 1) B lv cv (upd S z v') :: Rs) := by
  have h1 := (h.swap.third.swap).allBack (by simp; omega)
  rw [tabL_set _ _ _ _ _ _ _ (by omega)] at h1
  have e1 : upd (grpF l i) z (if (grp l i z).length = 0 then codeAt l i else grpF l i z) = grpF l (i + 1) := funext fun n => by
    by_cases e : n = z
    · subst e; rw [upd_self, grpF_in l i n hi hz hz2]
    · rw [upd_ne _ _ e, grpF_out l i z n hi e]
  have e2 : ((List.range 16).map fun n => grpT (S n) (grp l i n)).set z (grpT v' (grp l i z ++ [i])) = (List.range 16).map fun n => grpT (upd S z v' n) (grp l (i + 1) n) := by
    refine List.ext_getElem? fun n => ?_
    rw [List.getElem?_set]
    by_cases hn : n < 16
    · by_cases e : z = n
      · subst e
        rw [if_pos rfl, if_pos (by simp; omega)]
        simp [hn, upd_self, grp_in l i z hi hz]
      · rw [if_neg e]
        have e' : n ≠ z := fun h => e h.symm
        simp [hn, upd_ne _ _ e', grp_out l i z n hi e']
    · rw [if_neg (by omega)]
      simp [hn]
  rw [e1, e2] at h1
  exact mkK (h1.perm (List.perm_middle (l₁ := [_, _, _])).symm)
theorem K_skip {l : List Int} {i B : Nat} {lv cv : Value} {S : Nat → Value} (hi : l[i]? = some 0) (h : Held w0 w (tabK l i B lv cv S :: Rs)) : Held w0 w (tabK l (i + 1) B lv cv S :: Rs) := by
  have e1 : grpF l (i + 1) = grpF l i := funext fun n => grpF_skip l i n hi
  have e2 : (fun n : Nat => grpT (S n) (grp l (i + 1) n)) = fun n => grpT (S n) (grp l i n) := funext fun n => by rw [grp_skip l i n hi]
  unfold tabK at h ⊢
  rw [e1, e2]; exact h
theorem codes_get (l : List Int) (i : Nat) (h : i < l.length) : (nums .u32 (codesOf l))[i]? = some (.int .u32 (codeAt l i : Int)) := by
  rw [nums_get]; simp [codesOf, h]
end
set_option maxRecDepth 20000 in
set_option maxHeartbeats 1600000 in
theorem build_any (v : Value) (n : Nat) (l : List Int) (most : Int) (w : World) (hv : Rd w 1 v n (ints l)) (hn : n ≤ 1000) :
    Calls Tryz.prog 75 #[v, .int .i64 most] w fun e w' =>
      (checkOf l most ≠ 0 ∧ e = .returned (.tuple #[.pointer none, .int .i64 ((checkOf l most : Nat) : Int)]) ∧ Held w w' []) ∨
      (checkOf l most = 0 ∧ ∃ B, e = .returned (.tuple #[.pointer (some ⟨B, 0, none⟩), .int .i64 0]) ∧ Held w w' [tabT l B]) := by
  have hnl : n = l.length := by have := hv.1; simpa [ints] using this.symm
  have HV := hid hv
  have HC := hid (check_any v l most w (by rw [← hnl]; exact hv) (by omega))
  have HOK := hid (fun h : checkOf l most = 0 => fine_of h)
  by_cases hc : checkOf l most = 0
  · obtain ⟨hl, hl2, _⟩ := HOK.out hc
    rw [hc] at HC
    have HCK := hid hc
    clear hc
    clear hv HOK
    have HN := hid hnl
    have HL := hid hl
    clear hl hnl
    go_enter Tryz.func75, Tryz.ntmps75
    go_wp2_with fail
    refine HC.out.mono ?_
    rintro e w1 ⟨rfl, hm1⟩
    have HM1 := hid hm1
    have HV1 := hid (HV.out.kept hm1 (fun _ _ h => h))
    have H1 := hid ((Held.start w).same hm1)
    clear hm1 HC HV
    go_wp2_with fail
    refine (clone_any v n l (Held.start w1) HV1.out hn).mono ?_
    rintro e w2 ⟨lv, rfl, h2⟩
    obtain ⟨lo, lcap, rfl, hln, _⟩ := h2.own.form
    have HV2 := hid (HV1.out.kept h2.mod (fun _ _ h => h))
    have H2 := hid (H1.out.frame h2)
    clear h2 HV1 H1
    go_wp2_with fail
    have HCD := hid (codes_any v l w2 (by rw [← HN.out]; exact HV2.out) hl2)
    rw [← HN.out] at HCD
    refine HCD.out.mono ?_
    rintro e w3 ⟨cv, rfl, ho3, hf3, hm3⟩
    obtain ⟨co, ccap, rfl, hcn, _⟩ := ho3.form
    have H3 := hid (H2.out.pushOwn ho3 hm3 hf3)
    clear ho3 hf3 hm3 H2 HV2 HCD
    have HK : Hid (Held w (w3.alloc (.cells (tabZ (.slice lo n lcap) (.slice co n ccap)).toArray 174)) [tabK l 0 w3.heap.size (.slice lo n lcap) (.slice co n ccap) (fun _ => .slice none 0 0)]) := by
      unfold Hid
      have h := H3.out.swap
      rw [HN.out] at h ⊢
      exact K_start (h.newObj _ _)
    clear H3
    have hn0 : (0 : Int) ≤ (n : Int) := Int.natCast_nonneg _
    go_wp2
    obtain ⟨B, hB⟩ : ∃ B, B = w3.heap.size := ⟨_, rfl⟩
    rw [← hB] at HK ⊢
    clear hB
    go_loopg [27] (n + 1) (fun k t27 wr => ∃ (i : Nat) (S : Nat → Value), i ≤ n ∧ n - i < k ∧ t27 = .int .i64 (i : Int) ∧ Hid (Held w wr [tabK l i B (.slice lo n lcap) (.slice co n ccap) S]))
    case atStart => exact ⟨0, _, by omega, by omega, rfl, HK⟩
    case round =>
      obtain ⟨i, S, hi, hk, rfl, HH⟩ := hrel
      clear HK
      by_cases hin : i < n
      · obtain ⟨a, hai⟩ : ∃ a, l[i]? = some a := ⟨l[i]'(by have := HN.out; omega), List.getElem?_eq_getElem _⟩
        have ha := HL.out a (List.mem_of_getElem? hai)
        obtain ⟨z, rfl⟩ := Int.eq_ofNat_of_zero_le ha.1
        have hi0 : (0 : Int) ≤ (i : Int) := Int.natCast_nonneg _
        have hi1 : (i : Int) < (n : Int) := by omega
        have hol := (unK HH.out).swap.own
        rw [← HN.out] at hol
        obtain ⟨g, off, rfl, hcell, _, _⟩ := hol.site (by omega)
        have hc1 := hcell i _ (by rw [ints_get, hai]; rfl)
        clear hcell hol
        by_cases hz : z = 0
        · subst hz
          have HR := hid (K_skip hai HH.out)
          clear hai ha HH
          go_wp2
          go_roundg (gk - 1)
          case measure => omega
          case rel => exact ⟨i + 1, S, by omega, by omega, by go_num, HR⟩
        · have hz0 : (0 : Int) < (z : Int) := by omega
          have hz16 : (z : Int) < 16 := by omega
          have hz16n : z < 16 := by omega
          have hKO := K_open HH.out hz16n
          have hco := (unK HH.out).third.own
          rw [← HN.out] at hco
          obtain ⟨g2, off2, rfl, hcell2, _, _⟩ := hco.site (by omega)
          have hc2 := hcell2 i _ (codes_get l i (by have := HN.out; omega))
          have hc3 := hKO.obj.cell (i := 1) (tabL_1 _ _ _ _)
          have HAI := hid hai
          have HZ := hid hz
          have HKO := hid hKO.drew
          obtain ⟨x, hx⟩ : ∃ x, x = codeAt l i := ⟨_, rfl⟩
          rw [← hx] at hc2
          have HX := hid hx
          clear hcell2 hco hKO hz hx hai ha HH
          go_wp2
          go_still_tail 13, (by kernel_rfl)
          change wpList _ _ _ _ _ wr.drew
          clear hc1 hc2 hc3
          generalize wr.drew = w5 at HKO ⊢
          have HA := hid (add_any B (2 + z * 2) (grp l i z).length i x (grpF l i z) _ _ _ _ HKO.out (tabL_F _ _ _ _ _ hz16n) (tabL_S _ _ _ _ _ hz16n) rfl (by have := grp_le l i z; omega))
          go_wp2_with fail
          refine HA.out.mono ?_
          rintro e w6 ⟨rfl, v', h6⟩
          rw [HX.out] at h6
          have HR := hid (K_step HAI.out (by have := HZ.out; omega) (by omega) h6)
          clear h6 HA HKO
          go_wp2
          go_roundg (gk - 1)
          case measure => omega
          case rel => exact ⟨i + 1, _, by omega, by omega, by go_num, HR⟩
      · have hi1 : ¬ (i : Int) < (n : Int) := by omega
        have HR : Hid (Held w wr [tabT l B]) := by
          unfold Hid
          have h := HH.out
          rw [show i = l.length by have := HN.out; omega] at h
          exact Held.mk (_, _, S) h
        go_wp2
        go_ret2
        exact .inr ⟨HCK.out, B, rfl, HR.out⟩
  · generalize checkOf l most = cv at HC hc ⊢
    have hI : ((cv : Int) != 0) = true := by simp; omega
    clear HOK hv
    have HCV := hid hc
    clear hc
    go_enter Tryz.func75, Tryz.ntmps75
    go_wp2_with fail
    refine HC.out.mono ?_
    rintro e w1 ⟨rfl, hm⟩
    have HM := hid ((Held.start w).same hm)
    clear hm HC
    go_wp2
    go_ret2
    exact .inl ⟨HCV.out, rfl, HM.out⟩
end Go.Proofs.YtdmnfjicjjlnnaaGreatDoor
/-
  Codes, their highest bit first, and the numbers that writers and readers take, their lowest bit first.
-/
namespace Go.Proofs.YtdmnfjicjjlnnaaGreatDoor
set_option maxRecDepth 5000
theorem bitsOf_revN (c n : Nat) (hn : n ≤ 32) : bitsOf n (revN c n) = hiBits n c := by
  refine List.ext_getElem? fun k => ?_
  by_cases hk : k < n
  · rw [bitsOf_get _ _ _ hk]
    have h := revN_bit c n (n - 1 - k) hn (by omega)
    rw [show n - 1 - (n - 1 - k) = k by omega] at h
    simp [hiBits, hk, h]
  · rw [List.getElem?_eq_none (by rw [bitsOf_length]; omega), List.getElem?_eq_none (by rw [hiBits_length]; omega)]
end Go.Proofs.YtdmnfjicjjlnnaaGreatDoor
/-
  find: the symbol whose code 15 bits begin with.
-/
namespace Go.Proofs.YtdmnfjicjjlnnaaGreatDoor
set_option maxRecDepth 5000
open Go.RowKit
section
variable {w0 w : World} {Rs : List Thing}
end
end Go.Proofs.YtdmnfjicjjlnnaaGreatDoor
/-
  Next: the symbol whose code is next, or an error.
-/
namespace Go.Proofs.YtdmnfjicjjlnnaaGreatDoor
set_option maxRecDepth 5000
open Go.RowKit
section
variable {w0 w : World} {Rs : List Thing}
end
end Go.Proofs.YtdmnfjicjjlnnaaGreatDoor
/-
  Write: a symbol's code, its highest bit first; a table that is none.
-/
namespace Go.Proofs.YtdmnfjicjjlnnaaGreatDoor
set_option maxRecDepth 5000
open Go.RowKit
section
variable {w0 w : World} {Rs : List Thing}
set_option maxRecDepth 20000 in
set_option maxHeartbeats 1600000 in
theorem write_tab (l : List Int) (B : Nat) (Bw : Place) (bs : List Nat) (s : Int) (h : Held w0 w (wrT Bw bs :: tabT l B :: Rs)) (hF : Fine l) (hlen : bs.length < 1000000000000) :
    Calls Tryz.prog 154 #[.pointer (some ⟨B, 0, none⟩), .pointer (some ⟨Bw.b, Bw.o, none⟩), .int .i64 s] w fun e w' =>
      (∃ i p : Nat, s = (i : Int) ∧ l[i]? = some (p : Int) ∧ 0 < p ∧ e = .returned (.bool true) ∧ Held w0 w' (wrT Bw (bs ++ hiBits p (codeAt l i)) :: tabT l B :: Rs)) ∨
      ((∀ i p : Nat, s = (i : Int) → l[i]? = some (p : Int) → p = 0) ∧ e = .returned (.bool false) ∧ Held w0 w' (wrT Bw bs :: tabT l B :: Rs)) := by
  obtain ⟨⟨lv, cv, S⟩, h1⟩ := h.swap.ex
  have h2 : Held w0 w (tabK l l.length B lv cv S :: wrT Bw bs :: Rs) := h1
  have hu := unK h2
  obtain ⟨n, hn⟩ : ∃ n, n = l.length := ⟨_, rfl⟩
  have hol := hu.swap.own
  have hoc := hu.third.own
  rw [← hn] at hol hoc
  obtain ⟨lo, lcap, rfl, _, _⟩ := hol.form
  obtain ⟨co, ccap, rfl, _, _⟩ := hoc.form
  have hc0 := hu.obj.cell (i := 0) (tabL_0 _ _ _ _)
  have hc1 := hu.obj.cell (i := 1) (tabL_1 _ _ _ _)
  have H0 := hid h
  have HN := hid hn
  have HF := hid hF
  have hn288 : n ≤ 288 := by have := hF.2.1; omega
  clear h h1 h2 hu hn hF
  have hn0 : (0 : Int) ≤ (n : Int) := Int.natCast_nonneg _
  have h3 : s < 0 ∨ 0 ≤ s ∧ (n : Int) ≤ s ∨ 0 ≤ s ∧ s < (n : Int) := by omega
  rcases h3 with h3 | ⟨h3, h4⟩ | ⟨h3, h4⟩
  · have hB1 : decide (s < 0) = true := by simp; omega
    have HR : Hid (∀ i p : Nat, s = (i : Int) → l[i]? = some (p : Int) → p = 0) := fun i p h => by omega
    clear hol hoc hc0 hc1
    go_enter Tryz.func154, Tryz.ntmps154
    go_wp2
    go_ret
    exact .inr ⟨HR.out, rfl, H0.out⟩
  · have hB1 : decide (s < 0) = false := by simp; omega
    have hB2 : decide ((n : Int) ≤ s) = true := by simp; omega
    have HR : Hid (∀ i p : Nat, s = (i : Int) → l[i]? = some (p : Int) → p = 0) := fun i p h h2 => by
      have := (List.getElem?_eq_some_iff.1 h2).1
      have := HN.out
      omega
    clear hol hoc
    go_enter Tryz.func154, Tryz.ntmps154
    go_wp2
    go_ret
    exact .inr ⟨HR.out, rfl, H0.out⟩
  · obtain ⟨i, rfl⟩ := Int.eq_ofNat_of_zero_le h3
    have hin : i < n := by omega
    obtain ⟨a, hai⟩ : ∃ a, l[i]? = some a := ⟨l[i]'(by have := HN.out; omega), List.getElem?_eq_getElem _⟩
    have ha := HF.out.1 a (List.mem_of_getElem? hai)
    obtain ⟨p, rfl⟩ := Int.eq_ofNat_of_zero_le ha.1
    have hB1 : decide ((i : Int) < 0) = false := by simp
    have hB2 : decide ((n : Int) ≤ (i : Int)) = false := by simp; omega
    have hB3 : decide (n ≤ i) = false := by simp; omega
    obtain ⟨g, off, rfl, hcell, _, _⟩ := hol.site (by omega)
    have hc2 := hcell i _ (by rw [ints_get, hai]; rfl)
    obtain ⟨g2, off2, rfl, hcell2, _, _⟩ := hoc.site (by omega)
    have hc3 := hcell2 i _ (codes_get l i (by have := HN.out; omega))
    have hcl := codeAt_le l i
    obtain ⟨x, hx⟩ : ∃ x, x = codeAt l i := ⟨_, rfl⟩
    rw [← hx] at hc3 hcl
    have HX := hid hx
    have hx32 : x < 4294967296 := by have := HN.out; omega
    have HAI := hid hai
    clear hcell hcell2 hol hoc hai hx hcl
    by_cases hp : p = 0
    · subst hp
      have HR : Hid (∀ j p : Nat, (i : Int) = (j : Int) → l[j]? = some (p : Int) → p = 0) := fun j p h h2 => by
        obtain rfl : i = j := by omega
        have := HAI.out.symm.trans h2
        simp only [Option.some.injEq] at this
        omega
      go_enter Tryz.func154, Tryz.ntmps154
      go_wp2
      go_ret
      exact .inr ⟨HR.out, rfl, H0.out⟩
    · have hB4 : ((p : Int) == 0) = false := by simp; omega
      have hp0 : 0 < p := by omega
      have hpI : (0 : Int) ≤ (p : Int) := Int.natCast_nonneg _
      have hp15 : p ≤ 15 := by omega
      have HP := hid (h_put H0.out (revN x p) p (by have := revN_lt x p (by omega); have h2 : 2 ^ p ≤ 2 ^ 15 := Nat.pow_le_pow_right (by decide) hp15; omega) (by omega) (by omega))
      have HE : Hid (bitsOf p (revN x p) = hiBits p (codeAt l i)) := by unfold Hid; rw [HX.out]; exact bitsOf_revN _ _ (by omega)
      have HRV := hid (reverse_any x p w hx32 (by omega))
      obtain ⟨y, hy⟩ : ∃ y, y = revN x p := ⟨_, rfl⟩
      rw [← hy] at HP HE HRV
      clear hp hy
      go_enter Tryz.func154, Tryz.ntmps154
      go_wp2_with fail
      refine HRV.out.mono ?_
      rintro e w3 ⟨rfl, rfl⟩
      go_wp2_with fail
      refine HP.out.mono ?_
      rintro e w4 ⟨rfl, hh⟩
      rw [HE.out] at hh
      have H4 := hid hh
      clear hh HP
      go_wp2
      go_ret
      exact .inl ⟨i, p, rfl, HAI.out, hp0, rfl, H4.out⟩
end
end Go.Proofs.YtdmnfjicjjlnnaaGreatDoor
/-
  A token written by two codes; the contents of a block of tokens written (coded.write). What a call reads beside what it holds: 'Reads'.
-/
namespace Go.Proofs.YtdmnfjicjjlnnaaGreatDoor
set_option maxRecDepth 5000
open Go.RowKit
section
variable {w0 w : World} {S : Thing} {size : Nat} {v : Value} {n : Nat} {xs : List Value} {Rs : List Thing}
theorem h_write_reads {B : Place} {l news : List Nat} (h : Held w0 w (wrT B l :: S :: Rs)) (hr : Reads w0 S 1 v n (u8s news)) (hn256 : ∀ b ∈ news, b < 256) (hnl : n < 1099511627776) (hl : l.length < 1099511600000) :
    Calls Tryz.prog 149 #[.pointer (some ⟨B.b, B.o, none⟩), v] w fun e w' => e = .returned (.tuple #[]) ∧ Held w0 w' (wrT B (evened l ++ bits8 news) :: S :: Rs) := by
  have hrd := hr.rd h.swap
  have hmod := h.mod
  obtain ⟨F, F2, ⟨d, hW, h2⟩, h3, hdis, hF, back⟩ := h.take2
  have hap : 0 < n → ∀ k, v.ownBlock = some k → ¬ WSet B.b d k := fun hn k hk hs => by
    rcases (hr w F2 hmod h3).2 hn k hk with h4 | h4
    · have := (hF k ((h2 k).2 hs)).1; omega
    · exact hdis k h4 ((h2 k).2 hs)
  exact (write_any B d v l news n w hW hl hrd hap hn256 hnl).mono fun _ w' ⟨h5, d', hW', hm, hmv⟩ => ⟨h5, back w' _ _ ⟨d', hW', fun _ => Iff.rfl⟩ (hm.mono fun k _ hk => (h2 k).2 hk) (moved_sub h2 hmv) hW'.lt⟩
end
section
variable {w0 w : World} {Rs : List Thing}
theorem h_sym {l : List Int} {B : Nat} {Bw : Place} {bs : List Nat} (k : Nat) (h : Held w0 w (wrT Bw bs :: tabT l B :: Rs)) (hF : Fine l) (hk : HasSym l k) (hlen : bs.length < 1000000000000) :
    Calls Tryz.prog 154 #[.pointer (some ⟨B, 0, none⟩), .pointer (some ⟨Bw.b, Bw.o, none⟩), .int .i64 (k : Int)] w fun e w' => e = .returned (.bool true) ∧ Held w0 w' (wrT Bw (bs ++ symBits l k) :: tabT l B :: Rs) :=
  (write_tab l B Bw bs (k : Int) h hF hlen).mono fun e w' h2 => by
    obtain ⟨a, ha, ha0⟩ := hk
    rcases h2 with ⟨i, p, hi, hp, hp0, he, hh⟩ | ⟨hno, _, _⟩
    · obtain rfl : k = i := by omega
      refine ⟨he, ?_⟩
      unfold symBits
      rw [hp]
      exact hh
    · have := hno k a.toNat rfl (by rw [ha]; congr 1; omega)
      omega
theorem allocSz (w : World) (o : Obj) : (w.alloc o).heap.size = w.heap.size + 1 := by
  show (w.heap.push o).size = _
  simp
def codV (lv : Value) (B1 B2 bits : Nat) : Value := .agg #[lv, .pointer (some ⟨B1, 0, none⟩), .pointer (some ⟨B2, 0, none⟩), .int .i64 (bits : Int)]
set_option maxHeartbeats 1600000 in
theorem wtok_any {lit dist : List Int} {B1 B2 bits : Nat} {Bw : Place} {acc : List Nat} (lv : Value) (t : Tok) (h : Held w0 w (wrT Bw acc :: tabT lit B1 :: tabT dist B2 :: Rs)) (hF1 : Fine lit) (hF2 : Fine dist) (hs : soundB t = true) (hb : 0 ≤ t.1 ∧ t.1 ≤ 255) (h1 : HasSym lit (symOf t)) (h2 : t.2.1 ≠ 0 → HasSym dist (dstC t)) (hacc : acc.length < 100000000000) (hlit : ∀ a ∈ lit, 0 ≤ a ∧ a ≤ 15) (hdist : ∀ a ∈ dist, 0 ≤ a ∧ a ≤ 15) :
    Calls Tryz.prog 153 #[codV lv B1 B2 bits, .pointer (some ⟨Bw.b, Bw.o, none⟩), tokV t] w fun e w' => e = .returned (.tuple #[]) ∧ Held w0 w' (wrT Bw (acc ++ tokB lit dist t) :: tabT lit B1 :: tabT dist B2 :: Rs) := by
  obtain ⟨a, n, d⟩ := t
  by_cases hn0 : n = 0
  · subst hn0
    have ha0 : 0 ≤ a := hb.1
    have ha1 : a ≤ 255 := hb.2
    obtain ⟨z, rfl⟩ := Int.eq_ofNat_of_zero_le ha0
    have hz : z ≤ 255 := by omega
    have h1' : HasSym lit z := h1
    have HH := hid (h_sym z ((h.alloc (.cells #[lv, .pointer (some ⟨B1, 0, none⟩), .pointer (some ⟨B2, 0, none⟩), .int .i64 (bits : Int)] 108)).alloc (.cells #[.int .u8 (z : Int), .int .i64 0, .int .i64 d] 80)) hF1 h1' (by omega))
    have hw : IntKind.i64.wrap (z : Int) = (z : Int) := wrap_nat z (by omega)
    have hE : Hid (symBits lit z = tokB lit dist ((z : Int), 0, d)) := by
      unfold Hid tokB
      rw [if_pos rfl]; rfl
    clear h h1 h2 h1' hs hb
    unfold codV tokV
    simp only
    go_enter Tryz.func153, Tryz.ntmps153
    go_wp2_with fail
    refine HH.out.mono ?_
    rintro e w3 ⟨rfl, hh⟩
    rw [hE.out] at hh
    have H3 := hid hh
    clear hh HH
    go_wp2
    refine bodyPost_ret (results_none rfl _ _ _) rfl ?_
    exact ⟨rfl, H3.out⟩
  · obtain ⟨ha, ⟨hn1, hn2⟩, hd1, hd2⟩ := sound_match hs hn0
    have ha : a = 0 := ha
    have hn1 : 3 ≤ n := hn1
    have hn2 : n ≤ 258 := hn2
    have hd1 : 1 ≤ d := hd1
    have hd2 : d ≤ 32768 := hd2
    subst ha
    have HLC := lenC_is hs hn0
    have HDC := dstC_is hs hn0
    have h1' : HasSym lit (257 + lenC (0, n, d)) := by
      unfold symOf at h1
      rw [if_neg hn0] at h1
      exact h1
    have h2' := h2 hn0
    have hE : Hid (tokB lit dist (0, n, d) = symBits lit (257 + lenC (0, n, d)) ++ (bitsOf (lX (lenC (0, n, d))) (n.toNat - lB (lenC (0, n, d))) ++ (symBits dist (dstC (0, n, d)) ++ bitsOf (dX (dstC (0, n, d))) (d.toNat - dB (dstC (0, n, d)))))) := by
      unfold Hid tokB
      rw [if_neg hn0]
    generalize lenC (0, n, d) = c at HLC h1' hE
    generalize dstC (0, n, d) = q at HDC h2' hE
    obtain ⟨n, rfl⟩ := Int.eq_ofNat_of_zero_le (show 0 ≤ n by omega)
    obtain ⟨d, rfl⟩ := Int.eq_ofNat_of_zero_le (show 0 ≤ d by omega)
    simp only [Int.toNat_natCast] at HLC HDC hE
    have hlx := lX_le c HLC.1
    have hdx := dX_le q HDC.1
    have hlf := len_fits HLC (by omega)
    have hdf := dist_fits HDC (by omega)
    have hl5 : 2 ^ lX c ≤ 2 ^ 5 := Nat.pow_le_pow_right (by decide) hlx
    have hd13 : 2 ^ dX q ≤ 2 ^ 13 := Nat.pow_le_pow_right (by decide) hdx
    obtain ⟨x, hx⟩ : ∃ x, x = n - lB c := ⟨_, rfl⟩
    obtain ⟨y, hy⟩ : ∃ y, y = d - dB q := ⟨_, rfl⟩
    obtain ⟨lx, hlx2⟩ : ∃ lx, lx = lX c := ⟨_, rfl⟩
    obtain ⟨dx, hdx2⟩ : ∃ dx, dx = dX q := ⟨_, rfl⟩
    rw [← hx] at hlf hE
    rw [← hy] at hdf hE
    rw [← hlx2] at hlf hE hl5 hlx
    rw [← hdx2] at hdf hE hd13 hdx
    have hx32 : x < 32 := by omega
    have hy32 : y < 8192 := by omega
    have HL := hid (lenCode_any ((n : Nat) : Int))
    have HD := hid (distCode_any ((d : Nat) : Int))
    have hwx : IntKind.u32.wrap (x : Int) = (x : Int) := by
      unfold IntKind.wrap; simp [IntKind.bits, IntKind.signed]; omega
    have hwy : IntKind.u32.wrap (y : Int) = (y : Int) := by
      unfold IntKind.wrap; simp [IntKind.bits, IntKind.signed]; omega
    have hL1 : Hid (∀ v, IsLenCode ((n : Nat) : Int) v → v = .tuple #[.int .i64 ((257 + c : Nat) : Int), .int .i64 (lx : Int), .int .i64 (x : Int)]) := hid fun v hv => by
      rcases hv with ⟨h, _⟩ | ⟨k, c2, q2, x2, z2, e1, _, _, e2, rfl, rfl, rfl, rfl⟩
      · omega
      · obtain rfl : n = k := by omega
        obtain rfl := e2.same HLC
        rw [hlx2, hx]
    have hD1 : Hid (∀ v, IsDistCode ((d : Nat) : Int) v → v = .tuple #[.int .i64 (q : Int), .int .i64 (dx : Int), .int .i64 (y : Int)]) := hid fun v hv => by
      rcases hv with ⟨h, _⟩ | ⟨k, c2, q2, x2, z2, e1, _, _, e2, rfl, rfl, rfl, rfl⟩
      · omega
      · obtain rfl : d = k := by omega
        obtain rfl := e2.same HDC
        rw [hdx2, hy, Nat.zero_add]
    have hsl : (symBits lit (257 + c)).length ≤ 15 := by rw [symBits_length]; exact lenAt_le (m := 15) hlit _
    have hsd : (symBits dist q).length ≤ 15 := by rw [symBits_length]; exact lenAt_le (m := 15) hdist _
    have HA := hid ((h.newObj [lv, .pointer (some ⟨B1, 0, none⟩), .pointer (some ⟨B2, 0, none⟩), .int .i64 (bits : Int)] 108).newObj [.int .u8 0, .int .i64 ((n : Nat) : Int), .int .i64 ((d : Nat) : Int)] 80)
    rw [allocSz] at HA
    have HA2 := hid (HA.out.perm ((List.perm_append_comm (l₁ := [_, _]) (l₂ := [_, _, _])).append_right Rs))
    have HC := hid (And.intro HLC.1 (And.intro HDC.1 (And.intro h1' h2')))
    clear h h1 h2 h1' h2' hs hb HLC HDC hx hy hlx2 hdx2 hlit hdist
    have hcI : (257 + c : Nat) < 288 := by have := HC.out.1; omega
    unfold codV tokV
    simp only
    go_enter Tryz.func153, Tryz.ntmps153
    go_wp2_with fail
    refine (HL.out _).mono ?_
    rintro e w1 ⟨⟨v, rfl, hv⟩, rfl⟩
    obtain rfl := hL1.out v hv
    clear hv HL
    have HW1 := hid (h_sym (257 + c) HA2.out hF1 HC.out.2.2.1 (by omega))
    go_wp2_with fail
    refine HW1.out.mono ?_
    rintro e w2 ⟨rfl, hh⟩
    have k0 := hh.drop.drop.drop.obj.cell (i := 2) rfl
    have k1 := hh.drop.drop.drop.drop.obj.cell (i := 1) rfl
    have k2 := hh.drop.drop.drop.drop.obj.cell (i := 2) rfl
    have HW2 := hid (h_put hh x lx (by omega) (by omega) (by rw [List.length_append]; omega))
    clear hh HW1
    go_wp2_with fail
    refine HW2.out.mono ?_
    rintro e w3 ⟨rfl, hh⟩
    have j0 := hh.drop.drop.drop.obj.cell (i := 2) rfl
    have j1 := hh.drop.drop.drop.drop.obj.cell (i := 1) rfl
    have j2 := hh.drop.drop.drop.drop.obj.cell (i := 2) rfl
    have HW3 := hid (h_sym q hh.mid hF2 HC.out.2.2.2 (by simp only [List.length_append, bitsOf_length]; omega))
    clear hh HW2 k0 k1 k2
    go_wp2_with fail
    refine (HD.out _).mono ?_
    rintro e w1 ⟨⟨v, rfl, hv⟩, rfl⟩
    obtain rfl := hD1.out v hv
    clear hv HD
    go_wp2_with fail
    refine HW3.out.mono ?_
    rintro e w4 ⟨rfl, hh⟩
    have HW4 := hid (h_put hh.mid y dx (by omega) (by omega) (by simp only [List.length_append, bitsOf_length]; omega))
    clear hh HW3 j0 j1 j2
    go_wp2_with fail
    refine HW4.out.mono ?_
    rintro e w5 ⟨rfl, hh⟩
    have hE2 : acc ++ symBits lit (257 + c) ++ bitsOf lx x ++ symBits dist q ++ bitsOf dx y = acc ++ tokB lit dist (0, (n : Int), (d : Int)) := by rw [hE.out]; simp
    rw [hE2] at hh
    have H9 := hid (hh.perm ((List.perm_append_comm (l₁ := [_, _, _]) (l₂ := [_, _])).append_right Rs)).drop.drop
    clear hh hE2 HW4
    go_wp2
    go_end0
    exact ⟨rfl, H9.out⟩
theorem flat_tok (lit dist : List Int) (l : List Tok) (i : Nat) (t : Tok) (h : l[i]? = some t) : (l.take (i + 1)).flatMap (tokB lit dist) = (l.take i).flatMap (tokB lit dist) ++ tokB lit dist t := by
  rw [List.take_add_one, h]; simp
set_option maxHeartbeats 1600000 in
theorem cwrite_any {lit dist : List Int} {B1 B2 bits n : Nat} {Bw : Place} {acc : List Nat} {S : Thing} (lv : Value) (l : List Tok) (h : Held w0 w (wrT Bw acc :: tabT lit B1 :: tabT dist B2 :: S :: Rs)) (hr : Reads w0 S 3 lv n (toksV l)) (hF1 : Fine lit) (hF2 : Fine dist) (hs : ∀ t ∈ l, soundB t = true) (hb : byteOK l) (hc : Covers lit dist l) (hn : n < 1048576) (hacc : acc.length < 10000000000) :
    Calls Tryz.prog 152 #[codV lv B1 B2 bits, .pointer (some ⟨Bw.b, Bw.o, none⟩)] w fun e w' => e = .returned (.tuple #[]) ∧ Held w0 w' (wrT Bw (acc ++ toksB lit dist l) :: tabT lit B1 :: tabT dist B2 :: S :: Rs) := by
  have hrd := hr.rd h.drop.drop.drop
  obtain ⟨ao, cap, rfl, _, _⟩ := hrd.form
  have HL := hid hrd.toks_len
  have HR := hid hr
  have HP := hid (And.intro hs (And.intro hb hc))
  have hn0 : (0 : Int) ≤ (n : Int) := Int.natCast_nonneg _
  have H0 := hid ((h.newObj [.slice ao n cap, .pointer (some ⟨B1, 0, none⟩), .pointer (some ⟨B2, 0, none⟩), .int .i64 (bits : Int)] 108).perm ((List.perm_append_comm (l₁ := [_]) (l₂ := [_, _, _, _])).append_right Rs))
  obtain ⟨C, hC⟩ : ∃ C, C = w.heap.size := ⟨_, rfl⟩
  have HAC := hid hacc
  have k0 := H0.out.drop.drop.drop.drop.obj.cell (i := 0) rfl
  clear hrd hr h hs hb hc hC hacc
  unfold codV
  go_enter Tryz.func152, Tryz.ntmps152
  go_wp2
  clear k0
  go_loopg [9] (n + 1) (fun k t9 wr => ∃ i : Nat, i ≤ n ∧ n - i < k ∧ t9 = .int .i64 (i : Int) ∧
    Hid (Held w0 wr (wrT Bw (acc ++ (l.take i).flatMap (tokB lit dist)) :: tabT lit B1 :: tabT dist B2 :: S :: objT w.heap.size [.slice ao n cap, .pointer (some ⟨B1, 0, none⟩), .pointer (some ⟨B2, 0, none⟩), .int .i64 (bits : Int)] 108 :: Rs)))
  case atStart =>
    refine ⟨0, by omega, by omega, rfl, ?_⟩
    rw [List.take_zero, List.flatMap_nil, List.append_nil]
    exact H0
  case round =>
    obtain ⟨i, hi, hk, rfl, HH⟩ := hrel
    have hi0 : (0 : Int) ≤ (i : Int) := Int.natCast_nonneg _
    have hlen : Hid ((acc ++ (l.take i).flatMap (tokB lit dist)).length < 100000000000) := by
      have h1 := toksB_short hF1.1 hF2.1 (l := l.take i) fun t ht => HP.out.1 t (List.mem_of_mem_take ht)
      unfold toksB at h1
      rw [List.length_append] at h1
      rw [List.length_append]
      have h2 : (l.take i).length ≤ i := by simp; omega
      have h3 := HAC.out
      exact hid (by omega)
    by_cases hin : i < n
    · have hiI : (i : Int) < (n : Int) := by omega
      obtain ⟨⟨ta, tl, td⟩, ht⟩ : ∃ t, l[i]? = some t := ⟨l[i]'(by have := HL.out; omega), List.getElem?_eq_getElem _⟩
      obtain ⟨g, off, rfl, c0, c1, c2⟩ := (HR.out.rd HH.out.drop.drop.drop).tok ht
      have htm := List.mem_of_getElem? ht
      have HA := HH.out.alloc (.cells #[.int .u8 ta, .int .i64 tl, .int .i64 td] 80)
      have k0 := HA.drop.drop.drop.drop.obj.cell (i := 0) rfl
      have k1 := HA.drop.drop.drop.drop.obj.cell (i := 1) rfl
      have k2 := HA.drop.drop.drop.drop.obj.cell (i := 2) rfl
      have k3 := HA.drop.drop.drop.drop.obj.cell (i := 3) rfl
      have HW := hid (wtok_any (bits := bits) (.slice (some ⟨g, off, none⟩) n cap) (ta, tl, td) HA hF1 hF2 (HP.out.1 _ htm) (HP.out.2.1 _ htm) (HP.out.2.2.2 _ htm).1 (HP.out.2.2.2 _ htm).2 hlen.out hF1.1 hF2.1)
      rw [List.append_assoc, ← flat_tok lit dist l i _ ht] at HW
      unfold codV tokV at HW
      simp only at HW
      clear HA ht htm
      go_wp2_with fail
      refine HW.out.mono ?_
      rintro e w2 ⟨rfl, hh⟩
      have H2 := hid hh
      clear hh HW c0 c1 c2 k0 k1 k2 k3
      go_wp2
      go_roundg (gk - 1)
      case measure => omega
      case rel => exact ⟨i + 1, by omega, by omega, by go_num, H2⟩
    · have hiI : ¬ (i : Int) < (n : Int) := by omega
      have hE : Hid (acc ++ (l.take i).flatMap (tokB lit dist) ++ symBits lit 256 = acc ++ toksB lit dist l) := by
        rw [List.take_of_length_le (by have := HL.out; omega), toksB, List.append_assoc]
        exact hid rfl
      have k1 := HH.out.drop.drop.drop.drop.obj.cell (i := 1) rfl
      have HW := hid (h_sym 256 HH.out hF1 HP.out.2.2.1 (by have := hlen.out; omega))
      rw [hE.out] at HW
      clear HH
      go_wp2_with fail
      refine HW.out.mono ?_
      rintro e w2 ⟨rfl, hh⟩
      have H2 := hid (hh.perm ((List.perm_append_comm (l₁ := [_, _, _, _]) (l₂ := [_])).append_right Rs)).drop
      clear hh HW k1
      go_wp2
      go_end0
      exact ⟨rfl, H2.out⟩
end
end Go.Proofs.YtdmnfjicjjlnnaaGreatDoor
