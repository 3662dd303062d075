/-
  The table as a thing in memory: its object, the lengths and codes, a slice of symbols for each number of bits; slices.Clone; what 'add' does to a group.
-/
import Derived.Test.YtpecdappchkdiaaFam
import Derived.Test.YtpecdappchkdiaaTabG
import Derived.Test.YtpecdappchkdiaaSlices
import Derived.Test.YtpecdappchkdiaaHeldApp
import Derived.Test.YtpecdappchkdiaaPut
import Derived.Test.YtpecdappchkdiaaCode3
import Derived.Test.YtpecdappchkdiaaCodeRef
import Derived.Test.YtpecdappchkdiaaBitsH2
import Derived.WalkSpells
namespace Go.Proofs.Ytpecdappchkdiaa
open Go.RowKit

theorem infoIntT : (Try.prog.info? 3).map (fun i => (i.zero, i.size, i.bytes)) = some (some (Value.int .i64 0), 1, 8) := by kernel_rfl
/-- the cells of a table -/
def tabC (lv cv : Value) (F : Nat → Nat) (S : Nat → Value) (i : Nat) : Value :=
  if i = 0 then lv else if i = 1 then cv else if i % 2 = 0 then .int .u32 (F (i / 2 - 1) : Int) else S (i / 2 - 1)
def tabL (lv cv : Value) (F : Nat → Nat) (S : Nat → Value) : List Value := (List.range 34).map (tabC lv cv F S)
theorem tabL_get (lv cv : Value) (F : Nat → Nat) (S : Nat → Value) (i : Nat) (h : i < 34) : (tabL lv cv F S)[i]? = some (tabC lv cv F S i) := by
  simp [tabL, h]
theorem tabL_0 (lv cv : Value) (F : Nat → Nat) (S : Nat → Value) : (tabL lv cv F S)[0]? = some lv := rfl
theorem tabL_1 (lv cv : Value) (F : Nat → Nat) (S : Nat → Value) : (tabL lv cv F S)[1]? = some cv := rfl
theorem tabL_F (lv cv : Value) (F : Nat → Nat) (S : Nat → Value) (n : Nat) (h : n < 16) : (tabL lv cv F S)[2 + n * 2]? = some (.int .u32 (F n : Int)) := by
  rw [tabL_get _ _ _ _ _ (by omega)]
  unfold tabC
  rw [if_neg (by omega), if_neg (by omega), if_pos (by omega), show (2 + n * 2) / 2 - 1 = n by omega]
theorem tabL_S (lv cv : Value) (F : Nat → Nat) (S : Nat → Value) (n : Nat) (h : n < 16) : (tabL lv cv F S)[2 + n * 2 + 1]? = some (S n) := by
  rw [tabL_get _ _ _ _ _ (by omega)]
  unfold tabC
  rw [if_neg (by omega), if_neg (by omega), if_neg (by omega), show (2 + n * 2 + 1) / 2 - 1 = n by omega]
def upd {α : Type} (f : Nat → α) (n : Nat) (u : α) (k : Nat) : α := if k = n then u else f k
theorem upd_self {α : Type} (f : Nat → α) (n : Nat) (u : α) : upd f n u n = u := by simp [upd]
theorem upd_ne {α : Type} (f : Nat → α) {n k : Nat} (u : α) (h : k ≠ n) : upd f n u k = f k := by simp [upd, h]
theorem tabL_set (lv cv : Value) (F : Nat → Nat) (S : Nat → Value) (n x : Nat) (u : Value) (h : n < 16) :
    ((tabL lv cv F S).set (2 + n * 2) (.int .u32 (x : Int))).set (2 + n * 2 + 1) u = tabL lv cv (upd F n x) (upd S n u) := by
  refine List.ext_getElem? fun i => ?_
  have hlen : (tabL lv cv F S).length = 34 := by simp [tabL]
  by_cases hi : i < 34
  · rw [tabL_get _ _ _ _ _ hi, List.getElem?_set, List.getElem?_set, List.length_set, hlen, tabL_get _ _ _ _ _ hi]
    by_cases h1 : 2 + n * 2 + 1 = i
    · subst h1
      rw [if_pos rfl, if_pos hi]
      unfold tabC
      rw [if_neg (by omega), if_neg (by omega), if_neg (by omega), show (2 + n * 2 + 1) / 2 - 1 = n by omega, upd_self]
    · rw [if_neg h1]
      by_cases h2 : 2 + n * 2 = i
      · subst h2
        rw [if_pos rfl, if_pos hi]
        unfold tabC
        rw [if_neg (by omega), if_neg (by omega), if_pos (by omega), show (2 + n * 2) / 2 - 1 = n by omega, upd_self]
      · rw [if_neg h2]
        unfold tabC
        split
        · rfl
        · split
          · rfl
          · rw [upd_ne _ _ (by omega), upd_ne _ _ (by omega)]
  · rw [List.getElem?_eq_none (by simp [tabL]; omega), List.getElem?_eq_none (by simp [tabL]; omega)]
theorem set_same {L : List Value} {i : Nat} {u : Value} (h : L[i]? = some u) : L.set i u = L := by
  refine List.ext_getElem? fun j => ?_
  rw [List.getElem?_set]
  split
  · subst_vars; rw [if_pos (List.getElem?_eq_some_iff.1 h).1, h]
  · rfl
/-- a slice of symbols -/
def grpT (v : Value) (xs : List Nat) : Thing := ownT 3 1 v xs.length (nums .i64 xs)
/-- The table of the lengths l, of which the first k symbols are in their groups. -/
def tabK (l : List Int) (k B : Nat) (lv cv : Value) (S : Nat → Value) : Thing :=
  allT [objT B (tabL lv cv (grpF l k) S) 58, ownT 3 1 lv l.length (ints l), ownT 53 1 cv l.length (nums .u32 (codesOf l)), allT ((List.range 16).map fun n => grpT (S n) (grp l k n))]
def tabT (l : List Int) (B : Nat) : Thing := exT fun p : Value × Value × (Nat → Value) => tabK l l.length B p.1 p.2.1 p.2.2
section
variable {w0 w : World} {Rs : List Thing}
theorem unK {l : List Int} {k B : Nat} {lv cv : Value} {S : Nat → Value} (h : Held w0 w (tabK l k B lv cv S :: Rs)) :
    Held w0 w (objT B (tabL lv cv (grpF l k) S) 58 :: ownT 3 1 lv l.length (ints l) :: ownT 53 1 cv l.length (nums .u32 (codesOf l)) :: allT ((List.range 16).map fun n => grpT (S n) (grp l k n)) :: Rs) :=
  Held.unall h
theorem mkK {l : List Int} {k B : Nat} {lv cv : Value} {S : Nat → Value}
    (h : Held w0 w (objT B (tabL lv cv (grpF l k) S) 58 :: ownT 3 1 lv l.length (ints l) :: ownT 53 1 cv l.length (nums .u32 (codesOf l)) :: allT ((List.range 16).map fun n => grpT (S n) (grp l k n)) :: Rs)) :
    Held w0 w (tabK l k B lv cv S :: Rs) := Held.all (L := [_, _, _, _]) h
/-- slices.Clone -/
theorem clone_any (v : Value) (n : Nat) (l : List Int) (h : Held w0 w Rs) (hv : Rd w 1 v n (ints l)) (hn : n ≤ 1000) :
    Calls Try.prog 28 #[v] w fun e w' => ∃ v', e = .returned v' ∧ Held w0 w' (ownT 3 1 v' n (ints l) :: Rs) := by
  obtain ⟨i0, hi0, hz0, hz1, hz2⟩ := info_parts infoIntT
  have q22 : ∀ (w : World) (a : Option Addr) (n c n' c' : Nat), (binOp .eql 22 (.slice a n c) (.slice none n' c')).run Try.prog w = .ok (.bool a.isNone) w := fun w a n c n' c' => Lib.run_eql_slice_nil w _ _ a n c n' c' Try.underlying22
  obtain ⟨hl, ao, cap, rfl, hnc, hcm, h0, hr⟩ := hv
  cases ao with
  | none =>
    obtain rfl := h0 rfl
    obtain rfl : n = 0 := by omega
    have hx : ints l = [] := List.eq_nil_of_length_eq_zero (by omega)
    rw [hx]
    have HH := hid (h.nil 3 1)
    clear h hl h0 hr
    go_enter Try.func28, Try.ntmps28
    go_wp2
    go_ret
    exact ⟨_, rfl, HH.out⟩
  | some a =>
    have hv : Rd w 1 (.slice (some a) n cap) n (ints l) := ⟨hl, _, _, rfl, hnc, hcm, h0, hr⟩
    have H1 := hid (h.lit 3 1 [] 0 (by decide) rfl)
    have HV := hid (hv.kept ((Mod.refl w (fun _ => False)).alloc (.cells #[] 3)) (fun _ _ h => h))
    clear h hl h0 hr hv
    go_enter Try.func28, Try.ntmps28
    go_wp2_with (refine wpList_app_held rfl (.tmp 5) (.tmp 6) 22 rfl 3 i0 (.int .i64 0) 1 8 Try.underlying22 hi0 hz0 hz1 hz2 rfl (by decide) _ 0 [] rfl H1.out _ n (ints l) rfl HV.out (ints_one l) n (by omega) (by unfold maxLen; omega) (by omega) ?_; intro ao1 cap1 w1 h1; have H2 := hid h1; clear h1)
    go_ret
    exact ⟨_, rfl, H2.out⟩
/-- a symbol joins a group -/
theorem add_any (B o m x c : Nat) (f : Nat) (cs : List Value) (T : TypeId) (v : Value) (xs : List Nat) (h : Held w0 w (objT B cs T :: grpT v xs :: Rs)) (hf : cs[o]? = some (.int .u32 (f : Int))) (hv : cs[o + 1]? = some v) (hm : xs.length = m) (hm2 : m ≤ 1000) :
    Calls Try.prog 30 #[.pointer (some ⟨B, o, none⟩), .int .i64 (x : Int), .int .u32 (c : Int)] w fun e w' => e = .returned (.tuple #[]) ∧ ∃ v',
      Held w0 w' (objT B ((cs.set o (.int .u32 ((if m = 0 then c else f : Nat) : Int))).set (o + 1) v') T :: grpT v' (xs ++ [x]) :: Rs) := by
  obtain ⟨i0, hi0, hz0, hz1, hz2⟩ := info_parts infoIntT
  unfold grpT at h ⊢
  rw [hm] at h
  obtain ⟨ao, cap, rfl, hnc, hcm⟩ := h.swap.own.form
  have hxs : nums .i64 (xs ++ [x]) = nums .i64 xs ++ [.int .i64 (x : Int)] := by simp [nums]
  rw [List.length_append, hm, List.length_singleton, hxs]
  have hc0 := h.obj.cell hf
  have hc1 := h.obj.cell hv
  have hf0 := h.obj.frozen o
  have HH := hid h
  have HF := hid hf
  have HV := hid hv
  have hm0 : (0 : Int) ≤ (m : Int) := Int.natCast_nonneg _
  clear h hf hv hxs hm
  by_cases h0 : m = 0
  · have hI : ((m : Int) == 0) = true := by simp; omega
    have HS := hid (HH.out.setObj o (.int .u32 (c : Int)))
    have HE : Hid ((cs.set o (.int .u32 (c : Int)))[o + 1]? = some (.slice ao m cap)) := by unfold Hid; rw [List.getElem?_set_ne (by omega)]; exact HV.out
    have hc2 := HS.out.obj.cell (i := o + 1) HE.out
    have hf2 := HS.out.obj.frozen (o + 1)
    rw [if_pos h0]
    clear HH HF h0
    go_enter Try.func30, Try.ntmps30
    go_wp2_with ((with_reducible show wpList _ _ _ (⟨some 23, _, _, _, _, _⟩ :: _) _ _); have HL := hid ((HS.out.swap).litN 3 1 [.int .i64 (x : Int)] 1 (by decide) rfl w.heap.size (by simp [World.setCell])).swap; refine wpList_app_held rfl (.tmp 20) (.tmp 22) 22 rfl 3 i0 (.int .i64 0) 1 8 Try.underlying22 hi0 hz0 hz1 hz2 rfl (by decide) _ m (nums .i64 xs) rfl HL.out _ 1 [.int .i64 (x : Int)] rfl HL.out.swap.own.rd (by simp [Value.oneCell']) (m + 1) rfl (by unfold maxLen; omega) (by omega) ?_; intro ao1 cap1 w1 h1; have hf3 := h1.third.obj.frozen (o + 1); have hc3 := h1.third.obj.cell (i := o + 1) HE.out; have HK := hid h1; clear h1)
    go_end0
    exact ⟨rfl, _, (HK.out.swap.drop.swap).setObj (o + 1) _⟩
  · have hI : ((m : Int) == 0) = false := by simp; omega
    rw [if_neg h0, set_same HF.out]
    clear HF
    go_enter Try.func30, Try.ntmps30
    go_wp2_with ((with_reducible show wpList _ _ _ (⟨some 23, _, _, _, _, _⟩ :: _) _ _); have HL := hid ((HH.out.swap).litN 3 1 [.int .i64 (x : Int)] 1 (by decide) rfl w.heap.size rfl).swap; refine wpList_app_held rfl (.tmp 20) (.tmp 22) 22 rfl 3 i0 (.int .i64 0) 1 8 Try.underlying22 hi0 hz0 hz1 hz2 rfl (by decide) _ m (nums .i64 xs) rfl HL.out _ 1 [.int .i64 (x : Int)] rfl HL.out.swap.own.rd (by simp [Value.oneCell']) (m + 1) rfl (by unfold maxLen; omega) (by omega) ?_; intro ao1 cap1 w1 h1; have hf3 := h1.third.obj.frozen (o + 1); have hc3 := h1.third.obj.cell (i := o + 1) HV.out; have HK := hid h1; clear h1)
    go_end0
    exact ⟨rfl, _, (HK.out.swap.drop.swap).setObj (o + 1) _⟩
end
end Go.Proofs.Ytpecdappchkdiaa
