/-
  A stable sort by weight: by insertion, in blocks, merged in turns. No program is named here.
-/
import Derived.Test.YthibpnkdhbkakaaGreatDoorZq23
import Derived.Test.YthibpnkdhbkakaaGreatDoorProg
import Derived.Test.YthibpnkdhbkakaaGreatDoorZq04
import Derived.Test.YthibpnkdhbkakaaGreatDoorZq02
import Derived.StillTailTactics
import Derived.BigRegion
import Derived.Test.YthibpnkdhbkakaaGreatDoorZq22
import Derived.Sort.LoopGhostIn
namespace Go.Proofs.YthibpnkdhbkakaaGreatDoor
set_option maxRecDepth 5000

/-- a weight, and whose it is -/
abbrev Itm := Nat × Int
def ins (x : Itm) : List Itm → List Itm
  | [] => [x]
  | y :: l => if x.1 ≤ y.1 then x :: y :: l else y :: ins x l
def mrg (u v : List Itm) : List Itm := u.foldr ins v
def ssort (l : List Itm) : List Itm := mrg l []
/-- the lightest first -/
def Asc : List Itm → Prop
  | [] => True
  | x :: l => (∀ y ∈ l, x.1 ≤ y.1) ∧ Asc l

theorem ins_comm (x y : Itm) (h : x.1 ≠ y.1) : ∀ l, ins x (ins y l) = ins y (ins x l)
  | [] => by
    simp only [ins]
    by_cases h1 : x.1 ≤ y.1
    · rw [if_pos h1, if_neg (by omega)]
    · rw [if_neg h1, if_pos (by omega)]
  | z :: l => by
    simp only [ins]
    by_cases h1 : x.1 ≤ z.1 <;> by_cases h2 : y.1 ≤ z.1
    · rw [if_pos h1, if_pos h2]
      simp only [ins]
      by_cases h3 : x.1 ≤ y.1
      · rw [if_pos h3, if_neg (by omega), if_pos h2]
      · rw [if_neg h3, if_pos h1, if_pos (by omega)]
    · rw [if_pos h1, if_neg h2]
      simp only [ins]
      rw [if_pos h1, if_neg (by omega), if_neg h2]
    · rw [if_neg h1, if_pos h2]
      simp only [ins]
      rw [if_neg (by omega), if_neg h1, if_pos h2]
    · rw [if_neg h1, if_neg h2]
      simp only [ins]
      rw [if_neg h1, if_neg h2, ins_comm x y h l]
theorem mrg_ins (x : Itm) (v : List Itm) : ∀ l, mrg (ins x l) v = ins x (mrg l v)
  | [] => rfl
  | y :: l => by
    simp only [ins]
    by_cases h : x.1 ≤ y.1
    · rw [if_pos h]; rfl
    · rw [if_neg h]
      show ins y (mrg (ins x l) v) = ins x (ins y (mrg l v))
      rw [mrg_ins x v l, ins_comm x y (by omega)]
theorem mrg_ssort (v : List Itm) : ∀ u, mrg (ssort u) v = mrg u v
  | [] => rfl
  | x :: u => by
    show mrg (ins x (ssort u)) v = ins x (mrg u v)
    rw [mrg_ins, mrg_ssort v u]
theorem mrg_app (u u2 v : List Itm) : mrg (u ++ u2) v = mrg u (mrg u2 v) := List.foldr_append
/-- sorted in two blocks, and merged -/
theorem ssort_app (u v : List Itm) : ssort (u ++ v) = mrg (ssort u) (ssort v) := by
  rw [mrg_ssort]; exact mrg_app u v []
theorem ins_perm (x : Itm) : ∀ l, (ins x l).Perm (x :: l)
  | [] => List.Perm.refl _
  | y :: l => by
    rw [ins]
    split
    · exact List.Perm.refl _
    · exact ((ins_perm x l).cons y).trans (List.Perm.swap x y l)
theorem mrg_perm (v : List Itm) : ∀ u, (mrg u v).Perm (u ++ v)
  | [] => List.Perm.refl _
  | x :: u => (ins_perm x _).trans ((mrg_perm v u).cons x)
theorem ssort_perm (l : List Itm) : (ssort l).Perm l := by
  have := mrg_perm [] l
  rw [List.append_nil] at this; exact this
theorem mrg_length (u v : List Itm) : (mrg u v).length = u.length + v.length := by rw [(mrg_perm v u).length_eq, List.length_append]
theorem ssort_length (l : List Itm) : (ssort l).length = l.length := (ssort_perm l).length_eq
theorem ins_asc (x : Itm) : ∀ l, Asc l → Asc (ins x l)
  | [], _ => ⟨by simp, trivial⟩
  | y :: l, h => by
    rw [ins]
    by_cases hx : x.1 ≤ y.1
    · rw [if_pos hx]
      refine ⟨fun z hz => ?_, h⟩
      rcases List.mem_cons.1 hz with hz | hz
      · rw [hz]; exact hx
      · have := h.1 z hz; omega
    · rw [if_neg hx]
      refine ⟨fun z hz => ?_, ins_asc x l h.2⟩
      rcases List.mem_cons.1 ((ins_perm x l).mem_iff.1 hz) with hz | hz
      · rw [hz]; omega
      · exact h.1 z hz
theorem mrg_asc (v : List Itm) (hv : Asc v) : ∀ u, Asc (mrg u v)
  | [] => hv
  | x :: u => ins_asc x _ (mrg_asc v hv u)
theorem ssort_asc (l : List Itm) : Asc (ssort l) := mrg_asc [] trivial l
theorem ins_past (x : Itm) : ∀ (a t : List Itm), (∀ y ∈ a, y.1 < x.1) → ins x (a ++ t) = a ++ ins x t
  | [], _, _ => rfl
  | y :: a, t, h => by
    have h1 := h y List.mem_cons_self
    rw [List.cons_append, ins, if_neg (by omega), ins_past x a t fun z hz => h z (List.mem_cons_of_mem _ hz)]; rfl
theorem ins_ahead (x : Itm) : ∀ (a t : List Itm), (∀ y ∈ t, x.1 ≤ y.1) → ins x (a ++ t) = ins x a ++ t
  | [], [], _ => rfl
  | [], y :: t, h => by
    have h1 := h y List.mem_cons_self
    rw [List.nil_append]
    simp only [ins]
    rw [if_pos h1]; rfl
  | y :: a, t, h => by
    rw [List.cons_append, ins, ins]
    by_cases h1 : x.1 ≤ y.1
    · rw [if_pos h1, if_pos h1]; rfl
    · rw [if_neg h1, if_neg h1, ins_ahead x a t h]; rfl
theorem mrg_past (a t : List Itm) : ∀ u : List Itm, (∀ x ∈ u, ∀ y ∈ a, y.1 < x.1) → mrg u (a ++ t) = a ++ mrg u t
  | [], _ => rfl
  | x :: u, h => by
    show ins x (mrg u (a ++ t)) = a ++ ins x (mrg u t)
    rw [mrg_past a t u fun z hz => h z (List.mem_cons_of_mem _ hz), ins_past x a _ (h x List.mem_cons_self)]
theorem mrg_ahead (t : List Itm) : ∀ (u a : List Itm), (∀ x ∈ u, ∀ y ∈ t, x.1 ≤ y.1) → mrg u (a ++ t) = mrg u a ++ t
  | [], _, _ => rfl
  | x :: u, a, h => by
    show ins x (mrg u (a ++ t)) = ins x (mrg u a) ++ t
    rw [mrg_ahead t u a fun z hz => h z (List.mem_cons_of_mem _ hz), ins_ahead x _ t (h x List.mem_cons_self)]
theorem asc_app : ∀ (u v : List Itm), Asc (u ++ v) ↔ Asc u ∧ Asc v ∧ ∀ x ∈ u, ∀ y ∈ v, x.1 ≤ y.1
  | [], v => by simp [Asc]
  | x :: u, v => by
    rw [List.cons_append]
    simp only [Asc, asc_app u v]
    constructor
    · rintro ⟨h1, h2, h3, h4⟩
      refine ⟨⟨fun y hy => h1 y (List.mem_append_left _ hy), h2⟩, h3, fun z hz y hy => ?_⟩
      rcases List.mem_cons.1 hz with hz | hz
      · rw [hz]; exact h1 y (List.mem_append_right _ hy)
      · exact h4 z hz y hy
    · rintro ⟨⟨h1, h2⟩, h3, h4⟩
      refine ⟨fun y hy => ?_, h2, h3, fun z hz y hy => h4 z (List.mem_cons_of_mem _ hz) y hy⟩
      rcases List.mem_append.1 hy with hy | hy
      · exact h1 y hy
      · exact h4 x List.mem_cons_self y hy
/-- a merge in two halves -/
theorem mrg_split (x1 x2 y1 y2 : List Itm) (hx : Asc (x1 ++ x2)) (h1 : ∀ x ∈ x1, ∀ y ∈ y2, x.1 ≤ y.1) (h2 : ∀ y ∈ y1, ∀ x ∈ x2, y.1 < x.1) :
    mrg (x1 ++ x2) (y1 ++ y2) = mrg x1 y1 ++ mrg x2 y2 := by
  rw [mrg_app, mrg_past y1 y2 x2 fun x hx y hy => h2 y hy x hx, mrg_ahead]
  intro x hxx y hy
  rcases List.mem_append.1 ((mrg_perm y2 x2).mem_iff.1 hy) with h | h
  · exact ((asc_app x1 x2).1 hx).2.2 x hxx y h
  · exact h1 x hxx y h
theorem ins_head (x : Itm) (l : List Itm) (h : ∀ y ∈ l, x.1 ≤ y.1) : ins x l = x :: l := ins_ahead x [] l h
theorem mrg_nil_right : ∀ u : List Itm, Asc u → mrg u [] = u
  | [], _ => rfl
  | x :: u, h => by
    show ins x (mrg u []) = x :: u
    rw [mrg_nil_right u h.2, ins_head x u h.1]
theorem ssort_of_asc (u : List Itm) (h : Asc u) : ssort u = u := mrg_nil_right u h
theorem mrg_nil_left (v : List Itm) : mrg [] v = v := rfl
/-- one ahead of the others -/
theorem mrg_one_left (x : Itm) (a t : List Itm) (ha : ∀ y ∈ a, y.1 < x.1) (ht : ∀ y ∈ t, x.1 ≤ y.1) : mrg [x] (a ++ t) = a ++ x :: t := by
  show ins x (a ++ t) = _
  rw [ins_past x a t ha, ins_head x t ht]
/-- one behind the others -/
theorem mrg_one_right (x : Itm) (a t : List Itm) (hs : Asc (a ++ t)) (ha : ∀ y ∈ a, y.1 ≤ x.1) (ht : ∀ y ∈ t, x.1 < y.1) : mrg (a ++ t) [x] = a ++ x :: t := by
  have h := mrg_split a t [x] [] hs (by simp) (fun y hy z hz => by
    rw [List.mem_singleton.1 hy]; exact ht z hz)
  rw [List.append_nil] at h
  rw [h, mrg_nil_right t ((asc_app a t).1 hs).2.1]
  have h2 : mrg a [x] = a ++ [x] := by
    have := mrg_ahead [x] a [] (fun z hz y hy => by
      rw [List.mem_singleton.1 hy]; exact ha z hz)
    rw [List.nil_append] at this
    rw [this, mrg_nil_right a ((asc_app a t).1 hs).1]
  rw [h2, List.append_assoc]; rfl
/-! ### what keeps its order -/
/-- those of a kind come in the order of a sort of their own -/
theorem filter_ins (p : Itm → Bool) (x : Itm) : ∀ l, Asc l → (ins x l).filter p = if p x = true then ins x (l.filter p) else l.filter p
  | [], _ => by
    simp only [ins]
    by_cases h : p x = true <;> simp [h, ins]
  | y :: l, hl => by
    rw [ins]
    by_cases h : x.1 ≤ y.1
    · rw [if_pos h]
      by_cases hp : p x = true
      · rw [if_pos hp, List.filter_cons_of_pos hp, ins_head x _ fun z hz => ?_]
        rcases List.mem_cons.1 (List.mem_filter.1 hz).1 with hz | hz
        · rw [hz]; exact h
        · have := hl.1 z hz; omega
      · rw [if_neg hp, List.filter_cons_of_neg hp]
    · rw [if_neg h]
      by_cases hy : p y = true
      · rw [List.filter_cons_of_pos hy, List.filter_cons_of_pos hy, filter_ins p x l hl.2]
        by_cases hp : p x = true
        · rw [if_pos hp, if_pos hp, ins, if_neg h]
        · rw [if_neg hp, if_neg hp]
      · rw [List.filter_cons_of_neg hy, List.filter_cons_of_neg hy, filter_ins p x l hl.2]
theorem filter_ssort (p : Itm → Bool) : ∀ l, (ssort l).filter p = ssort (l.filter p)
  | [] => rfl
  | x :: l => by
    show (ins x (ssort l)).filter p = _
    rw [filter_ins p x _ (ssort_asc l), filter_ssort p l]
    by_cases hp : p x = true
    · rw [if_pos hp, List.filter_cons_of_pos hp]; rfl
    · rw [if_neg hp, List.filter_cons_of_neg hp]
end Go.Proofs.YthibpnkdhbkakaaGreatDoor
/-
  Two items compared by weight.
-/
namespace Go.Proofs.YthibpnkdhbkakaaGreatDoor
set_option maxRecDepth 5000
open Go.RowKit

def itmV (x : Itm) : Value := .agg #[.int .i64 (x.1 : Int), .int .i64 x.2]
def cmpI (a b : Int) : Int := if a < b then -1 else if b < a then 1 else 0
theorem nan_any (a : Int) (w : World) : Calls Tryz.prog 102 #[.int .i64 a] w fun e w' => e = .returned (.bool false) ∧ w' = w := by
  go_enter Tryz.func102, Tryz.ntmps102
  go_wp2
  go_ret
  exact ⟨by simp, rfl⟩
theorem compare_any (a b : Int) (w : World) : Calls Tryz.prog 98 #[.int .i64 a, .int .i64 b] w fun e w' => e = .returned (.int .i64 (cmpI a b)) ∧ w' = w := by
  have hc : (a < b ∧ cmpI a b = -1) ∨ (¬ a < b ∧ b < a ∧ cmpI a b = 1) ∨ (¬ a < b ∧ ¬ b < a ∧ cmpI a b = 0) := by
    unfold cmpI
    by_cases h1 : a < b
    · simp [h1]
    · by_cases h2 : b < a
      · simp [h1, h2]
      · simp [h1, h2]
  rcases hc with ⟨h1, h2⟩ | ⟨h1, h3, h2⟩ | ⟨h1, h3, h2⟩
  all_goals
    rw [h2]
    clear h2
    go_enter Tryz.func98, Tryz.ntmps98
    go_wp2_with fail
    refine (nan_any a w).mono ?_
    rintro e w' ⟨rfl, rfl⟩
    go_wp2_with fail
    refine (nan_any b _).mono ?_
    rintro e w' ⟨rfl, rfl⟩
    go_wp2
    try (exfalso; omega)
    go_ret
    exact ⟨rfl, rfl⟩
theorem cmp_any (x y : Itm) (w : World) : Calls Tryz.prog 97 #[itmV x, itmV y] w fun e w' => e = .returned (.int .i64 (cmpI x.1 y.1)) ∧ Mod w w' (fun _ => False) := by
  unfold itmV
  go_enter Tryz.func97, Tryz.ntmps97
  go_wp2_with fail
  refine (compare_any _ _ _).mono ?_
  rintro e w' ⟨rfl, rfl⟩
  go_wp2
  go_ret
  exact ⟨rfl, ((Mod.refl w _).alloc _).alloc _⟩
end Go.Proofs.YthibpnkdhbkakaaGreatDoor
/-
  An own slice of items: where they lie, and two of them changed for each other.
-/
namespace Go.Proofs.YthibpnkdhbkakaaGreatDoor
set_option maxRecDepth 5000
open Go.RowKit

def cellsI (l : List Itm) : List Value := l.flatMap fun x => [.int .i64 (x.1 : Int), .int .i64 x.2]
theorem cellsI_length (l : List Itm) : (cellsI l).length = l.length * 2 := by
  induction l with
  | nil => rfl
  | cons x l ih => simp [cellsI] at ih ⊢; omega
theorem cellsI_cons (x : Itm) (l : List Itm) : cellsI (x :: l) = .int .i64 (x.1 : Int) :: .int .i64 x.2 :: cellsI l := by simp [cellsI]
theorem cellsI_app (l m : List Itm) : cellsI (l ++ m) = cellsI l ++ cellsI m := by simp [cellsI]
theorem cellsI_get : ∀ (l : List Itm) (j : Nat) (x : Itm), l[j]? = some x → (cellsI l)[j * 2]? = some (.int .i64 (x.1 : Int)) ∧ (cellsI l)[j * 2 + 1]? = some (.int .i64 x.2)
  | [], _, _, h => by simp at h
  | y :: l, 0, x, h => by
    obtain rfl : y = x := by simpa using h
    rw [cellsI_cons]; simp
  | y :: l, j + 1, x, h => by
    have := cellsI_get l j x (by simpa using h)
    rw [cellsI_cons, show (j + 1) * 2 = j * 2 + 1 + 1 by omega, show j * 2 + 1 + 1 + 1 = (j * 2 + 1) + 1 + 1 by omega]
    simpa using this
theorem cellsI_set : ∀ (l : List Itm) (j : Nat) (x : Itm), j < l.length → cellsI (l.set j x) = ((cellsI l).set (j * 2) (.int .i64 (x.1 : Int))).set (j * 2 + 1) (.int .i64 x.2)
  | [], _, _, h => by simp at h
  | y :: l, 0, x, _ => by rw [List.set_cons_zero, cellsI_cons, cellsI_cons]; simp
  | y :: l, j + 1, x, h => by
    rw [List.set_cons_succ, cellsI_cons, cellsI_cons, cellsI_set l j x (by simpa using h), show (j + 1) * 2 = j * 2 + 1 + 1 by omega]
    simp
theorem cellsI_one (l : List Itm) : ∀ u ∈ cellsI l, u.oneCell' = true := by
  intro u hu
  obtain ⟨x, _, hx⟩ := List.mem_flatMap.1 hu
  rcases List.mem_cons.1 hx with rfl | hx
  · rfl
  · rw [List.mem_singleton.1 hx]; rfl
/-- a slice of items, the call's own -/
def itmT (v : Value) (l : List Itm) : Thing := ownT 116 2 v l.length (cellsI l)
theorem Own.site2 {w : World} {e : TypeId} {v : Value} {l : List Itm} (h : Own w e 2 v l.length (cellsI l)) (hn : 0 < l.length) :
    ∃ g off cap, v = .slice (some ⟨g, off, none⟩) l.length cap ∧ l.length ≤ cap ∧ cap ≤ maxLen ∧ (∀ j x, l[j]? = some x → w.cell? ⟨g, off + j * 2, none⟩ = some (.int .i64 (x.1 : Int)) ∧ w.cell? ⟨g, off + j * 2 + 1, none⟩ = some (.int .i64 x.2)) ∧
      (∀ j, w.frozen? ⟨g, j, none⟩ = false) ∧
      ∀ j x, j < l.length → Own ((w.setCell ⟨g, off + j * 2, none⟩ (.int .i64 (x.1 : Int))).setCell ⟨g, off + j * 2 + 1, none⟩ (.int .i64 x.2)) e 2 v (l.set j x).length (cellsI (l.set j x)) := by
  rcases h.2 with ⟨hv, h0⟩ | ⟨g, off, cap, cur, rfl, hg, hnc, hc, hsz, hcur⟩
  · omega
  · refine ⟨g, off, cap, rfl, hnc, hc, fun j x hx => ?_, fun j => frozen_of_row w g _ cur e hg, fun j x hj => ?_⟩
    · obtain ⟨h1, h2⟩ := cellsI_get l j x hx
      refine ⟨by rw [cell_of_row w g _ cur e (0, 0) hg]; exact hcur _ _ h1, by rw [cell_of_row w g _ cur e (0, 0) hg]; exact hcur _ _ h2⟩
    · have e1 := heap_setCell_same w g (off + j * 2) cur e (.int .i64 (x.1 : Int)) hg
      have e2 := heap_setCell_same _ g (off + j * 2 + 1) _ e (.int .i64 x.2) e1
      refine ⟨by rw [List.length_set, cellsI_length, List.length_set], .inr ⟨g, off, cap, _, by rw [List.length_set], e2, by rw [List.length_set]; exact hnc, hc, by simpa using hsz, fun i v hv => ?_⟩⟩
      rw [cellsI_set l j x hj] at hv
      have hl := cellsI_length l
      rw [Array.getElem?_setIfInBounds, Array.getElem?_setIfInBounds]
      rw [List.getElem?_set, List.getElem?_set] at hv
      simp only [List.length_set, Array.size_setIfInBounds] at hv ⊢
      by_cases c1 : j * 2 + 1 = i
      · rw [if_pos c1, if_pos (by omega)] at hv
        rw [if_pos (by omega), if_pos (by omega)]; exact hv
      · rw [if_neg c1] at hv
        rw [if_neg (by omega)]
        by_cases c2 : j * 2 = i
        · rw [if_pos c2, if_pos (by omega)] at hv
          rw [if_pos (by omega), if_pos (by omega)]; exact hv
        · rw [if_neg c2] at hv
          rw [if_neg (by omega)]
          exact hcur i v hv
/-- two of them changed for each other -/
def swp (l : List Itm) (i j : Nat) (x y : Itm) : List Itm := (l.set i y).set j x
theorem swp_is (A B C : List Itm) (x y : Itm) : swp (A ++ x :: B ++ y :: C) A.length (A.length + 1 + B.length) x y = A ++ y :: B ++ x :: C := by
  unfold swp
  rw [List.append_assoc, List.set_append_right _ _ (Nat.le_refl _), Nat.sub_self, List.cons_append, List.set_cons_zero, List.set_append_right _ _ (by omega), show A.length + 1 + B.length - A.length = B.length + 1 by omega,
    List.set_cons_succ, List.set_append_right _ _ (Nat.le_refl _), Nat.sub_self, List.set_cons_zero, List.append_assoc, List.cons_append]
theorem Held.site2 {w0 w : World} {v : Value} {l : List Itm} {Rs : List Thing} (h : Held w0 w (itmT v l :: Rs)) (hn : 0 < l.length) :
    ∃ g off cap, v = .slice (some ⟨g, off, none⟩) l.length cap ∧ l.length ≤ cap ∧ cap ≤ maxLen ∧ (∀ j x, l[j]? = some x → w.cell? ⟨g, off + j * 2, none⟩ = some (.int .i64 (x.1 : Int)) ∧ w.cell? ⟨g, off + j * 2 + 1, none⟩ = some (.int .i64 x.2)) ∧
      (∀ j, w.frozen? ⟨g, j, none⟩ = false) ∧
      ∀ j x, j < l.length → Held w0 ((w.setCell ⟨g, off + j * 2, none⟩ (.int .i64 (x.1 : Int))).setCell ⟨g, off + j * 2 + 1, none⟩ (.int .i64 x.2)) (itmT v (l.set j x) :: Rs) := by
  obtain ⟨g, off, cap, rfl, h1, h2, h3, h4, h5⟩ := h.own.site2 hn
  refine ⟨g, off, cap, rfl, h1, h2, h3, h4, fun j x hj => ?_⟩
  have ho := h5 j x hj
  obtain ⟨F, k1, k2, back⟩ := h.take
  exact back _ _ F ⟨ho, k1.2⟩ ((((Mod.refl w _).setCell (p := ⟨g, off + j * 2, none⟩) (.inr ((k1.2 g).2 rfl)) _)).setCell (p := ⟨g, off + j * 2 + 1, none⟩) (.inr ((k1.2 g).2 rfl)) _) (fun k hk => .inl hk) (fun k hk => by
    have := (k2 k hk).2
    simpa [World.setCell] using this)
theorem Held.swap2 {w0 w : World} {ao : Option Addr} {N cap : Nat} {l : List Itm} {Rs : List Thing} (h : Held w0 w (itmT (.slice ao N cap) l :: Rs)) {i j : Nat} {x y : Itm} (hi : l[i]? = some x) (hj : l[j]? = some y) :
    ∃ g off, ao = some ⟨g, off, none⟩ ∧ w.cell? ⟨g, off + i * 2, none⟩ = some (.int .i64 (x.1 : Int)) ∧ w.cell? ⟨g, off + i * 2 + 1, none⟩ = some (.int .i64 x.2) ∧
      w.cell? ⟨g, off + j * 2, none⟩ = some (.int .i64 (y.1 : Int)) ∧ w.cell? ⟨g, off + j * 2 + 1, none⟩ = some (.int .i64 y.2) ∧ (∀ k, w.frozen? ⟨g, k, none⟩ = false) ∧
      Hid (Held w0 ((((w.setCell ⟨g, off + i * 2, none⟩ (.int .i64 (y.1 : Int))).setCell ⟨g, off + i * 2 + 1, none⟩ (.int .i64 y.2)).setCell ⟨g, off + j * 2, none⟩ (.int .i64 (x.1 : Int))).setCell ⟨g, off + j * 2 + 1, none⟩ (.int .i64 x.2)) (itmT (.slice ao N cap) (swp l i j x y) :: Rs)) := by
  have hil : i < l.length := (List.getElem?_eq_some_iff.1 hi).1
  have hjl : j < l.length := (List.getElem?_eq_some_iff.1 hj).1
  obtain ⟨g, off, cap', hv, _, _, h3, h4, h5⟩ := h.site2 (by omega)
  simp only [Value.slice.injEq] at hv
  obtain ⟨rfl, rfl, rfl⟩ := hv
  have k1 := h5 i y hil
  obtain ⟨g', off', cap'', hv, _, _, _, _, k5⟩ := k1.site2 (by simp; omega)
  simp only [Value.slice.injEq, Option.some.injEq, Addr.mk.injEq, and_true] at hv
  obtain ⟨⟨rfl, rfl⟩, _, rfl⟩ := hv
  exact ⟨g, off, rfl, (h3 i x hi).1, (h3 i x hi).2, (h3 j y hj).1, (h3 j y hj).2, h4, hid (k5 j x (by simpa using hjl))⟩
end Go.Proofs.YthibpnkdhbkakaaGreatDoor
/-
  slices.Backward over the rows, as the program calls it.
-/
namespace Go.Proofs.YthibpnkdhbkakaaGreatDoor
set_option maxRecDepth 5000
open Go.RowKit
attribute [local go_sem] Oper.semAt_some

theorem backward_any (v : Value) (w : World) (hv : ∃ a n c, v = .slice a n c) :
    Calls Tryz.prog 85 #[v] w fun e w' => e = .returned (.func (.func 94) #[] #[.pointer (some ⟨w.heap.size, 0, none⟩)]) ∧ w' = w.alloc (.cells #[v] 118) := by
  obtain ⟨a, n, c, rfl⟩ := hv
  go_enter Tryz.func85, Tryz.ntmps85
  go_wp2
  go_ret
  exact ⟨rfl, rfl⟩
set_option maxRecDepth 100000 in
set_option maxHeartbeats 2000000 in
theorem backward_in (F : Fence) (n : Nat) (hf : F.fn 94) (hro : F.round = none) (hn : 1 ≤ n) (l C B m : Nat) (vals : Nat → Value) (hm : m ≤ 15) (hvals : ∀ t, ∃ a k c, vals t = .slice a k c)
    (J : Nat → World → Prop) (hJ : ∀ k W, J k W → W.cell? ⟨C, 0, none⟩ = some (.slice (some ⟨B, 0, none⟩) m m) ∧ ∀ t, t < m → W.cell? ⟨B, t, none⟩ = some (vals t))
    (hY : ∀ k W, k < m → J k W → YieldAt F (n - 1) Tryz.prog l #[.int .i64 ((m - 1 - k : Nat) : Int), vals (m - 1 - k)] W fun e W' => e = .returned (.bool true) ∧ J (k + 1) W')
    (W : World) (h0 : J 0 W) :
    CallsIn F n Tryz.prog 94 #[.func (.yield l) #[] #[], .pointer (some ⟨C, 0, none⟩)] W fun e W' => (∃ v, e = .returned v) ∧ J m W' := by
  have hC := (hJ 0 W h0).1
  have hm0 : (0 : Int) ≤ (m : Int) := Int.natCast_nonneg _
  refine callsIn_of_wp Tryz.func94 rfl hf ?_ hro
  simp only [Tryz.ntmps94, List.size_toArray, List.length_cons, List.length_nil, Nat.reduceAdd, Nat.reduceSub, Array.replicate_succ, Array.replicate_zero, List.push_toArray, List.append_toArray, List.nil_append, List.cons_append]
  gi_wp2
  gi_loopg [3] (m + 1) (fun g p wr => ∃ (k : Nat), k ≤ m ∧ m - k < g ∧ p = .int .i64 ((m : Int) - 1 - (k : Int)) ∧ Hid (J k wr))
  case atStart => exact ⟨0, by omega, by omega, by simp, h0⟩
  case round =>
    obtain ⟨k, hk, hg, rfl, HJ⟩ := hrel
    by_cases hlt : k < m
    · have c0 := (hJ k wr HJ.out).1
      obtain ⟨q, hq⟩ : ∃ q, q = m - 1 - k := ⟨_, rfl⟩
      have hqm : q < m := by omega
      have hqI : (m : Int) - 1 - (k : Int) = (q : Int) := by omega
      have hq0 : (0 : Int) ≤ (q : Int) := Int.natCast_nonneg _
      have c1 := (hJ k wr HJ.out).2 q hqm
      obtain ⟨va, vk, vc, hv⟩ := hvals q
      rw [hv] at c1
      obtain ⟨fn, tmps, assign, body, hy, hR⟩ := hY k wr hlt HJ.out
      rw [← hq, hv] at hy
      have HQ := hid hq
      clear hq
      gi_wp2
      refine hR.mono ?_
      rintro e W3 ⟨rfl, hJ3⟩
      have HJ3 := hid hJ3
      clear hJ3
      gi_wp2
      gi_roundg (gk - 1)
      case measure => omega
      case rel => exact ⟨k + 1, by omega, by omega, by go_num, HJ3⟩
    · obtain rfl : k = m := by omega
      have hlI : (k : Int) - 1 - (k : Int) = -1 := by omega
      gi_wp2
      go_end0
      exact ⟨⟨_, rfl⟩, HJ⟩
end Go.Proofs.YthibpnkdhbkakaaGreatDoor
/-
  Two ranges of items changed for each other.
-/
namespace Go.Proofs.YthibpnkdhbkakaaGreatDoor
set_option maxRecDepth 5000
open Go.RowKit

theorem itm_form {w0 w : World} {v : Value} {l : List Itm} {Rs : List Thing} (h : Held w0 w (itmT v l :: Rs)) : ∃ ao cap, v = .slice ao l.length cap ∧ l.length ≤ cap ∧ cap ≤ maxLen := h.own.form
set_option maxHeartbeats 800000 in
theorem swaprange_any (a b n N : Nat) (P U M V S : List Itm) (v c : Value) (w0 w : World) (Rs : List Thing) (h : Held w0 w (itmT v (P ++ (U ++ (M ++ (V ++ S)))) :: Rs)) (hN : (P ++ (U ++ (M ++ (V ++ S)))).length = N) (hN2 : N ≤ 100000)
    (ha : P.length = a) (hb : (P ++ (U ++ M)).length = b) (hU : U.length = n) (hV : V.length = n) :
    Calls Tryz.prog 106 #[v, .int .i64 (a : Int), .int .i64 (b : Int), .int .i64 (n : Int), c] w fun e w' => e = .returned (.tuple #[]) ∧ Held w0 w' (itmT v (P ++ (V ++ (M ++ (U ++ S)))) :: Rs) := by
  have h0 : (0 : Int) ≤ (a : Int) := Int.natCast_nonneg _
  have h1 : (0 : Int) ≤ (b : Int) := Int.natCast_nonneg _
  have h2 : (0 : Int) ≤ (n : Int) := Int.natCast_nonneg _
  have HL : Hid (P.length = a ∧ (P ++ (U ++ M)).length = b ∧ U.length = n ∧ V.length = n ∧ (P ++ (U ++ (M ++ (V ++ S)))).length = N) := hid ⟨ha, hb, hU, hV, hN⟩
  have hbn : b + n ≤ N := by simp at hN hb; omega
  have han : a + n ≤ b := by simp at hb; omega
  obtain ⟨ao, cap, rfl, hc1, hc2⟩ := itm_form h
  rw [hN] at hc1 h ⊢
  have H := hid h
  clear h hN ha hb hU hV
  go_enter Tryz.func106, Tryz.ntmps106
  go_wp2
  go_loopg [10] (n + 1) (fun k t10 wr => ∃ (i : Nat) (U1 U2 V1 V2 : List Itm), i ≤ n ∧ n - i < k ∧ t10 = .int .i64 (i : Int) ∧ Hid (U = U1 ++ U2 ∧ V = V1 ++ V2 ∧ U1.length = i ∧ V1.length = i) ∧
    Hid (Held w0 wr (itmT (.slice ao N cap) (P ++ (V1 ++ (U2 ++ (M ++ (U1 ++ (V2 ++ S)))))) :: Rs)))
  case atStart => exact ⟨0, [], U, [], V, by omega, by omega, rfl, hid ⟨rfl, rfl, rfl, rfl⟩, H⟩
  case round =>
    obtain ⟨i, U1, U2, V1, V2, hi, hk, rfl, HE, HH⟩ := hrel
    have h3 : (0 : Int) ≤ (i : Int) := Int.natCast_nonneg _
    by_cases hin : i < n
    · have hin2 : (i : Int) < (n : Int) := by omega
      obtain ⟨e1, e2, e3, e4⟩ := HE.out
      obtain ⟨l1, l2, l3, l4, l5⟩ := HL.out
      match U2, V2, e1, e2 with
      | [], _, e1, _ => exfalso; rw [e1] at l3; simp at l3; omega
      | _ :: _, [], _, e2 => exfalso; rw [e2] at l4; simp at l4; omega
      | x :: U2, y :: V2, e1, e2 =>
        have HL1 : Hid ((P ++ V1).length = a + i ∧ (P ++ V1).length + 1 + (U2 ++ (M ++ U1)).length = b + i) := by
          refine hid ⟨by simp; omega, ?_⟩
          rw [e1] at l3 l2
          simp at l2 l3 ⊢; omega
        have HL2 : Hid (P ++ (V1 ++ (x :: U2 ++ (M ++ (U1 ++ (y :: V2 ++ S))))) = (P ++ V1) ++ x :: (U2 ++ (M ++ U1)) ++ y :: (V2 ++ S)) := hid (by simp)
        have hh := HH.out
        rw [HL2.out] at hh
        have hj2 : (P ++ V1 ++ x :: (U2 ++ (M ++ U1)) ++ y :: (V2 ++ S))[b + i]? = some y := by
          rw [← HL1.out.2, List.getElem?_append_right (by simp; omega), show (P ++ V1).length + 1 + (U2 ++ (M ++ U1)).length - (P ++ V1 ++ x :: (U2 ++ (M ++ U1))).length = 0 by simp; omega]; rfl
        obtain ⟨g, off, rfl, c1, c2, c3, c4, hf, HS⟩ := hh.swap2 (i := a + i) (j := b + i) (x := x) (y := y) (by rw [← HL1.out.1]; simp) hj2
        have HJ : Hid (swp (P ++ V1 ++ x :: (U2 ++ (M ++ U1)) ++ y :: (V2 ++ S)) (a + i) (b + i) x y = P ++ ((V1 ++ [y]) ++ (U2 ++ (M ++ ((U1 ++ [x]) ++ (V2 ++ S)))))) := by
          have h := swp_is (P ++ V1) (U2 ++ (M ++ U1)) (V2 ++ S) x y
          rw [HL1.out.2, HL1.out.1] at h
          refine hid (h.trans (by simp))
        clear hh e1 e2 e3 e4 l1 l2 l3 l4 l5 hj2
        go_wp2
        go_region
        go_wp2
        go_roundg (gk - 1)
        case measure => omega
        case rel =>
          refine ⟨i + 1, U1 ++ [x], U2, V1 ++ [y], V2, by omega, by omega, by go_num, ?_, ?_⟩
          · obtain ⟨e1, e2, e3, e4⟩ := HE.out
            exact hid ⟨by rw [e1]; simp, by rw [e2]; simp, by simp [e3], by simp [e4]⟩
          · have h := HS.out.drew
            rw [HJ.out] at h
            exact h
    · have hin2 : ¬ (i : Int) < (n : Int) := by omega
      obtain rfl : i = n := by omega
      have HF : Hid (P ++ (V1 ++ (U2 ++ (M ++ (U1 ++ (V2 ++ S))))) = P ++ (V ++ (M ++ (U ++ S)))) := by
        obtain ⟨e1, e2, e3, e4⟩ := HE.out
        obtain ⟨l1, l2, l3, l4, l5⟩ := HL.out
        have h1 : U2 = [] := List.eq_nil_of_length_eq_zero (by rw [e1, List.length_append] at l3; omega)
        have h2 : V2 = [] := List.eq_nil_of_length_eq_zero (by rw [e2, List.length_append] at l4; omega)
        subst h1; subst h2
        rw [e1, e2]; exact hid (by simp)
      go_wp2
      go_end0
      exact ⟨rfl, by have h := HH.out; rw [HF.out] at h; exact h⟩

set_option maxHeartbeats 800000 in
theorem rotate_any (a m b N : Nat) (P X Y S : List Itm) (v c : Value) (w0 w : World) (Rs : List Thing) (h : Held w0 w (itmT v (P ++ (X ++ (Y ++ S))) :: Rs)) (hN : (P ++ (X ++ (Y ++ S))).length = N) (hN2 : N ≤ 100000)
    (ha : P.length = a) (hm : (P ++ X).length = m) (hb : (P ++ (X ++ Y)).length = b) (hX : 0 < X.length) (hY : 0 < Y.length) :
    Calls Tryz.prog 105 #[v, .int .i64 (a : Int), .int .i64 (m : Int), .int .i64 (b : Int), c] w fun e w' => e = .returned (.tuple #[]) ∧ Held w0 w' (itmT v (P ++ (Y ++ (X ++ S))) :: Rs) := by
  have h0 : (0 : Int) ≤ (a : Int) := Int.natCast_nonneg _
  have h1 : (0 : Int) ≤ (b : Int) := Int.natCast_nonneg _
  have h2 : (0 : Int) ≤ (m : Int) := Int.natCast_nonneg _
  obtain ⟨i0, hi0⟩ : ∃ i, i = X.length := ⟨_, rfl⟩
  obtain ⟨j0, hj0⟩ : ∃ j, j = Y.length := ⟨_, rfl⟩
  have e1 : (m : Int) - (a : Int) = (i0 : Int) := by simp at hm; omega
  have e2 : (b : Int) - (m : Int) = (j0 : Int) := by simp at hm hb; omega
  have hmN : m ≤ N := by simp at hm hN; omega
  have hbN : b ≤ N := by simp at hb hN; omega
  have hnn : i0 + j0 ≤ N := by simp at hN; omega
  have HL : Hid ((P ++ X).length = m ∧ (P ++ (X ++ (Y ++ S))).length = N ∧ X.length = i0 ∧ Y.length = j0) := hid ⟨hm, hN, hi0.symm, hj0.symm⟩
  have H := hid h
  have hi1 : 0 < i0 := by omega
  have hj1 : 0 < j0 := by omega
  clear h hN ha hm hb hX hY hi0 hj0
  have e1' := hid e1
  have e2' := hid e2
  go_enter Tryz.func105, Tryz.ntmps105
  go_wp2
  clear e1 e2
  go_loopg [10, 11] (i0 + j0 + 1) (fun k t10 t11 wr => ∃ (i j : Nat) (P1 U V S1 : List Itm), i + j < k ∧ t10 = .int .i64 (i : Int) ∧ t11 = .int .i64 (j : Int) ∧ 0 < i ∧ 0 < j ∧ i ≤ N ∧ j ≤ N ∧ m + j ≤ N ∧ i ≤ m ∧
    Hid (U.length = i ∧ V.length = j ∧ (P1 ++ U).length = m ∧ (P1 ++ (U ++ (V ++ S1))).length = N ∧ P1 ++ (V ++ (U ++ S1)) = P ++ (Y ++ (X ++ S))) ∧
    Hid (Held w0 wr (itmT v (P1 ++ (U ++ (V ++ S1))) :: Rs)))
  case atStart =>
    refine ⟨i0, j0, P, X, Y, S, by omega, by go_num, by go_num, by omega, by omega, by omega, by omega, ?_, ?_, hid ⟨HL.out.2.2.1, HL.out.2.2.2, HL.out.1, HL.out.2.1, rfl⟩, H⟩
    · have := HL.out; simp at this; omega
    · have := HL.out; simp at this; omega
  case round =>
    obtain ⟨i, j, P1, U, V, S1, hk, rfl, rfl, hi, hj, hiN, hjN, hmj, him, HE, HH⟩ := hrel
    have h3 : (0 : Int) ≤ (i : Int) := Int.natCast_nonneg _
    have h4 : (0 : Int) ≤ (j : Int) := Int.natCast_nonneg _
    have em : (m : Int) - (i : Int) = ((m - i : Nat) : Int) := by omega
    rcases Nat.lt_trichotomy i j with hij | hij | hij
    · have d1 : ¬ (i : Int) = (j : Int) := by omega
      have d2 : ¬ (j : Int) < (i : Int) := by omega
      have ej : (m : Int) + (j : Int) - (i : Int) = ((m + j - i : Nat) : Int) := by omega
      obtain ⟨l1, l2, l3, l4, l5⟩ := HE.out
      obtain ⟨V1, V2, rfl, hv1, hv2⟩ : ∃ V1 V2, V = V1 ++ V2 ∧ V1.length = j - i ∧ V2.length = i := ⟨V.take (j - i), V.drop (j - i), (List.take_append_drop _ _).symm, by simp; omega, by simp; omega⟩
      have HR := hid (swaprange_any (m - i) (m + j - i) i N P1 U V1 V2 S1 v c w0 wr Rs (by have h := HH.out; simpa using h) (by rw [← l4]; simp) hN2 (by simp at l3; omega) (by simp at l3 ⊢; omega) l1 hv2)
      have HG : Hid (V2.length = i ∧ V1.length = j - i ∧ (P1 ++ V2).length = m ∧ (P1 ++ (V2 ++ (V1 ++ (U ++ S1)))).length = N ∧ P1 ++ (V1 ++ (V2 ++ (U ++ S1))) = P ++ (Y ++ (X ++ S))) := by
        refine hid ⟨hv2, hv1, by simp at l3 ⊢; omega, ?_, by rw [← l5]; simp⟩
        simp at l4 ⊢; omega
      clear l1 l2 l3 l4 l5 hv1 hv2
      go_wp2_with fail
      refine HR.out.mono ?_
      rintro e w1 ⟨rfl, hh⟩
      have HH1 := hid hh
      clear hh
      have ed : (j : Int) - (i : Int) = ((j - i : Nat) : Int) := by omega
      go_wp2
      go_roundg (gk - 1)
      case measure => omega
      case rel => exact ⟨i, j - i, P1, V2, V1, U ++ S1, by omega, rfl, by go_num, by omega, by omega, by omega, by omega, by omega, by omega, HG, HH1⟩
    · subst hij
      obtain ⟨l1, l2, l3, l4, l5⟩ := HE.out
      have HR := hid (swaprange_any (m - i) m i N P1 U [] V S1 v c w0 wr Rs (by have h := HH.out; simpa using h) (by rw [← l4]; simp) hN2 (by simp at l3; omega) (by simp at l3 ⊢; omega) l1 l2)
      have HG : Hid (P1 ++ (V ++ ([] ++ (U ++ S1))) = P ++ (Y ++ (X ++ S))) := hid (by rw [← l5]; simp)
      clear l1 l2 l3 l4 l5
      go_wp2_with fail
      refine HR.out.mono ?_
      rintro e w1 ⟨rfl, hh⟩
      rw [HG.out] at hh
      have HH1 := hid hh
      clear hh
      go_wp2
      go_end0
      exact ⟨rfl, HH1⟩
    · have d1 : ¬ (i : Int) = (j : Int) := by omega
      have d2 : (j : Int) < (i : Int) := by omega
      obtain ⟨l1, l2, l3, l4, l5⟩ := HE.out
      obtain ⟨U1, U2, rfl, hv1, hv2⟩ : ∃ U1 U2, U = U1 ++ U2 ∧ U1.length = j ∧ U2.length = i - j := ⟨U.take j, U.drop j, (List.take_append_drop _ _).symm, by simp; omega, by simp; omega⟩
      have HR := hid (swaprange_any (m - i) m j N P1 U1 U2 V S1 v c w0 wr Rs (by have h := HH.out; simpa using h) (by rw [← l4]; simp) hN2 (by simp at l3; omega) (by simp at l3 ⊢; omega) hv1 l2)
      have HG : Hid (U2.length = i - j ∧ U1.length = j ∧ ((P1 ++ V) ++ U2).length = m ∧ ((P1 ++ V) ++ (U2 ++ (U1 ++ S1))).length = N ∧ (P1 ++ V) ++ (U1 ++ (U2 ++ S1)) = P ++ (Y ++ (X ++ S))) := by
        refine hid ⟨hv2, hv1, by simp at l3 ⊢; omega, ?_, by rw [← l5]; simp⟩
        simp at l4 ⊢; omega
      have HE2 : Hid (P1 ++ (V ++ (U2 ++ (U1 ++ S1))) = (P1 ++ V) ++ (U2 ++ (U1 ++ S1))) := hid (by simp)
      clear l1 l2 l3 l4 l5 hv1 hv2
      go_wp2_with fail
      refine HR.out.mono ?_
      rintro e w1 ⟨rfl, hh⟩
      rw [HE2.out] at hh
      have HH1 := hid hh
      clear hh
      have ed : (i : Int) - (j : Int) = ((i - j : Nat) : Int) := by omega
      go_wp2
      go_roundg (gk - 1)
      case measure => omega
      case rel => exact ⟨i - j, j, P1 ++ V, U2, U1, S1, by omega, by go_num, rfl, by omega, by omega, by omega, by omega, by omega, by omega, HG, HH1⟩
end Go.Proofs.YthibpnkdhbkakaaGreatDoor
