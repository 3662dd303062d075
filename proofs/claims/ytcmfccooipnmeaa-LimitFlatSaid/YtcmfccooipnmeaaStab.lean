/-
  A stable sort by weight: by insertion, in blocks, merged in turns. No program is named here.
-/
import Derived.Test.YtcmfccooipnmeaaLimitTake
namespace Go.Proofs.Ytcmfccooipnmeaa

/-- a weight, and whose it is -/
abbrev Itm := Nat × Int
def ins (x : Itm) : List Itm → List Itm
  | [] => [x]
  | y :: l => if x.1 ≤ y.1 then x :: y :: l else y :: ins x l
def mrg (u v : List Itm) : List Itm := u.foldr ins v
def ssort (l : List Itm) : List Itm := mrg l []
/-- the lightest first -/
def Asc : List Itm → Prop
  | [] => True
  | x :: l => (∀ y ∈ l, x.1 ≤ y.1) ∧ Asc l

theorem ins_comm (x y : Itm) (h : x.1 ≠ y.1) : ∀ l, ins x (ins y l) = ins y (ins x l)
  | [] => by
    simp only [ins]
    by_cases h1 : x.1 ≤ y.1
    · rw [if_pos h1, if_neg (by omega)]
    · rw [if_neg h1, if_pos (by omega)]
  | z :: l => by
    simp only [ins]
    by_cases h1 : x.1 ≤ z.1 <;> by_cases h2 : y.1 ≤ z.1
    · rw [if_pos h1, if_pos h2]
      simp only [ins]
      by_cases h3 : x.1 ≤ y.1
      · rw [if_pos h3, if_neg (by omega), if_pos h2]
      · rw [if_neg h3, if_pos h1, if_pos (by omega)]
    · rw [if_pos h1, if_neg h2]
      simp only [ins]
      rw [if_pos h1, if_neg (by omega), if_neg h2]
    · rw [if_neg h1, if_pos h2]
      simp only [ins]
      rw [if_neg (by omega), if_neg h1, if_pos h2]
    · rw [if_neg h1, if_neg h2]
      simp only [ins]
      rw [if_neg h1, if_neg h2, ins_comm x y h l]
theorem mrg_ins (x : Itm) (v : List Itm) : ∀ l, mrg (ins x l) v = ins x (mrg l v)
  | [] => rfl
  | y :: l => by
    simp only [ins]
    by_cases h : x.1 ≤ y.1
    · rw [if_pos h]; rfl
    · rw [if_neg h]
      show ins y (mrg (ins x l) v) = ins x (ins y (mrg l v))
      rw [mrg_ins x v l, ins_comm x y (by omega)]
theorem mrg_ssort (v : List Itm) : ∀ u, mrg (ssort u) v = mrg u v
  | [] => rfl
  | x :: u => by
    show mrg (ins x (ssort u)) v = ins x (mrg u v)
    rw [mrg_ins, mrg_ssort v u]
theorem mrg_app (u u2 v : List Itm) : mrg (u ++ u2) v = mrg u (mrg u2 v) := List.foldr_append
/-- sorted in two blocks, and merged -/
theorem ssort_app (u v : List Itm) : ssort (u ++ v) = mrg (ssort u) (ssort v) := by
  rw [mrg_ssort]; exact mrg_app u v []
theorem ins_perm (x : Itm) : ∀ l, (ins x l).Perm (x :: l)
  | [] => List.Perm.refl _
  | y :: l => by
    rw [ins]
    split
    · exact List.Perm.refl _
    · exact ((ins_perm x l).cons y).trans (List.Perm.swap x y l)
theorem mrg_perm (v : List Itm) : ∀ u, (mrg u v).Perm (u ++ v)
  | [] => List.Perm.refl _
  | x :: u => (ins_perm x _).trans ((mrg_perm v u).cons x)
theorem ssort_perm (l : List Itm) : (ssort l).Perm l := by
  have := mrg_perm [] l
  rw [List.append_nil] at this; exact this
theorem mrg_length (u v : List Itm) : (mrg u v).length = u.length + v.length := by rw [(mrg_perm v u).length_eq, List.length_append]
theorem ssort_length (l : List Itm) : (ssort l).length = l.length := (ssort_perm l).length_eq
theorem ins_asc (x : Itm) : ∀ l, Asc l → Asc (ins x l)
  | [], _ => ⟨by simp, trivial⟩
  | y :: l, h => by
    rw [ins]
    by_cases hx : x.1 ≤ y.1
    · rw [if_pos hx]
      refine ⟨fun z hz => ?_, h⟩
      rcases List.mem_cons.1 hz with hz | hz
      · rw [hz]; exact hx
      · have := h.1 z hz; omega
    · rw [if_neg hx]
      refine ⟨fun z hz => ?_, ins_asc x l h.2⟩
      rcases List.mem_cons.1 ((ins_perm x l).mem_iff.1 hz) with hz | hz
      · rw [hz]; omega
      · exact h.1 z hz
theorem mrg_asc (v : List Itm) (hv : Asc v) : ∀ u, Asc (mrg u v)
  | [] => hv
  | x :: u => ins_asc x _ (mrg_asc v hv u)
theorem ssort_asc (l : List Itm) : Asc (ssort l) := mrg_asc [] trivial l
theorem ins_past (x : Itm) : ∀ (a t : List Itm), (∀ y ∈ a, y.1 < x.1) → ins x (a ++ t) = a ++ ins x t
  | [], _, _ => rfl
  | y :: a, t, h => by
    have h1 := h y List.mem_cons_self
    rw [List.cons_append, ins, if_neg (by omega), ins_past x a t fun z hz => h z (List.mem_cons_of_mem _ hz)]; rfl
theorem ins_ahead (x : Itm) : ∀ (a t : List Itm), (∀ y ∈ t, x.1 ≤ y.1) → ins x (a ++ t) = ins x a ++ t
  | [], [], _ => rfl
  | [], y :: t, h => by
    have h1 := h y List.mem_cons_self
    rw [List.nil_append]
    simp only [ins]
    rw [if_pos h1]; rfl
  | y :: a, t, h => by
    rw [List.cons_append, ins, ins]
    by_cases h1 : x.1 ≤ y.1
    · rw [if_pos h1, if_pos h1]; rfl
    · rw [if_neg h1, if_neg h1, ins_ahead x a t h]; rfl
theorem mrg_past (a t : List Itm) : ∀ u : List Itm, (∀ x ∈ u, ∀ y ∈ a, y.1 < x.1) → mrg u (a ++ t) = a ++ mrg u t
  | [], _ => rfl
  | x :: u, h => by
    show ins x (mrg u (a ++ t)) = a ++ ins x (mrg u t)
    rw [mrg_past a t u fun z hz => h z (List.mem_cons_of_mem _ hz), ins_past x a _ (h x List.mem_cons_self)]
theorem mrg_ahead (t : List Itm) : ∀ (u a : List Itm), (∀ x ∈ u, ∀ y ∈ t, x.1 ≤ y.1) → mrg u (a ++ t) = mrg u a ++ t
  | [], _, _ => rfl
  | x :: u, a, h => by
    show ins x (mrg u (a ++ t)) = ins x (mrg u a) ++ t
    rw [mrg_ahead t u a fun z hz => h z (List.mem_cons_of_mem _ hz), ins_ahead x _ t (h x List.mem_cons_self)]
theorem asc_app : ∀ (u v : List Itm), Asc (u ++ v) ↔ Asc u ∧ Asc v ∧ ∀ x ∈ u, ∀ y ∈ v, x.1 ≤ y.1
  | [], v => by simp [Asc]
  | x :: u, v => by
    rw [List.cons_append]
    simp only [Asc, asc_app u v]
    constructor
    · rintro ⟨h1, h2, h3, h4⟩
      refine ⟨⟨fun y hy => h1 y (List.mem_append_left _ hy), h2⟩, h3, fun z hz y hy => ?_⟩
      rcases List.mem_cons.1 hz with hz | hz
      · rw [hz]; exact h1 y (List.mem_append_right _ hy)
      · exact h4 z hz y hy
    · rintro ⟨⟨h1, h2⟩, h3, h4⟩
      refine ⟨fun y hy => ?_, h2, h3, fun z hz y hy => h4 z (List.mem_cons_of_mem _ hz) y hy⟩
      rcases List.mem_append.1 hy with hy | hy
      · exact h1 y hy
      · exact h4 x List.mem_cons_self y hy
/-- a merge in two halves -/
theorem mrg_split (x1 x2 y1 y2 : List Itm) (hx : Asc (x1 ++ x2)) (h1 : ∀ x ∈ x1, ∀ y ∈ y2, x.1 ≤ y.1) (h2 : ∀ y ∈ y1, ∀ x ∈ x2, y.1 < x.1) :
    mrg (x1 ++ x2) (y1 ++ y2) = mrg x1 y1 ++ mrg x2 y2 := by
  rw [mrg_app, mrg_past y1 y2 x2 fun x hx y hy => h2 y hy x hx, mrg_ahead]
  intro x hxx y hy
  rcases List.mem_append.1 ((mrg_perm y2 x2).mem_iff.1 hy) with h | h
  · exact ((asc_app x1 x2).1 hx).2.2 x hxx y h
  · exact h1 x hxx y h
theorem ins_head (x : Itm) (l : List Itm) (h : ∀ y ∈ l, x.1 ≤ y.1) : ins x l = x :: l := ins_ahead x [] l h
theorem mrg_nil_right : ∀ u : List Itm, Asc u → mrg u [] = u
  | [], _ => rfl
  | x :: u, h => by
    show ins x (mrg u []) = x :: u
    rw [mrg_nil_right u h.2, ins_head x u h.1]
theorem ssort_of_asc (u : List Itm) (h : Asc u) : ssort u = u := mrg_nil_right u h
theorem mrg_nil_left (v : List Itm) : mrg [] v = v := rfl
/-- one ahead of the others -/
theorem mrg_one_left (x : Itm) (a t : List Itm) (ha : ∀ y ∈ a, y.1 < x.1) (ht : ∀ y ∈ t, x.1 ≤ y.1) : mrg [x] (a ++ t) = a ++ x :: t := by
  show ins x (a ++ t) = _
  rw [ins_past x a t ha, ins_head x t ht]
/-- one behind the others -/
theorem mrg_one_right (x : Itm) (a t : List Itm) (hs : Asc (a ++ t)) (ha : ∀ y ∈ a, y.1 ≤ x.1) (ht : ∀ y ∈ t, x.1 < y.1) : mrg (a ++ t) [x] = a ++ x :: t := by
  have h := mrg_split a t [x] [] hs (by simp) (fun y hy z hz => by
    rw [List.mem_singleton.1 hy]; exact ht z hz)
  rw [List.append_nil] at h
  rw [h, mrg_nil_right t ((asc_app a t).1 hs).2.1]
  have h2 : mrg a [x] = a ++ [x] := by
    have := mrg_ahead [x] a [] (fun z hz y hy => by
      rw [List.mem_singleton.1 hy]; exact ha z hz)
    rw [List.nil_append] at this
    rw [this, mrg_nil_right a ((asc_app a t).1 hs).1]
  rw [h2, List.append_assoc]; rfl
/-! ### what keeps its order -/
/-- those of a kind come in the order of a sort of their own -/
theorem filter_ins (p : Itm → Bool) (x : Itm) : ∀ l, Asc l → (ins x l).filter p = if p x = true then ins x (l.filter p) else l.filter p
  | [], _ => by
    simp only [ins]
    by_cases h : p x = true <;> simp [h, ins]
  | y :: l, hl => by
    rw [ins]
    by_cases h : x.1 ≤ y.1
    · rw [if_pos h]
      by_cases hp : p x = true
      · rw [if_pos hp, List.filter_cons_of_pos hp, ins_head x _ fun z hz => ?_]
        rcases List.mem_cons.1 (List.mem_filter.1 hz).1 with hz | hz
        · rw [hz]; exact h
        · have := hl.1 z hz; omega
      · rw [if_neg hp, List.filter_cons_of_neg hp]
    · rw [if_neg h]
      by_cases hy : p y = true
      · rw [List.filter_cons_of_pos hy, List.filter_cons_of_pos hy, filter_ins p x l hl.2]
        by_cases hp : p x = true
        · rw [if_pos hp, if_pos hp, ins, if_neg h]
        · rw [if_neg hp, if_neg hp]
      · rw [List.filter_cons_of_neg hy, List.filter_cons_of_neg hy, filter_ins p x l hl.2]
theorem filter_ssort (p : Itm → Bool) : ∀ l, (ssort l).filter p = ssort (l.filter p)
  | [] => rfl
  | x :: l => by
    show (ins x (ssort l)).filter p = _
    rw [filter_ins p x _ (ssort_asc l), filter_ssort p l]
    by_cases hp : p x = true
    · rw [if_pos hp, List.filter_cons_of_pos hp]; rfl
    · rw [if_neg hp, List.filter_cons_of_neg hp]
end Go.Proofs.Ytcmfccooipnmeaa
