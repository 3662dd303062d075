/-
  Writers and readers among the things that a call holds.
-/
import Derived.Test.YtbkbkmgogbgofaaDoorZh03
import Derived.Test.YtbkbkmgogbgofaaDoorZh08
import Derived.Test.YtbkbkmgogbgofaaDoorZh09
import Derived.Test.YtbkbkmgogbgofaaDoorZh06
import Derived.Test.YtbkbkmgogbgofaaDoorZh07
import Derived.Test.YtbkbkmgogbgofaaDoorZh04
import Derived.WalkSpells
namespace Go.Proofs.YtbkbkmgogbgofaaDoor
set_option maxRecDepth 5000
open Go.RowKit
def rdrP (B : Place) (l : List Nat) : Thing where
  res := fun w F => ∃ d, Rr w B d l ∧ ∀ k, F k ↔ WSet B.b d k
  loc := fun _ _ _ _ ⟨d, h1, h2⟩ hm hS => ⟨d, h1.kept hm (fun k hk => hS k ((h2 k).2 hk)), h2⟩
theorem moved_sub {w : World} {B : Nat} {d d' : Value} {F : Nat → Prop} (h2 : ∀ k, F k ↔ WSet B d k) (hmv : Moved w d d') : ∀ k, WSet B d' k → F k ∨ w.heap.size ≤ k := by
  rintro k (rfl | hk)
  · exact .inl ((h2 k).2 (.inl rfl))
  · rcases hmv with h | h
    · exact .inl ((h2 k).2 (.inr (h ▸ hk)))
    · exact .inr (h k hk)
theorem Held.rr {w0 w : World} {B : Place} {l : List Nat} {Rs : List Thing} (h : Held w0 w (rdrP B l :: Rs)) : ∃ d, Rr w B d l ∧ (∀ k, WSet B.b d k → w0.heap.size ≤ k) ∧ ∀ w' l', RStep w w' B d l' → Held w0 w' (rdrP B l' :: Rs) := by
  obtain ⟨F, ⟨d, hW, h2⟩, hF, back⟩ := h.take
  refine ⟨d, hW, fun k hk => (hF k ((h2 k).2 hk)).1, fun w' l' ⟨d', hW', hm, hmv⟩ => back w' _ _ ⟨d', hW', fun _ => Iff.rfl⟩ (hm.mono fun k _ hk => (h2 k).2 hk) (moved_sub h2 hmv) hW'.lt⟩
theorem Held.takeE {w0 w : World} {R : Thing} {Rs : List Thing} (h : Held w0 w (R :: Rs)) : ∃ F : Nat → Prop, R.res w F ∧ (∀ k, F k → w0.heap.size ≤ k ∧ k < w.heap.size) ∧
    ∀ (w' : World) (R' E : Thing) (F' FE : Nat → Prop), R'.res w' F' → Mod w w' F → (∀ k, F' k → F k) → E.res w' FE → (∀ k, FE k → w.heap.size ≤ k ∧ k < w'.heap.size) → Held w0 w' (E :: R' :: Rs) := by
  obtain ⟨F, h1, h2, h3⟩ := h
  refine ⟨F, h1, fun k hk => ⟨(h2 k hk).1, (h2 k hk).2.1⟩, fun w' R' E F' FE hR hm hF hE hn => ?_⟩
  refine ⟨FE, hE, fun k hk => ⟨Nat.le_trans (HeldU.mod h3).size (hn k hk).1, (hn k hk).2, fun h => h⟩, F', hR, fun k hk => ⟨(h2 k (hF k hk)).1, Nat.lt_of_lt_of_le (h2 k (hF k hk)).2.1 hm.size, ?_⟩, ?_⟩
  · rintro (hu | hu)
    · exact hu
    · have := (hn k hu).1; have := (h2 k (hF k hk)).2.1; omega
  · have h8 := (h3.more (V := fun k => (False ∨ F k) ∨ FE k) fun k hk => hk.imp id (fun h => (hn k h).1)).step hm (fun k hk _ => (h2 k hk).1) (fun k hk _ => .inl (.inr hk))
    exact h8.less fun k hk => by
      rcases hk with (hk | hk) | hk
      · exact hk.elim
      · exact .inr hk
      · exact .inl (.inr (hF k hk))
structure RdLens (B : Place) (R : List Nat → Thing) : Prop where
  opn : ∀ {w0 w : World} {l : List Nat} {Rs : List Thing}, Held w0 w (R l :: Rs) → ∃ d, Rr w B d l ∧
    ∀ (w' : World) (l' : List Nat) (E : Thing) (FE : Nat → Prop), RKeep w w' B d l' → E.res w' FE → (∀ k, FE k → w.heap.size ≤ k ∧ k < w'.heap.size) → Held w0 w' (E :: R l' :: Rs)
def noneT : Thing where
  res := fun _ F => ∀ k, ¬ F k
  loc := fun _ _ _ _ h _ _ => h
theorem RdLens.one {B : Place} {R : List Nat → Thing} (L : RdLens B R) {w0 w : World} {l : List Nat} {Rs : List Thing} (h : Held w0 w (R l :: Rs)) : ∃ d, Rr w B d l ∧ ∀ w' l', RKeep w w' B d l' → Held w0 w' (R l' :: Rs) := by
  obtain ⟨d, h1, h2⟩ := L.opn h
  exact ⟨d, h1, fun w' l' hk => (h2 w' l' noneT (fun _ => False) hk (fun _ h => h) (fun _ h => h.elim)).drop⟩
theorem wset_keep {B : Nat} {d d' : Value} (h : d'.ownBlock = d.ownBlock ∨ d'.ownBlock = none) {k : Nat} (hk : WSet B d' k) : WSet B d k := by
  rcases hk with rfl | hk
  · exact .inl rfl
  · rcases h with h | h
    · exact .inr (h ▸ hk)
    · rw [h] at hk; cases hk
def rdmT (B : Place) (v : Value) (bs : List Nat) (l : List Nat) : Thing where
  res := fun w F => ∃ d, Rr w B d l ∧ Own w 5 1 v bs.length (u8s bs) ∧ v.ownBlock ≠ some B.b ∧ (d.ownBlock = v.ownBlock ∨ d.ownBlock = none) ∧ ∀ k, F k ↔ WSet B.b v k
  loc := fun _ _ _ _ ⟨d, h1, h3, h4, h5, h2⟩ hm hS => ⟨d, h1.kept hm (fun k hk => hS k ((h2 k).2 (wset_keep h5 hk))), h3.kept hm (fun k hk => hS k ((h2 k).2 (.inr hk))), h4, h5, h2⟩
theorem rdmLens (B : Place) (v : Value) (bs : List Nat) : RdLens B (rdmT B v bs) where
  opn {w0 w l Rs} h := by
    obtain ⟨F, ⟨d, hW, h3, h4, h5, h2⟩, hF, back⟩ := h.takeE
    refine ⟨d, hW, fun w' l' E FE ⟨d', g3, g4, g5⟩ hE hn => back w' _ E F FE ⟨d', g3, h3.kept g4 (fun k hk e => h4 (by rw [hk, e])), h4, ?_, h2⟩ (g4.mono fun k _ e => (h2 k).2 (.inl e)) (fun k hk => hk) hE hn⟩
    rcases g5 with g5 | g5
    · rw [g5]; exact h5
    · exact .inr g5
end Go.Proofs.YtbkbkmgogbgofaaDoor
/-
  The contracts of the writer, the reader and the reference's functions, over the things that a call holds.
-/
namespace Go.Proofs.YtbkbkmgogbgofaaDoor
set_option maxRecDepth 5000
open Go.RowKit
section
variable {w0 w : World} {B : Nat} {l : List Nat} {Rs : List Thing}
theorem p_feed {B : Place} (h : Held w0 w (rdrP B l :: Rs)) (v : Value) (n : Nat) (news : List Nat) (hv : Rd w 1 v n (u8s news)) (hn256 : ∀ b ∈ news, b < 256) (hnl : n < 1099511627776) (hl : l.length < 1099511600000) :
    Calls Tryd.prog 13 #[.pointer (some ⟨B.b, B.o, none⟩), v] w fun e w' => e = .returned (.tuple #[]) ∧ Held w0 w' (rdrP B (l ++ bits8 news) :: Rs) := by
  obtain ⟨d, hW, _, back⟩ := h.rr
  exact (feed_any B d v l news n w hW hl hv hn256 hnl).mono fun _ _ ⟨h1, h2⟩ => ⟨h1, back _ _ h2⟩
theorem l_left {P : Place} {R : List Nat → Thing} (L : RdLens P R) (h : Held w0 w (R l :: Rs)) (hl : l.length < 1099511600000) :
    Calls Tryd.prog 35 #[.pointer (some ⟨P.b, P.o, none⟩)] w fun e w' => e = .returned (.int .i64 (l.length : Int)) ∧ Held w0 w' (R l :: Rs) := by
  obtain ⟨d, hW, _⟩ := L.one h
  exact (left_any P d l w hW (by omega)).mono fun _ _ ⟨h1, n, h2⟩ => ⟨h1, by rw [h2]; exact h.drewN n⟩
theorem l_ralign {P : Place} {R : List Nat → Thing} (L : RdLens P R) (h : Held w0 w (R l :: Rs)) :
    Calls Tryd.prog 34 #[.pointer (some ⟨P.b, P.o, none⟩)] w fun e w' => e = .returned (.tuple #[]) ∧ Held w0 w' (R (l.drop (l.length % 8)) :: Rs) := by
  obtain ⟨d, hW, back⟩ := L.one h
  exact (ralign_any P d l w hW).mono fun _ _ ⟨h1, h2⟩ => ⟨h1, back _ _ h2⟩
theorem l_peek {P : Place} {R : List Nat → Thing} (L : RdLens P R) (h : Held w0 w (R l :: Rs)) (n : Nat) (hn : n ≤ 32) (hnl : n ≤ l.length) (hl : l.length < 1099511600000) :
    Calls Tryd.prog 60 #[.pointer (some ⟨P.b, P.o, none⟩), .int .i64 (n : Int)] w fun e w' => e = .returned (.tuple #[.int .u32 ((numOf (l.take n) : Nat) : Int), .bool true]) ∧ Held w0 w' (R l :: Rs) := by
  obtain ⟨d, hW, back⟩ := L.one h
  exact (peek_any P d l n w hW hn hnl (by omega)).mono fun _ _ ⟨h1, d', bs, s, c, hR, hL, hc, _, hM, hO⟩ => ⟨h1, back _ _ ⟨d', ⟨bs, s, c, hR, hc, hL.symm⟩, hM, hO⟩⟩
theorem l_get_few {P : Place} {R : List Nat → Thing} (L : RdLens P R) (h : Held w0 w (R l :: Rs)) (n : Nat) (hn : n ≤ 32) (hnl : l.length < n) :
    Calls Tryd.prog 47 #[.pointer (some ⟨P.b, P.o, none⟩), .int .i64 (n : Int)] w fun e w' => e = .returned (.tuple #[.int .u32 0, .bool false]) ∧ Held w0 w' (R l :: Rs) := by
  obtain ⟨d, hW, _⟩ := L.one h
  exact (get_few P d l n w hW hn hnl).mono fun _ _ ⟨h1, k, h2⟩ => ⟨h1, by rw [h2]; exact h.drewN k⟩
theorem l_get {P : Place} {R : List Nat → Thing} (L : RdLens P R) (h : Held w0 w (R l :: Rs)) (n : Nat) (hn : n ≤ 32) (hnl : n ≤ l.length) (hl : l.length < 1099511600000) :
    Calls Tryd.prog 47 #[.pointer (some ⟨P.b, P.o, none⟩), .int .i64 (n : Int)] w fun e w' => e = .returned (.tuple #[.int .u32 ((numOf (l.take n) : Nat) : Int), .bool true]) ∧ Held w0 w' (R (l.drop n) :: Rs) := by
  obtain ⟨d, hW, back⟩ := L.one h
  exact (get_any P d l n w hW hn hnl (by omega)).mono fun _ _ ⟨h1, h2⟩ => ⟨h1, back _ _ h2⟩
theorem l_read {P : Place} {R : List Nat → Thing} (L : RdLens P R) (h : Held w0 w (R l :: Rs)) (n : Int) (hl : l.length < 1099511600000) :
    Calls Tryd.prog 31 #[.pointer (some ⟨P.b, P.o, none⟩), .int .i64 n] w fun e w' => ∃ v, e = .returned v ∧
      Held w0 w' (ownT 5 1 v (readN l n) (u8s ((bytesOf (l.drop (l.length % 8))).take (readN l n))) :: R ((l.drop (l.length % 8)).drop (8 * readN l n)) :: Rs) := by
  obtain ⟨d, hW, back⟩ := L.opn h
  by_cases h0 : readN l n = 0
  · refine (read_zero P d l n w hW hl h0).mono fun _ w' ⟨h1, h3⟩ => ⟨_, h1, ?_⟩
    rw [h0]
    exact back w' _ _ (fun _ => False) h3 ⟨Own.nil w' _ _, fun k => by simp [Value.ownBlock]⟩ (fun _ h => h.elim)
  · refine (read_some P d l n _ w hW hl rfl (by omega)).mono fun _ w' ⟨v, h1, h3, h4, h7⟩ => ⟨v, h1, ?_⟩
    exact back w' _ _ (fun k => v.ownBlock = some k) h4 ⟨h3, fun _ => Iff.rfl⟩ (fun k hk => ⟨h7 k hk, h3.lt k hk⟩)
end
end Go.Proofs.YtbkbkmgogbgofaaDoor
/-
  The table as a thing in memory: its object, the lengths and codes, a slice of symbols for each number of bits; slices.Clone; what 'add' does to a group.
-/
namespace Go.Proofs.YtbkbkmgogbgofaaDoor
set_option maxRecDepth 5000
open Go.RowKit
theorem infoIntT : (Tryd.prog.info? 3).map (fun i => (i.zero, i.size, i.bytes)) = some (some (Value.int .i64 0), 1, 8) := by kernel_rfl
def tabC (lv cv : Value) (F : Nat → Nat) (S : Nat → Value) (i : Nat) : Value :=
  if i = 0 then lv else if i = 1 then cv else if i % 2 = 0 then .int .u32 (F (i / 2 - 1) : Int) else S (i / 2 - 1)
def tabL (lv cv : Value) (F : Nat → Nat) (S : Nat → Value) : List Value := (List.range 34).map (tabC lv cv F S)
theorem tabL_get (lv cv : Value) (F : Nat → Nat) (S : Nat → Value) (i : Nat) (h : i < 34) : (tabL lv cv F S)[i]? = some (tabC lv cv F S i) := by
  simp [tabL, h]
theorem tabL_1 (lv cv : Value) (F : Nat → Nat) (S : Nat → Value) : (tabL lv cv F S)[1]? = some cv := rfl
theorem tabL_F (lv cv : Value) (F : Nat → Nat) (S : Nat → Value) (n : Nat) (h : n < 16) : (tabL lv cv F S)[2 + n * 2]? = some (.int .u32 (F n : Int)) := by
  rw [tabL_get _ _ _ _ _ (by omega)]
  unfold tabC
  rw [if_neg (by omega), if_neg (by omega), if_pos (by omega), show (2 + n * 2) / 2 - 1 = n by omega]
theorem tabL_S (lv cv : Value) (F : Nat → Nat) (S : Nat → Value) (n : Nat) (h : n < 16) : (tabL lv cv F S)[2 + n * 2 + 1]? = some (S n) := by
  rw [tabL_get _ _ _ _ _ (by omega)]
  unfold tabC
  rw [if_neg (by omega), if_neg (by omega), if_neg (by omega), show (2 + n * 2 + 1) / 2 - 1 = n by omega]
def upd {α : Type} (f : Nat → α) (n : Nat) (u : α) (k : Nat) : α := if k = n then u else f k
theorem upd_self {α : Type} (f : Nat → α) (n : Nat) (u : α) : upd f n u n = u := by simp [upd]
theorem upd_ne {α : Type} (f : Nat → α) {n k : Nat} (u : α) (h : k ≠ n) : upd f n u k = f k := by simp [upd, h]
theorem tabL_set (lv cv : Value) (F : Nat → Nat) (S : Nat → Value) (n x : Nat) (u : Value) (h : n < 16) :
    ((tabL lv cv F S).set (2 + n * 2) (.int .u32 (x : Int))).set (2 + n * 2 + 1) u = tabL lv cv (upd F n x) (upd S n u) := by
  refine List.ext_getElem? fun i => ?_
  have hlen : (tabL lv cv F S).length = 34 := by simp [tabL]
  by_cases hi : i < 34
  · rw [tabL_get _ _ _ _ _ hi, List.getElem?_set, List.getElem?_set, List.length_set, hlen, tabL_get _ _ _ _ _ hi]
    by_cases h1 : 2 + n * 2 + 1 = i
    · subst h1
      rw [if_pos rfl, if_pos hi]
      unfold tabC
      rw [if_neg (by omega), if_neg (by omega), if_neg (by omega), show (2 + n * 2 + 1) / 2 - 1 = n by omega, upd_self]
    · rw [if_neg h1]
      by_cases h2 : 2 + n * 2 = i
      · subst h2
        rw [if_pos rfl, if_pos hi]
        unfold tabC
        rw [if_neg (by omega), if_neg (by omega), if_pos (by omega), show (2 + n * 2) / 2 - 1 = n by omega, upd_self]
      · rw [if_neg h2]
        unfold tabC
        split
        · rfl
        · split
          · rfl
          · rw [upd_ne _ _ (by omega), upd_ne _ _ (by omega)]
  · rw [List.getElem?_eq_none (by simp [tabL]; omega), List.getElem?_eq_none (by simp [tabL]; omega)]
theorem set_same {L : List Value} {i : Nat} {u : Value} (h : L[i]? = some u) : L.set i u = L := by
  refine List.ext_getElem? fun j => ?_
  rw [List.getElem?_set]
  split
  · subst_vars; rw [if_pos (List.getElem?_eq_some_iff.1 h).1, h]
  · rfl
def grpT (v : Value) (xs : List Nat) : Thing := ownT 3 1 v xs.length (nums .i64 xs)
def tabK (l : List Int) (k B : Nat) (lv cv : Value) (S : Nat → Value) : Thing :=
  allT [objT B (tabL lv cv (grpF l k) S) 105, ownT 3 1 lv l.length (ints l), ownT 33 1 cv l.length (nums .u32 (codesOf l)), allT ((List.range 16).map fun n => grpT (S n) (grp l k n))]
def tabT (l : List Int) (B : Nat) : Thing := exT fun p : Value × Value × (Nat → Value) => tabK l l.length B p.1 p.2.1 p.2.2
section
variable {w0 w : World} {Rs : List Thing}
theorem unK {l : List Int} {k B : Nat} {lv cv : Value} {S : Nat → Value} (h : Held w0 w (tabK l k B lv cv S :: Rs)) :
    Held w0 w (objT B (tabL lv cv (grpF l k) S) 105 :: ownT 3 1 lv l.length (ints l) :: ownT 33 1 cv l.length (nums .u32 (codesOf l)) :: allT ((List.range 16).map fun n => grpT (S n) (grp l k n)) :: Rs) :=
  Held.unall h
theorem mkK {l : List Int} {k B : Nat} {lv cv : Value} {S : Nat → Value}
    (h : Held w0 w (objT B (tabL lv cv (grpF l k) S) 105 :: ownT 3 1 lv l.length (ints l) :: ownT 33 1 cv l.length (nums .u32 (codesOf l)) :: allT ((List.range 16).map fun n => grpT (S n) (grp l k n)) :: Rs)) :
    Held w0 w (tabK l k B lv cv S :: Rs) := Held.all (L := [_, _, _, _]) h
theorem clone_any (v : Value) (n : Nat) (l : List Int) (h : Held w0 w Rs) (hv : Rd w 1 v n (ints l)) (hn : n ≤ 1000) :
    Calls Tryd.prog 68 #[v] w fun e w' => ∃ v', e = .returned v' ∧ Held w0 w' (ownT 3 1 v' n (ints l) :: Rs) := by
  obtain ⟨i0, hi0, hz0, hz1, hz2⟩ := info_parts infoIntT
  have q22 : ∀ (w : World) (a : Option Addr) (n c n' c' : Nat), (binOp .eql 46 (.slice a n c) (.slice none n' c')).run Tryd.prog w = .ok (.bool a.isNone) w := fun w a n c n' c' => Lib.run_eql_slice_nil w _ _ a n c n' c' Tryd.underlying46
  obtain ⟨hl, ao, cap, rfl, hnc, hcm, h0, hr⟩ := hv
  cases ao with
  | none =>
    obtain rfl := h0 rfl
    obtain rfl : n = 0 := by omega
    have hx : ints l = [] := List.eq_nil_of_length_eq_zero (by omega)
    rw [hx]
    have HH := hid (h.nil 3 1)
    clear h hl h0 hr
    go_enter Tryd.func68, Tryd.ntmps68
    go_wp2
    go_ret
    exact ⟨_, rfl, HH.out⟩
  | some a =>
    have hv : Rd w 1 (.slice (some a) n cap) n (ints l) := ⟨hl, _, _, rfl, hnc, hcm, h0, hr⟩
    have H1 := hid (h.lit 3 1 [] 0 (by decide) rfl)
    have HV := hid (hv.kept ((Mod.refl w (fun _ => False)).alloc (.cells #[] 3)) (fun _ _ h => h))
    clear h hl h0 hr hv
    go_enter Tryd.func68, Tryd.ntmps68
    go_wp2_with (refine wpList_app_held rfl (.tmp 5) (.tmp 6) 46 rfl 3 i0 (.int .i64 0) 1 8 Tryd.underlying46 hi0 hz0 hz1 hz2 rfl (by decide) _ 0 [] rfl H1.out _ n (ints l) rfl HV.out (ints_one l) n (by omega) (by unfold maxLen; omega) (by omega) ?_; intro ao1 cap1 w1 h1; have H2 := hid h1; clear h1)
    go_ret
    exact ⟨_, rfl, H2.out⟩
theorem add_any (B o m x c : Nat) (f : Nat) (cs : List Value) (T : TypeId) (v : Value) (xs : List Nat) (h : Held w0 w (objT B cs T :: grpT v xs :: Rs)) (hf : cs[o]? = some (.int .u32 (f : Int))) (hv : cs[o + 1]? = some v) (hm : xs.length = m) (hm2 : m ≤ 1000) :
    Calls Tryd.prog 70 #[.pointer (some ⟨B, o, none⟩), .int .i64 (x : Int), .int .u32 (c : Int)] w fun e w' => e = .returned (.tuple #[]) ∧ ∃ v',
      Held w0 w' (objT B ((cs.set o (.int .u32 ((if m = 0 then c else f : Nat) : Int))).set (o + 1) v') T :: grpT v' (xs ++ [x]) :: Rs) := by
  obtain ⟨i0, hi0, hz0, hz1, hz2⟩ := info_parts infoIntT
  unfold grpT at h ⊢
  rw [hm] at h
  obtain ⟨ao, cap, rfl, hnc, hcm⟩ := h.swap.own.form
  have hxs : nums .i64 (xs ++ [x]) = nums .i64 xs ++ [.int .i64 (x : Int)] := by simp [nums]
  rw [List.length_append, hm, List.length_singleton, hxs]
  have hc0 := h.obj.cell hf
  have hc1 := h.obj.cell hv
  have hf0 := h.obj.frozen o
  have HH := hid h
  have HF := hid hf
  have HV := hid hv
  have hm0 : (0 : Int) ≤ (m : Int) := Int.natCast_nonneg _
  clear h hf hv hxs hm
  by_cases h0 : m = 0
  · have hI : ((m : Int) == 0) = true := by simp; omega
    have HS := hid (HH.out.setObj o (.int .u32 (c : Int)))
    have HE : Hid ((cs.set o (.int .u32 (c : Int)))[o + 1]? = some (.slice ao m cap)) := by unfold Hid; rw [List.getElem?_set_ne (by omega)]; exact HV.out
    have hc2 := HS.out.obj.cell (i := o + 1) HE.out
    have hf2 := HS.out.obj.frozen (o + 1)
    rw [if_pos h0]
    clear HH HF h0
    go_enter Tryd.func70, Tryd.ntmps70
    go_wp2_with ((with_reducible show wpList _ _ _ (⟨some 23, _, _, _, _, _⟩ :: _) _ _); have HL := hid ((HS.out.swap).litN 3 1 [.int .i64 (x : Int)] 1 (by decide) rfl w.heap.size (by simp [World.setCell])).swap; refine wpList_app_held rfl (.tmp 20) (.tmp 22) 46 rfl 3 i0 (.int .i64 0) 1 8 Tryd.underlying46 hi0 hz0 hz1 hz2 rfl (by decide) _ m (nums .i64 xs) rfl HL.out _ 1 [.int .i64 (x : Int)] rfl HL.out.swap.own.rd (by simp [Value.oneCell']) (m + 1) rfl (by unfold maxLen; omega) (by omega) ?_; intro ao1 cap1 w1 h1; have hf3 := h1.third.obj.frozen (o + 1); have hc3 := h1.third.obj.cell (i := o + 1) HE.out; have HK := hid h1; clear h1)
    go_end0
    exact ⟨rfl, _, (HK.out.swap.drop.swap).setObj (o + 1) _⟩
  · have hI : ((m : Int) == 0) = false := by simp; omega
    rw [if_neg h0, set_same HF.out]
    clear HF
    go_enter Tryd.func70, Tryd.ntmps70
    go_wp2_with ((with_reducible show wpList _ _ _ (⟨some 23, _, _, _, _, _⟩ :: _) _ _); have HL := hid ((HH.out.swap).litN 3 1 [.int .i64 (x : Int)] 1 (by decide) rfl w.heap.size rfl).swap; refine wpList_app_held rfl (.tmp 20) (.tmp 22) 46 rfl 3 i0 (.int .i64 0) 1 8 Tryd.underlying46 hi0 hz0 hz1 hz2 rfl (by decide) _ m (nums .i64 xs) rfl HL.out _ 1 [.int .i64 (x : Int)] rfl HL.out.swap.own.rd (by simp [Value.oneCell']) (m + 1) rfl (by unfold maxLen; omega) (by omega) ?_; intro ao1 cap1 w1 h1; have hf3 := h1.third.obj.frozen (o + 1); have hc3 := h1.third.obj.cell (i := o + 1) HV.out; have HK := hid h1; clear h1)
    go_end0
    exact ⟨rfl, _, (HK.out.swap.drop.swap).setObj (o + 1) _⟩
end
end Go.Proofs.YtbkbkmgogbgofaaDoor
/-
  What Build, Next and Write are to do, as a statement that the program's own text must show ('TableOK', for some thing that a table is); the laws' own example.
-/
namespace Go.Proofs.YtbkbkmgogbgofaaDoor
set_option maxRecDepth 5000
open Go.RowKit
def Fine (l : List Int) : Prop := (∀ a ∈ l, 0 ≤ a ∧ a ≤ 15) ∧ l.length ≤ 288 ∧ (sumOf l = 0 ∨ sumOf l = 32768 ∨ sumOf l = 16384 ∧ l.count 1 = 1)
theorem fine_of {l : List Int} {m : Int} (h : checkOf l m = 0) : Fine l := by
  unfold checkOf at h
  split at h
  · cases h
  · rename_i hb
    split at h
    · rename_i hs
      simp only [argBad, Bool.or_eq_true, decide_eq_true_eq, Bool.not_eq_true', not_or, Bool.not_eq_false] at hb
      have h1 := (allIn_iff l m).1 hb.2
      exact ⟨fun a ha => ⟨(h1 a ha).1, by have := (h1 a ha).2; omega⟩, by omega, hs⟩
    · cases h
section
variable {w0 w : World} {Rs : List Thing}
end
end Go.Proofs.YtbkbkmgogbgofaaDoor
/-
  Build: a table of every code that Check takes.
-/
namespace Go.Proofs.YtbkbkmgogbgofaaDoor
set_option maxRecDepth 5000
open Go.RowKit
section
variable {w0 w : World} {Rs : List Thing}
theorem Held.allNil {e : TypeId} (h : Held w0 w Rs) : ∀ L : List Nat, Held w0 w (allT (L.map fun _ => ownT e 1 (.slice none 0 0) 0 []) :: Rs)
  | [] => h.noT
  | _ :: L => ((Held.allNil h L).nil e 1).pair
def tabZ (lv cv : Value) : List Value := [lv, cv, .int .u32 0, .slice none 0 0, .int .u32 0, .slice none 0 0, .int .u32 0, .slice none 0 0, .int .u32 0, .slice none 0 0, .int .u32 0, .slice none 0 0, .int .u32 0, .slice none 0 0, .int .u32 0, .slice none 0 0, .int .u32 0, .slice none 0 0, .int .u32 0, .slice none 0 0, .int .u32 0, .slice none 0 0, .int .u32 0, .slice none 0 0, .int .u32 0, .slice none 0 0, .int .u32 0, .slice none 0 0, .int .u32 0, .slice none 0 0, .int .u32 0, .slice none 0 0, .int .u32 0, .slice none 0 0]
theorem K_start {l : List Int} {B : Nat} {lv cv : Value} (h : Held w0 w (objT B (tabZ lv cv) 105 :: ownT 3 1 lv l.length (ints l) :: ownT 33 1 cv l.length (nums .u32 (codesOf l)) :: Rs)) :
    Held w0 w (tabK l 0 B lv cv (fun _ => .slice none 0 0) :: Rs) := by
  have h1 := Held.allNil (e := 3) h (List.range 16)
  have h2 := h1.perm (List.perm_middle (l₁ := [_, _, _]) (a := allT ((List.range 16).map fun _ => ownT 3 1 (.slice none 0 0) 0 [])) (l₂ := Rs)).symm
  refine mkK ?_
  have e1 : grpF l 0 = fun _ => 0 := funext fun n => grpF_none l n
  have e2 : (fun n : Nat => grpT (.slice none 0 0) (grp l 0 n)) = fun _ => ownT 3 1 (.slice none 0 0) 0 [] := funext fun n => by rw [grp_none]; rfl
  rw [e1, e2]
  exact h2
theorem K_open {l : List Int} {k B z : Nat} {lv cv : Value} {S : Nat → Value} (h : Held w0 w (tabK l k B lv cv S :: Rs)) (hz : z < 16) :
    Held w0 w (objT B (tabL lv cv (grpF l k) S) 105 :: grpT (S z) (grp l k z) :: allT (((List.range 16).map fun n => grpT (S n) (grp l k n)).eraseIdx z) :: ownT 3 1 lv l.length (ints l) :: ownT 33 1 cv l.length (nums .u32 (codesOf l)) :: Rs) :=
  ((unK h).fourth.allOut (i := z) (R := grpT (S z) (grp l k z)) (by simp [hz])).third
theorem K_step {l : List Int} {i B z : Nat} {lv cv v' : Value} {S : Nat → Value} (hi : l[i]? = some (z : Int)) (hz : 1 ≤ z) (hz2 : z ≤ 15)
    (h : Held w0 w (objT B (((tabL lv cv (grpF l i) S).set (2 + z * 2) (.int .u32 ((if (grp l i z).length = 0 then codeAt l i else grpF l i z : Nat) : Int))).set (2 + z * 2 + 1) v') 105 :: grpT v' (grp l i z ++ [i]) ::
      allT (((List.range 16).map fun n => grpT (S n) (grp l i n)).eraseIdx z) :: ownT 3 1 lv l.length (ints l) :: ownT 33 1 cv l.length (nums .u32 (codesOf l)) :: Rs)) :
    Held w0 w (tabK l (i + 1) B lv cv (upd S z v') :: Rs) := by
  have h1 := (h.swap.third.swap).allBack (by simp; omega)
  rw [tabL_set _ _ _ _ _ _ _ (by omega)] at h1
  have e1 : upd (grpF l i) z (if (grp l i z).length = 0 then codeAt l i else grpF l i z) = grpF l (i + 1) := funext fun n => by
    by_cases e : n = z
    · subst e; rw [upd_self, grpF_in l i n hi hz hz2]
    · rw [upd_ne _ _ e, grpF_out l i z n hi e]
  have e2 : ((List.range 16).map fun n => grpT (S n) (grp l i n)).set z (grpT v' (grp l i z ++ [i])) = (List.range 16).map fun n => grpT (upd S z v' n) (grp l (i + 1) n) := by
    refine List.ext_getElem? fun n => ?_
    rw [List.getElem?_set]
    by_cases hn : n < 16
    · by_cases e : z = n
      · subst e
        rw [if_pos rfl, if_pos (by simp; omega)]
        simp [hn, upd_self, grp_in l i z hi hz]
      · rw [if_neg e]
        have e' : n ≠ z := fun h => e h.symm
        simp [hn, upd_ne _ _ e', grp_out l i z n hi e']
    · rw [if_neg (by omega)]
      simp [hn]
  rw [e1, e2] at h1
  exact mkK (h1.perm (List.perm_middle (l₁ := [_, _, _])).symm)
theorem K_skip {l : List Int} {i B : Nat} {lv cv : Value} {S : Nat → Value} (hi : l[i]? = some 0) (h : Held w0 w (tabK l i B lv cv S :: Rs)) : Held w0 w (tabK l (i + 1) B lv cv S :: Rs) := by
  have e1 : grpF l (i + 1) = grpF l i := funext fun n => grpF_skip l i n hi
  have e2 : (fun n : Nat => grpT (S n) (grp l (i + 1) n)) = fun n => grpT (S n) (grp l i n) := funext fun n => by rw [grp_skip l i n hi]
  unfold tabK at h ⊢
  rw [e1, e2]; exact h
theorem codes_get (l : List Int) (i : Nat) (h : i < l.length) : (nums .u32 (codesOf l))[i]? = some (.int .u32 (codeAt l i : Int)) := by
  rw [nums_get]; simp [codesOf, h]
end
set_option maxRecDepth 20000 in
set_option maxHeartbeats 1600000 in
theorem build_any (v : Value) (n : Nat) (l : List Int) (most : Int) (w : World) (hv : Rd w 1 v n (ints l)) (hn : n ≤ 1000) :
    Calls Tryd.prog 53 #[v, .int .i64 most] w fun e w' =>
      (checkOf l most ≠ 0 ∧ e = .returned (.tuple #[.pointer none, .int .i64 ((checkOf l most : Nat) : Int)]) ∧ Held w w' []) ∨
      (checkOf l most = 0 ∧ ∃ B, e = .returned (.tuple #[.pointer (some ⟨B, 0, none⟩), .int .i64 0]) ∧ Held w w' [tabT l B]) := by
  have hnl : n = l.length := by have := hv.1; simpa [ints] using this.symm
  have HV := hid hv
  have HC := hid (check_any v l most w (by rw [← hnl]; exact hv) (by omega))
  have HOK := hid (fun h : checkOf l most = 0 => fine_of h)
  by_cases hc : checkOf l most = 0
  · obtain ⟨hl, hl2, _⟩ := HOK.out hc
    rw [hc] at HC
    have HCK := hid hc
    clear hc
    clear hv HOK
    have HN := hid hnl
    have HL := hid hl
    clear hl hnl
    go_enter Tryd.func53, Tryd.ntmps53
    go_wp2_with fail
    refine HC.out.mono ?_
    rintro e w1 ⟨rfl, hm1⟩
    have HM1 := hid hm1
    have HV1 := hid (HV.out.kept hm1 (fun _ _ h => h))
    have H1 := hid ((Held.start w).same hm1)
    clear hm1 HC HV
    go_wp2_with fail
    refine (clone_any v n l (Held.start w1) HV1.out hn).mono ?_
    rintro e w2 ⟨lv, rfl, h2⟩
    obtain ⟨lo, lcap, rfl, hln, _⟩ := h2.own.form
    have HV2 := hid (HV1.out.kept h2.mod (fun _ _ h => h))
    have H2 := hid (H1.out.frame h2)
    clear h2 HV1 H1
    go_wp2_with fail
    have HCD := hid (codes_any v l w2 (by rw [← HN.out]; exact HV2.out) hl2)
    rw [← HN.out] at HCD
    refine HCD.out.mono ?_
    rintro e w3 ⟨cv, rfl, ho3, hf3, hm3⟩
    obtain ⟨co, ccap, rfl, hcn, _⟩ := ho3.form
    have H3 := hid (H2.out.pushOwn ho3 hm3 hf3)
    clear ho3 hf3 hm3 H2 HV2 HCD
    have HK : Hid (Held w (w3.alloc (.cells (tabZ (.slice lo n lcap) (.slice co n ccap)).toArray 105)) [tabK l 0 w3.heap.size (.slice lo n lcap) (.slice co n ccap) (fun _ => .slice none 0 0)]) := by
      unfold Hid
      have h := H3.out.swap
      rw [HN.out] at h ⊢
      exact K_start (h.newObj _ _)
    clear H3
    have hn0 : (0 : Int) ≤ (n : Int) := Int.natCast_nonneg _
    go_wp2
    obtain ⟨B, hB⟩ : ∃ B, B = w3.heap.size := ⟨_, rfl⟩
    rw [← hB] at HK ⊢
    clear hB
    go_loopg [27] (n + 1) (fun k t27 wr => ∃ (i : Nat) (S : Nat → Value), i ≤ n ∧ n - i < k ∧ t27 = .int .i64 (i : Int) ∧ Hid (Held w wr [tabK l i B (.slice lo n lcap) (.slice co n ccap) S]))
    case atStart => exact ⟨0, _, by omega, by omega, rfl, HK⟩
    case round =>
      obtain ⟨i, S, hi, hk, rfl, HH⟩ := hrel
      clear HK
      by_cases hin : i < n
      · obtain ⟨a, hai⟩ : ∃ a, l[i]? = some a := ⟨l[i]'(by have := HN.out; omega), List.getElem?_eq_getElem _⟩
        have ha := HL.out a (List.mem_of_getElem? hai)
        obtain ⟨z, rfl⟩ := Int.eq_ofNat_of_zero_le ha.1
        have hi0 : (0 : Int) ≤ (i : Int) := Int.natCast_nonneg _
        have hi1 : (i : Int) < (n : Int) := by omega
        have hol := (unK HH.out).swap.own
        rw [← HN.out] at hol
        obtain ⟨g, off, rfl, hcell, _, _⟩ := hol.site (by omega)
        have hc1 := hcell i _ (by rw [ints_get, hai]; rfl)
        clear hcell hol
        by_cases hz : z = 0
        · subst hz
          have HR := hid (K_skip hai HH.out)
          clear hai ha HH
          go_wp2
          go_roundg (gk - 1)
          case measure => omega
          case rel => exact ⟨i + 1, S, by omega, by omega, by go_num, HR⟩
        · have hz0 : (0 : Int) < (z : Int) := by omega
          have hz16 : (z : Int) < 16 := by omega
          have hz16n : z < 16 := by omega
          have hKO := K_open HH.out hz16n
          have hco := (unK HH.out).third.own
          rw [← HN.out] at hco
          obtain ⟨g2, off2, rfl, hcell2, _, _⟩ := hco.site (by omega)
          have hc2 := hcell2 i _ (codes_get l i (by have := HN.out; omega))
          have hc3 := hKO.obj.cell (i := 1) (tabL_1 _ _ _ _)
          have HAI := hid hai
          have HZ := hid hz
          have HKO := hid hKO.drew
          obtain ⟨x, hx⟩ : ∃ x, x = codeAt l i := ⟨_, rfl⟩
          rw [← hx] at hc2
          have HX := hid hx
          clear hcell2 hco hKO hz hx hai ha HH
          go_wp2
          go_still_tail 13, (by kernel_rfl)
          change wpList _ _ _ _ _ wr.drew
          clear hc1 hc2 hc3
          generalize wr.drew = w5 at HKO ⊢
          have HA := hid (add_any B (2 + z * 2) (grp l i z).length i x (grpF l i z) _ _ _ _ HKO.out (tabL_F _ _ _ _ _ hz16n) (tabL_S _ _ _ _ _ hz16n) rfl (by have := grp_le l i z; omega))
          go_wp2_with fail
          refine HA.out.mono ?_
          rintro e w6 ⟨rfl, v', h6⟩
          rw [HX.out] at h6
          have HR := hid (K_step HAI.out (by have := HZ.out; omega) (by omega) h6)
          clear h6 HA HKO
          go_wp2
          go_roundg (gk - 1)
          case measure => omega
          case rel => exact ⟨i + 1, _, by omega, by omega, by go_num, HR⟩
      · have hi1 : ¬ (i : Int) < (n : Int) := by omega
        have HR : Hid (Held w wr [tabT l B]) := by
          unfold Hid
          have h := HH.out
          rw [show i = l.length by have := HN.out; omega] at h
          exact Held.mk (_, _, S) h
        go_wp2
        go_ret2
        exact .inr ⟨HCK.out, B, rfl, HR.out⟩
  · generalize checkOf l most = cv at HC hc ⊢
    have hI : ((cv : Int) != 0) = true := by simp; omega
    clear HOK hv
    have HCV := hid hc
    clear hc
    go_enter Tryd.func53, Tryd.ntmps53
    go_wp2_with fail
    refine HC.out.mono ?_
    rintro e w1 ⟨rfl, hm⟩
    have HM := hid ((Held.start w).same hm)
    clear hm HC
    go_wp2
    go_ret2
    exact .inl ⟨HCV.out, rfl, HM.out⟩
end Go.Proofs.YtbkbkmgogbgofaaDoor
