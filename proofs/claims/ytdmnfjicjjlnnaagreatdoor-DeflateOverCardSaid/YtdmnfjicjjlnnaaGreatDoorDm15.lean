/-
  What the program writes as a dynamic block, told as a function: the codes, the head, the whole; it is read as what it means. No program is named here.
-/
import Derived.Test.YtdmnfjicjjlnnaaGreatDoorDm14
import Derived.Test.YtdmnfjicjjlnnaaGreatDoorDm08
import Derived.Test.YtdmnfjicjjlnnaaGreatDoorDm06
import Derived.Test.YtdmnfjicjjlnnaaGreatDoorDm03
import Derived.Test.YtdmnfjicjjlnnaaGreatDoorDm02
import Derived.Test.YtdmnfjicjjlnnaaGreatDoorDm04
import Derived.Test.YtdmnfjicjjlnnaaGreatDoorProg
import Derived.StillTailTactics
namespace Go.Proofs.YtdmnfjicjjlnnaaGreatDoor
set_option maxRecDepth 5000
def LensOK (Ln : List Nat → Nat → List Nat) : Prop := ∀ (f : List Nat) (m : Nat), f.length ≤ 288 → 1 ≤ m → m ≤ 15 → codedN f ≤ 2 ^ m → LenOK f m (Ln f m)
def fixD (d : List Int) : List Int := if sumOf d = 0 then d.set 0 1 else d
def litC (Ln : List Nat → Nat → List Nat) (l : List Tok) : List Int := cutL (natI (Ln (litF l) 15)) 257
def dstL (Ln : List Nat → Nat → List Nat) (l : List Tok) : List Int := cutL (fixD (natI (Ln (dstF l) 15))) 1
def itemsOf (lit dist : List Int) : List Item := itemsF (lit ++ dist) (lit ++ dist).length 0
def frqN (xs : List Item) (k : Nat) : Nat := xs.countP fun x => decide (x.1 = k)
def frqF (xs : List Item) : List Nat := (List.range 19).map (frqN xs)
def headC (Ln : List Nat → Nat → List Nat) (xs : List Item) : List Int := natI (Ln (frqF xs) 7)
def inOrd (hd : List Int) : List Int := orderF.map fun s => hd[s]?.getD 0
def headN (hd : List Int) : Nat := cutN (inOrd hd) 4 19
def itemsB (hd : List Int) (xs : List Item) : List Nat := xs.flatMap (itemB hd)
def headB (lit dist hd : List Int) (xs : List Item) : List Nat := dynBits lit dist hd (headN hd) (itemsB hd xs)
def blkF (Ln : List Nat → Nat → List Nat) (kind : Nat) (l : List Tok) (raw : List Nat) (a : Nat) : List Nat :=
  if kind = 0 then storedBits a raw
  else if kind = 1 then toksB fixLit fixDist l
  else headB (litC Ln l) (dstL Ln l) (headC Ln (itemsOf (litC Ln l) (dstL Ln l))) (itemsOf (litC Ln l) (dstL Ln l)) ++ toksB (litC Ln l) (dstL Ln l) l
/-! ### Frequencies that may be -/
theorem codedN_le_len : ∀ l : List Nat, codedN l ≤ l.length
  | [] => Nat.le_refl _
  | a :: l => by rw [codedN, List.length_cons]; have := codedN_le_len l; split <;> omega
section
variable {Ln : List Nat → Nat → List Nat} {l : List Tok}
theorem lit_for (H : LensOK Ln) (l : List Tok) : LenFor (litF l) 15 (Ln (litF l) 15) :=
  (H (litF l) 15 (by rw [litF_length]; decide) (by decide) (by decide) (Nat.le_trans (codedN_le_len _) (by rw [litF_length]; decide))).for (by decide)
theorem dst_for (H : LensOK Ln) (l : List Tok) : LenFor (dstF l) 15 (Ln (dstF l) 15) :=
  (H (dstF l) 15 (by rw [dstF_length]; decide) (by decide) (by decide) (Nat.le_trans (codedN_le_len _) (by rw [dstF_length]; decide))).for (by decide)
theorem frqF_length (xs : List Item) : (frqF xs).length = 19 := by simp [frqF]
theorem frqF_get (xs : List Item) {k : Nat} (h : k < 19) : (frqF xs)[k]? = some (frqN xs k) := by simp [frqF, h]
theorem frqN_le (xs : List Item) (k : Nat) : frqN xs k ≤ xs.length := List.countP_le_length
theorem head_for (H : LensOK Ln) (xs : List Item) : LenFor (frqF xs) 7 (Ln (frqF xs) 7) :=
  (H (frqF xs) 7 (by rw [frqF_length]; decide) (by decide) (by decide) (Nat.le_trans (codedN_le_len _) (by rw [frqF_length]; decide))).for (by decide)
theorem lit_check0 (H : LensOK Ln) (l : List Tok) : checkOf (natI (Ln (litF l) 15)) 15 = 0 := (lit_for H l).check (by decide) (by decide) (by rw [litF_length]; decide)
theorem lit_check (H : LensOK Ln) (l : List Tok) : checkOf (litC Ln l) 15 = 0 := cutL_check (m := 15) (lit_check0 H l) (by decide) (by decide)
theorem set_first {l : List Int} (h : ∀ a ∈ l, a = 0) (hl : 0 < l.length) : l.set 0 1 = 1 :: List.replicate (l.length - 1) 0 := by
  match l, hl with
  | a :: r, _ =>
    show 1 :: r = _
    congr 1
    exact List.eq_replicate_iff.2 ⟨by simp, fun b hb => h b (List.mem_cons_of_mem _ hb)⟩
theorem sum_zero_all {l : List Int} (hh : ∀ a ∈ l, 0 ≤ a ∧ a ≤ 15) (hs : sumOf l = 0) : ∀ a ∈ l, a = 0 := by
  intro a ha
  obtain ⟨i, hi⟩ := List.getElem?_of_mem ha
  have h1 := hh a ha
  refine Classical.byContradiction fun hne => ?_
  obtain ⟨n, hn⟩ : ∃ n : Nat, a = ((n + 1 : Nat) : Int) := ⟨a.toNat - 1, by omega⟩
  subst hn
  have h2 := place_end l i n hi (by omega)
  have h3 := tot_mono l (n + 1) 15 (by omega)
  have h4 : 1 ≤ 2 ^ (14 - n) := Nat.one_le_two_pow
  unfold sumOf at hs
  generalize 2 ^ (14 - n) = z at h2 h4
  generalize codeAt l i * z = y at h2
  omega
theorem fixD_check {d : List Int} (h : checkOf d 15 = 0) (hl : 1 ≤ d.length) : checkOf (fixD d) 15 = 0 ∧ (fixD d).length = d.length ∧ ∀ k, HasSym d k → fixD d = d := by
  obtain ⟨h1, h2, h3⟩ := check_is (m := 15) h
  unfold fixD
  by_cases c : sumOf d = 0
  · rw [if_pos c]
    have hz := sum_zero_all h2 c
    refine ⟨?_, by simp, fun k ⟨a, ha, ha0⟩ => by have := hz a (List.mem_of_getElem? ha); omega⟩
    rw [set_first hz hl]
    refine check_of (m := 15) (by decide) (by decide) (by simp; omega) (fun a ha => ?_) (.inr (.inr ⟨?_, ?_⟩))
    · rcases List.mem_cons.1 ha with rfl | ha
      · decide
      · rw [List.eq_of_mem_replicate ha]; decide
    · rw [sum_cons, sum_zeros]; decide
    · rw [List.count_cons, List.count_replicate]; simp
  · rw [if_neg c]
    exact ⟨h, rfl, fun _ _ => rfl⟩
theorem dst_check0 (H : LensOK Ln) (l : List Tok) : checkOf (natI (Ln (dstF l) 15)) 15 = 0 := (dst_for H l).check (by decide) (by decide) (by rw [dstF_length]; decide)
theorem dst_len0 (H : LensOK Ln) (l : List Tok) : (natI (Ln (dstF l) 15)).length = 30 := by rw [natI_length, (dst_for H l).len, dstF_length]
theorem lit_len0 (H : LensOK Ln) (l : List Tok) : (natI (Ln (litF l) 15)).length = 286 := by rw [natI_length, (lit_for H l).len, litF_length]
theorem dst_check1 (H : LensOK Ln) (l : List Tok) : checkOf (fixD (natI (Ln (dstF l) 15))) 15 = 0 := (fixD_check (dst_check0 H l) (by rw [dst_len0 H l]; decide)).1
theorem dst_len1 (H : LensOK Ln) (l : List Tok) : (fixD (natI (Ln (dstF l) 15))).length = 30 := by rw [(fixD_check (dst_check0 H l) (by rw [dst_len0 H l]; decide)).2.1, dst_len0 H l]
theorem dst_check (H : LensOK Ln) (l : List Tok) : checkOf (dstL Ln l) 15 = 0 := cutL_check (m := 15) (dst_check1 H l) (by decide) (by decide)
theorem lit_all (H : LensOK Ln) (l : List Tok) : ∀ a ∈ litC Ln l, 0 ≤ a ∧ a ≤ 15 := (check_is (m := 15) (lit_check H l)).2.1
theorem dst_all (H : LensOK Ln) (l : List Tok) : ∀ a ∈ dstL Ln l, 0 ≤ a ∧ a ≤ 15 := (check_is (m := 15) (dst_check H l)).2.1
theorem lit_len (H : LensOK Ln) (l : List Tok) : 257 ≤ (litC Ln l).length ∧ (litC Ln l).length ≤ 286 := by
  have h := lit_len0 H l
  unfold litC
  rw [cutL_length, h]
  exact ⟨cutN_ge _ (by decide), cutN_le _⟩
theorem dst_len (H : LensOK Ln) (l : List Tok) : 1 ≤ (dstL Ln l).length ∧ (dstL Ln l).length ≤ 30 := by
  have h := dst_len1 H l
  unfold dstL
  rw [cutL_length, h]
  exact ⟨cutN_ge _ (by decide), cutN_le _⟩
theorem lit_has (H : LensOK Ln) {l : List Tok} {k : Nat} (hk : k < 286) (h : 0 < litE l k) : HasSym (litC Ln l) k := cutL_has ((lit_for H l).has (litF_get l hk) h)
theorem dst_has (H : LensOK Ln) {l : List Tok} {k : Nat} (hk : k < 30) (h : 0 < dstN l k) : HasSym (dstL Ln l) k := by
  have h1 := (dst_for H l).has (dstF_get l hk) h
  unfold dstL
  rw [(fixD_check (dst_check0 H l) (by rw [dst_len0 H l]; decide)).2.2 k h1]
  exact cutL_has h1
theorem covers_dyn (H : LensOK Ln) {l : List Tok} (hs : ∀ t ∈ l, soundB t = true) (hb : byteOK l) : Covers (litC Ln l) (dstL Ln l) l :=
  ⟨lit_has H (by decide) (litE_end l), fun t ht => ⟨lit_has H (symOf_lt (hs t ht) (hb t ht)) (litE_pos ht), fun h0 => dst_has H (dstC_is (hs t ht) h0).1 (dstN_pos ht h0)⟩⟩
theorem fixLit_has : ∀ k, k < 288 → HasSym fixLit k := by
  intro k hk
  have h : fixLit[k]? = some (fixAt k) := by simp [fixLit, hk]
  refine ⟨_, h, ?_⟩
  unfold fixAt
  repeat (first | decide | split)
theorem covers_fix {l : List Tok} (hs : ∀ t ∈ l, soundB t = true) (hb : byteOK l) : Covers fixLit fixDist l :=
  ⟨fixLit_has 256 (by decide), fun t ht => ⟨fixLit_has _ (by have := symOf_lt (hs t ht) (hb t ht); omega), fun h0 => by
    have := (dstC_is (hs t ht) h0).1
    exact ⟨5, by unfold fixDist; rw [List.getElem?_replicate, if_pos (by omega)], by decide⟩⟩⟩
theorem headC_len (H : LensOK Ln) (xs : List Item) : (headC Ln xs).length = 19 := by unfold headC; rw [natI_length, (head_for H xs).len, frqF_length]
theorem headC_check (H : LensOK Ln) (xs : List Item) : checkOf (headC Ln xs) 7 = 0 := (head_for H xs).check (by decide) (by decide) (by rw [frqF_length]; decide)
theorem headC_all (H : LensOK Ln) (xs : List Item) : ∀ a ∈ headC Ln xs, 0 ≤ a ∧ a ≤ 7 := (head_for H xs).all
theorem headC_has (H : LensOK Ln) {xs : List Item} {x : Item} (h : x ∈ xs) (hx : x.1 < 19) : HasSym (headC Ln xs) x.1 :=
  (head_for H xs).has (frqF_get xs hx) (List.countP_pos_iff.2 ⟨x, h, by simp⟩)
theorem inOrd_length (hd : List Int) : (inOrd hd).length = 19 := by simp [inOrd]; rfl
theorem inOrd_get (hd : List Int) {i : Nat} (h : i < 19) : (inOrd hd)[i]? = some (hd[orderAt i]?.getD 0) := by
  unfold inOrd orderAt
  have : i < orderF.length := h
  rw [List.getElem?_map, List.getElem?_eq_getElem this]; rfl
theorem order_all : ∀ j, j < 19 → ∃ i, i < 19 ∧ orderAt i = j := by
  intro j hj
  have h : ∀ j, j < 19 → (List.range 19).any (fun i => decide (orderAt i = j)) = true := by decide +kernel
  obtain ⟨i, hi, e⟩ := List.any_eq_true.1 (h j hj)
  exact ⟨i, List.mem_range.1 hi, of_decide_eq_true e⟩
theorem order_mem {i c : Nat} (h : i < c) (hi : i < 19) : orderAt i ∈ orderF.take c := by
  have h2 : i < orderF.length := hi
  have e : orderF[i]? = some (orderAt i) := by unfold orderAt; rw [List.getElem?_eq_getElem h2]; rfl
  refine List.mem_of_getElem? (i := i) ?_
  rw [List.getElem?_take, if_pos h, e]
theorem part_head {hd : List Int} (hl : hd.length = 19) : partH hd (headN hd) = hd := by
  refine List.ext_getElem? fun j => ?_
  unfold partH
  by_cases hj : j < 19
  · rw [List.getElem?_map, List.getElem?_range hj]
    have hv : hd[j]? = some (hd[j]?.getD 0) := by rw [List.getElem?_eq_getElem (by omega)]; rfl
    rw [hv]
    simp only [Option.map_some, Option.some.injEq]
    split
    · rfl
    · rename_i hno
      obtain ⟨i, hi, e⟩ := order_all j hj
      have hc : headN hd ≤ i := by
        refine Classical.byContradiction fun h => hno ?_
        rw [← e]
        exact order_mem (by omega) hi
      have h2 := cutN_zero (l := inOrd hd) (least := 4) 19 i hc hi
      rw [inOrd_get hd hi, e] at h2
      exact h2.symm
  · rw [List.getElem?_eq_none (by simp; omega), List.getElem?_eq_none (by omega)]
theorem any_head {hd : List Int} {k : Nat} (hk : k < 19) (h : HasSym hd k) : ∃ i, i < headN hd ∧ 0 < hd[orderAt i]?.getD 0 := by
  obtain ⟨i, hi, e⟩ := order_all k hk
  obtain ⟨a, ha, h0⟩ := h
  have hp : 0 < hd[orderAt i]?.getD 0 := by rw [e, ha]; exact h0
  refine ⟨i, Classical.byContradiction fun hc => ?_, hp⟩
  have h2 := cutN_zero (l := inOrd hd) (least := 4) 19 i (by unfold headN at hc; omega) hi
  rw [inOrd_get hd hi] at h2
  have h3 : hd[orderAt i]?.getD 0 = 0 := h2
  omega
theorem all_app {lit dist : List Int} (h1 : ∀ a ∈ lit, 0 ≤ a ∧ a ≤ 15) (h2 : ∀ a ∈ dist, 0 ≤ a ∧ a ≤ 15) : ∀ a ∈ lit ++ dist, 0 ≤ a ∧ a ≤ 15 := fun a ha => (List.mem_append.1 ha).elim (h1 a) (h2 a)
theorem sum_le_of {l : List Int} {m : Nat} (h : checkOf l (m : Int) = 0) : sumOf l ≤ 32768 := by have := (check_is h).2.2; omega
theorem dyn_codes (H : LensOK Ln) (l : List Tok) : DynCodes (litC Ln l) (dstL Ln l) (headC Ln (itemsOf (litC Ln l) (dstL Ln l))) (headN (headC Ln (itemsOf (litC Ln l) (dstL Ln l)))) (itemsB (headC Ln (itemsOf (litC Ln l) (dstL Ln l))) (itemsOf (litC Ln l) (dstL Ln l))) := by
  have hA := all_app (lit_all H l) (dst_all H l)
  have hl := lit_len H l
  have hd := dst_len H l
  have hsym := itemsF_sym hA (litC Ln l ++ dstL Ln l).length 0
  have hh := headC_len H (itemsOf (litC Ln l) (dstL Ln l))
  have hlen : 0 < (litC Ln l ++ dstL Ln l).length := by rw [List.length_append]; omega
  have hx : ∃ x, x ∈ itemsOf (litC Ln l) (dstL Ln l) := by
    unfold itemsOf
    obtain ⟨n, hn⟩ : ∃ n, (litC Ln l ++ dstL Ln l).length = n + 1 := ⟨(litC Ln l ++ dstL Ln l).length - 1, by omega⟩
    rw [hn, itemsF, if_pos (by omega)]
    exact ⟨_, List.mem_cons_self ..⟩
  obtain ⟨x, hx⟩ := hx
  have hx19 := (hsym x hx).1
  have h256 : HasSym (litC Ln l) 256 := lit_has H (by decide) (litE_end l)
  have hI := items_lens (hd := headC Ln (itemsOf (litC Ln l) (dstL Ln l))) hA (litC Ln l ++ dstL Ln l).length 0 (Nat.zero_le _) (by omega) fun y hy => headC_has H hy (hsym y hy).1
  exact {
    a1 := hl.1
    a2 := hl.2
    b1 := hd.1
    b2 := hd.2
    c1 := cutN_ge _ (by decide)
    c2 := cutN_le _
    h7 := headC_all H _
    part := part_head hh
    check := headC_check H _
    sum := sum_le_of (m := 7) (headC_check H _)
    any := any_head hx19 (headC_has H hx hx19)
    lens := hI
    lit15 := lit_check H l
    dist15 := dst_check H l
    stop := by
      obtain ⟨a, ha, h0⟩ := h256
      rw [ha]
      show a ≠ 0
      omega }
theorem blkF_good (H : LensOK Ln) (kind : Nat) (l : List Tok) (raw : List Nat) (a : Nat) (hm : kind = 0 ∧ raw.length ≤ 65535 ∨ (kind = 1 ∨ kind = 2) ∧ (∀ t ∈ l, soundB t = true)) (hb : byteOK l) (hr : ∀ b ∈ raw, b < 256) : BlockBits l raw a kind (blkF Ln kind l raw a) := by
  rcases hm with ⟨rfl, h2⟩ | ⟨rfl | rfl, h2⟩
  · exact .stored hr h2
  · exact .fixed _ (toksB_is h2 hb (covers_fix h2 hb))
  · exact .dynamic _ _ _ _ _ _ (dyn_codes H l) (toksB_is h2 hb (covers_dyn H h2 hb))
theorem storedBits_length (a : Nat) (raw : List Nat) : (storedBits a raw).length = evenF a - a + 32 + 8 * raw.length := by
  unfold storedBits
  simp only [List.length_append, List.length_replicate, bitsOf_length, bits8_length]; omega
theorem itemB_length (hd : List Int) (x : Item) : (itemB hd x).length = lenAt hd x.1 + x.2.1 := by unfold itemB; rw [List.length_append, symBits_length, bitsOf_length]
theorem itemsB_short {hd : List Int} (h7 : ∀ a ∈ hd, 0 ≤ a ∧ a ≤ 7) : ∀ {xs : List Item}, (∀ x ∈ xs, x.2.1 ≤ 7) → (itemsB hd xs).length ≤ 14 * xs.length
  | [], _ => Nat.le_refl _
  | x :: xs, h => by
    have ih := itemsB_short h7 (xs := xs) fun y hy => h y (List.mem_cons_of_mem _ hy)
    unfold itemsB at ih ⊢
    have h1 := lenAt_le (m := 7) h7 x.1
    have h2 := h x (List.mem_cons_self ..)
    rw [List.flatMap_cons, List.length_append, itemB_length, List.length_cons]; omega
theorem headB_length (lit dist hd : List Int) (xs : List Item) : (headB lit dist hd xs).length = 14 + 3 * headN hd + (itemsB hd xs).length := by
  unfold headB dynBits
  simp only [List.length_append, bitsOf_length, headBits_length]; omega
theorem blkF_short (H : LensOK Ln) (kind : Nat) (l : List Tok) (raw : List Nat) (a : Nat) (hm : kind = 0 ∧ raw.length ≤ 65535 ∨ (kind = 1 ∨ kind = 2) ∧ (∀ t ∈ l, soundB t = true)) : (blkF Ln kind l raw a).length < 1000000 + 100 * l.length := by
  rcases hm with ⟨rfl, h2⟩ | ⟨rfl | rfl, h2⟩
  · show (storedBits a raw).length < _
    rw [storedBits_length]
    have := evenF_le a
    omega
  · show (toksB fixLit fixDist l).length < _
    have := toksB_short (check_is (m := 15) fix_check.1).2.1 (check_is (m := 15) fix_check.2).2.1 h2
    omega
  · show (headB _ _ _ _ ++ toksB _ _ _).length < _
    have h3 := toksB_short (lit_all H l) (dst_all H l) h2
    have hA := all_app (lit_all H l) (dst_all H l)
    have h4 := itemsB_short (headC_all H (itemsOf (litC Ln l) (dstL Ln l))) (xs := itemsOf (litC Ln l) (dstL Ln l)) fun x hx => (itemsF_sym hA _ _ x hx).2.1
    have h5 := itemsF_length (all := litC Ln l ++ dstL Ln l) (litC Ln l ++ dstL Ln l).length 0
    have h6 := lit_len H l
    have h7 := dst_len H l
    have h8 : headN (headC Ln (itemsOf (litC Ln l) (dstL Ln l))) ≤ 19 := cutN_le _
    have h9 : (litC Ln l ++ dstL Ln l).length = (litC Ln l).length + (dstL Ln l).length := List.length_append
    have h10 : (itemsOf (litC Ln l) (dstL Ln l)).length ≤ (litC Ln l ++ dstL Ln l).length := h5
    rw [List.length_append, headB_length]
    omega
theorem blkF_place (kind : Nat) (l : List Tok) (raw : List Nat) (a b : Nat) (h : a % 8 = b % 8) : blkF Ln kind l raw a = blkF Ln kind l raw b := by
  unfold blkF
  rw [storedBits_mod h raw]
end
end Go.Proofs.YtdmnfjicjjlnnaaGreatDoor
/-
  Which tokens a block can have (writable); the lengths of the fixed codes.
-/
namespace Go.Proofs.YtdmnfjicjjlnnaaGreatDoor
set_option maxRecDepth 5000
open Go.RowKit
def wrB (l : List Tok) : Bool := decide (l.length < 1048576) && l.all soundB
theorem wrB_iff (l : List Tok) : wrB l = true ↔ l.length < 1048576 ∧ ∀ t ∈ l, soundB t = true := by simp [wrB]
set_option maxHeartbeats 1600000 in
theorem writable_any (v : Value) (n : Nat) (l : List Tok) (w : World) (hv : Rd w 3 v n (toksV l)) (hn : n < 1000000000) :
    Calls Tryz.prog 51 #[v] w fun e w' => e = .returned (.bool (wrB l)) ∧ Mod w w' (fun _ => False) := by
  obtain ⟨ao, cap, rfl, _, _⟩ := hv.form
  have HL := hid hv.toks_len
  have HV := hid hv
  have hn0 : (0 : Int) ≤ (n : Int) := Int.natCast_nonneg _
  clear hv
  by_cases hbig : 1048576 ≤ n
  · have hb1 : decide ((1048575 : Int) < (n : Int)) = true := by simp; omega
    have hE : Hid (wrB l = false) := by
      unfold Hid wrB
      rw [decide_eq_false (by have := HL.out; omega)]; rfl
    go_enter Tryz.func51, Tryz.ntmps51
    go_wp2
    go_ret
    rw [hE.out]
    exact ⟨rfl, Mod.refl _ _⟩
  · have hb1 : decide ((1048575 : Int) < (n : Int)) = false := by simp; omega
    have hE : Hid (wrB l = l.all soundB) := by
      unfold Hid wrB
      rw [decide_eq_true (by have := HL.out; omega)]; rfl
    go_enter Tryz.func51, Tryz.ntmps51
    go_wp2
    go_loopg [10] (n + 1) (fun k t10 wr => ∃ i : Nat, i ≤ n ∧ n - i < k ∧ t10 = .int .i64 (i : Int) ∧ Hid ((l.take i).all soundB = true) ∧ Hid (Mod w wr (fun _ => False)))
    case atStart => exact ⟨0, by omega, by omega, rfl, hid rfl, hid (Mod.refl _ _)⟩
    case round =>
      obtain ⟨i, hi, hk, rfl, HS, HM⟩ := hrel
      have hi0 : (0 : Int) ≤ (i : Int) := Int.natCast_nonneg _
      by_cases hin : i < n
      · have hiI : (i : Int) < (n : Int) := by omega
        obtain ⟨⟨ta, tl, td⟩, ht⟩ : ∃ t, l[i]? = some t := ⟨l[i]'(by have := HL.out; omega), List.getElem?_eq_getElem _⟩
        obtain ⟨g, off, rfl, c0, c1, c2⟩ := (HV.out.kept HM.out (fun _ _ h => h)).tok ht
        have HT : Hid ((l.take (i + 1)).all soundB = soundB (ta, tl, td)) := hid (by
          rw [List.take_add_one, ht]
          simp [HS.out])
        have HT2 : Hid (soundB (ta, tl, td) = false → l.all soundB = false) := hid fun h => by
          refine Classical.byContradiction fun h2 => ?_
          have h3 : l.all soundB = true := by simpa using h2
          rw [List.all_eq_true.1 h3 _ (List.mem_of_getElem? ht)] at h
          cases h
        clear ht
        have HS1 := hid (sound_any (ta, tl, td))
        unfold tokV at HS1
        simp only at HS1
        generalize soundB (ta, tl, td) = b at HS1 HT HT2
        cases b with
        | false =>
          go_wp2_with fail
          refine (HS1.out _).mono ?_
          rintro e w3 ⟨rfl, hm⟩
          have HM3 := hid ((HM.out.alloc _).same hm)
          clear hm
          go_wp2
          go_ret
          rw [hE.out, HT2.out (by first | rfl | trivial)]
          exact ⟨rfl, HM3.out⟩
        | true =>
          go_wp2_with fail
          refine (HS1.out _).mono ?_
          rintro e w3 ⟨rfl, hm⟩
          have HM3 := hid ((HM.out.alloc _).same hm)
          clear hm
          go_wp2
          go_roundg (gk - 1)
          case measure => omega
          case rel => exact ⟨i + 1, by omega, by omega, by go_num, HT, HM3⟩
      · have hiI : ¬ (i : Int) < (n : Int) := by omega
        have hF : Hid (l.all soundB = true) := by
          have h := HS.out
          rw [List.take_of_length_le (by have := HL.out; omega)] at h
          exact hid h
        go_wp2
        go_ret
        rw [hE.out, hF.out]
        exact ⟨rfl, HM.out⟩
/-! ### The fixed codes -/
theorem fix_flat : [List.replicate 144 (8 : Int), List.replicate 112 9, List.replicate 24 7, List.replicate 8 8].flatten = fixLit := by decide +kernel
theorem Rd.lit1 (w : World) (v : Value) (e : TypeId) : Rd (w.alloc (.cells #[v] e)) 1 (.slice (some ⟨w.heap.size, 0, none⟩) 1 1) 1 [v] := Rd.lit w [v] e 1 1 (by decide) rfl
section
variable {w0 w : World} {Rs : List Thing}
theorem rep_at (h : Held w0 w Rs) (a : Int) (c : Nat) (hc : c = 144 ∨ c = 112 ∨ c = 24 ∨ c = 8 ∨ c = 32) :
    Calls Tryz.prog 74 #[.slice (some ⟨w.heap.size, 0, none⟩) 1 1, .int .i64 (c : Int)] (w.alloc (.cells #[.int .i64 a] 3)) fun e w' => ∃ ao cap, e = .returned (.slice ao c cap) ∧ Held w0 w' (ownT 3 1 (.slice ao c cap) c (ints (List.replicate c a)) :: Rs) :=
  (repeat_one _ a c _ (Rd.lit1 w (.int .i64 a) 3) hc).mono fun e w' ⟨v, he, hh⟩ => by
    obtain ⟨ao, cap, rfl, _, _⟩ := hh.own.form
    exact ⟨ao, cap, he, (h.alloc _).pushOwn hh.own hh.mod hh.fresh⟩
set_option maxHeartbeats 1600000 in
theorem fixedL_any (h : Held w0 w Rs) :
    Calls Tryz.prog 60 #[] w fun e w' => ∃ ao cap bo cap2, e = .returned (.tuple #[.slice ao 288 cap, .slice bo 32 cap2]) ∧ Held w0 w' (ownT 3 1 (.slice ao 288 cap) 288 (ints fixLit) :: ownT 3 1 (.slice bo 32 cap2) 32 (ints fixDist) :: Rs) := by
  have R1 := hid (rep_at h 8 144 (by decide))
  clear h
  go_enter Tryz.func60, Tryz.ntmps60
  go_wp2_with fail
  refine R1.out.mono ?_
  rintro e w1 ⟨a1, k1, rfl, h⟩
  have R2 := hid (rep_at h 9 112 (by decide))
  clear h R1
  go_wp2_with fail
  refine R2.out.mono ?_
  rintro e w2 ⟨a2, k2, rfl, h⟩
  have R3 := hid (rep_at h 7 24 (by decide))
  clear h R2
  go_wp2_with fail
  refine R3.out.mono ?_
  rintro e w3 ⟨a3, k3, rfl, h⟩
  have R4 := hid (rep_at h 8 8 (by decide))
  clear h R3
  go_wp2_with fail
  refine R4.out.mono ?_
  rintro e w4 ⟨a4, k4, rfl, h⟩
  have hL : (ints (List.replicate 8 (8 : Int))).length = 8 := rfl
  have H5 := h.lit 32 1 [.slice a1 144 k1, .slice a2 112 k2, .slice a3 24 k3, .slice a4 8 k4] 4 (by decide) rfl
  have HC := hid (concatI_any [.slice a1 144 k1, .slice a2 112 k2, .slice a3 24 k3, .slice a4 8 k4] [List.replicate 144 (8 : Int), List.replicate 112 9, List.replicate 24 7, List.replicate 8 8] _ 4 _ H5.own.rd rfl rfl (fun i v l hv hl => by
    match i, hv, hl with
    | 0, hv, hl => simp at hv hl; subst hv; subst hl; exact H5.drop.drop.drop.drop.own.rd
    | 1, hv, hl => simp at hv hl; subst hv; subst hl; exact H5.drop.drop.drop.own.rd
    | 2, hv, hl => simp at hv hl; subst hv; subst hl; exact H5.drop.drop.own.rd
    | 3, hv, hl => simp at hv hl; subst hv; subst hl; exact H5.drop.own.rd
    | i + 4, hv, hl => simp at hv) (by rw [fix_flat]; decide) (by rw [fix_flat]; decide) (by decide))
  rw [fix_flat] at HC
  have H6 := hid H5.drop.drop.drop.drop.drop
  clear R4 h H5
  go_wp2_with fail
  refine HC.out.mono ?_
  rintro e w5 ⟨v, rfl, hh⟩
  have hfl : fixLit.length = 288 := by decide
  rw [hfl] at hh
  obtain ⟨a5, k5, rfl, _, _⟩ := hh.own.form
  have R7 := hid (rep_at (H6.out.pushOwn hh.own hh.mod hh.fresh) 5 32 (by decide))
  clear hh HC H6
  go_wp2_with fail
  refine R7.out.mono ?_
  rintro e w6 ⟨a6, k6, rfl, h⟩
  have HE := hid h.swap
  clear h R7
  go_wp2
  go_ret2
  exact ⟨_, _, _, _, rfl, HE.out⟩
end
end Go.Proofs.YtdmnfjicjjlnnaaGreatDoor
/-
  Symbols sorted by their codes, by counting; and how a code is read by counts, one bit after the other. No program is named here.
-/
namespace Go.Proofs.YtdmnfjicjjlnnaaGreatDoor
set_option maxRecDepth 5000
/-! ### reading by counts -/
end Go.Proofs.YtdmnfjicjjlnnaaGreatDoor
/-
  The symbols of a code, a group for each number of bits. No program is named here.
-/
namespace Go.Proofs.YtdmnfjicjjlnnaaGreatDoor
set_option maxRecDepth 5000
open Go.RowKit
def grp (l : List Int) (k n : Nat) : List Nat := if n = 0 then [] else (List.range k).filter fun i => l[i]? == some (n : Int)
def grpF (l : List Int) (k n : Nat) : Nat := if grp l k n = [] then 0 else fstC l n
theorem grp_none (l : List Int) (n : Nat) : grp l 0 n = [] := by unfold grp; split <;> rfl
theorem grpF_none (l : List Int) (n : Nat) : grpF l 0 n = 0 := by unfold grpF; rw [if_pos (grp_none l n)]
theorem grp_in (l : List Int) (k z : Nat) (h : l[k]? = some (z : Int)) (hz : 1 ≤ z) : grp l (k + 1) z = grp l k z ++ [k] := by
  unfold grp
  rw [if_neg (by omega), if_neg (by omega), List.range_succ, List.filter_append]
  simp [h]
theorem grp_out (l : List Int) (k z n : Nat) (h : l[k]? = some (z : Int)) (hn : n ≠ z) : grp l (k + 1) n = grp l k n := by
  unfold grp
  by_cases h0 : n = 0
  · rw [if_pos h0, if_pos h0]
  · rw [if_neg h0, if_neg h0, List.range_succ, List.filter_append]
    have : ¬ z = n := fun e => hn e.symm
    simp [h]; omega
theorem grp_skip (l : List Int) (k n : Nat) (h : l[k]? = some 0) : grp l (k + 1) n = grp l k n := by
  by_cases h0 : n = 0
  · subst h0; unfold grp; rfl
  · exact grp_out l k 0 n h h0
theorem grp_len (l : List Int) (n : Nat) (h0 : 1 ≤ n) : ∀ m, m ≤ l.length → (grp l m n).length = (l.take m).count (n : Int) := by
  intro m
  induction m with
  | zero => intro _; rw [grp_none]; rfl
  | succ m ihm =>
    intro hm
    have hmm := ihm (by omega)
    obtain ⟨b, hb⟩ : ∃ b, l[m]? = some b := ⟨l[m]'(by omega), List.getElem?_eq_getElem _⟩
    rw [List.take_add_one, hb, List.count_append, ← hmm]
    by_cases eb : b = (n : Int)
    · subst eb
      rw [grp_in l m n hb h0]; simp
    · have : grp l (m + 1) n = grp l m n := by
        unfold grp
        rw [if_neg (by omega), if_neg (by omega), List.range_succ, List.filter_append]
        simp [hb, eb]
      rw [this]; simp [eb]
theorem grp_le (l : List Int) (k n : Nat) : (grp l k n).length ≤ k := by
  unfold grp
  split
  · exact Nat.zero_le _
  · have := List.length_filter_le (fun i => l[i]? == some (n : Int)) (List.range k)
    simpa using this
theorem grpF_in (l : List Int) (k z : Nat) (h : l[k]? = some (z : Int)) (hz : 1 ≤ z) (hz2 : z ≤ 15) : grpF l (k + 1) z = if (grp l k z).length = 0 then codeAt l k else grpF l k z := by
  have hk := (List.getElem?_eq_some_iff.1 h).1
  unfold grpF
  rw [grp_in l k z h hz, if_neg (by simp)]
  by_cases e : grp l k z = []
  · rw [if_pos (by rw [e]; rfl)]
    have := grp_len l z hz k (by omega)
    rw [e] at this
    rw [codeAt_len l k _ h (by simp [isLen]; omega), Int.toNat_natCast, ← this]; rfl
  · rw [if_neg (fun h => e (List.eq_nil_of_length_eq_zero h)), if_neg e]
theorem grpF_out (l : List Int) (k z n : Nat) (h : l[k]? = some (z : Int)) (hn : n ≠ z) : grpF l (k + 1) n = grpF l k n := by
  unfold grpF; rw [grp_out l k z n h hn]
theorem grpF_skip (l : List Int) (k n : Nat) (h : l[k]? = some 0) : grpF l (k + 1) n = grpF l k n := by
  unfold grpF; rw [grp_skip l k n h]
end Go.Proofs.YtdmnfjicjjlnnaaGreatDoor
/-
  The program's Check.
-/
namespace Go.Proofs.YtdmnfjicjjlnnaaGreatDoor
set_option maxRecDepth 5000
open Go.RowKit
set_option maxHeartbeats 800000 in
theorem within_any (v : Value) (l : List Int) (most : Int) (w : World) (hv : Rd w 1 v l.length (ints l)) (hl : l.length < 1000000) :
    Calls Tryz.prog 116 #[v, .int .i64 most] w fun e w' => e = .returned (.bool (allIn l most)) ∧ w = w' := by
  obtain ⟨ao, cap, rfl, _, _⟩ := hv.form
  obtain ⟨n, hn⟩ : ∃ n, n = l.length := ⟨_, rfl⟩
  rw [← hn] at hv hl
  have HN := hid hn
  clear hn
  have HGO : Hid (Rd w 1 (.slice ao n cap) n (ints l)) := hv
  rw [show l.length = n from HN.out.symm]
  go_enter Tryz.func116, Tryz.ntmps116
  go_wp2
  go_loopg [9] (n + 1) (fun k t9 wr => ∃ (i : Nat), i ≤ n ∧ n - i < k ∧ t9 = .int .i64 (i : Int) ∧ Hid (allIn (l.take i) most = true) ∧ wr = w)
  case atStart => exact ⟨0, by omega, by omega, rfl, rfl, rfl⟩
  case round =>
    obtain ⟨i, hi, hk, rfl, HA, rfl⟩ := hrel
    by_cases hin : i < n
    · obtain ⟨g, off, rfl, hcell⟩ := hv.spot (by omega)
      obtain ⟨a, hai⟩ : ∃ a, l[i]? = some a := ⟨l[i]'(by have := HN.out; omega), List.getElem?_eq_getElem _⟩
      have hc1 := hcell i _ (by rw [ints_get, hai]; rfl)
      have hi0 : (0 : Int) ≤ (i : Int) := Int.natCast_nonneg _
      have hi1 : (i : Int) < (n : Int) := by omega
      have HT := hid (take_snoc3 l i a hai)
      have h3 : a < 0 ∨ 0 ≤ a ∧ most < a ∨ 0 ≤ a ∧ a ≤ most := by omega
      rcases h3 with h | ⟨h, h2⟩ | ⟨h, h2⟩
      · have HF : Hid (allIn l most = false) := by unfold Hid; refine allIn_take l (i + 1) most ?_; rw [HT.out, allIn_snoc, HA.out]; simp; omega
        clear hcell hai
        go_wp2
        go_ret
        exact ⟨by rw [HF.out]; rfl, rfl⟩
      · have HF : Hid (allIn l most = false) := by unfold Hid; refine allIn_take l (i + 1) most ?_; rw [HT.out, allIn_snoc, HA.out]; simp; omega
        clear hcell hai
        go_wp2
        go_ret
        exact ⟨by rw [HF.out]; rfl, rfl⟩
      · have HF : Hid (allIn (l.take (i + 1)) most = true) := by unfold Hid; rw [HT.out, allIn_snoc, HA.out]; simp; omega
        clear hcell hai
        go_wp2
        go_roundg (gk - 1)
        case measure => omega
        case rel => exact ⟨i + 1, by omega, by omega, by go_num, HF, rfl⟩
    · have hi1 : ¬ (i : Int) < (n : Int) := by omega
      have HF : Hid (allIn l most = true) := by unfold Hid; have h := HA.out; rwa [List.take_of_length_le (by have := HN.out; omega)] at h
      go_wp2
      go_ret
      exact ⟨by rw [HF.out]; rfl, rfl⟩
set_option maxRecDepth 20000 in
set_option maxHeartbeats 1600000 in
theorem check_any (v : Value) (l : List Int) (most : Int) (w : World) (hv : Rd w 1 v l.length (ints l)) (hl : l.length < 1000000) :
    Calls Tryz.prog 98 #[v, .int .i64 most] w fun e w' => e = .returned (.int .i64 ((checkOf l most : Nat) : Int)) ∧ Mod w w' (fun _ => False) := by
  obtain ⟨ao, cap, rfl, _, _⟩ := hv.form
  have HCC := hid (count_any _ l w hv hl)
  have HWI := hid (within_any _ l most w hv hl)
  have HLN := hid hl
  obtain ⟨n, hn⟩ : ∃ n, n = l.length := ⟨_, rfl⟩
  rw [← hn] at hv hl HCC HWI
  rw [← hn]
  have HN := hid hn
  clear hn hv
  have hn0 : (0 : Int) ≤ (n : Int) := Int.natCast_nonneg _
  have h4 : most < 1 ∨ 1 ≤ most ∧ 15 < most ∨ 1 ≤ most ∧ most ≤ 15 ∧ 288 < n ∨ 1 ≤ most ∧ most ≤ 15 ∧ n ≤ 288 := by omega
  rcases h4 with h | ⟨h, h2⟩ | ⟨h, h2, h3⟩ | ⟨h, h2, h3⟩
  · have HF : Hid (checkOf l most = 1) := by unfold Hid checkOf; rw [if_pos]; simp [argBad]; omega
    go_enter Tryz.func98, Tryz.ntmps98
    go_wp2
    go_ret
    exact ⟨by rw [HF.out]; rfl, Mod.refl _ _⟩
  · have HF : Hid (checkOf l most = 1) := by unfold Hid checkOf; rw [if_pos]; simp [argBad]; omega
    go_enter Tryz.func98, Tryz.ntmps98
    go_wp2
    go_ret
    exact ⟨by rw [HF.out]; rfl, Mod.refl _ _⟩
  · have HF : Hid (checkOf l most = 1) := by unfold Hid checkOf; rw [if_pos]; have := HN.out; simp [argBad]; omega
    have h3I : (288 : Int) < (n : Int) := by omega
    go_enter Tryz.func98, Tryz.ntmps98
    go_wp2
    go_ret
    exact ⟨by rw [HF.out]; rfl, Mod.refl _ _⟩
  · have h3I : ¬ (288 : Int) < (n : Int) := by omega
    have h15 : ¬ 15 < most := by omega
    have h1 : ¬ most < 1 := by omega
    have HA1 : Hid (argBad l most = !allIn l most) := by
      unfold Hid argBad
      have := HN.out
      rw [decide_eq_false (by omega)]; rfl
    cases hA : allIn l most with
    | false =>
      rw [hA] at HWI
      have HF : Hid (checkOf l most = 1) := by unfold Hid checkOf; rw [HA1.out, hA]; rfl
      clear hA
      go_enter Tryz.func98, Tryz.ntmps98
      go_wp2_with fail
      refine HWI.out.mono ?_
      rintro e w1 ⟨rfl, rfl⟩
      go_wp2
      go_ret
      exact ⟨by rw [HF.out]; rfl, Mod.refl _ _⟩
    | true =>
      rw [hA] at HWI
      have HF : Hid (checkOf l most = if sumOf l = 0 ∨ sumOf l = 32768 ∨ sumOf l = 16384 ∧ l.count 1 = 1 then 0 else 3) := by
        unfold Hid checkOf; rw [HA1.out, hA]; rfl
      clear hA
      have HL := hid (cnts_length l)
      have HL0 := hid (cnts_length [])
      go_enter Tryz.func98, Tryz.ntmps98
      go_wp2_with fail
      refine HWI.out.mono ?_
      rintro e w0 ⟨rfl, rfl⟩
      go_wp2_with fail
      refine HCC.out.mono ?_
      rintro e w1 ⟨rfl, hM1⟩
      have HH0 := hid (((Held.start w).same hM1).newObj (nums .i64 (cnts [])) 151)
      clear hM1
      go_wp2_with (first
        | refine wpList_alloc_arr rfl _ rfl .i64 _ infoCz ?_
        | (refine wpList_store_arr rfl _ _ _ rfl 16 infoCs _ .i64 (cnts []) (cnts l) _ rfl rfl HL0.out HL.out HH0.out.obj ?_; intro w3 hB3 hM3; have HB3 := hid hB3; have HM3 := hid hM3; clear hM3)
        | refine wpList_load_arr rfl _ _ rfl _ 16 (by rfl) rfl infoCs w1.heap.size .i64 (cnts l) _ rfl HL.out HB3.out ?_)
      refine (csum_any l w3 HLN.out).mono ?_
      rintro e w4 ⟨rfl, hM4⟩
      have HH := hid ((HH0.out.putObj HB3.out HM3.out).same hM4)
      have hcell := HH.out.obj.cell (i := 1) (v := .int .i64 ((l.count 1 : Nat) : Int)) (by rw [nums_get, cnts_get _ 1 (by omega) (by omega)]; rfl)
      clear hM4 hB3
      obtain ⟨s, hs⟩ : ∃ s, s = sumOf l := ⟨_, rfl⟩
      obtain ⟨c, hc⟩ : ∃ c, c = l.count 1 := ⟨_, rfl⟩
      rw [← hc] at HF hcell
      rw [← hs] at HF ⊢
      clear hs hc
      have h5 : s = 0 ∨ s = 32768 ∨ s = 16384 ∧ c = 1 ∨ s = 16384 ∧ c ≠ 1 ∨ s ≠ 0 ∧ s ≠ 32768 ∧ s ≠ 16384 := by omega
      rcases h5 with rfl | rfl | ⟨rfl, rfl⟩ | ⟨rfl, hc1⟩ | ⟨hs0, hs1, hs2⟩
      · go_wp2
        go_ret
        exact ⟨by rw [HF.out]; rfl, HH.out.mod⟩
      · go_wp2
        go_ret
        exact ⟨by rw [HF.out]; rfl, HH.out.mod⟩
      · go_wp2
        go_ret
        exact ⟨by rw [HF.out]; rfl, HH.out.mod⟩
      · have hcI : ¬ (c : Int) = 1 := by omega
        go_wp2
        go_ret
        exact ⟨by rw [HF.out, if_neg (by omega)]; rfl, HH.out.mod⟩
      · have hcI : ¬ (s : Int) = 0 := by omega
        have hcI2 : ¬ (s : Int) = 32768 := by omega
        have hcI3 : ¬ (s : Int) = 16384 := by omega
        go_wp2
        go_ret
        exact ⟨by rw [HF.out, if_neg (by omega)]; rfl, HH.out.mod⟩
end Go.Proofs.YtdmnfjicjjlnnaaGreatDoor
/-
  The reference's Sum and Check.
-/
namespace Go.Proofs.YtdmnfjicjjlnnaaGreatDoor
set_option maxRecDepth 5000
open Go.RowKit
set_option maxHeartbeats 1600000 in
theorem refsum_any (v : Value) (l : List Int) (w : World) (hv : Rd w 1 v l.length (ints l)) (hl : l.length < 1000000) :
    Calls Tryz.prog 48 #[v] w fun e w' => e = .returned (.int .i64 ((sumOf l : Nat) : Int)) ∧ w = w' := by
  obtain ⟨ao, cap, rfl, _, _⟩ := hv.form
  obtain ⟨n, hn⟩ : ∃ n, n = l.length := ⟨_, rfl⟩
  rw [← hn] at hv hl ⊢
  have HN := hid hn
  clear hn
  go_enter Tryz.func48, Tryz.ntmps48
  go_wp2
  go_loopg [3, 4] (n + 1) (fun k t3 t4 wr => ∃ (i s : Nat), i ≤ n ∧ n - i < k ∧ t4 = .int .i64 (i : Int) ∧ t3 = .int .i64 (s : Int) ∧ Hid (s = sumOf (l.take i)) ∧ s ≤ 16384 * i ∧ wr = w)
  case atStart => exact ⟨0, 0, by omega, by omega, rfl, rfl, by simp [Hid, sumOf, tot_nil], by omega, rfl⟩
  case round =>
    obtain ⟨i, s, hi, hk, rfl, rfl, HS, hs, rfl⟩ := hrel
    obtain ⟨gx, rfl⟩ : ∃ g, g = gk := ⟨gk, rfl⟩
    by_cases hin : i < n
    · obtain ⟨g, off, rfl, hcell⟩ := hv.spot (by omega)
      obtain ⟨a, hai⟩ : ∃ a, l[i]? = some a := ⟨l[i]'(by have := HN.out; omega), List.getElem?_eq_getElem _⟩
      have hc1 := hcell i _ (by rw [ints_get, hai]; rfl)
      have hi0 : (0 : Int) ≤ (i : Int) := Int.natCast_nonneg _
      have hi1 : (i : Int) < (n : Int) := by omega
      have HT := hid (sum_take_snoc l i a hai)
      clear hcell hai
      have h3 : a < 1 ∨ 1 ≤ a ∧ 15 < a ∨ 1 ≤ a ∧ a ≤ 15 := by omega
      rcases h3 with h | ⟨h, h2⟩ | ⟨h, h2⟩
      · have HW : Hid (wtTo 15 a = 0) := by unfold Hid wtTo; rw [if_neg (by omega)]
        go_wp2
        go_roundg (gx - 1)
        case measure => omega
        case rel => exact ⟨i + 1, s, by omega, by omega, by go_num, rfl, by unfold Hid; rw [HT.out, HW.out]; exact HS.out, by omega, rfl⟩
      · have HW : Hid (wtTo 15 a = 0) := by unfold Hid wtTo; rw [if_neg (by omega)]
        go_wp2
        go_roundg (gx - 1)
        case measure => omega
        case rel => exact ⟨i + 1, s, by omega, by omega, by go_num, rfl, by unfold Hid; rw [HT.out, HW.out]; exact HS.out, by omega, rfl⟩
      · obtain ⟨m, rfl⟩ := Int.eq_ofNat_of_zero_le (show 0 ≤ a by omega)
        have HW : Hid (wtTo 15 (m : Int) = 2 ^ (15 - m)) := by unfold Hid wtTo; rw [if_pos (by omega)]; rfl
        have hm15 : m ≤ 15 := by omega
        have hm1 : 1 ≤ m := by omega
        go_wp2
        go_loopg [5, 6] (m + 1) (fun k t5 t6 wq => ∃ (j p : Nat), j ≤ m ∧ m - j < k ∧ t6 = .int .i64 (j : Int) ∧ t5 = .int .i64 (p : Int) ∧ Hid (p = 2 ^ (15 - j)) ∧ p ≤ 32768 ∧ wq = wr)
        case atStart => exact ⟨0, 32768, by omega, by omega, rfl, rfl, rfl, by omega, rfl⟩
        case round =>
          obtain ⟨j, p, hj, hk2, rfl, rfl, HP, hp, rfl⟩ := hrel
          by_cases hjm : j < m
          · have hjI : (j : Int) < (m : Int) := by omega
            obtain ⟨q, hq⟩ : ∃ q, q = 2 ^ (15 - (j + 1)) := ⟨_, rfl⟩
            have hpq : p = 2 * q := by rw [HP.out, hq, show 15 - j = (15 - (j + 1)) + 1 by omega, Nat.pow_succ, Nat.mul_comm]
            have hqI : (p : Int) / 2 = (q : Int) := by omega
            have HQ := hid hq
            clear hq hpq
            go_wp2
            go_roundg (gk - 1)
            case measure => omega
            case rel => exact ⟨j + 1, q, by omega, by omega, by go_num, rfl, HQ, by omega, rfl⟩
          · obtain rfl : j = m := by omega
            have hjI : ¬ (j : Int) < (j : Int) := by omega
            have hsp : p ≤ 16384 := by rw [HP.out]; have h14 : 15 - j ≤ 14 := by omega
                                       exact Nat.pow_le_pow_right (n := 2) (by decide) h14
            go_wp2
            go_roundg (gx - 1)
            case measure => omega
            case rel => exact ⟨i + 1, s + p, by omega, by omega, by go_num, by go_num, by unfold Hid; rw [HT.out, HW.out, HP.out, HS.out], by omega, rfl⟩
    · have hi1 : ¬ (i : Int) < (n : Int) := by omega
      go_wp2
      go_ret
      exact ⟨ret_int (by rw [HS.out, List.take_of_length_le (by have := HN.out; omega)]), rfl⟩
set_option maxRecDepth 100000 in
set_option maxHeartbeats 1600000 in
theorem refcheck_any (v : Value) (l : List Int) (most : Int) (w : World) (hv : Rd w 1 v l.length (ints l)) (hl : l.length < 1000000) :
    Calls Tryz.prog 36 #[v, .int .i64 most] w fun e w' => e = .returned (.int .i64 ((checkOf l most : Nat) : Int)) ∧ w = w' := by
  obtain ⟨ao, cap, rfl, _, _⟩ := hv.form
  have HRS := hid (refsum_any _ l w hv hl)
  obtain ⟨n, hn⟩ : ∃ n, n = l.length := ⟨_, rfl⟩
  rw [← hn] at hv hl HRS
  rw [← hn]
  have HN := hid hn
  clear hn
  have hn0 : (0 : Int) ≤ (n : Int) := Int.natCast_nonneg _
  have h4 : most < 1 ∨ 1 ≤ most ∧ 15 < most ∨ 1 ≤ most ∧ most ≤ 15 ∧ 288 < n ∨ 1 ≤ most ∧ most ≤ 15 ∧ n ≤ 288 := by omega
  rcases h4 with h | ⟨h, h2⟩ | ⟨h, h2, h3⟩ | ⟨h, h2, h3⟩
  · have HF : Hid (checkOf l most = 1) := by unfold Hid checkOf; rw [if_pos]; simp [argBad]; omega
    clear hv
    go_enter Tryz.func36, Tryz.ntmps36
    go_wp2
    go_ret
    exact ⟨by rw [HF.out]; rfl, rfl⟩
  · have HF : Hid (checkOf l most = 1) := by unfold Hid checkOf; rw [if_pos]; simp [argBad]; omega
    clear hv
    go_enter Tryz.func36, Tryz.ntmps36
    go_wp2
    go_ret
    exact ⟨by rw [HF.out]; rfl, rfl⟩
  · have HF : Hid (checkOf l most = 1) := by unfold Hid checkOf; rw [if_pos]; have := HN.out; simp [argBad]; omega
    have h3I : (288 : Int) < (n : Int) := by omega
    clear hv
    go_enter Tryz.func36, Tryz.ntmps36
    go_wp2
    go_ret
    exact ⟨by rw [HF.out]; rfl, rfl⟩
  · have h3I : ¬ (288 : Int) < (n : Int) := by omega
    have h15 : ¬ 15 < most := by omega
    have h1 : ¬ most < 1 := by omega
    have HA1 : Hid (argBad l most = !allIn l most) := by
      unfold Hid argBad
      have := HN.out
      rw [decide_eq_false (by omega)]; rfl
    go_enter Tryz.func36, Tryz.ntmps36
    go_wp2
    go_loopg [5, 6, 7] (n + 1) (fun k t5 t6 t7 wr => ∃ (i c o : Nat), i ≤ n ∧ n - i < k ∧ t7 = .int .i64 (i : Int) ∧ t5 = .int .i64 (c : Int) ∧ t6 = .int .i64 (o : Int) ∧ c ≤ i ∧ o ≤ i ∧ Hid (allIn (l.take i) most = true) ∧ Hid (c = coded (l.take i)) ∧ Hid (o = (l.take i).count 1) ∧ wr = w)
    case atStart => exact ⟨0, 0, 0, by omega, by omega, rfl, rfl, rfl, by omega, by omega, rfl, rfl, rfl, rfl⟩
    case round =>
      obtain ⟨i, c, o, hi, hk, rfl, rfl, rfl, hc, ho, HA, HC, HO, rfl⟩ := hrel
      by_cases hin : i < n
      · obtain ⟨g, off, rfl, hcell⟩ := hv.spot (by omega)
        obtain ⟨a, hai⟩ : ∃ a, l[i]? = some a := ⟨l[i]'(by have := HN.out; omega), List.getElem?_eq_getElem _⟩
        have hc1 := hcell i _ (by rw [ints_get, hai]; rfl)
        have hi0 : (0 : Int) ≤ (i : Int) := Int.natCast_nonneg _
        have hi1 : (i : Int) < (n : Int) := by omega
        have HT := hid (take_snoc3 l i a hai)
        clear hcell hai
        have h5 : a < 0 ∨ 0 ≤ a ∧ most < a ∨ 0 ≤ a ∧ a ≤ most := by omega
        rcases h5 with h5 | ⟨h5, h6⟩ | ⟨h5, h6⟩
        · have HF : Hid (checkOf l most = 1) := by unfold Hid; refine check_bad (allIn_take l (i + 1) most ?_); rw [HT.out, allIn_snoc, HA.out]; simp; omega
          go_wp2
          go_ret
          exact ⟨by rw [HF.out]; rfl, rfl⟩
        · have HF : Hid (checkOf l most = 1) := by unfold Hid; refine check_bad (allIn_take l (i + 1) most ?_); rw [HT.out, allIn_snoc, HA.out]; simp; omega
          go_wp2
          go_ret
          exact ⟨by rw [HF.out]; rfl, rfl⟩
        · have HF : Hid (allIn (l.take (i + 1)) most = true) := by unfold Hid; rw [HT.out, allIn_snoc, HA.out]; simp; omega
          have h7 : a = 0 ∨ a = 1 ∨ 1 < a := by omega
          rcases h7 with rfl | rfl | h7
          · have HC2 : Hid (c = coded (l.take (i + 1))) := by unfold Hid; rw [HT.out, coded_snoc, ← HC.out]; rfl
            have HO2 : Hid (o = (l.take (i + 1)).count 1) := by unfold Hid; rw [HT.out, count1_snoc, ← HO.out]; rfl
            go_wp2
            go_roundg (gk - 1)
            case measure => omega
            case rel => exact ⟨i + 1, c, o, by omega, by omega, by go_num, rfl, rfl, by omega, by omega, HF, HC2, HO2, rfl⟩
          · have HC2 : Hid (c + 1 = coded (l.take (i + 1))) := by unfold Hid; rw [HT.out, coded_snoc, ← HC.out]; rfl
            have HO2 : Hid (o + 1 = (l.take (i + 1)).count 1) := by unfold Hid; rw [HT.out, count1_snoc, ← HO.out]; rfl
            go_wp2
            go_roundg (gk - 1)
            case measure => omega
            case rel => exact ⟨i + 1, c + 1, o + 1, by omega, by omega, by go_num, by go_num, by go_num, by omega, by omega, HF, HC2, HO2, rfl⟩
          · have HC2 : Hid (c + 1 = coded (l.take (i + 1))) := by unfold Hid; rw [HT.out, coded_snoc, ← HC.out, if_pos (by omega)]
            have HO2 : Hid (o = (l.take (i + 1)).count 1) := by unfold Hid; rw [HT.out, count1_snoc, ← HO.out, if_neg (by omega)]; rfl
            go_wp2
            go_roundg (gk - 1)
            case measure => omega
            case rel => exact ⟨i + 1, c + 1, o, by omega, by omega, by go_num, by go_num, rfl, by omega, by omega, HF, HC2, HO2, rfl⟩
      · have hi1 : ¬ (i : Int) < (n : Int) := by omega
        have HE : Hid (l.take i = l) := by unfold Hid; exact List.take_of_length_le (by have := HN.out; omega)
        rw [HE.out] at HA HC HO
        have HB : Hid (argBad l most = false) := by unfold Hid; rw [HA1.out, HA.out]; rfl
        have HR := hid (check_ref l most HB.out)
        have HF : Hid (checkOf l most = if sumOf l = 0 ∨ sumOf l = 32768 ∨ sumOf l = 16384 ∧ l.count 1 = 1 then 0 else 3) := by
          unfold Hid checkOf; rw [HB.out]; rfl
        rw [← HC.out, ← HO.out] at HR
        rw [← HO.out] at HF
        go_wp2_with fail
        refine HRS.out.mono ?_
        rintro e w1 ⟨rfl, rfl⟩
        obtain ⟨s, hs⟩ : ∃ s, s = sumOf l := ⟨_, rfl⟩
        rw [← hs] at HF HR ⊢
        clear hs
        have h5 : 32768 < s ∨ s = 32768 ∨ s < 32768 ∧ c = 0 ∨ s < 32768 ∧ c = 1 ∧ o = 1 ∨ s < 32768 ∧ c = 1 ∧ o ≠ 1 ∨ s < 32768 ∧ c ≠ 1 ∧ c ≠ 0 := by omega
        rcases h5 with h5 | h5 | ⟨h5, h6⟩ | ⟨h5, h6, h7⟩ | ⟨h5, h7, h6⟩ | ⟨h5, h6, h7⟩
        · have HZ : Hid (checkOf l most = 3) := by unfold Hid; rw [HF.out, if_neg (HR.out.1 (by omega))]
          have hb0 : decide ((32768 : Int) < (s : Int)) = true := by simp; omega
          go_wp2
          go_ret
          exact ⟨by rw [HZ.out]; rfl, rfl⟩
        · have HZ : Hid (checkOf l most = 0) := by unfold Hid; rw [HF.out, if_pos (by have := HR.out; omega)]
          have hb0 : decide ((32768 : Int) < (s : Int)) = false := by simp; omega
          have hb1 : decide ((s : Int) < 32768) = false := by simp; omega
          go_wp2
          go_ret
          exact ⟨by rw [HZ.out]; rfl, rfl⟩
        · have HZ : Hid (checkOf l most = 0) := by unfold Hid; rw [HF.out, if_pos (by have := HR.out; omega)]
          have hb0 : decide ((32768 : Int) < (s : Int)) = false := by simp; omega
          have hb1 : decide ((s : Int) < 32768) = true := by simp; omega
          have hb2 : (((c : Nat) : Int) == 0) = true := by simp; omega
          go_wp2
          go_ret
          exact ⟨by rw [HZ.out]; rfl, rfl⟩
        · have HZ : Hid (checkOf l most = 0) := by unfold Hid; rw [HF.out, if_pos (by have := HR.out; omega)]
          have hb0 : decide ((32768 : Int) < (s : Int)) = false := by simp; omega
          have hb1 : decide ((s : Int) < 32768) = true := by simp; omega
          have hb2 : (((c : Nat) : Int) == 0) = false := by simp; omega
          have hb3 : (((c : Nat) : Int) == 1) = true := by simp; omega
          have hb4 : (((o : Nat) : Int) == 1) = true := by simp; omega
          go_wp2
          go_ret
          exact ⟨by rw [HZ.out]; rfl, rfl⟩
        · have HZ : Hid (checkOf l most = 3) := by unfold Hid; rw [HF.out, if_neg (HR.out.1 (by omega))]
          have hb0 : decide ((32768 : Int) < (s : Int)) = false := by simp; omega
          have hb1 : decide ((s : Int) < 32768) = true := by simp; omega
          have hb2 : (((c : Nat) : Int) == 0) = false := by simp; omega
          have hb3 : (((c : Nat) : Int) == 1) = true := by simp; omega
          have hb4 : (((o : Nat) : Int) == 1) = false := by simp; omega
          go_wp2
          go_ret
          exact ⟨by rw [HZ.out]; rfl, rfl⟩
        · have HZ : Hid (checkOf l most = 3) := by unfold Hid; rw [HF.out, if_neg (HR.out.1 (by omega))]
          have hb0 : decide ((32768 : Int) < (s : Int)) = false := by simp; omega
          have hb1 : decide ((s : Int) < 32768) = true := by simp; omega
          have hb2 : (((c : Nat) : Int) == 0) = false := by simp; omega
          have hb3 : (((c : Nat) : Int) == 1) = false := by simp; omega
          go_wp2
          go_ret
          exact ⟨by rw [HZ.out]; rfl, rfl⟩
end Go.Proofs.YtdmnfjicjjlnnaaGreatDoor
