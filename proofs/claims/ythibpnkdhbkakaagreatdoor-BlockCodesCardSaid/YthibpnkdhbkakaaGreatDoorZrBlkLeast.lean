/-
  What the law BlockCodes counts, and that a dynamic block is longer than the least that its symbols can cost. No walk.
-/
import Derived.Test.YthibpnkdhbkakaaGreatDoorZq32
import Derived.Test.YthibpnkdhbkakaaGreatDoorZrRefLeast
import Derived.Test.YthibpnkdhbkakaaGreatDoorZq22
namespace Go.Proofs.YthibpnkdhbkakaaGreatDoor
set_option maxRecDepth 5000
open Go.RowKit

theorem came_cod : ∀ f : List Nat, (came f).length = codedN f
  | [] => rfl
  | b :: f => by
    have ih := came_cod f
    unfold came at *
    rw [List.filter_cons, codedN]
    by_cases h : 0 < b
    · rw [if_pos (by simpa using h), if_pos h, List.length_cons, ih]; omega
    · rw [if_neg (by simpa using h), if_neg h, ih]; omega
theorem least_sameB {f l s : List Nat} {m z : Nat} (h : OptL f m l) (hm : m ≤ 15) (hf : ∀ a ∈ f, a ≤ 1048576) (hc : (came f).length ≤ 60) (hc2 : 1 ≤ (came f).length) (hs : Down s) (hp : s.Perm (came f))
    (hz : z = 1152921504606846976 ∨ Has s m s.length 0 z) (hall : ∀ c, Has s m s.length 0 c → z ≤ c) : z = cst l f := by
  have h0 : 0 < s.length := by rw [hp.length_eq]; omega
  have hts : total s ≤ 62914560 := by
    have h1 := total_le 1048576 s fun x hx => hf x (List.mem_filter.1 (hp.mem_iff.1 hx)).1
    have h2 : s.length * 1048576 ≤ 60 * 1048576 := Nat.mul_le_mul_right _ (by rw [hp.length_eq]; exact hc)
    omega
  obtain ⟨c, k1, k2⟩ := least_has h.good hm hs hp h0
  have k3 := hall c k1
  have k4 := k1.small hm hts
  exact least_is h hm hs hp h0 (hz.resolve_left (by omega)) hall
theorem codedN_put (a : Nat) : ∀ (l : List Nat) (k : Nat), l[k]? = some a → codedN (l.set k (a + 1)) = codedN l + (if a = 0 then 1 else 0)
  | [], k, h => by cases h
  | b :: l, 0, h => by
    simp at h
    subst h
    rw [List.set_cons_zero, codedN, codedN, if_pos (by omega)]
    by_cases c : b = 0
    · rw [if_pos c, if_neg (by omega)]; omega
    · rw [if_neg c, if_pos (by omega)]; omega
  | b :: l, k + 1, h => by
    have ih := codedN_put a l k (by simpa using h)
    rw [List.set_cons_succ, codedN, codedN, ih]; omega
theorem litE_snoc (K : List Tok) (t : Tok) (k : Nat) : litE (K ++ [t]) k = litE K k + (if symOf t = k then 1 else 0) := by
  unfold litE
  rw [litN_snoc]; omega
theorem litF_put (K : List Tok) (t : Tok) : (litF K).set (symOf t) (litE K (symOf t) + 1) = litF (K ++ [t]) := by
  refine get_eq_of (by simp [litF]) fun k hk => ?_
  have hk : k < 286 := by rw [litF_length] at hk; exact hk
  rw [List.getElem?_set, litF_get _ hk, litF_get _ hk, litE_snoc, litF_length]
  by_cases c : symOf t = k
  · subst c
    rw [if_pos rfl, if_pos (by omega), if_pos rfl]
  · rw [if_neg c, if_neg c, Nat.add_zero]
theorem dstF_put (K : List Tok) (t : Tok) (h0 : t.2.1 ≠ 0) : (dstF K).set (dstC t) (dstN K (dstC t) + 1) = dstF (K ++ [t]) := by
  refine get_eq_of (by simp [dstF]) fun k hk => ?_
  have hk : k < 30 := by rw [dstF_length] at hk; exact hk
  rw [List.getElem?_set, dstF_get _ hk, dstF_get _ hk, dstN_snoc, dstF_length]
  by_cases c : dstC t = k
  · subst c
    rw [if_pos rfl, if_pos (by omega), if_pos ⟨h0, rfl⟩]
  · rw [if_neg c, if_neg (fun h => c h.2), Nat.add_zero]
theorem dstF_same (K : List Tok) (t : Tok) (h0 : t.2.1 = 0) : dstF (K ++ [t]) = dstF K := by
  refine get_eq_of (by simp [dstF]) fun k hk => ?_
  have hk : k < 30 := by rw [dstF_length] at hk; exact hk
  rw [dstF_get _ hk, dstF_get _ hk, dstN_snoc, if_neg (fun h => h.1 h0), Nat.add_zero]
theorem litF_start : (List.replicate 286 0).set 256 1 = litF [] := by decide +kernel
theorem dstF_start : List.replicate 30 0 = dstF [] := by decide +kernel
theorem litF_one : codedN (litF []) = 1 := by decide +kernel
theorem dstF_none : codedN (dstF []) = 0 := by decide +kernel
theorem csum_cst (L : List Nat) (g : Nat → Nat) : ∀ n, n ≤ L.length → cst (L.take n) ((List.range n).map g) = csum (natI L) g n
  | 0, _ => by simp [cst, csum]
  | n + 1, h => by
    have ih := csum_cst L g n (by omega)
    have e1 : L.take (n + 1) = L.take n ++ [L[n]'(by omega)] := by rw [List.take_add_one, List.getElem?_eq_getElem (by omega)]; rfl
    have e2 : (List.range (n + 1)).map g = (List.range n).map g ++ [g n] := by rw [List.range_succ, List.map_append]; rfl
    have e3 : lenAt (natI L) n = L[n]'(by omega) := by
      unfold lenAt
      rw [natI_get, List.getElem?_eq_getElem (by omega)]
      simp
    rw [e1, e2, cst_append _ _ _ _ (by simp; omega), ih, csum, e3]
    simp [cst]
section
variable {l : List Tok}
theorem lit_cost (l : List Tok) : csum (litC lensF l) (litE l) 286 = cst (lensF (litF l) 15) (litF l) := by
  have hlen : (lensF (litF l) 15).length = 286 := by rw [(lit_for lensF_LensOK l).len, litF_length]
  have h := csum_cst (lensF (litF l) 15) (litE l) 286 (by omega)
  rw [List.take_of_length_le (by omega)] at h
  unfold litF at h ⊢
  rw [h]
  exact csum_ext _ _ _ _ 286 fun k _ => ⟨cutL_at k, rfl⟩
theorem two_has : ∀ {f : List Nat}, 1 ≤ codedN f → ∃ (k b : Nat), f[k]? = some b ∧ 0 < b
  | [], h => by simp [codedN] at h
  | a :: f, h => by
    by_cases c : 0 < a
    · exact ⟨0, a, rfl, c⟩
    · rw [codedN, if_neg c] at h
      obtain ⟨k, b, h1, h2⟩ := two_has (f := f) (by omega)
      exact ⟨k + 1, b, by simpa using h1, h2⟩
theorem dst_cost (l : List Tok) (h2 : 1 ≤ codedN (dstF l)) : csum (dstL lensF l) (dstN l) 30 = cst (lensF (dstF l) 15) (dstF l) := by
  have hlen : (lensF (dstF l) 15).length = 30 := by rw [(dst_for lensF_LensOK l).len, dstF_length]
  have h := csum_cst (lensF (dstF l) 15) (dstN l) 30 (by omega)
  rw [List.take_of_length_le (by omega)] at h
  obtain ⟨k, b, hb, hb0⟩ := two_has h2
  have hs := (dst_for lensF_LensOK l).has hb hb0
  have hfx := (fixD_check (dst_check0 lensF_LensOK l) (by rw [dst_len0 lensF_LensOK l]; decide)).2.2 k hs
  unfold dstL
  rw [hfx]
  unfold dstF at h ⊢
  rw [h]
  exact csum_ext _ _ _ _ 30 fun k _ => ⟨cutL_at k, rfl⟩
theorem lit_opt (l : List Tok) (h : 2 ≤ codedN (litF l)) : OptL (litF l) 15 (lensF (litF l) 15) :=
  (lensF_LensOK (litF l) 15 (by rw [litF_length]; decide) (by decide) (by decide) (Nat.le_trans (codedN_le_len _) (by rw [litF_length]; decide))).best h
theorem dst_opt (l : List Tok) (h : 2 ≤ codedN (dstF l)) : OptL (dstF l) 15 (lensF (dstF l) 15) :=
  (lensF_LensOK (dstF l) 15 (by rw [dstF_length]; decide) (by decide) (by decide) (Nat.le_trans (codedN_le_len _) (by rw [dstF_length]; decide))).best h
/-- the whole costs more than its symbols -/
theorem size_more (hs : ∀ t ∈ l, soundB t = true) (hb : byteOK l) : csum (litC lensF l) (litE l) 286 + csum (dstL lensF l) (dstN l) 30 + 14 ≤ sizeK 2 l [] := by
  have h1 := toksB_length (lit := litC lensF l) (dist := dstL lensF l) hs hb
  have h2 := headB_length (litC lensF l) (dstL lensF l) (headC lensF (itemsOf (litC lensF l) (dstL lensF l))) (itemsOf (litC lensF l) (dstL lensF l))
  have e : sizeK 2 l [] = (headB (litC lensF l) (dstL lensF l) (headC lensF (itemsOf (litC lensF l) (dstL lensF l))) (itemsOf (litC lensF l) (dstL lensF l))).length + (toksB (litC lensF l) (dstL lensF l) l).length := by
    show (headB _ _ _ _ ++ toksB _ _ _).length = _
    rw [List.length_append]
  omega
theorem size_fixed (l : List Tok) : 7 ≤ sizeK 1 l [] := by
  have h1 : sizeK 1 l [] = (l.flatMap (tokB fixLit fixDist) ++ symBits fixLit 256).length := rfl
  have h2 : (symBits fixLit 256).length = 7 := by decide +kernel
  rw [h1, List.length_append, h2]; omega
end
end Go.Proofs.YthibpnkdhbkakaaGreatDoor
