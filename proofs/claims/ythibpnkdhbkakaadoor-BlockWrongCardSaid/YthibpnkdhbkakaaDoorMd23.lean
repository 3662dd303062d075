/-
  What is counted from the first packages: lengths of a whole code that cost just what the packages weigh. No program is named here.
-/
import Derived.Test.YthibpnkdhbkakaaDoorMd22
namespace Go.Proofs.YthibpnkdhbkakaaDoor
set_option maxRecDepth 5000

/-- The first packages of each level: the first so many of the frequencies, and packages of what is taken below. -/
structure Taken (A : List Nat) (m : Nat) (W : Nat → List Nat) (cnt K : Nat → Nat) : Prop where
  packs : Packs A m W
  top : K m = 2 * A.length - 2
  low : ∀ t, t < m → K t = 2 * (K (t + 1) - cnt (t + 1))
  few : ∀ t, t < m → cnt (t + 1) ≤ A.length ∧ cnt (t + 1) ≤ K (t + 1)
  room : ∀ t, t ≤ m → K t ≤ (W t).length
  split : ∀ t, t < m → ((W (t + 1)).take (K (t + 1))).Perm (A.take (cnt (t + 1)) ++ (pairs (W t)).take (K (t + 1) - cnt (t + 1)))
theorem up_take_drop : ∀ (l : List Nat) (k : Nat), Up l → ∀ a ∈ l.take k, ∀ b ∈ l.drop k, a ≤ b
  | [], k, _ => by simp
  | x :: l, 0, _ => by simp
  | x :: l, k + 1, h => by
    intro a ha b hb
    rw [List.take_succ_cons] at ha
    rw [List.drop_succ_cons] at hb
    rcases List.mem_cons.1 ha with ha | ha
    · subst ha; exact h.1 b (List.mem_of_mem_drop hb)
    · exact up_take_drop l k h.2 a ha b hb
/-- what is in the first ones lies in a package that weighs more -/
theorem in_pair : ∀ (l : List Nat) (e : Nat), 2 * e ≤ l.length → (∀ x ∈ l, 0 < x) → ∀ a ∈ l.take (2 * e), ∃ p ∈ (pairs l).take e, a < p
  | _, 0, _, _ => by simp
  | [], e + 1, h, _ => by simp at h
  | [x], e + 1, h, _ => by simp at h; omega
  | x :: y :: l, e + 1, h, hp => by
    intro a ha
    rw [show 2 * (e + 1) = 2 * e + 1 + 1 by omega, List.take_succ_cons, List.take_succ_cons] at ha
    rw [pairs, List.take_succ_cons]
    have hx := hp x (by simp)
    have hy := hp y (by simp)
    rcases List.mem_cons.1 ha with ha | ha
    · exact ⟨x + y, List.mem_cons_self, by omega⟩
    · rcases List.mem_cons.1 ha with ha | ha
      · exact ⟨x + y, List.mem_cons_self, by omega⟩
      · obtain ⟨p, h1, h2⟩ := in_pair l e (by simp at h; omega) (fun z hz => hp z (by simp [hz])) a ha
        exact ⟨p, List.mem_cons_of_mem _ h1, h2⟩
theorem pairs_pos : ∀ l : List Nat, (∀ x ∈ l, 0 < x) → ∀ x ∈ pairs l, 0 < x
  | [], _ => by simp [pairs]
  | [a], _ => by simp [pairs]
  | a :: b :: l, h => by
    intro x hx
    rw [pairs] at hx
    have := h a (by simp)
    rcases List.mem_cons.1 hx with hx | hx
    · omega
    · exact pairs_pos l (fun z hz => h z (by simp [hz])) x hx
section
variable {A : List Nat} {m : Nat} {W : Nat → List Nat} {cnt K : Nat → Nat} (h : Taken A m W cnt K) (hA : ∀ x ∈ A, 0 < x)
include h hA
theorem Taken.pos : ∀ t, t ≤ m → ∀ x ∈ W t, 0 < x
  | 0, _ => by rw [h.packs.none]; simp
  | t + 1, ht => by
    intro x hx
    rcases List.mem_append.1 ((h.packs.made t (by omega)).mem_iff.1 hx) with h1 | h1
    · exact hA x h1
    · exact pairs_pos _ (Taken.pos t (by omega)) x h1
/-- Deeper levels take no more of the frequencies. -/
theorem Taken.mono (t : Nat) (ht : t + 1 < m) : cnt (t + 1) ≤ cnt (t + 2) := by
  by_cases hle : cnt (t + 1) ≤ cnt (t + 2)
  · exact hle
  exfalso
  obtain ⟨c, hc⟩ : ∃ c, c = cnt (t + 2) := ⟨_, rfl⟩
  have hf1 := h.few t (by omega)
  have hf2 := h.few (t + 1) ht
  obtain ⟨x, hx⟩ := get_some (l := A) (i := c) (by omega)
  have hx1 : x ∈ A.take (cnt (t + 1)) := List.mem_iff_getElem?.2 ⟨c, by rw [List.getElem?_take_of_lt (by omega)]; exact hx⟩
  have hx2 : x ∈ (W (t + 1)).take (K (t + 1)) := (h.split t (by omega)).mem_iff.2 (List.mem_append.2 (.inl hx1))
  have hK := h.low (t + 1) ht
  have hroom := h.room (t + 1) (by omega)
  rw [hK] at hx2 hroom
  obtain ⟨p, hp1, hp2⟩ := in_pair (W (t + 1)) (K (t + 2) - cnt (t + 2)) hroom (Taken.pos h hA (t + 1) (by omega)) x hx2
  have hp3 : p ∈ (W (t + 2)).take (K (t + 2)) := (h.split (t + 1) ht).mem_iff.2 (List.mem_append.2 (.inr hp1))
  have hd : ((W (t + 2)).drop (K (t + 2))).Perm (A.drop (cnt (t + 2)) ++ (pairs (W (t + 1))).drop (K (t + 2) - cnt (t + 2))) := by
    have e1 := h.packs.made (t + 1) ht
    rw [← List.take_append_drop (K (t + 2)) (W (t + 2))] at e1
    have e2 : (A ++ pairs (W (t + 1))).Perm ((A.take (cnt (t + 2)) ++ (pairs (W (t + 1))).take (K (t + 2) - cnt (t + 2))) ++ (A.drop (cnt (t + 2)) ++ (pairs (W (t + 1))).drop (K (t + 2) - cnt (t + 2)))) := by
      have e3 : A ++ pairs (W (t + 1)) = (A.take (cnt (t + 2)) ++ A.drop (cnt (t + 2))) ++ ((pairs (W (t + 1))).take (K (t + 2) - cnt (t + 2)) ++ (pairs (W (t + 1))).drop (K (t + 2) - cnt (t + 2))) := by rw [List.take_append_drop, List.take_append_drop]
      rw [e3, List.append_assoc, List.append_assoc]
      refine List.Perm.append_left _ ?_
      rw [← List.append_assoc, ← List.append_assoc]
      exact List.perm_append_comm.append_right _
    exact (List.perm_append_left_iff _).1 (((h.split (t + 1) ht).append_right _).symm.trans (e1.trans e2))
  have hx3 : x ∈ (W (t + 2)).drop (K (t + 2)) := hd.mem_iff.2 (List.mem_append.2 (.inl (List.mem_iff_getElem?.2 ⟨0, by rw [List.getElem?_drop, ← hc]; exact hx⟩)))
  have := up_take_drop _ _ (h.packs.up (t + 1) ht) p hp3 x hx3
  omega
end
/-! ### the lengths -/
def addFirst : List Nat → Nat → List Nat
  | [], _ => []
  | a :: l, 0 => a :: l
  | a :: l, c + 1 => (a + 1) :: addFirst l c
theorem addFirst_length : ∀ (l : List Nat) (c : Nat), (addFirst l c).length = l.length
  | [], _ => rfl
  | a :: l, 0 => rfl
  | a :: l, c + 1 => by rw [addFirst, List.length_cons, List.length_cons, addFirst_length l c]
theorem addFirst_cst : ∀ (l A : List Nat) (c : Nat), l.length = A.length → cst (addFirst l c) A = cst l A + total (A.take c)
  | [], [], c, _ => by simp [addFirst, cst, total]
  | [], x :: A, c, h => by simp at h
  | a :: l, [], c, h => by simp at h
  | a :: l, x :: A, 0, _ => by simp [addFirst, total]
  | a :: l, x :: A, c + 1, h => by
    rw [addFirst, cst, cst, List.take_succ_cons, total, addFirst_cst l A c (by simpa using h), Nat.add_mul, Nat.one_mul]; omega
/-- the first c are from 1 to t, the others 0 -/
def Shp (t : Nat) : List Nat → Nat → Prop
  | [], c => c = 0
  | a :: l, 0 => a = 0 ∧ Shp t l 0
  | a :: l, c + 1 => 1 ≤ a ∧ a ≤ t ∧ Shp t l c
def sumS (t : Nat) : List Nat → Nat
  | [] => 0
  | a :: l => (if 0 < a then 2 ^ (t - a) else 0) + sumS t l
theorem shp_zero (t : Nat) : ∀ l : List Nat, Shp t l 0 → Shp (t + 1) l 0 ∧ sumS (t + 1) l = 0 ∧ sumS t l = 0
  | [], _ => ⟨rfl, rfl, rfl⟩
  | a :: l, h => by
    obtain ⟨h1, h2⟩ := h
    obtain ⟨k1, k2, k3⟩ := shp_zero t l h2
    exact ⟨⟨h1, k1⟩, by rw [sumS, k2, if_neg (by omega)], by rw [sumS, k3, if_neg (by omega)]⟩
theorem shp_step (t : Nat) : ∀ (l : List Nat) (c c2 : Nat), c ≤ c2 → c2 ≤ l.length → Shp t l c → Shp (t + 1) (addFirst l c2) c2 ∧ sumS (t + 1) (addFirst l c2) = sumS t l + (c2 - c) * 2 ^ t
  | [], c, c2, h1, h2, h => by
    obtain rfl : c2 = 0 := by simpa using h2
    exact ⟨rfl, by simp [addFirst, sumS]⟩
  | a :: l, c, 0, h1, _, h => by
    obtain rfl : c = 0 := by omega
    obtain ⟨k1, k2, k3⟩ := shp_zero t (a :: l) h
    exact ⟨k1, by rw [addFirst, k2, k3]; simp⟩
  | a :: l, 0, c2 + 1, _, h2, h => by
    obtain ⟨h3, h4⟩ := h
    obtain ⟨k1, k2⟩ := shp_step t l 0 c2 (Nat.zero_le _) (by simpa using h2) h4
    subst h3
    refine ⟨⟨by omega, by omega, k1⟩, ?_⟩
    rw [addFirst, sumS, sumS, k2, if_pos (by omega), if_neg (by omega), Nat.sub_zero, Nat.sub_zero, Nat.add_mul, Nat.one_mul, show t + 1 - (0 + 1) = t by omega]; omega
  | a :: l, c + 1, c2 + 1, h1, h2, h => by
    obtain ⟨h3, h4, h5⟩ := h
    obtain ⟨k1, k2⟩ := shp_step t l c c2 (by omega) (by simpa using h2) h5
    refine ⟨⟨by omega, by omega, k1⟩, ?_⟩
    rw [addFirst, sumS, sumS, k2, if_pos (by omega), if_pos (by omega), show t + 1 - (a + 1) = t - a by omega, show c2 + 1 - (c + 1) = c2 - c by omega]; omega
def lensR (n : Nat) (cnt : Nat → Nat) : Nat → List Nat
  | 0 => List.replicate n 0
  | t + 1 => addFirst (lensR n cnt t) (cnt (t + 1))
theorem lensR_length (n : Nat) (cnt : Nat → Nat) : ∀ t, (lensR n cnt t).length = n
  | 0 => by simp [lensR]
  | t + 1 => by rw [lensR, addFirst_length, lensR_length n cnt t]
theorem shp_none (t : Nat) : ∀ n : Nat, Shp t (List.replicate n 0) 0 ∧ sumS t (List.replicate n 0) = 0
  | 0 => ⟨rfl, rfl⟩
  | n + 1 => by
    obtain ⟨h1, h2⟩ := shp_none t n
    rw [List.replicate_succ]
    exact ⟨⟨rfl, h1⟩, by rw [sumS, h2]; simp⟩
theorem cst_none : ∀ A : List Nat, cst (List.replicate A.length 0) A = 0
  | [] => rfl
  | a :: A => by rw [List.length_cons, List.replicate_succ, cst, cst_none A]; omega
theorem shp_all (t : Nat) : ∀ (l : List Nat), Shp t l l.length → (∀ a ∈ l, 1 ≤ a ∧ a ≤ t)
  | [], _ => by simp
  | a :: l, h => by
    obtain ⟨h1, h2, h3⟩ := h
    intro b hb
    rcases List.mem_cons.1 hb with hb | hb
    · subst hb; exact ⟨h1, h2⟩
    · exact shp_all t l h3 b hb
theorem sumS_kr (m : Nat) (hm : m ≤ 15) : ∀ l : List Nat, (∀ a ∈ l, 1 ≤ a ∧ a ≤ m) → kr l = sumS m l * 2 ^ (15 - m)
  | [], _ => by simp [kr, sumS]
  | a :: l, h => by
    have h1 := h a List.mem_cons_self
    rw [kr, sumS, sumS_kr m hm l fun b hb => h b (List.mem_cons_of_mem _ hb), wtN_pos a h1.1 (by omega), if_pos (by omega), Nat.add_mul, ← Nat.pow_add, show m - a + (15 - m) = 15 - a by omega]
theorem shp_pos (t : Nat) : ∀ (l : List Nat) (c : Nat), 0 < c → Shp t l c → 0 < sumS t l
  | [], c, h, hs => by have : c = 0 := hs
                       omega
  | a :: l, c + 1, _, hs => by
    have := hs.1
    rw [sumS, if_pos (by omega)]
    have : 0 < 2 ^ (t - a) := Nat.two_pow_pos _
    omega
  | a :: l, 0, h, _ => by omega
section
variable {A : List Nat} {m : Nat} {W : Nat → List Nat} {cnt K : Nat → Nat} (h : Taken A m W cnt K) (hA : ∀ x ∈ A, 0 < x) (h0 : cnt 0 = 0)
include h hA h0
theorem Taken.stage : ∀ t, t ≤ m → Shp t (lensR A.length cnt t) (cnt t) ∧ K t * 2 ^ t + 2 * sumS t (lensR A.length cnt t) = 2 * cnt t * 2 ^ t ∧ cst (lensR A.length cnt t) A = total ((W t).take (K t))
  | 0, _ => by
    obtain ⟨k1, k2⟩ := shp_none 0 A.length
    have hk : K 0 = 0 := by have h1 := h.room 0 (Nat.zero_le _); rw [h.packs.none] at h1; simpa using h1
    rw [h0, hk]
    exact ⟨k1, by rw [lensR, k2], by rw [lensR, cst_none]; simp [total]⟩
  | t + 1, ht => by
    obtain ⟨k1, k2, k3⟩ := Taken.stage t (by omega)
    have hf := h.few t (by omega)
    have hle : cnt t ≤ cnt (t + 1) := by
      cases t with
      | zero => rw [h0]; exact Nat.zero_le _
      | succ t => exact h.mono hA t (by omega)
    obtain ⟨j1, j2⟩ := shp_step t (lensR A.length cnt t) (cnt t) (cnt (t + 1)) hle (by rw [lensR_length]; exact hf.1) k1
    have hK := h.low t (by omega)
    have hroom := h.room t (by omega)
    refine ⟨j1, ?_, ?_⟩
    · rw [lensR, j2]
      obtain ⟨d, hd⟩ : ∃ d, cnt (t + 1) = cnt t + d := ⟨cnt (t + 1) - cnt t, by omega⟩
      obtain ⟨e, he⟩ : ∃ e, K (t + 1) = cnt (t + 1) + e := ⟨K (t + 1) - cnt (t + 1), by omega⟩
      have hKe : K t = 2 * e := by rw [hK, he]; omega
      rw [he, hd, show cnt t + d - cnt t = d by omega, Nat.pow_succ]
      rw [hKe] at k2
      generalize 2 ^ t = p at *
      generalize cnt t = c at *
      generalize sumS t (lensR A.length cnt t) = S at *
      have e0 : (c + d + e) * p = c * p + d * p + e * p := by rw [Nat.add_mul, Nat.add_mul]
      have e1 : (c + d + e) * (p * 2) = 2 * ((c + d + e) * p) := by rw [← Nat.mul_assoc, Nat.mul_comm]
      have e5 : (c + d) * p = c * p + d * p := Nat.add_mul _ _ _
      have e2 : 2 * (c + d) * (p * 2) = 2 * (2 * ((c + d) * p)) := by rw [← Nat.mul_assoc, Nat.mul_comm _ 2, Nat.mul_assoc 2 (c + d) p]
      rw [e0] at e1
      rw [e5] at e2
      have e3 : 2 * e * p = 2 * (e * p) := Nat.mul_assoc _ _ _
      have e4 : 2 * c * p = 2 * (c * p) := Nat.mul_assoc _ _ _
      rw [e1, e2, Nat.mul_add]
      rw [e3, e4] at k2
      omega
    · rw [lensR, addFirst_cst _ _ _ (lensR_length _ _ _), k3, total_perm (h.split t (by omega)), total_append, pairs_take_eq (W t) (K (t + 1) - cnt (t + 1)) (by rw [← hK]; exact hroom), ← hK]
      omega
/-- What is counted is fit, and costs what the first packages weigh. -/
theorem Taken.fit (hm : 1 ≤ m) (hm2 : m ≤ 15) (hn : 2 ≤ A.length) : (∀ a ∈ lensR A.length cnt m, 1 ≤ a ∧ a ≤ m) ∧ kr (lensR A.length cnt m) = 32768 ∧ cst (lensR A.length cnt m) A = total ((W m).take (2 * A.length - 2)) := by
  obtain ⟨k1, k2, k3⟩ := h.stage hA h0 m (Nat.le_refl _)
  obtain ⟨t, rfl⟩ : ∃ t, m = t + 1 := ⟨m - 1, by omega⟩
  have hf := h.few t (by omega)
  rw [h.top] at k2 k3
  have hp : 0 < 2 ^ (t + 1) := Nat.two_pow_pos _
  have hc0 : 0 < cnt (t + 1) := by
    rcases Nat.eq_zero_or_pos (cnt (t + 1)) with e | e
    · rw [e] at k2
      have : 0 < (2 * A.length - 2) * 2 ^ (t + 1) := Nat.mul_pos (by omega) hp
      omega
    · exact e
  have hS := shp_pos (t + 1) _ _ hc0 k1
  have hcn : cnt (t + 1) = A.length := by
    by_cases e : cnt (t + 1) = A.length
    · exact e
    · exfalso
      have h1 : 2 * cnt (t + 1) * 2 ^ (t + 1) ≤ (2 * A.length - 2) * 2 ^ (t + 1) := Nat.mul_le_mul_right _ (by omega)
      omega
  have hall := shp_all (t + 1) (lensR A.length cnt (t + 1)) (by rw [lensR_length, ← hcn]; rw [hcn] at k1 ⊢; exact k1)
  refine ⟨hall, ?_, k3⟩
  rw [sumS_kr (t + 1) hm2 _ hall]
  have e1 : 2 * cnt (t + 1) * 2 ^ (t + 1) = (2 * A.length - 2) * 2 ^ (t + 1) + 2 * 2 ^ (t + 1) := by
    rw [hcn, ← Nat.add_mul]; congr 1; omega
  have e2 : sumS (t + 1) (lensR A.length cnt (t + 1)) = 2 ^ (t + 1) := by omega
  rw [e2, ← Nat.pow_add, show t + 1 + (15 - (t + 1)) = 15 by omega]
end
/-- Fit lengths that cost what the first packages weigh are the best. -/
theorem packs_best {f l A : List Nat} {m : Nat} {W : Nat → List Nat} (hp : Packs A m W) (hu : Up A) (hA : A.Perm (came f)) (hm : 1 ≤ m) (hm2 : m ≤ 15) (hg : FitL f m l) (hc : cst l f = total ((W m).take (2 * A.length - 2))) : OptL f m l := by
  refine ⟨hg, fun l2 h2 => ?_⟩
  obtain ⟨lq, k1, k2, k3, k4⟩ := gather f l2 h2.len h2.sup
  obtain ⟨lp, g1, g2, g3⟩ := carry hA.symm lq k1
  have h3 := (hp.least hu g1 hm hm2 (fun a ha => by
    have := k2 a (g2.mem_iff.1 ha)
    exact ⟨this.1, h2.le a this.2⟩) (by rw [kr_perm g2, k3]; exact h2.whole)).1
  omega
end Go.Proofs.YthibpnkdhbkakaaDoor
/-
  A stable sort by weight: by insertion, in blocks, merged in turns. No program is named here.
-/
namespace Go.Proofs.YthibpnkdhbkakaaDoor
set_option maxRecDepth 5000

/-- a weight, and whose it is -/
abbrev Itm := Nat × Int
def ins (x : Itm) : List Itm → List Itm
  | [] => [x]
  | y :: l => if x.1 ≤ y.1 then x :: y :: l else y :: ins x l
def mrg (u v : List Itm) : List Itm := u.foldr ins v
def ssort (l : List Itm) : List Itm := mrg l []
/-- the lightest first -/
def Asc : List Itm → Prop
  | [] => True
  | x :: l => (∀ y ∈ l, x.1 ≤ y.1) ∧ Asc l

theorem ins_comm (x y : Itm) (h : x.1 ≠ y.1) : ∀ l, ins x (ins y l) = ins y (ins x l)
  | [] => by
    simp only [ins]
    by_cases h1 : x.1 ≤ y.1
    · rw [if_pos h1, if_neg (by omega)]
    · rw [if_neg h1, if_pos (by omega)]
  | z :: l => by
    simp only [ins]
    by_cases h1 : x.1 ≤ z.1 <;> by_cases h2 : y.1 ≤ z.1
    · rw [if_pos h1, if_pos h2]
      simp only [ins]
      by_cases h3 : x.1 ≤ y.1
      · rw [if_pos h3, if_neg (by omega), if_pos h2]
      · rw [if_neg h3, if_pos h1, if_pos (by omega)]
    · rw [if_pos h1, if_neg h2]
      simp only [ins]
      rw [if_pos h1, if_neg (by omega), if_neg h2]
    · rw [if_neg h1, if_pos h2]
      simp only [ins]
      rw [if_neg (by omega), if_neg h1, if_pos h2]
    · rw [if_neg h1, if_neg h2]
      simp only [ins]
      rw [if_neg h1, if_neg h2, ins_comm x y h l]
theorem mrg_ins (x : Itm) (v : List Itm) : ∀ l, mrg (ins x l) v = ins x (mrg l v)
  | [] => rfl
  | y :: l => by
    simp only [ins]
    by_cases h : x.1 ≤ y.1
    · rw [if_pos h]; rfl
    · rw [if_neg h]
      show ins y (mrg (ins x l) v) = ins x (ins y (mrg l v))
      rw [mrg_ins x v l, ins_comm x y (by omega)]
theorem mrg_ssort (v : List Itm) : ∀ u, mrg (ssort u) v = mrg u v
  | [] => rfl
  | x :: u => by
    show mrg (ins x (ssort u)) v = ins x (mrg u v)
    rw [mrg_ins, mrg_ssort v u]
theorem mrg_app (u u2 v : List Itm) : mrg (u ++ u2) v = mrg u (mrg u2 v) := List.foldr_append
/-- sorted in two blocks, and merged -/
theorem ssort_app (u v : List Itm) : ssort (u ++ v) = mrg (ssort u) (ssort v) := by
  rw [mrg_ssort]; exact mrg_app u v []
theorem ins_perm (x : Itm) : ∀ l, (ins x l).Perm (x :: l)
  | [] => List.Perm.refl _
  | y :: l => by
    rw [ins]
    split
    · exact List.Perm.refl _
    · exact ((ins_perm x l).cons y).trans (List.Perm.swap x y l)
theorem mrg_perm (v : List Itm) : ∀ u, (mrg u v).Perm (u ++ v)
  | [] => List.Perm.refl _
  | x :: u => (ins_perm x _).trans ((mrg_perm v u).cons x)
theorem ssort_perm (l : List Itm) : (ssort l).Perm l := by
  have := mrg_perm [] l
  rw [List.append_nil] at this; exact this
theorem mrg_length (u v : List Itm) : (mrg u v).length = u.length + v.length := by rw [(mrg_perm v u).length_eq, List.length_append]
theorem ssort_length (l : List Itm) : (ssort l).length = l.length := (ssort_perm l).length_eq
theorem ins_asc (x : Itm) : ∀ l, Asc l → Asc (ins x l)
  | [], _ => ⟨by simp, trivial⟩
  | y :: l, h => by
    rw [ins]
    by_cases hx : x.1 ≤ y.1
    · rw [if_pos hx]
      refine ⟨fun z hz => ?_, h⟩
      rcases List.mem_cons.1 hz with hz | hz
      · rw [hz]; exact hx
      · have := h.1 z hz; omega
    · rw [if_neg hx]
      refine ⟨fun z hz => ?_, ins_asc x l h.2⟩
      rcases List.mem_cons.1 ((ins_perm x l).mem_iff.1 hz) with hz | hz
      · rw [hz]; omega
      · exact h.1 z hz
theorem mrg_asc (v : List Itm) (hv : Asc v) : ∀ u, Asc (mrg u v)
  | [] => hv
  | x :: u => ins_asc x _ (mrg_asc v hv u)
theorem ssort_asc (l : List Itm) : Asc (ssort l) := mrg_asc [] trivial l
theorem ins_past (x : Itm) : ∀ (a t : List Itm), (∀ y ∈ a, y.1 < x.1) → ins x (a ++ t) = a ++ ins x t
  | [], _, _ => rfl
  | y :: a, t, h => by
    have h1 := h y List.mem_cons_self
    rw [List.cons_append, ins, if_neg (by omega), ins_past x a t fun z hz => h z (List.mem_cons_of_mem _ hz)]; rfl
theorem ins_ahead (x : Itm) : ∀ (a t : List Itm), (∀ y ∈ t, x.1 ≤ y.1) → ins x (a ++ t) = ins x a ++ t
  | [], [], _ => rfl
  | [], y :: t, h => by
    have h1 := h y List.mem_cons_self
    rw [List.nil_append]
    simp only [ins]
    rw [if_pos h1]; rfl
  | y :: a, t, h => by
    rw [List.cons_append, ins, ins]
    by_cases h1 : x.1 ≤ y.1
    · rw [if_pos h1, if_pos h1]; rfl
    · rw [if_neg h1, if_neg h1, ins_ahead x a t h]; rfl
theorem mrg_past (a t : List Itm) : ∀ u : List Itm, (∀ x ∈ u, ∀ y ∈ a, y.1 < x.1) → mrg u (a ++ t) = a ++ mrg u t
  | [], _ => rfl
  | x :: u, h => by
    show ins x (mrg u (a ++ t)) = a ++ ins x (mrg u t)
    rw [mrg_past a t u fun z hz => h z (List.mem_cons_of_mem _ hz), ins_past x a _ (h x List.mem_cons_self)]
theorem mrg_ahead (t : List Itm) : ∀ (u a : List Itm), (∀ x ∈ u, ∀ y ∈ t, x.1 ≤ y.1) → mrg u (a ++ t) = mrg u a ++ t
  | [], _, _ => rfl
  | x :: u, a, h => by
    show ins x (mrg u (a ++ t)) = ins x (mrg u a) ++ t
    rw [mrg_ahead t u a fun z hz => h z (List.mem_cons_of_mem _ hz), ins_ahead x _ t (h x List.mem_cons_self)]
theorem asc_app : ∀ (u v : List Itm), Asc (u ++ v) ↔ Asc u ∧ Asc v ∧ ∀ x ∈ u, ∀ y ∈ v, x.1 ≤ y.1
  | [], v => by simp [Asc]
  | x :: u, v => by
    rw [List.cons_append]
    simp only [Asc, asc_app u v]
    constructor
    · rintro ⟨h1, h2, h3, h4⟩
      refine ⟨⟨fun y hy => h1 y (List.mem_append_left _ hy), h2⟩, h3, fun z hz y hy => ?_⟩
      rcases List.mem_cons.1 hz with hz | hz
      · rw [hz]; exact h1 y (List.mem_append_right _ hy)
      · exact h4 z hz y hy
    · rintro ⟨⟨h1, h2⟩, h3, h4⟩
      refine ⟨fun y hy => ?_, h2, h3, fun z hz y hy => h4 z (List.mem_cons_of_mem _ hz) y hy⟩
      rcases List.mem_append.1 hy with hy | hy
      · exact h1 y hy
      · exact h4 x List.mem_cons_self y hy
/-- a merge in two halves -/
theorem mrg_split (x1 x2 y1 y2 : List Itm) (hx : Asc (x1 ++ x2)) (h1 : ∀ x ∈ x1, ∀ y ∈ y2, x.1 ≤ y.1) (h2 : ∀ y ∈ y1, ∀ x ∈ x2, y.1 < x.1) :
    mrg (x1 ++ x2) (y1 ++ y2) = mrg x1 y1 ++ mrg x2 y2 := by
  rw [mrg_app, mrg_past y1 y2 x2 fun x hx y hy => h2 y hy x hx, mrg_ahead]
  intro x hxx y hy
  rcases List.mem_append.1 ((mrg_perm y2 x2).mem_iff.1 hy) with h | h
  · exact ((asc_app x1 x2).1 hx).2.2 x hxx y h
  · exact h1 x hxx y h
theorem ins_head (x : Itm) (l : List Itm) (h : ∀ y ∈ l, x.1 ≤ y.1) : ins x l = x :: l := ins_ahead x [] l h
theorem mrg_nil_right : ∀ u : List Itm, Asc u → mrg u [] = u
  | [], _ => rfl
  | x :: u, h => by
    show ins x (mrg u []) = x :: u
    rw [mrg_nil_right u h.2, ins_head x u h.1]
theorem ssort_of_asc (u : List Itm) (h : Asc u) : ssort u = u := mrg_nil_right u h
theorem mrg_nil_left (v : List Itm) : mrg [] v = v := rfl
/-- one ahead of the others -/
theorem mrg_one_left (x : Itm) (a t : List Itm) (ha : ∀ y ∈ a, y.1 < x.1) (ht : ∀ y ∈ t, x.1 ≤ y.1) : mrg [x] (a ++ t) = a ++ x :: t := by
  show ins x (a ++ t) = _
  rw [ins_past x a t ha, ins_head x t ht]
/-- one behind the others -/
theorem mrg_one_right (x : Itm) (a t : List Itm) (hs : Asc (a ++ t)) (ha : ∀ y ∈ a, y.1 ≤ x.1) (ht : ∀ y ∈ t, x.1 < y.1) : mrg (a ++ t) [x] = a ++ x :: t := by
  have h := mrg_split a t [x] [] hs (by simp) (fun y hy z hz => by
    rw [List.mem_singleton.1 hy]; exact ht z hz)
  rw [List.append_nil] at h
  rw [h, mrg_nil_right t ((asc_app a t).1 hs).2.1]
  have h2 : mrg a [x] = a ++ [x] := by
    have := mrg_ahead [x] a [] (fun z hz y hy => by
      rw [List.mem_singleton.1 hy]; exact ha z hz)
    rw [List.nil_append] at this
    rw [this, mrg_nil_right a ((asc_app a t).1 hs).1]
  rw [h2, List.append_assoc]; rfl
/-! ### what keeps its order -/
/-- those of a kind come in the order of a sort of their own -/
theorem filter_ins (p : Itm → Bool) (x : Itm) : ∀ l, Asc l → (ins x l).filter p = if p x = true then ins x (l.filter p) else l.filter p
  | [], _ => by
    simp only [ins]
    by_cases h : p x = true <;> simp [h, ins]
  | y :: l, hl => by
    rw [ins]
    by_cases h : x.1 ≤ y.1
    · rw [if_pos h]
      by_cases hp : p x = true
      · rw [if_pos hp, List.filter_cons_of_pos hp, ins_head x _ fun z hz => ?_]
        rcases List.mem_cons.1 (List.mem_filter.1 hz).1 with hz | hz
        · rw [hz]; exact h
        · have := hl.1 z hz; omega
      · rw [if_neg hp, List.filter_cons_of_neg hp]
    · rw [if_neg h]
      by_cases hy : p y = true
      · rw [List.filter_cons_of_pos hy, List.filter_cons_of_pos hy, filter_ins p x l hl.2]
        by_cases hp : p x = true
        · rw [if_pos hp, if_pos hp, ins, if_neg h]
        · rw [if_neg hp, if_neg hp]
      · rw [List.filter_cons_of_neg hy, List.filter_cons_of_neg hy, filter_ins p x l hl.2]
theorem filter_ssort (p : Itm → Bool) : ∀ l, (ssort l).filter p = ssort (l.filter p)
  | [] => rfl
  | x :: l => by
    show (ins x (ssort l)).filter p = _
    rw [filter_ins p x _ (ssort_asc l), filter_ssort p l]
    by_cases hp : p x = true
    · rw [if_pos hp, List.filter_cons_of_pos hp]; rfl
    · rw [if_neg hp, List.filter_cons_of_neg hp]
end Go.Proofs.YthibpnkdhbkakaaDoor
