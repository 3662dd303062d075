/-
  Packages: no lengths cost less than the first packages weigh. No program is named here.
-/
import Derived.Test.YtdmnfjicjjlnnaaGreatDoorDm18
import Derived.Test.YtdmnfjicjjlnnaaGreatDoorProg
import Derived.Test.YtdmnfjicjjlnnaaGreatDoorDm04
import Derived.Test.YtdmnfjicjjlnnaaGreatDoorDm03
import Derived.StillTailTactics
import Derived.BigRegion
namespace Go.Proofs.YtdmnfjicjjlnnaaGreatDoor
set_option maxRecDepth 5000
def pairs : List Nat → List Nat
  | a :: b :: l => (a + b) :: pairs l
  | _ => []
theorem pairs_length : ∀ l : List Nat, (pairs l).length = l.length / 2
  | [] => rfl
  | [a] => by simp [pairs]
  | a :: b :: l => by rw [pairs, List.length_cons, pairs_length l, List.length_cons, List.length_cons]; omega
theorem pairs_take : ∀ (l : List Nat) (e : Nat), total ((pairs l).take e) ≤ total (l.take (2 * e))
  | [], e => by simp [pairs, total]
  | [a], e => by simp [pairs, total]
  | a :: b :: l, 0 => by simp [total]
  | a :: b :: l, e + 1 => by
    rw [pairs, List.take_succ_cons, show 2 * (e + 1) = 2 * e + 1 + 1 by omega, List.take_succ_cons, List.take_succ_cons, total, total, total]
    have := pairs_take l e
    omega
theorem pairs_take_eq : ∀ (l : List Nat) (e : Nat), 2 * e ≤ l.length → total ((pairs l).take e) = total (l.take (2 * e))
  | _, 0, _ => by simp [total]
  | [], e + 1, h => by simp at h
  | [a], e + 1, h => by simp at h; omega
  | a :: b :: l, e + 1, h => by
    rw [pairs, List.take_succ_cons, show 2 * (e + 1) = 2 * e + 1 + 1 by omega, List.take_succ_cons, List.take_succ_cons, total, total, total, pairs_take_eq l e (by simp at h; omega)]
    omega
theorem total_perm {a b : List Nat} (h : a.Perm b) : total a = total b := by
  induction h with
  | nil => rfl
  | cons x _ ih => rw [total, total, ih]
  | swap x y l => simp only [total]; omega
  | trans _ _ ih1 ih2 => rw [ih1, ih2]
theorem take_shift (x : Nat) : ∀ (l : List Nat) (c : Nat), (∀ b ∈ l, x ≤ b) → c ≤ l.length → total ((x :: l).take c) ≤ total (l.take c)
  | _, 0, _, _ => by simp [total]
  | [], c + 1, _, h => by simp at h
  | y :: l, c + 1, hx, h => by
    have h1 := hx y List.mem_cons_self
    rw [List.take_succ_cons, total, List.take_succ_cons, total]
    have : total ((y :: l).take c) ≤ total (l.take c) + y := by
      cases c with
      | zero => simp [total]
      | succ c =>
        rw [List.take_succ_cons, total]
        have : ∀ (l : List Nat) (c : Nat), total (l.take c) ≤ total (l.take (c + 1)) := by
          intro l
          induction l with
          | nil => intro c; simp [total]
          | cons z l ih =>
            intro c
            cases c with
            | zero => simp [total]
            | succ c => rw [List.take_succ_cons, List.take_succ_cons, total, total]; have := ih c; omega
        have := this l c
        omega
    match c, h with
    | 0, _ => simp [total]; exact h1
    | c + 1, h =>
      have h2 := take_shift x l (c + 1) (fun b hb => hx b (List.mem_cons_of_mem _ hb)) (by simp at h; omega)
      rw [List.take_succ_cons, total] at h2
      rw [List.take_succ_cons, total]
      have h3 : ∀ b ∈ l, x ≤ b := fun b hb => hx b (List.mem_cons_of_mem _ hb)
      omega
theorem firsts_least : ∀ (M Q R : List Nat), Up M → M.Perm (Q ++ R) → total (M.take Q.length) ≤ total Q
  | [], Q, R, _, h => by
    have := h.length_eq
    have : Q = [] := List.eq_nil_of_length_eq_zero (by simp at this; omega)
    subst this; simp [total]
  | x :: M, Q, R, hu, h => by
    have hx : x ∈ Q ++ R := h.mem_iff.1 List.mem_cons_self
    by_cases hq : x ∈ Q
    · have hQ := List.perm_cons_erase hq
      have h2 : M.Perm (Q.erase x ++ R) := List.Perm.cons_inv (h.trans (hQ.append_right R))
      have ih := firsts_least M _ R hu.2 h2
      have hl := hQ.length_eq
      rw [List.length_cons] at hl
      rw [total_perm hQ, hl, List.take_succ_cons, total, total]; omega
    · have hr : x ∈ R := by
        rcases List.mem_append.1 hx with h | h
        · exact absurd h hq
        · exact h
      have hR := List.perm_cons_erase hr
      have h2 : M.Perm (Q ++ R.erase x) := List.Perm.cons_inv (h.trans ((hR.append_left Q).trans List.perm_middle))
      have ih := firsts_least M Q _ hu.2 h2
      have hl := h2.length_eq
      rw [List.length_append] at hl
      have := take_shift x M Q.length hu.1 (by omega)
      omega
/-! ### what lengths choose at each level -/
def cntGe (d : Nat) : List Nat → Nat
  | [] => 0
  | a :: l => (if d ≤ a then 1 else 0) + cntGe d l
def krGe (d : Nat) : List Nat → Nat
  | [] => 0
  | a :: l => (if d ≤ a then wtN a else 0) + krGe d l
def wGe (d : Nat) : List Nat → List Nat → Nat
  | a :: l, x :: A => (if d ≤ a then x else 0) + wGe d l A
  | _, _ => 0
theorem cntGe_le (d : Nat) : ∀ l : List Nat, cntGe d l ≤ l.length
  | [] => Nat.le_refl _
  | a :: l => by have := cntGe_le d l; rw [cntGe, List.length_cons]; split <;> omega
theorem wGe_first (d : Nat) : ∀ (l A : List Nat), l.length = A.length → Up A → total (A.take (cntGe d l)) ≤ wGe d l A
  | [], A, _, _ => by simp [cntGe, total]
  | a :: l, [], h, _ => by simp at h
  | a :: l, x :: A, h, hu => by
    have ih := wGe_first d l A (by simpa using h) hu.2
    have hc := cntGe_le d l
    rw [cntGe, wGe]
    by_cases ha : d ≤ a
    · rw [if_pos ha, if_pos ha, Nat.add_comm 1, List.take_succ_cons, total]; omega
    · rw [if_neg ha, if_neg ha, Nat.zero_add]
      have := take_shift x A (cntGe d l) hu.1 (by simp at h; omega)
      omega
def lev (m : Nat) (l A : List Nat) : Nat → Nat
  | 0 => 0
  | t + 1 => wGe (m - t) l A + lev m l A t
theorem lev_cons (m a x : Nat) (l A : List Nat) (hm : a ≤ m) : ∀ t, t ≤ m → lev m (a :: l) (x :: A) t = lev m l A t + (a - (m - t)) * x
  | 0, _ => by simp [lev]; rw [show a - m = 0 by omega]; omega
  | t + 1, h => by
    rw [lev, lev, lev_cons m a x l A hm t (by omega), wGe]
    by_cases ha : m - t ≤ a
    · rw [if_pos ha, show a - (m - (t + 1)) = (a - (m - t)) + 1 by omega, Nat.add_mul, Nat.one_mul]; omega
    · rw [if_neg ha, show a - (m - (t + 1)) = a - (m - t) by omega]; omega
theorem lev_all (m : Nat) : ∀ (l A : List Nat), l.length = A.length → (∀ a ∈ l, a ≤ m) → lev m l A m = cst l A
  | [], [], _, _ => by
    have : ∀ t, lev m [] [] t = 0 := by
      intro t
      induction t with
      | zero => rfl
      | succ t ih => rw [lev, ih]; rfl
    rw [this]; rfl
  | [], x :: A, h, _ => by simp at h
  | a :: l, [], h, _ => by simp at h
  | a :: l, x :: A, h, hl => by
    rw [lev_cons m a x l A (hl a List.mem_cons_self) m (Nat.le_refl _), lev_all m l A (by simpa using h) fun b hb => hl b (List.mem_cons_of_mem _ hb), cst, Nat.sub_self, Nat.sub_zero]; omega
def chosen (m : Nat) (l : List Nat) : Nat → Nat
  | 0 => 0
  | t + 1 => cntGe (m - t) l + chosen m l t / 2
theorem ge_split (d : Nat) (hd : 1 ≤ d) (hd15 : d ≤ 15) : ∀ l : List Nat, cntGe d l = cntGe (d + 1) l + l.count d ∧ krGe d l = krGe (d + 1) l + l.count d * 2 ^ (15 - d)
  | [] => by simp [cntGe, krGe]
  | a :: l => by
    obtain ⟨h1, h2⟩ := ge_split d hd hd15 l
    by_cases e : a = d
    · subst e
      rw [cntGe, cntGe, krGe, krGe, List.count_cons_self, if_pos (Nat.le_refl a), if_neg (show ¬ a + 1 ≤ a by omega), if_pos (Nat.le_refl a), if_neg (show ¬ a + 1 ≤ a by omega), wtN_pos a hd hd15, Nat.add_mul, Nat.one_mul]
      omega
    · rw [cntGe, cntGe, krGe, krGe, List.count_cons_of_ne e]
      by_cases ha : d ≤ a
      · rw [if_pos ha, if_pos (show d + 1 ≤ a by omega), if_pos ha, if_pos (show d + 1 ≤ a by omega)]; omega
      · rw [if_neg ha, if_neg (show ¬ d + 1 ≤ a by omega), if_neg ha, if_neg (show ¬ d + 1 ≤ a by omega)]; omega
theorem ge_top (m : Nat) : ∀ l : List Nat, (∀ a ∈ l, a ≤ m) → cntGe (m + 1) l = 0 ∧ krGe (m + 1) l = 0
  | [], _ => ⟨rfl, rfl⟩
  | a :: l, h => by
    obtain ⟨h1, h2⟩ := ge_top m l fun b hb => h b (List.mem_cons_of_mem _ hb)
    have := h a List.mem_cons_self
    rw [cntGe, krGe, if_neg (by omega), if_neg (by omega), h1, h2]; exact ⟨rfl, rfl⟩
theorem ge_dvd (d : Nat) (hd : d ≤ 15) : ∀ l : List Nat, ∃ q, kr l = krGe (d + 1) l + q * 2 ^ (15 - d)
  | [] => ⟨0, by simp [kr, krGe]⟩
  | a :: l => by
    obtain ⟨q, hq⟩ := ge_dvd d hd l
    rw [kr, krGe, hq]
    by_cases ha : d + 1 ≤ a
    · exact ⟨q, by rw [if_pos ha]; omega⟩
    · rw [if_neg ha]
      unfold wtN
      by_cases h : 1 ≤ a ∧ a ≤ 15
      · rw [if_pos h, show 15 - a = (15 - d) + (d - a) by omega, Nat.pow_add]
        exact ⟨2 ^ (d - a) + q, by rw [Nat.add_mul, Nat.mul_comm (2 ^ (d - a))]; omega⟩
      · rw [if_neg h]
        exact ⟨q, by omega⟩
theorem chosen_is {m : Nat} {l : List Nat} (hm : m ≤ 15) (hl : ∀ a ∈ l, a ≤ m) (hk : kr l = 32768) : ∀ t, t + 1 ≤ m →
    chosen m l (t + 1) * 2 ^ (15 - (m - t)) + krGe (m - t) l = cntGe (m - t) l * (2 * 2 ^ (15 - (m - t))) ∧ 2 ∣ chosen m l t := by
  intro t
  induction t with
  | zero =>
    intro h
    obtain ⟨g1, g2⟩ := ge_top m l hl
    obtain ⟨e1, e2⟩ := ge_split m (by omega) hm l
    refine ⟨?_, ⟨0, rfl⟩⟩
    rw [Nat.sub_zero, chosen, chosen, Nat.sub_zero, Nat.zero_div, Nat.add_zero]
    rw [g1] at e1; rw [g2] at e2
    rw [e2, e1]
    simp only [Nat.zero_add]
    generalize l.count m = c
    generalize 2 ^ (15 - m) = p
    rw [Nat.mul_comm 2 p, ← Nat.mul_assoc]; omega
  | succ t ih =>
    intro h
    obtain ⟨i1, i2⟩ := ih (by omega)
    obtain ⟨d, hd⟩ : ∃ d, m - t = d + 1 := ⟨m - t - 1, by omega⟩
    have hd2 : m - (t + 1) = d := by omega
    rw [hd] at i1
    rw [hd2]
    have hpow : 2 ^ (15 - d) = 2 * 2 ^ (15 - (d + 1)) := by rw [show 15 - d = (15 - (d + 1)) + 1 by omega, Nat.pow_succ, Nat.mul_comm]
    have hev : 2 ∣ chosen m l (t + 1) := by
      obtain ⟨q, hq⟩ := ge_dvd d (by omega) l
      have h32 : 2 ^ d * 2 ^ (15 - d) = 32768 := by rw [← Nat.pow_add, show d + (15 - d) = 15 by omega]
      rw [hk, ← h32, hpow] at hq
      have hp : 0 < 2 ^ (15 - (d + 1)) := Nat.two_pow_pos _
      generalize 2 ^ (15 - (d + 1)) = p at *
      generalize chosen m l (t + 1) = K at *
      generalize cntGe (d + 1) l = c at *
      generalize krGe (d + 1) l = g at *
      generalize 2 ^ d = e at *
      have k1 : e * (2 * p) = 2 * e * p := by rw [← Nat.mul_assoc, Nat.mul_comm e 2]
      have k2 : q * (2 * p) = 2 * q * p := by rw [← Nat.mul_assoc, Nat.mul_comm q 2]
      have k3 : c * (2 * p) = 2 * c * p := by rw [← Nat.mul_assoc, Nat.mul_comm c 2]
      rw [k1, k2] at hq
      rw [k3] at i1
      have k4 : (K + 2 * e) * p = (2 * c + 2 * q) * p := by rw [Nat.add_mul, Nat.add_mul]; omega
      have k5 := Nat.eq_of_mul_eq_mul_right hp k4
      omega
    refine ⟨?_, hev⟩
    obtain ⟨K, hK⟩ := hev
    obtain ⟨e1, e2⟩ := ge_split d (by omega) (by omega) l
    rw [chosen, hd2, hK, show 2 * K / 2 = K by omega, e2, e1]
    rw [hK] at i1
    rw [hpow]
    generalize 2 ^ (15 - (d + 1)) = p at *
    generalize cntGe (d + 1) l = c at *
    generalize krGe (d + 1) l = g at *
    generalize l.count d = x at *
    have k1 : 2 * K * p = K * (2 * p) := by rw [Nat.mul_comm 2 K, Nat.mul_assoc]
    rw [k1] at i1
    have k2 : (c + x + K) * (2 * p) = c * (2 * p) + x * (2 * p) + K * (2 * p) := by rw [Nat.add_mul, Nat.add_mul]
    have k3 : (c + x) * (2 * (2 * p)) = 2 * (c * (2 * p)) + 2 * (x * (2 * p)) := by
      rw [Nat.add_mul, ← Nat.mul_assoc c 2, Nat.mul_comm c 2, Nat.mul_assoc, ← Nat.mul_assoc x 2, Nat.mul_comm x 2, Nat.mul_assoc]
    rw [k2, k3]; omega
theorem chosen_end {m : Nat} {l : List Nat} (hm0 : 1 ≤ m) (hm : m ≤ 15) (hl : ∀ a ∈ l, 1 ≤ a ∧ a ≤ m) (hk : kr l = 32768) : chosen m l m = 2 * l.length - 2 := by
  obtain ⟨t, rfl⟩ : ∃ t, m = t + 1 := ⟨m - 1, by omega⟩
  have h1 := (chosen_is hm (fun a ha => (hl a ha).2) hk t (Nat.le_refl _)).1
  rw [show t + 1 - t = 1 by omega] at h1
  have h2 : ∀ l : List Nat, (∀ a ∈ l, 1 ≤ a ∧ a ≤ t + 1) → cntGe 1 l = l.length ∧ krGe 1 l = kr l := by
    intro l
    induction l with
    | nil => intro _; exact ⟨rfl, rfl⟩
    | cons a l ih =>
      intro h
      have h3 := h a List.mem_cons_self
      obtain ⟨h4, h5⟩ := ih fun b hb => h b (List.mem_cons_of_mem _ hb)
      rw [cntGe, krGe, kr, if_pos h3.1, if_pos h3.1, h4, h5, List.length_cons]
      exact ⟨by omega, rfl⟩
  obtain ⟨h4, h5⟩ := h2 l hl
  rw [h4, h5, hk] at h1
  omega
structure Packs (A : List Nat) (m : Nat) (W : Nat → List Nat) : Prop where
  none : W 0 = []
  up : ∀ t, t < m → Up (W (t + 1))
  made : ∀ t, t < m → (W (t + 1)).Perm (A ++ pairs (W t))
theorem Packs.least {A l : List Nat} {m : Nat} {W : Nat → List Nat} (h : Packs A m W) (hA : Up A) (hlen : l.length = A.length) (hm0 : 1 ≤ m) (hm : m ≤ 15) (hl : ∀ a ∈ l, 1 ≤ a ∧ a ≤ m) (hk : kr l = 32768) :
    total ((W m).take (2 * A.length - 2)) ≤ cst l A ∧ 2 * A.length - 2 ≤ (W m).length := by
  have key : ∀ t, t ≤ m → total ((W t).take (chosen m l t)) ≤ lev m l A t ∧ chosen m l t ≤ (W t).length := by
    intro t
    induction t with
    | zero => intro _; simp [chosen, total]
    | succ t ih =>
      intro ht
      obtain ⟨i1, i2⟩ := ih (by omega)
      obtain ⟨e, he⟩ := (chosen_is hm (fun a ha => (hl a ha).2) hk t ht).2
      have hp := h.made t (by omega)
      have hc := cntGe_le (m - t) l
      have hpl := pairs_length (W t)
      have hw := wGe_first (m - t) l A hlen hA
      rw [he] at i1 i2
      have he2 : chosen m l (t + 1) = cntGe (m - t) l + e := by rw [chosen, he]; omega
      rw [he2]
      have hq := firsts_least (W (t + 1)) (A.take (cntGe (m - t) l) ++ (pairs (W t)).take e) (A.drop (cntGe (m - t) l) ++ (pairs (W t)).drop e) (h.up t (by omega)) (by
        refine hp.trans ?_
        have e1 : A ++ pairs (W t) = (A.take (cntGe (m - t) l) ++ A.drop (cntGe (m - t) l)) ++ ((pairs (W t)).take e ++ (pairs (W t)).drop e) := by rw [List.take_append_drop, List.take_append_drop]
        rw [e1, List.append_assoc, List.append_assoc]
        refine List.Perm.append_left _ ?_
        rw [← List.append_assoc, ← List.append_assoc]
        exact List.perm_append_comm.append_right _)
      rw [List.length_append, List.length_take, List.length_take, Nat.min_eq_left (by omega), Nat.min_eq_left (by omega), total_append] at hq
      have h2 := pairs_take (W t) e
      refine ⟨by rw [lev]; omega, ?_⟩
      have := hp.length_eq
      rw [List.length_append, hpl] at this
      omega
  obtain ⟨k1, k2⟩ := key m (Nat.le_refl _)
  rw [chosen_end hm0 hm hl hk, hlen] at k1 k2
  rw [lev_all m l A hlen fun a ha => (hl a ha).2] at k1
  exact ⟨k1, k2⟩
end Go.Proofs.YtdmnfjicjjlnnaaGreatDoor
/-
  What is counted from the first packages: lengths of a whole code that cost just what the packages weigh. No program is named here.
-/
namespace Go.Proofs.YtdmnfjicjjlnnaaGreatDoor
set_option maxRecDepth 5000
structure Taken (A : List Nat) (m : Nat) (W : Nat → List Nat) (cnt K : Nat → Nat) : Prop where
  packs : Packs A m W
  top : K m = 2 * A.length - 2
  low : ∀ t, t < m → K t = 2 * (K (t + 1) - cnt (t + 1))
  few : ∀ t, t < m → cnt (t + 1) ≤ A.length ∧ cnt (t + 1) ≤ K (t + 1)
  room : ∀ t, t ≤ m → K t ≤ (W t).length
  split : ∀ t, t < m → ((W (t + 1)).take (K (t + 1))).Perm (A.take (cnt (t + 1)) ++ (pairs (W t)).take (K (t + 1) - cnt (t + 1)))
theorem up_take_drop : ∀ (l : List Nat) (k : Nat), Up l → ∀ a ∈ l.take k, ∀ b ∈ l.drop k, a ≤ b
  | [], k, _ => by simp
  | x :: l, 0, _ => by simp
  | x :: l, k + 1, h => by
    intro a ha b hb
    rw [List.take_succ_cons] at ha
    rw [List.drop_succ_cons] at hb
    rcases List.mem_cons.1 ha with ha | ha
    · subst ha; exact h.1 b (List.mem_of_mem_drop hb)
    · exact up_take_drop l k h.2 a ha b hb
theorem in_pair : ∀ (l : List Nat) (e : Nat), 2 * e ≤ l.length → (∀ x ∈ l, 0 < x) → ∀ a ∈ l.take (2 * e), ∃ p ∈ (pairs l).take e, a < p
  | _, 0, _, _ => by simp
  | [], e + 1, h, _ => by simp at h
  | [x], e + 1, h, _ => by simp at h; omega
  | x :: y :: l, e + 1, h, hp => by
    intro a ha
    rw [show 2 * (e + 1) = 2 * e + 1 + 1 by omega, List.take_succ_cons, List.take_succ_cons] at ha
    rw [pairs, List.take_succ_cons]
    have hx := hp x (by simp)
    have hy := hp y (by simp)
    rcases List.mem_cons.1 ha with ha | ha
    · exact ⟨x + y, List.mem_cons_self, by omega⟩
    · rcases List.mem_cons.1 ha with ha | ha
      · exact ⟨x + y, List.mem_cons_self, by omega⟩
      · obtain ⟨p, h1, h2⟩ := in_pair l e (by simp at h; omega) (fun z hz => hp z (by simp [hz])) a ha
        exact ⟨p, List.mem_cons_of_mem _ h1, h2⟩
theorem pairs_pos : ∀ l : List Nat, (∀ x ∈ l, 0 < x) → ∀ x ∈ pairs l, 0 < x
  | [], _ => by simp [pairs]
  | [a], _ => by simp [pairs]
  | a :: b :: l, h => by
    intro x hx
    rw [pairs] at hx
    have := h a (by simp)
    rcases List.mem_cons.1 hx with hx | hx
    · omega
    · exact pairs_pos l (fun z hz => h z (by simp [hz])) x hx
section
variable {A : List Nat} {m : Nat} {W : Nat → List Nat} {cnt K : Nat → Nat} (h : Taken A m W cnt K) (hA : ∀ x ∈ A, 0 < x)
include h hA
theorem Taken.pos : ∀ t, t ≤ m → ∀ x ∈ W t, 0 < x
  | 0, _ => by rw [h.packs.none]; simp
  | t + 1, ht => by
    intro x hx
    rcases List.mem_append.1 ((h.packs.made t (by omega)).mem_iff.1 hx) with h1 | h1
    · exact hA x h1
    · exact pairs_pos _ (Taken.pos t (by omega)) x h1
theorem Taken.mono (t : Nat) (ht : t + 1 < m) : cnt (t + 1) ≤ cnt (t + 2) := by
  by_cases hle : cnt (t + 1) ≤ cnt (t + 2)
  · exact hle
  exfalso
  obtain ⟨c, hc⟩ : ∃ c, c = cnt (t + 2) := ⟨_, rfl⟩
  have hf1 := h.few t (by omega)
  have hf2 := h.few (t + 1) ht
  obtain ⟨x, hx⟩ := get_some (l := A) (i := c) (by omega)
  have hx1 : x ∈ A.take (cnt (t + 1)) := List.mem_iff_getElem?.2 ⟨c, by rw [List.getElem?_take_of_lt (by omega)]; exact hx⟩
  have hx2 : x ∈ (W (t + 1)).take (K (t + 1)) := (h.split t (by omega)).mem_iff.2 (List.mem_append.2 (.inl hx1))
  have hK := h.low (t + 1) ht
  have hroom := h.room (t + 1) (by omega)
  rw [hK] at hx2 hroom
  obtain ⟨p, hp1, hp2⟩ := in_pair (W (t + 1)) (K (t + 2) - cnt (t + 2)) hroom (Taken.pos h hA (t + 1) (by omega)) x hx2
  have hp3 : p ∈ (W (t + 2)).take (K (t + 2)) := (h.split (t + 1) ht).mem_iff.2 (List.mem_append.2 (.inr hp1))
  have hd : ((W (t + 2)).drop (K (t + 2))).Perm (A.drop (cnt (t + 2)) ++ (pairs (W (t + 1))).drop (K (t + 2) - cnt (t + 2))) := by
    have e1 := h.packs.made (t + 1) ht
    rw [← List.take_append_drop (K (t + 2)) (W (t + 2))] at e1
    have e2 : (A ++ pairs (W (t + 1))).Perm ((A.take (cnt (t + 2)) ++ (pairs (W (t + 1))).take (K (t + 2) - cnt (t + 2))) ++ (A.drop (cnt (t + 2)) ++ (pairs (W (t + 1))).drop (K (t + 2) - cnt (t + 2)))) := by
      have e3 : A ++ pairs (W (t + 1)) = (A.take (cnt (t + 2)) ++ A.drop (cnt (t + 2))) ++ ((pairs (W (t + 1))).take (K (t + 2) - cnt (t + 2)) ++ (pairs (W (t + 1))).drop (K (t + 2) - cnt (t + 2))) := by rw [List.take_append_drop, List.take_append_drop]
      rw [e3, List.append_assoc, List.append_assoc]
      refine List.Perm.append_left _ ?_
      rw [← List.append_assoc, ← List.append_assoc]
      exact List.perm_append_comm.append_right _
    exact (List.perm_append_left_iff _).1 (((h.split (t + 1) ht).append_right _).symm.trans (e1.trans e2))
  have hx3 : x ∈ (W (t + 2)).drop (K (t + 2)) := hd.mem_iff.2 (List.mem_append.2 (.inl (List.mem_iff_getElem?.2 ⟨0, by rw [List.getElem?_drop, ← hc]; exact hx⟩)))
  have := up_take_drop _ _ (h.packs.up (t + 1) ht) p hp3 x hx3
  omega
end
/-! ### the lengths -/
def addFirst : List Nat → Nat → List Nat
  | [], _ => []
  | a :: l, 0 => a :: l
  | a :: l, c + 1 => (a + 1) :: addFirst l c
theorem addFirst_length : ∀ (l : List Nat) (c : Nat), (addFirst l c).length = l.length
  | [], _ => rfl
  | a :: l, 0 => rfl
  | a :: l, c + 1 => by rw [addFirst, List.length_cons, List.length_cons, addFirst_length l c]
theorem addFirst_cst : ∀ (l A : List Nat) (c : Nat), l.length = A.length → cst (addFirst l c) A = cst l A + total (A.take c)
  | [], [], c, _ => by simp [addFirst, cst, total]
  | [], x :: A, c, h => by simp at h
  | a :: l, [], c, h => by simp at h
  | a :: l, x :: A, 0, _ => by simp [addFirst, total]
  | a :: l, x :: A, c + 1, h => by
    rw [addFirst, cst, cst, List.take_succ_cons, total, addFirst_cst l A c (by simpa using h), Nat.add_mul, Nat.one_mul]; omega
def Shp (t : Nat) : List Nat → Nat → Prop
  | [], c => c = 0
  | a :: l, 0 => a = 0 ∧ Shp t l 0
  | a :: l, c + 1 => 1 ≤ a ∧ a ≤ t ∧ Shp t l c
def sumS (t : Nat) : List Nat → Nat
  | [] => 0
  | a :: l => (if 0 < a then 2 ^ (t - a) else 0) + sumS t l
theorem shp_zero (t : Nat) : ∀ l : List Nat, Shp t l 0 → Shp (t + 1) l 0 ∧ sumS (t + 1) l = 0 ∧ sumS t l = 0
  | [], _ => ⟨rfl, rfl, rfl⟩
  | a :: l, h => by
    obtain ⟨h1, h2⟩ := h
    obtain ⟨k1, k2, k3⟩ := shp_zero t l h2
    exact ⟨⟨h1, k1⟩, by rw [sumS, k2, if_neg (by omega)], by rw [sumS, k3, if_neg (by omega)]⟩
theorem shp_step (t : Nat) : ∀ (l : List Nat) (c c2 : Nat), c ≤ c2 → c2 ≤ l.length → Shp t l c → Shp (t + 1) (addFirst l c2) c2 ∧ sumS (t + 1) (addFirst l c2) = sumS t l + (c2 - c) * 2 ^ t
  | [], c, c2, h1, h2, h => by
    obtain rfl : c2 = 0 := by simpa using h2
    exact ⟨rfl, by simp [addFirst, sumS]⟩
  | a :: l, c, 0, h1, _, h => by
    obtain rfl : c = 0 := by omega
    obtain ⟨k1, k2, k3⟩ := shp_zero t (a :: l) h
    exact ⟨k1, by rw [addFirst, k2, k3]; simp⟩
  | a :: l, 0, c2 + 1, _, h2, h => by
    obtain ⟨h3, h4⟩ := h
    obtain ⟨k1, k2⟩ := shp_step t l 0 c2 (Nat.zero_le _) (by simpa using h2) h4
    subst h3
    refine ⟨⟨by omega, by omega, k1⟩, ?_⟩
    rw [addFirst, sumS, sumS, k2, if_pos (by omega), if_neg (by omega), Nat.sub_zero, Nat.sub_zero, Nat.add_mul, Nat.one_mul, show t + 1 - (0 + 1) = t by omega]; omega
  | a :: l, c + 1, c2 + 1, h1, h2, h => by
    obtain ⟨h3, h4, h5⟩ := h
    obtain ⟨k1, k2⟩ := shp_step t l c c2 (by omega) (by simpa using h2) h5
    refine ⟨⟨by omega, by omega, k1⟩, ?_⟩
    rw [addFirst, sumS, sumS, k2, if_pos (by omega), if_pos (by omega), show t + 1 - (a + 1) = t - a by omega, show c2 + 1 - (c + 1) = c2 - c by omega]; omega
def lensR (n : Nat) (cnt : Nat → Nat) : Nat → List Nat
  | 0 => List.replicate n 0
  | t + 1 => addFirst (lensR n cnt t) (cnt (t + 1))
theorem lensR_length (n : Nat) (cnt : Nat → Nat) : ∀ t, (lensR n cnt t).length = n
  | 0 => by simp [lensR]
  | t + 1 => by rw [lensR, addFirst_length, lensR_length n cnt t]
theorem shp_none (t : Nat) : ∀ n : Nat, Shp t (List.replicate n 0) 0 ∧ sumS t (List.replicate n 0) = 0
  | 0 => ⟨rfl, rfl⟩
  | n + 1 => by
    obtain ⟨h1, h2⟩ := shp_none t n
    rw [List.replicate_succ]
    exact ⟨⟨rfl, h1⟩, by rw [sumS, h2]; simp⟩
theorem cst_none : ∀ A : List Nat, cst (List.replicate A.length 0) A = 0
  | [] => rfl
  | a :: A => by rw [List.length_cons, List.replicate_succ, cst, cst_none A]; omega
theorem shp_all (t : Nat) : ∀ (l : List Nat), Shp t l l.length → (∀ a ∈ l, 1 ≤ a ∧ a ≤ t)
  | [], _ => by simp
  | a :: l, h => by
    obtain ⟨h1, h2, h3⟩ := h
    intro b hb
    rcases List.mem_cons.1 hb with hb | hb
    · subst hb; exact ⟨h1, h2⟩
    · exact shp_all t l h3 b hb
theorem sumS_kr (m : Nat) (hm : m ≤ 15) : ∀ l : List Nat, (∀ a ∈ l, 1 ≤ a ∧ a ≤ m) → kr l = sumS m l * 2 ^ (15 - m)
  | [], _ => by simp [kr, sumS]
  | a :: l, h => by
    have h1 := h a List.mem_cons_self
    rw [kr, sumS, sumS_kr m hm l fun b hb => h b (List.mem_cons_of_mem _ hb), wtN_pos a h1.1 (by omega), if_pos (by omega), Nat.add_mul, ← Nat.pow_add, show m - a + (15 - m) = 15 - a by omega]
theorem shp_pos (t : Nat) : ∀ (l : List Nat) (c : Nat), 0 < c → Shp t l c → 0 < sumS t l
  | [], c, h, hs => by have : c = 0 := hs
                       omega
  | a :: l, c + 1, _, hs => by
    have := hs.1
    rw [sumS, if_pos (by omega)]
    have : 0 < 2 ^ (t - a) := Nat.two_pow_pos _
    omega
  | a :: l, 0, h, _ => by omega
section
variable {A : List Nat} {m : Nat} {W : Nat → List Nat} {cnt K : Nat → Nat} (h : Taken A m W cnt K) (hA : ∀ x ∈ A, 0 < x) (h0 : cnt 0 = 0)
include h hA h0
theorem Taken.stage : ∀ t, t ≤ m → Shp t (lensR A.length cnt t) (cnt t) ∧ K t * 2 ^ t + 2 * sumS t (lensR A.length cnt t) = 2 * cnt t * 2 ^ t ∧ cst (lensR A.length cnt t) A = total ((W t).take (K t))
  | 0, _ => by
    obtain ⟨k1, k2⟩ := shp_none 0 A.length
    have hk : K 0 = 0 := by have h1 := h.room 0 (Nat.zero_le _); rw [h.packs.none] at h1; simpa using h1
    rw [h0, hk]
    exact ⟨k1, by rw [lensR, k2], by rw [lensR, cst_none]; simp [total]⟩
  | t + 1, ht => by
    obtain ⟨k1, k2, k3⟩ := Taken.stage t (by omega)
    have hf := h.few t (by omega)
    have hle : cnt t ≤ cnt (t + 1) := by
      cases t with
      | zero => rw [h0]; exact Nat.zero_le _
      | succ t => exact h.mono hA t (by omega)
    obtain ⟨j1, j2⟩ := shp_step t (lensR A.length cnt t) (cnt t) (cnt (t + 1)) hle (by rw [lensR_length]; exact hf.1) k1
    have hK := h.low t (by omega)
    have hroom := h.room t (by omega)
    refine ⟨j1, ?_, ?_⟩
    · rw [lensR, j2]
      obtain ⟨d, hd⟩ : ∃ d, cnt (t + 1) = cnt t + d := ⟨cnt (t + 1) - cnt t, by omega⟩
      obtain ⟨e, he⟩ : ∃ e, K (t + 1) = cnt (t + 1) + e := ⟨K (t + 1) - cnt (t + 1), by omega⟩
      have hKe : K t = 2 * e := by rw [hK, he]; omega
      rw [he, hd, show cnt t + d - cnt t = d by omega, Nat.pow_succ]
      rw [hKe] at k2
      generalize 2 ^ t = p at *
      generalize cnt t = c at *
      generalize sumS t (lensR A.length cnt t) = S at *
      have e0 : (c + d + e) * p = c * p + d * p + e * p := by rw [Nat.add_mul, Nat.add_mul]
      have e1 : (c + d + e) * (p * 2) = 2 * ((c + d + e) * p) := by rw [← Nat.mul_assoc, Nat.mul_comm]
      have e5 : (c + d) * p = c * p + d * p := Nat.add_mul _ _ _
      have e2 : 2 * (c + d) * (p * 2) = 2 * (2 * ((c + d) * p)) := by rw [← Nat.mul_assoc, Nat.mul_comm _ 2, Nat.mul_assoc 2 (c + d) p]
      rw [e0] at e1
      rw [e5] at e2
      have e3 : 2 * e * p = 2 * (e * p) := Nat.mul_assoc _ _ _
      have e4 : 2 * c * p = 2 * (c * p) := Nat.mul_assoc _ _ _
      rw [e1, e2, Nat.mul_add]
      rw [e3, e4] at k2
      omega
    · rw [lensR, addFirst_cst _ _ _ (lensR_length _ _ _), k3, total_perm (h.split t (by omega)), total_append, pairs_take_eq (W t) (K (t + 1) - cnt (t + 1)) (by rw [← hK]; exact hroom), ← hK]
      omega
theorem Taken.fit (hm : 1 ≤ m) (hm2 : m ≤ 15) (hn : 2 ≤ A.length) : (∀ a ∈ lensR A.length cnt m, 1 ≤ a ∧ a ≤ m) ∧ kr (lensR A.length cnt m) = 32768 ∧ cst (lensR A.length cnt m) A = total ((W m).take (2 * A.length - 2)) := by
  obtain ⟨k1, k2, k3⟩ := h.stage hA h0 m (Nat.le_refl _)
  obtain ⟨t, rfl⟩ : ∃ t, m = t + 1 := ⟨m - 1, by omega⟩
  have hf := h.few t (by omega)
  rw [h.top] at k2 k3
  have hp : 0 < 2 ^ (t + 1) := Nat.two_pow_pos _
  have hc0 : 0 < cnt (t + 1) := by
    rcases Nat.eq_zero_or_pos (cnt (t + 1)) with e | e
    · rw [e] at k2
      have : 0 < (2 * A.length - 2) * 2 ^ (t + 1) := Nat.mul_pos (by omega) hp
      omega
    · exact e
  have hS := shp_pos (t + 1) _ _ hc0 k1
  have hcn : cnt (t + 1) = A.length := by
    by_cases e : cnt (t + 1) = A.length
    · exact e
    · exfalso
      have h1 : 2 * cnt (t + 1) * 2 ^ (t + 1) ≤ (2 * A.length - 2) * 2 ^ (t + 1) := Nat.mul_le_mul_right _ (by omega)
      omega
  have hall := shp_all (t + 1) (lensR A.length cnt (t + 1)) (by rw [lensR_length, ← hcn]; rw [hcn] at k1 ⊢; exact k1)
  refine ⟨hall, ?_, k3⟩
  rw [sumS_kr (t + 1) hm2 _ hall]
  have e1 : 2 * cnt (t + 1) * 2 ^ (t + 1) = (2 * A.length - 2) * 2 ^ (t + 1) + 2 * 2 ^ (t + 1) := by
    rw [hcn, ← Nat.add_mul]; congr 1; omega
  have e2 : sumS (t + 1) (lensR A.length cnt (t + 1)) = 2 ^ (t + 1) := by omega
  rw [e2, ← Nat.pow_add, show t + 1 + (15 - (t + 1)) = 15 by omega]
end
theorem packs_best {f l A : List Nat} {m : Nat} {W : Nat → List Nat} (hp : Packs A m W) (hu : Up A) (hA : A.Perm (came f)) (hm : 1 ≤ m) (hm2 : m ≤ 15) (hg : FitL f m l) (hc : cst l f = total ((W m).take (2 * A.length - 2))) : OptL f m l := by
  refine ⟨hg, fun l2 h2 => ?_⟩
  obtain ⟨lq, k1, k2, k3, k4⟩ := gather f l2 h2.len h2.sup
  obtain ⟨lp, g1, g2, g3⟩ := carry hA.symm lq k1
  have h3 := (hp.least hu g1 hm hm2 (fun a ha => by
    have := k2 a (g2.mem_iff.1 ha)
    exact ⟨this.1, h2.le a this.2⟩) (by rw [kr_perm g2, k3]; exact h2.whole)).1
  omega
end Go.Proofs.YtdmnfjicjjlnnaaGreatDoor
/-
  A stable sort by weight: by insertion, in blocks, merged in turns. No program is named here.
-/
namespace Go.Proofs.YtdmnfjicjjlnnaaGreatDoor
set_option maxRecDepth 5000
abbrev Itm := Nat × Int
def ins (x : Itm) : List Itm → List Itm
  | [] => [x]
  | y :: l => if x.1 ≤ y.1 then x :: y :: l else y :: ins x l
def mrg (u v : List Itm) : List Itm := u.foldr ins v
def ssort (l : List Itm) : List Itm := mrg l []
def Asc : List Itm → Prop
  | [] => True
  | x :: l => (∀ y ∈ l, x.1 ≤ y.1) ∧ Asc l
theorem ins_comm (x y : Itm) (h : x.1 ≠ y.1) : ∀ l, ins x (ins y l) = ins y (ins x l)
  | [] => by
    simp only [ins]
    by_cases h1 : x.1 ≤ y.1
    · rw [if_pos h1, if_neg (by omega)]
    · rw [if_neg h1, if_pos (by omega)]
  | z :: l => by
    simp only [ins]
    by_cases h1 : x.1 ≤ z.1 <;> by_cases h2 : y.1 ≤ z.1
    · rw [if_pos h1, if_pos h2]
      simp only [ins]
      by_cases h3 : x.1 ≤ y.1
      · rw [if_pos h3, if_neg (by omega), if_pos h2]
      · rw [if_neg h3, if_pos h1, if_pos (by omega)]
    · rw [if_pos h1, if_neg h2]
      simp only [ins]
      rw [if_pos h1, if_neg (by omega), if_neg h2]
    · rw [if_neg h1, if_pos h2]
      simp only [ins]
      rw [if_neg (by omega), if_neg h1, if_pos h2]
    · rw [if_neg h1, if_neg h2]
      simp only [ins]
      rw [if_neg h1, if_neg h2, ins_comm x y h l]
theorem mrg_ins (x : Itm) (v : List Itm) : ∀ l, mrg (ins x l) v = ins x (mrg l v)
  | [] => rfl
  | y :: l => by
    simp only [ins]
    by_cases h : x.1 ≤ y.1
    · rw [if_pos h]; rfl
    · rw [if_neg h]
      show ins y (mrg (ins x l) v) = ins x (ins y (mrg l v))
      rw [mrg_ins x v l, ins_comm x y (by omega)]
theorem mrg_ssort (v : List Itm) : ∀ u, mrg (ssort u) v = mrg u v
  | [] => rfl
  | x :: u => by
    show mrg (ins x (ssort u)) v = ins x (mrg u v)
    rw [mrg_ins, mrg_ssort v u]
theorem mrg_app (u u2 v : List Itm) : mrg (u ++ u2) v = mrg u (mrg u2 v) := List.foldr_append
theorem ssort_app (u v : List Itm) : ssort (u ++ v) = mrg (ssort u) (ssort v) := by
  rw [mrg_ssort]; exact mrg_app u v []
theorem ins_perm (x : Itm) : ∀ l, (ins x l).Perm (x :: l)
  | [] => List.Perm.refl _
  | y :: l => by
    rw [ins]
    split
    · exact List.Perm.refl _
    · exact ((ins_perm x l).cons y).trans (List.Perm.swap x y l)
theorem mrg_perm (v : List Itm) : ∀ u, (mrg u v).Perm (u ++ v)
  | [] => List.Perm.refl _
  | x :: u => (ins_perm x _).trans ((mrg_perm v u).cons x)
theorem ssort_perm (l : List Itm) : (ssort l).Perm l := by
  have := mrg_perm [] l
  rw [List.append_nil] at this; exact this
theorem mrg_length (u v : List Itm) : (mrg u v).length = u.length + v.length := by rw [(mrg_perm v u).length_eq, List.length_append]
theorem ssort_length (l : List Itm) : (ssort l).length = l.length := (ssort_perm l).length_eq
theorem ins_asc (x : Itm) : ∀ l, Asc l → Asc (ins x l)
  | [], _ => ⟨by simp, trivial⟩
  | y :: l, h => by
    rw [ins]
    by_cases hx : x.1 ≤ y.1
    · rw [if_pos hx]
      refine ⟨fun z hz => ?_, h⟩
      rcases List.mem_cons.1 hz with hz | hz
      · rw [hz]; exact hx
      · have := h.1 z hz; omega
    · rw [if_neg hx]
      refine ⟨fun z hz => ?_, ins_asc x l h.2⟩
      rcases List.mem_cons.1 ((ins_perm x l).mem_iff.1 hz) with hz | hz
      · rw [hz]; omega
      · exact h.1 z hz
theorem mrg_asc (v : List Itm) (hv : Asc v) : ∀ u, Asc (mrg u v)
  | [] => hv
  | x :: u => ins_asc x _ (mrg_asc v hv u)
theorem ssort_asc (l : List Itm) : Asc (ssort l) := mrg_asc [] trivial l
theorem ins_past (x : Itm) : ∀ (a t : List Itm), (∀ y ∈ a, y.1 < x.1) → ins x (a ++ t) = a ++ ins x t
  | [], _, _ => rfl
  | y :: a, t, h => by
    have h1 := h y List.mem_cons_self
    rw [List.cons_append, ins, if_neg (by omega), ins_past x a t fun z hz => h z (List.mem_cons_of_mem _ hz)]; rfl
theorem ins_ahead (x : Itm) : ∀ (a t : List Itm), (∀ y ∈ t, x.1 ≤ y.1) → ins x (a ++ t) = ins x a ++ t
  | [], [], _ => rfl
  | [], y :: t, h => by
    have h1 := h y List.mem_cons_self
    rw [List.nil_append]
    simp only [ins]
    rw [if_pos h1]; rfl
  | y :: a, t, h => by
    rw [List.cons_append, ins, ins]
    by_cases h1 : x.1 ≤ y.1
    · rw [if_pos h1, if_pos h1]; rfl
    · rw [if_neg h1, if_neg h1, ins_ahead x a t h]; rfl
theorem mrg_past (a t : List Itm) : ∀ u : List Itm, (∀ x ∈ u, ∀ y ∈ a, y.1 < x.1) → mrg u (a ++ t) = a ++ mrg u t
  | [], _ => rfl
  | x :: u, h => by
    show ins x (mrg u (a ++ t)) = a ++ ins x (mrg u t)
    rw [mrg_past a t u fun z hz => h z (List.mem_cons_of_mem _ hz), ins_past x a _ (h x List.mem_cons_self)]
theorem mrg_ahead (t : List Itm) : ∀ (u a : List Itm), (∀ x ∈ u, ∀ y ∈ t, x.1 ≤ y.1) → mrg u (a ++ t) = mrg u a ++ t
  | [], _, _ => rfl
  | x :: u, a, h => by
    show ins x (mrg u (a ++ t)) = ins x (mrg u a) ++ t
    rw [mrg_ahead t u a fun z hz => h z (List.mem_cons_of_mem _ hz), ins_ahead x _ t (h x List.mem_cons_self)]
theorem asc_app : ∀ (u v : List Itm), Asc (u ++ v) ↔ Asc u ∧ Asc v ∧ ∀ x ∈ u, ∀ y ∈ v, x.1 ≤ y.1
  | [], v => by simp [Asc]
  | x :: u, v => by
    rw [List.cons_append]
    simp only [Asc, asc_app u v]
    constructor
    · rintro ⟨h1, h2, h3, h4⟩
      refine ⟨⟨fun y hy => h1 y (List.mem_append_left _ hy), h2⟩, h3, fun z hz y hy => ?_⟩
      rcases List.mem_cons.1 hz with hz | hz
      · rw [hz]; exact h1 y (List.mem_append_right _ hy)
      · exact h4 z hz y hy
    · rintro ⟨⟨h1, h2⟩, h3, h4⟩
      refine ⟨fun y hy => ?_, h2, h3, fun z hz y hy => h4 z (List.mem_cons_of_mem _ hz) y hy⟩
      rcases List.mem_append.1 hy with hy | hy
      · exact h1 y hy
      · exact h4 x List.mem_cons_self y hy
theorem mrg_split (x1 x2 y1 y2 : List Itm) (hx : Asc (x1 ++ x2)) (h1 : ∀ x ∈ x1, ∀ y ∈ y2, x.1 ≤ y.1) (h2 : ∀ y ∈ y1, ∀ x ∈ x2, y.1 < x.1) :
    mrg (x1 ++ x2) (y1 ++ y2) = mrg x1 y1 ++ mrg x2 y2 := by
  rw [mrg_app, mrg_past y1 y2 x2 fun x hx y hy => h2 y hy x hx, mrg_ahead]
  intro x hxx y hy
  rcases List.mem_append.1 ((mrg_perm y2 x2).mem_iff.1 hy) with h | h
  · exact ((asc_app x1 x2).1 hx).2.2 x hxx y h
  · exact h1 x hxx y h
theorem ins_head (x : Itm) (l : List Itm) (h : ∀ y ∈ l, x.1 ≤ y.1) : ins x l = x :: l := ins_ahead x [] l h
theorem mrg_nil_right : ∀ u : List Itm, Asc u → mrg u [] = u
  | [], _ => rfl
  | x :: u, h => by
    show ins x (mrg u []) = x :: u
    rw [mrg_nil_right u h.2, ins_head x u h.1]
theorem ssort_of_asc (u : List Itm) (h : Asc u) : ssort u = u := mrg_nil_right u h
theorem mrg_nil_left (v : List Itm) : mrg [] v = v := rfl
theorem mrg_one_left (x : Itm) (a t : List Itm) (ha : ∀ y ∈ a, y.1 < x.1) (ht : ∀ y ∈ t, x.1 ≤ y.1) : mrg [x] (a ++ t) = a ++ x :: t := by
  show ins x (a ++ t) = _
  rw [ins_past x a t ha, ins_head x t ht]
theorem mrg_one_right (x : Itm) (a t : List Itm) (hs : Asc (a ++ t)) (ha : ∀ y ∈ a, y.1 ≤ x.1) (ht : ∀ y ∈ t, x.1 < y.1) : mrg (a ++ t) [x] = a ++ x :: t := by
  have h := mrg_split a t [x] [] hs (by simp) (fun y hy z hz => by
    rw [List.mem_singleton.1 hy]; exact ht z hz)
  rw [List.append_nil] at h
  rw [h, mrg_nil_right t ((asc_app a t).1 hs).2.1]
  have h2 : mrg a [x] = a ++ [x] := by
    have := mrg_ahead [x] a [] (fun z hz y hy => by
      rw [List.mem_singleton.1 hy]; exact ha z hz)
    rw [List.nil_append] at this
    rw [this, mrg_nil_right a ((asc_app a t).1 hs).1]
  rw [h2, List.append_assoc]; rfl
/-! ### what keeps its order -/
theorem filter_ins (p : Itm → Bool) (x : Itm) : ∀ l, Asc l → (ins x l).filter p = if p x = true then ins x (l.filter p) else l.filter p
  | [], _ => by
    simp only [ins]
    by_cases h : p x = true <;> simp [h, ins]
  | y :: l, hl => by
    rw [ins]
    by_cases h : x.1 ≤ y.1
    · rw [if_pos h]
      by_cases hp : p x = true
      · rw [if_pos hp, List.filter_cons_of_pos hp, ins_head x _ fun z hz => ?_]
        rcases List.mem_cons.1 (List.mem_filter.1 hz).1 with hz | hz
        · rw [hz]; exact h
        · have := hl.1 z hz; omega
      · rw [if_neg hp, List.filter_cons_of_neg hp]
    · rw [if_neg h]
      by_cases hy : p y = true
      · rw [List.filter_cons_of_pos hy, List.filter_cons_of_pos hy, filter_ins p x l hl.2]
        by_cases hp : p x = true
        · rw [if_pos hp, if_pos hp, ins, if_neg h]
        · rw [if_neg hp, if_neg hp]
      · rw [List.filter_cons_of_neg hy, List.filter_cons_of_neg hy, filter_ins p x l hl.2]
theorem filter_ssort (p : Itm → Bool) : ∀ l, (ssort l).filter p = ssort (l.filter p)
  | [] => rfl
  | x :: l => by
    show (ins x (ssort l)).filter p = _
    rw [filter_ins p x _ (ssort_asc l), filter_ssort p l]
    by_cases hp : p x = true
    · rw [if_pos hp, List.filter_cons_of_pos hp]; rfl
    · rw [if_neg hp, List.filter_cons_of_neg hp]
end Go.Proofs.YtdmnfjicjjlnnaaGreatDoor
/-
  Two items compared by weight.
-/
namespace Go.Proofs.YtdmnfjicjjlnnaaGreatDoor
set_option maxRecDepth 5000
open Go.RowKit
def itmV (x : Itm) : Value := .agg #[.int .i64 (x.1 : Int), .int .i64 x.2]
def cmpI (a b : Int) : Int := if a < b then -1 else if b < a then 1 else 0
theorem nan_any (a : Int) (w : World) : Calls Tryz.prog 127 #[.int .i64 a] w fun e w' => e = .returned (.bool false) ∧ w' = w := by
  go_enter Tryz.func127, Tryz.ntmps127
  go_wp2
  go_ret
  exact ⟨by simp, rfl⟩
theorem compare_any (a b : Int) (w : World) : Calls Tryz.prog 123 #[.int .i64 a, .int .i64 b] w fun e w' => e = .returned (.int .i64 (cmpI a b)) ∧ w' = w := by
  have hc : (a < b ∧ cmpI a b = -1) ∨ (¬ a < b ∧ b < a ∧ cmpI a b = 1) ∨ (¬ a < b ∧ ¬ b < a ∧ cmpI a b = 0) := by
    unfold cmpI
    by_cases h1 : a < b
    · simp [h1]
    · by_cases h2 : b < a
      · simp [h1, h2]
      · simp [h1, h2]
  rcases hc with ⟨h1, h2⟩ | ⟨h1, h3, h2⟩ | ⟨h1, h3, h2⟩
  all_goals
    rw [h2]
    clear h2
    go_enter Tryz.func123, Tryz.ntmps123
    go_wp2_with fail
    refine (nan_any a w).mono ?_
    rintro e w' ⟨rfl, rfl⟩
    go_wp2_with fail
    refine (nan_any b _).mono ?_
    rintro e w' ⟨rfl, rfl⟩
    go_wp2
    try (exfalso; omega)
    go_ret
    exact ⟨rfl, rfl⟩
theorem cmp_any (x y : Itm) (w : World) : Calls Tryz.prog 122 #[itmV x, itmV y] w fun e w' => e = .returned (.int .i64 (cmpI x.1 y.1)) ∧ Mod w w' (fun _ => False) := by
  unfold itmV
  go_enter Tryz.func122, Tryz.ntmps122
  go_wp2_with fail
  refine (compare_any _ _ _).mono ?_
  rintro e w' ⟨rfl, rfl⟩
  go_wp2
  go_ret
  exact ⟨rfl, ((Mod.refl w _).alloc _).alloc _⟩
end Go.Proofs.YtdmnfjicjjlnnaaGreatDoor
/-
  An own slice of items: where they lie, and two of them changed for each other.
-/
namespace Go.Proofs.YtdmnfjicjjlnnaaGreatDoor
set_option maxRecDepth 5000
open Go.RowKit
def cellsI (l : List Itm) : List Value := l.flatMap fun x => [.int .i64 (x.1 : Int), .int .i64 x.2]
theorem cellsI_length (l : List Itm) : (cellsI l).length = l.length * 2 := by
  induction l with
  | nil => rfl
  | cons x l ih => simp [cellsI] at ih ⊢; omega
theorem cellsI_cons (x : Itm) (l : List Itm) : cellsI (x :: l) = .int .i64 (x.1 : Int) :: .int .i64 x.2 :: cellsI l := by simp [cellsI]
theorem cellsI_app (l m : List Itm) : cellsI (l ++ m) = cellsI l ++ cellsI m := by simp [cellsI]
theorem cellsI_get : ∀ (l : List Itm) (j : Nat) (x : Itm), l[j]? = some x → (cellsI l)[j * 2]? = some (.int .i64 (x.1 : Int)) ∧ (cellsI l)[j * 2 + 1]? = some (.int .i64 x.2)
  | [], _, _, h => by simp at h
  | y :: l, 0, x, h => by
    obtain rfl : y = x := by simpa using h
    rw [cellsI_cons]; simp
  | y :: l, j + 1, x, h => by
    have := cellsI_get l j x (by simpa using h)
    rw [cellsI_cons, show (j + 1) * 2 = j * 2 + 1 + 1 by omega, show j * 2 + 1 + 1 + 1 = (j * 2 + 1) + 1 + 1 by omega]
    simpa using this
theorem cellsI_set : ∀ (l : List Itm) (j : Nat) (x : Itm), j < l.length → cellsI (l.set j x) = ((cellsI l).set (j * 2) (.int .i64 (x.1 : Int))).set (j * 2 + 1) (.int .i64 x.2)
  | [], _, _, h => by simp at h
  | y :: l, 0, x, _ => by rw [List.set_cons_zero, cellsI_cons, cellsI_cons]; simp
  | y :: l, j + 1, x, h => by
    rw [List.set_cons_succ, cellsI_cons, cellsI_cons, cellsI_set l j x (by simpa using h), show (j + 1) * 2 = j * 2 + 1 + 1 by omega]
    simp
theorem cellsI_one (l : List Itm) : ∀ u ∈ cellsI l, u.oneCell' = true := by
  intro u hu
  obtain ⟨x, _, hx⟩ := List.mem_flatMap.1 hu
  rcases List.mem_cons.1 hx with rfl | hx
  · rfl
  · rw [List.mem_singleton.1 hx]; rfl
def itmT (v : Value) (l : List Itm) : Thing := ownT 147 2 v l.length (cellsI l)
theorem Own.site2 {w : World} {e : TypeId} {v : Value} {l : List Itm} (h : Own w e 2 v l.length (cellsI l)) (hn : 0 < l.length) :
    ∃ g off cap, v = .slice (some ⟨g, off, none⟩) l.length cap ∧ l.length ≤ cap ∧ cap ≤ maxLen ∧ (∀ j x, l[j]? = some x → w.cell? ⟨g, off + j * 2, none⟩ = some (.int .i64 (x.1 : Int)) ∧ w.cell? ⟨g, off + j * 2 + 1, none⟩ = some (.int .i64 x.2)) ∧
      (∀ j, w.frozen? ⟨g, j, none⟩ = false) ∧
      ∀ j x, j < l.length → Own ((w.setCell ⟨g, off + j * 2, none⟩ (.int .i64 (x.1 : Int))).setCell ⟨g, off + j * 2 + 1, none⟩ (.int .i64 x.2)) e 2 v (l.set j x).length (cellsI (l.set j x)) := by
  rcases h.2 with ⟨hv, h0⟩ | ⟨g, off, cap, cur, rfl, hg, hnc, hc, hsz, hcur⟩
  · omega
  · refine ⟨g, off, cap, rfl, hnc, hc, fun j x hx => ?_, fun j => frozen_of_row w g _ cur e hg, fun j x hj => ?_⟩
    · obtain ⟨h1, h2⟩ := cellsI_get l j x hx
      refine ⟨by rw [cell_of_row w g _ cur e (0, 0) hg]; exact hcur _ _ h1, by rw [cell_of_row w g _ cur e (0, 0) hg]; exact hcur _ _ h2⟩
    · have e1 := heap_setCell_same w g (off + j * 2) cur e (.int .i64 (x.1 : Int)) hg
      have e2 := heap_setCell_same _ g (off + j * 2 + 1) _ e (.int .i64 x.2) e1
      refine ⟨by rw [List.length_set, cellsI_length, List.length_set], .inr ⟨g, off, cap, _, by rw [List.length_set], e2, by rw [List.length_set]; exact hnc, hc, by simpa using hsz, fun i v hv => ?_⟩⟩
      rw [cellsI_set l j x hj] at hv
      have hl := cellsI_length l
      rw [Array.getElem?_setIfInBounds, Array.getElem?_setIfInBounds]
      rw [List.getElem?_set, List.getElem?_set] at hv
      simp only [List.length_set, Array.size_setIfInBounds] at hv ⊢
      by_cases c1 : j * 2 + 1 = i
      · rw [if_pos c1, if_pos (by omega)] at hv
        rw [if_pos (by omega), if_pos (by omega)]; exact hv
      · rw [if_neg c1] at hv
        rw [if_neg (by omega)]
        by_cases c2 : j * 2 = i
        · rw [if_pos c2, if_pos (by omega)] at hv
          rw [if_pos (by omega), if_pos (by omega)]; exact hv
        · rw [if_neg c2] at hv
          rw [if_neg (by omega)]
          exact hcur i v hv
def swp (l : List Itm) (i j : Nat) (x y : Itm) : List Itm := (l.set i y).set j x
theorem swp_is (A B C : List Itm) (x y : Itm) : swp (A ++ x :: B ++ y :: C) A.length (A.length + 1 + B.length) x y = A ++ y :: B ++ x :: C := by
  unfold swp
  rw [List.append_assoc, List.set_append_right _ _ (Nat.le_refl _), Nat.sub_self, List.cons_append, List.set_cons_zero, List.set_append_right _ _ (by omega), show A.length + 1 + B.length - A.length = B.length + 1 by omega,
    List.set_cons_succ, List.set_append_right _ _ (Nat.le_refl _), Nat.sub_self, List.set_cons_zero, List.append_assoc, List.cons_append]
theorem Held.site2 {w0 w : World} {v : Value} {l : List Itm} {Rs : List Thing} (h : Held w0 w (itmT v l :: Rs)) (hn : 0 < l.length) :
    ∃ g off cap, v = .slice (some ⟨g, off, none⟩) l.length cap ∧ l.length ≤ cap ∧ cap ≤ maxLen ∧ (∀ j x, l[j]? = some x → w.cell? ⟨g, off + j * 2, none⟩ = some (.int .i64 (x.1 : Int)) ∧ w.cell? ⟨g, off + j * 2 + 1, none⟩ = some (.int .i64 x.2)) ∧
      (∀ j, w.frozen? ⟨g, j, none⟩ = false) ∧
      ∀ j x, j < l.length → Held w0 ((w.setCell ⟨g, off + j * 2, none⟩ (.int .i64 (x.1 : Int))).setCell ⟨g, off + j * 2 + 1, none⟩ (.int .i64 x.2)) (itmT v (l.set j x) :: Rs) := by
  obtain ⟨g, off, cap, rfl, h1, h2, h3, h4, h5⟩ := h.own.site2 hn
  refine ⟨g, off, cap, rfl, h1, h2, h3, h4, fun j x hj => ?_⟩
  have ho := h5 j x hj
  obtain ⟨F, k1, k2, back⟩ := h.take
  exact back _ _ F ⟨ho, k1.2⟩ ((((Mod.refl w _).setCell (p := ⟨g, off + j * 2, none⟩) (.inr ((k1.2 g).2 rfl)) _)).setCell (p := ⟨g, off + j * 2 + 1, none⟩) (.inr ((k1.2 g).2 rfl)) _) (fun k hk => .inl hk) (fun k hk => by
    have := (k2 k hk).2
    simpa [World.setCell] using this)
theorem Held.swap2 {w0 w : World} {ao : Option Addr} {N cap : Nat} {l : List Itm} {Rs : List Thing} (h : Held w0 w (itmT (.slice ao N cap) l :: Rs)) {i j : Nat} {x y : Itm} (hi : l[i]? = some x) (hj : l[j]? = some y) :
    ∃ g off, ao = some ⟨g, off, none⟩ ∧ w.cell? ⟨g, off + i * 2, none⟩ = some (.int .i64 (x.1 : Int)) ∧ w.cell? ⟨g, off + i * 2 + 1, none⟩ = some (.int .i64 x.2) ∧
      w.cell? ⟨g, off + j * 2, none⟩ = some (.int .i64 (y.1 : Int)) ∧ w.cell? ⟨g, off + j * 2 + 1, none⟩ = some (.int .i64 y.2) ∧ (∀ k, w.frozen? ⟨g, k, none⟩ = false) ∧
      Hid (Held w0 ((((w.setCell ⟨g, off + i * 2, none⟩ (.int .i64 (y.1 : Int))).setCell ⟨g, off + i * 2 + 1, none⟩ (.int .i64 y.2)).setCell ⟨g, off + j * 2, none⟩ (.int .i64 (x.1 : Int))).setCell ⟨g, off + j * 2 + 1, none⟩ (.int .i64 x.2)) (itmT (.slice ao N cap) (swp l i j x y) :: Rs)) := by
  have hil : i < l.length := (List.getElem?_eq_some_iff.1 hi).1
  have hjl : j < l.length := (List.getElem?_eq_some_iff.1 hj).1
  obtain ⟨g, off, cap', hv, _, _, h3, h4, h5⟩ := h.site2 (by omega)
  simp only [Value.slice.injEq] at hv
  obtain ⟨rfl, rfl, rfl⟩ := hv
  have k1 := h5 i y hil
  obtain ⟨g', off', cap'', hv, _, _, _, _, k5⟩ := k1.site2 (by simp; omega)
  simp only [Value.slice.injEq, Option.some.injEq, Addr.mk.injEq, and_true] at hv
  obtain ⟨⟨rfl, rfl⟩, _, rfl⟩ := hv
  exact ⟨g, off, rfl, (h3 i x hi).1, (h3 i x hi).2, (h3 j y hj).1, (h3 j y hj).2, h4, hid (k5 j x (by simpa using hjl))⟩
end Go.Proofs.YtdmnfjicjjlnnaaGreatDoor
