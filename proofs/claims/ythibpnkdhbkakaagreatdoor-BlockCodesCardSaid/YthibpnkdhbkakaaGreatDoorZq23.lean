/-
  Frequencies in their order: lengths for them are lengths for the symbols, and the other way round. No program is named here.
-/
import Derived.Test.YthibpnkdhbkakaaGreatDoorZq22
namespace Go.Proofs.YthibpnkdhbkakaaGreatDoor
set_option maxRecDepth 5000

theorem kr_perm {l l2 : List Nat} (h : l.Perm l2) : kr l = kr l2 := by
  induction h with
  | nil => rfl
  | cons x _ ih => rw [kr, kr, ih]
  | swap x y l => simp only [kr]; omega
  | trans _ _ ih1 ih2 => rw [ih1, ih2]
/-- lengths turned with their frequencies -/
theorem carry {p q : List Nat} (h : p.Perm q) : ∀ lp : List Nat, lp.length = p.length → ∃ lq : List Nat, lq.length = q.length ∧ lq.Perm lp ∧ cst lq q = cst lp p := by
  induction h with
  | nil => intro lp hl; exact ⟨lp, hl, List.Perm.refl _, rfl⟩
  | cons x _ ih =>
    intro lp hl
    match lp, hl with
    | a :: lp, hl =>
      obtain ⟨lq, h1, h2, h3⟩ := ih lp (by simpa using hl)
      exact ⟨a :: lq, by simp [h1], h2.cons a, by rw [cst, cst, h3]⟩
  | swap x y l =>
    intro lp hl
    match lp, hl with
    | a :: b :: lp, hl => exact ⟨b :: a :: lp, by simpa using hl, List.Perm.swap a b lp, by simp only [cst]; omega⟩
  | trans _ _ ih1 ih2 =>
    intro lp hl
    obtain ⟨lq, h1, h2, h3⟩ := ih1 lp hl
    obtain ⟨lr, k1, k2, k3⟩ := ih2 lq h1
    exact ⟨lr, k1, k2.trans h2, by rw [k3, h3]⟩
def came (f : List Nat) : List Nat := f.filter fun b => decide (0 < b)
/-- lengths for those that come, as lengths for all -/
theorem spread : ∀ (f lq : List Nat), lq.length = (came f).length → (∀ a ∈ lq, 0 < a) →
    ∃ l : List Nat, l.length = f.length ∧ (∀ (i a b : Nat), l[i]? = some a → f[i]? = some b → (0 < a ↔ 0 < b)) ∧ (∀ a ∈ l, a = 0 ∨ a ∈ lq) ∧ kr l = kr lq ∧ cst l f = cst lq (came f)
  | [], lq, h, _ => by
    obtain rfl : lq = [] := List.eq_nil_of_length_eq_zero (by simpa [came] using h)
    exact ⟨[], rfl, by simp, by simp, rfl, rfl⟩
  | b :: f, lq, h, hp => by
    by_cases hb : 0 < b
    · have hc : came (b :: f) = b :: came f := by simp [came, hb]
      rw [hc] at h ⊢
      match lq, h, hp with
      | a :: lq, h, hp =>
        obtain ⟨l, h1, h2, h3, h4, h5⟩ := spread f lq (by simpa using h) fun x hx => hp x (List.mem_cons_of_mem _ hx)
        refine ⟨a :: l, by simp [h1], fun i x y hx hy => ?_, fun x hx => ?_, by rw [kr, kr, h4], by rw [cst, cst, h5]⟩
        · cases i with
          | zero =>
            simp only [List.getElem?_cons_zero, Option.some.injEq] at hx hy
            subst hx; subst hy
            exact ⟨fun _ => hb, fun _ => hp _ List.mem_cons_self⟩
          | succ i => exact h2 i x y (by simpa using hx) (by simpa using hy)
        · rcases List.mem_cons.1 hx with hx | hx
          · exact .inr (by rw [hx]; exact List.mem_cons_self)
          · exact (h3 x hx).imp id (List.mem_cons_of_mem _)
    · have hc : came (b :: f) = came f := by simp [came, hb]
      rw [hc] at h ⊢
      obtain rfl : b = 0 := by omega
      obtain ⟨l, h1, h2, h3, h4, h5⟩ := spread f lq h hp
      refine ⟨0 :: l, by simp [h1], fun i x y hx hy => ?_, fun x hx => ?_, by rw [kr, wtN_zero, h4]; omega, by rw [cst, h5]; omega⟩
      · cases i with
        | zero =>
          simp only [List.getElem?_cons_zero, Option.some.injEq] at hx hy
          subst hx; subst hy; omega
        | succ i => exact h2 i x y (by simpa using hx) (by simpa using hy)
      · rcases List.mem_cons.1 hx with hx | hx
        · exact .inl hx
        · exact h3 x hx
/-- .. and back -/
theorem gather : ∀ (f l : List Nat), l.length = f.length → (∀ (i a b : Nat), l[i]? = some a → f[i]? = some b → (0 < a ↔ 0 < b)) →
    ∃ lq : List Nat, lq.length = (came f).length ∧ (∀ a ∈ lq, 0 < a ∧ a ∈ l) ∧ kr lq = kr l ∧ cst lq (came f) = cst l f
  | [], l, h, _ => by
    obtain rfl : l = [] := List.eq_nil_of_length_eq_zero (by simpa using h)
    exact ⟨[], rfl, by simp, rfl, rfl⟩
  | b :: f, l, h, hs => by
    match l, h, hs with
    | a :: l, h, hs =>
      obtain ⟨lq, h1, h2, h3, h4⟩ := gather f l (by simpa using h) fun i x y hx hy => hs (i + 1) x y (by simpa using hx) (by simpa using hy)
      have h0 := hs 0 a b rfl rfl
      by_cases hb : 0 < b
      · have hc : came (b :: f) = b :: came f := by simp [came, hb]
        rw [hc]
        refine ⟨a :: lq, by simp [h1], fun x hx => ?_, by rw [kr, kr, h3], by rw [cst, cst, h4]⟩
        rcases List.mem_cons.1 hx with hx | hx
        · subst hx; exact ⟨h0.2 hb, List.mem_cons_self⟩
        · exact ⟨(h2 x hx).1, List.mem_cons_of_mem _ (h2 x hx).2⟩
      · have hc : came (b :: f) = came f := by simp [came, hb]
        rw [hc]
        obtain rfl : b = 0 := by omega
        obtain rfl : a = 0 := by
          have : ¬ 0 < a := fun h => by have := h0.1 h; omega
          omega
        exact ⟨lq, h1, fun x hx => ⟨(h2 x hx).1, List.mem_cons_of_mem _ (h2 x hx).2⟩, by rw [kr, wtN_zero, h3]; omega, by rw [cst, h4]; omega⟩

/-- the most frequent first -/
def Down : List Nat → Prop
  | [] => True
  | a :: l => (∀ b ∈ l, b ≤ a) ∧ Down l
theorem cross (a b x y : Nat) (h : b ≤ a) (h2 : y ≤ x) : b * x + a * y ≤ a * x + b * y := by
  obtain ⟨e, rfl⟩ : ∃ e, a = b + e := ⟨a - b, by omega⟩
  obtain ⟨g, rfl⟩ : ∃ g, x = y + g := ⟨x - y, by omega⟩
  rw [Nat.add_mul, Nat.add_mul, Nat.mul_add b y g, Nat.mul_add e y g]; omega
theorem insert_up : ∀ (s l : List Nat) (x a : Nat), l.length = s.length → Down (x :: s) → Up l →
    ∃ l2 : List Nat, l2.Perm (a :: l) ∧ Up l2 ∧ cst l2 (x :: s) ≤ cst (a :: l) (x :: s)
  | _, [], x, a, _, _, _ => ⟨[a], List.Perm.refl _, ⟨by simp, trivial⟩, Nat.le_refl _⟩
  | [], b :: l, x, a, h, _, _ => by simp at h
  | y :: s, b :: l, x, a, h, hd, hu => by
    by_cases hab : a ≤ b
    · exact ⟨a :: b :: l, List.Perm.refl _, ⟨fun c hc => by
        rcases List.mem_cons.1 hc with hc | hc
        · omega
        · have := hu.1 c hc; omega, hu⟩, Nat.le_refl _⟩
    · obtain ⟨l2, h1, h2, h3⟩ := insert_up s l y a (by simpa using h) hd.2 hu.2
      refine ⟨b :: l2, (h1.cons b).trans (List.Perm.swap a b l), ⟨fun c hc => ?_, h2⟩, ?_⟩
      · rcases List.mem_cons.1 (h1.mem_iff.1 hc) with hc | hc
        · omega
        · exact hu.1 c hc
      · have h4 := cross a b x y (by omega) (hd.1 y List.mem_cons_self)
        rw [cst] at h3
        rw [cst, cst, cst]; omega
/-- Lengths put in order cost no more. -/
theorem sort_up : ∀ (s l : List Nat), l.length = s.length → Down s → ∃ l2 : List Nat, l2.Perm l ∧ Up l2 ∧ cst l2 s ≤ cst l s
  | [], l, h, _ => by
    obtain rfl : l = [] := List.eq_nil_of_length_eq_zero (by simpa using h)
    exact ⟨[], List.Perm.refl _, trivial, Nat.le_refl _⟩
  | x :: s, l, h, hd => by
    match l, h with
    | a :: l, h =>
      obtain ⟨l1, h1, h2, h3⟩ := sort_up s l (by simpa using h) hd.2
      obtain ⟨l2, k1, k2, k3⟩ := insert_up s l1 x a (by rw [h1.length_eq]; simpa using h) hd h2
      refine ⟨l2, k1.trans (h1.cons a), k2, ?_⟩
      rw [cst] at k3
      rw [cst]; omega
/-- What the table holds at its end is the least cost. -/
theorem least_is {f l s : List Nat} {m v : Nat} (h : OptL f m l) (hm : m ≤ 15) (hs : Down s) (hp : s.Perm (came f)) (h0 : 0 < s.length)
    (hv : Has s m s.length 0 v) (hall : ∀ c, Has s m s.length 0 c → v ≤ c) : v = cst l f := by
  have h1 : cst l f ≤ v := by
    obtain ⟨ls, k1, _, k3, k4, k5⟩ := hv.lengths hm
    rw [List.take_length] at k5
    obtain ⟨lq, g1, g2, g3⟩ := carry hp ls k1
    obtain ⟨l2, e1, e2, e3, e4, e5⟩ := spread f lq g1 fun a ha => (k3 a (g2.mem_iff.1 ha)).1
    have := h.least l2 ⟨e1, e2, fun a ha => by
      rcases e3 a ha with e | e
      · omega
      · exact (k3 a (g2.mem_iff.1 e)).2, by rw [e4, kr_perm g2]; omega⟩
    omega
  have h2 : v ≤ cst l f := by
    obtain ⟨lq, k1, k2, k3, k4⟩ := gather f l h.good.len h.good.sup
    obtain ⟨ls, g1, g2, g3⟩ := carry hp.symm lq k1
    obtain ⟨l2, e1, e2, e3⟩ := sort_up s ls g1 hs
    have := hall _ (Up.has_all (by rw [e1.length_eq]; exact g1) h0 e2 (fun a ha => by
      have := k2 a (g2.mem_iff.1 (e1.mem_iff.1 ha))
      exact ⟨this.1, h.good.le a this.2⟩) hm (by rw [kr_perm e1, kr_perm g2, k3]; exact h.good.whole))
    omega
  omega
/-- there is a way, for whoever has found lengths -/
theorem least_has {f l s : List Nat} {m : Nat} (h : FitL f m l) (hm : m ≤ 15) (hs : Down s) (hp : s.Perm (came f)) (h0 : 0 < s.length) : ∃ c, Has s m s.length 0 c ∧ c ≤ cst l f := by
  obtain ⟨lq, k1, k2, k3, k4⟩ := gather f l h.len h.sup
  obtain ⟨ls, g1, g2, g3⟩ := carry hp.symm lq k1
  obtain ⟨l2, e1, e2, e3⟩ := sort_up s ls g1 hs
  exact ⟨_, Up.has_all (by rw [e1.length_eq]; exact g1) h0 e2 (fun a ha => by
      have := k2 a (g2.mem_iff.1 (e1.mem_iff.1 ha))
      exact ⟨this.1, h.le a this.2⟩) hm (by rw [kr_perm e1, kr_perm g2, k3]; exact h.whole), by omega⟩
end Go.Proofs.YthibpnkdhbkakaaGreatDoor
/-
  Packages: no lengths cost less than the first packages weigh. No program is named here.
-/
namespace Go.Proofs.YthibpnkdhbkakaaGreatDoor
set_option maxRecDepth 5000

/-- two by two -/
def pairs : List Nat → List Nat
  | a :: b :: l => (a + b) :: pairs l
  | _ => []
theorem pairs_length : ∀ l : List Nat, (pairs l).length = l.length / 2
  | [] => rfl
  | [a] => by simp [pairs]
  | a :: b :: l => by rw [pairs, List.length_cons, pairs_length l, List.length_cons, List.length_cons]; omega
theorem pairs_take : ∀ (l : List Nat) (e : Nat), total ((pairs l).take e) ≤ total (l.take (2 * e))
  | [], e => by simp [pairs, total]
  | [a], e => by simp [pairs, total]
  | a :: b :: l, 0 => by simp [total]
  | a :: b :: l, e + 1 => by
    rw [pairs, List.take_succ_cons, show 2 * (e + 1) = 2 * e + 1 + 1 by omega, List.take_succ_cons, List.take_succ_cons, total, total, total]
    have := pairs_take l e
    omega
theorem pairs_take_eq : ∀ (l : List Nat) (e : Nat), 2 * e ≤ l.length → total ((pairs l).take e) = total (l.take (2 * e))
  | _, 0, _ => by simp [total]
  | [], e + 1, h => by simp at h
  | [a], e + 1, h => by simp at h; omega
  | a :: b :: l, e + 1, h => by
    rw [pairs, List.take_succ_cons, show 2 * (e + 1) = 2 * e + 1 + 1 by omega, List.take_succ_cons, List.take_succ_cons, total, total, total, pairs_take_eq l e (by simp at h; omega)]
    omega
theorem total_perm {a b : List Nat} (h : a.Perm b) : total a = total b := by
  induction h with
  | nil => rfl
  | cons x _ ih => rw [total, total, ih]
  | swap x y l => simp only [total]; omega
  | trans _ _ ih1 ih2 => rw [ih1, ih2]
theorem take_shift (x : Nat) : ∀ (l : List Nat) (c : Nat), (∀ b ∈ l, x ≤ b) → c ≤ l.length → total ((x :: l).take c) ≤ total (l.take c)
  | _, 0, _, _ => by simp [total]
  | [], c + 1, _, h => by simp at h
  | y :: l, c + 1, hx, h => by
    have h1 := hx y List.mem_cons_self
    rw [List.take_succ_cons, total, List.take_succ_cons, total]
    have : total ((y :: l).take c) ≤ total (l.take c) + y := by
      cases c with
      | zero => simp [total]
      | succ c =>
        rw [List.take_succ_cons, total]
        have : ∀ (l : List Nat) (c : Nat), total (l.take c) ≤ total (l.take (c + 1)) := by
          intro l
          induction l with
          | nil => intro c; simp [total]
          | cons z l ih =>
            intro c
            cases c with
            | zero => simp [total]
            | succ c => rw [List.take_succ_cons, List.take_succ_cons, total, total]; have := ih c; omega
        have := this l c
        omega
    match c, h with
    | 0, _ => simp [total]; exact h1
    | c + 1, h =>
      have h2 := take_shift x l (c + 1) (fun b hb => hx b (List.mem_cons_of_mem _ hb)) (by simp at h; omega)
      rw [List.take_succ_cons, total] at h2
      rw [List.take_succ_cons, total]
      have h3 : ∀ b ∈ l, x ≤ b := fun b hb => hx b (List.mem_cons_of_mem _ hb)
      omega
/-- The first ones of a list in order weigh no more than any as many of them. -/
theorem firsts_least : ∀ (M Q R : List Nat), Up M → M.Perm (Q ++ R) → total (M.take Q.length) ≤ total Q
  | [], Q, R, _, h => by
    have := h.length_eq
    have : Q = [] := List.eq_nil_of_length_eq_zero (by simp at this; omega)
    subst this; simp [total]
  | x :: M, Q, R, hu, h => by
    have hx : x ∈ Q ++ R := h.mem_iff.1 List.mem_cons_self
    by_cases hq : x ∈ Q
    · have hQ := List.perm_cons_erase hq
      have h2 : M.Perm (Q.erase x ++ R) := List.Perm.cons_inv (h.trans (hQ.append_right R))
      have ih := firsts_least M _ R hu.2 h2
      have hl := hQ.length_eq
      rw [List.length_cons] at hl
      rw [total_perm hQ, hl, List.take_succ_cons, total, total]; omega
    · have hr : x ∈ R := by
        rcases List.mem_append.1 hx with h | h
        · exact absurd h hq
        · exact h
      have hR := List.perm_cons_erase hr
      have h2 : M.Perm (Q ++ R.erase x) := List.Perm.cons_inv (h.trans ((hR.append_left Q).trans List.perm_middle))
      have ih := firsts_least M Q _ hu.2 h2
      have hl := h2.length_eq
      rw [List.length_append] at hl
      have := take_shift x M Q.length hu.1 (by omega)
      omega

/-! ### what lengths choose at each level -/
def cntGe (d : Nat) : List Nat → Nat
  | [] => 0
  | a :: l => (if d ≤ a then 1 else 0) + cntGe d l
def krGe (d : Nat) : List Nat → Nat
  | [] => 0
  | a :: l => (if d ≤ a then wtN a else 0) + krGe d l
def wGe (d : Nat) : List Nat → List Nat → Nat
  | a :: l, x :: A => (if d ≤ a then x else 0) + wGe d l A
  | _, _ => 0
theorem cntGe_le (d : Nat) : ∀ l : List Nat, cntGe d l ≤ l.length
  | [] => Nat.le_refl _
  | a :: l => by have := cntGe_le d l; rw [cntGe, List.length_cons]; split <;> omega
theorem wGe_first (d : Nat) : ∀ (l A : List Nat), l.length = A.length → Up A → total (A.take (cntGe d l)) ≤ wGe d l A
  | [], A, _, _ => by simp [cntGe, total]
  | a :: l, [], h, _ => by simp at h
  | a :: l, x :: A, h, hu => by
    have ih := wGe_first d l A (by simpa using h) hu.2
    have hc := cntGe_le d l
    rw [cntGe, wGe]
    by_cases ha : d ≤ a
    · rw [if_pos ha, if_pos ha, Nat.add_comm 1, List.take_succ_cons, total]; omega
    · rw [if_neg ha, if_neg ha, Nat.zero_add]
      have := take_shift x A (cntGe d l) hu.1 (by simp at h; omega)
      omega
/-- the weight of the levels from d up to m -/
def lev (m : Nat) (l A : List Nat) : Nat → Nat
  | 0 => 0
  | t + 1 => wGe (m - t) l A + lev m l A t
theorem lev_cons (m a x : Nat) (l A : List Nat) (hm : a ≤ m) : ∀ t, t ≤ m → lev m (a :: l) (x :: A) t = lev m l A t + (a - (m - t)) * x
  | 0, _ => by simp [lev]; rw [show a - m = 0 by omega]; omega
  | t + 1, h => by
    rw [lev, lev, lev_cons m a x l A hm t (by omega), wGe]
    by_cases ha : m - t ≤ a
    · rw [if_pos ha, show a - (m - (t + 1)) = (a - (m - t)) + 1 by omega, Nat.add_mul, Nat.one_mul]; omega
    · rw [if_neg ha, show a - (m - (t + 1)) = a - (m - t) by omega]; omega
theorem lev_all (m : Nat) : ∀ (l A : List Nat), l.length = A.length → (∀ a ∈ l, a ≤ m) → lev m l A m = cst l A
  | [], [], _, _ => by
    have : ∀ t, lev m [] [] t = 0 := by
      intro t
      induction t with
      | zero => rfl
      | succ t ih => rw [lev, ih]; rfl
    rw [this]; rfl
  | [], x :: A, h, _ => by simp at h
  | a :: l, [], h, _ => by simp at h
  | a :: l, x :: A, h, hl => by
    rw [lev_cons m a x l A (hl a List.mem_cons_self) m (Nat.le_refl _), lev_all m l A (by simpa using h) fun b hb => hl b (List.mem_cons_of_mem _ hb), cst, Nat.sub_self, Nat.sub_zero]; omega
/-- how many are chosen of a level's list -/
def chosen (m : Nat) (l : List Nat) : Nat → Nat
  | 0 => 0
  | t + 1 => cntGe (m - t) l + chosen m l t / 2
theorem ge_split (d : Nat) (hd : 1 ≤ d) (hd15 : d ≤ 15) : ∀ l : List Nat, cntGe d l = cntGe (d + 1) l + l.count d ∧ krGe d l = krGe (d + 1) l + l.count d * 2 ^ (15 - d)
  | [] => by simp [cntGe, krGe]
  | a :: l => by
    obtain ⟨h1, h2⟩ := ge_split d hd hd15 l
    by_cases e : a = d
    · subst e
      rw [cntGe, cntGe, krGe, krGe, List.count_cons_self, if_pos (Nat.le_refl a), if_neg (show ¬ a + 1 ≤ a by omega), if_pos (Nat.le_refl a), if_neg (show ¬ a + 1 ≤ a by omega), wtN_pos a hd hd15, Nat.add_mul, Nat.one_mul]
      omega
    · rw [cntGe, cntGe, krGe, krGe, List.count_cons_of_ne e]
      by_cases ha : d ≤ a
      · rw [if_pos ha, if_pos (show d + 1 ≤ a by omega), if_pos ha, if_pos (show d + 1 ≤ a by omega)]; omega
      · rw [if_neg ha, if_neg (show ¬ d + 1 ≤ a by omega), if_neg ha, if_neg (show ¬ d + 1 ≤ a by omega)]; omega
theorem ge_top (m : Nat) : ∀ l : List Nat, (∀ a ∈ l, a ≤ m) → cntGe (m + 1) l = 0 ∧ krGe (m + 1) l = 0
  | [], _ => ⟨rfl, rfl⟩
  | a :: l, h => by
    obtain ⟨h1, h2⟩ := ge_top m l fun b hb => h b (List.mem_cons_of_mem _ hb)
    have := h a List.mem_cons_self
    rw [cntGe, krGe, if_neg (by omega), if_neg (by omega), h1, h2]; exact ⟨rfl, rfl⟩
theorem ge_dvd (d : Nat) (hd : d ≤ 15) : ∀ l : List Nat, ∃ q, kr l = krGe (d + 1) l + q * 2 ^ (15 - d)
  | [] => ⟨0, by simp [kr, krGe]⟩
  | a :: l => by
    obtain ⟨q, hq⟩ := ge_dvd d hd l
    rw [kr, krGe, hq]
    by_cases ha : d + 1 ≤ a
    · exact ⟨q, by rw [if_pos ha]; omega⟩
    · rw [if_neg ha]
      unfold wtN
      by_cases h : 1 ≤ a ∧ a ≤ 15
      · rw [if_pos h, show 15 - a = (15 - d) + (d - a) by omega, Nat.pow_add]
        exact ⟨2 ^ (d - a) + q, by rw [Nat.add_mul, Nat.mul_comm (2 ^ (d - a))]; omega⟩
      · rw [if_neg h]
        exact ⟨q, by omega⟩
theorem chosen_is {m : Nat} {l : List Nat} (hm : m ≤ 15) (hl : ∀ a ∈ l, a ≤ m) (hk : kr l = 32768) : ∀ t, t + 1 ≤ m →
    chosen m l (t + 1) * 2 ^ (15 - (m - t)) + krGe (m - t) l = cntGe (m - t) l * (2 * 2 ^ (15 - (m - t))) ∧ 2 ∣ chosen m l t := by
  intro t
  induction t with
  | zero =>
    intro h
    obtain ⟨g1, g2⟩ := ge_top m l hl
    obtain ⟨e1, e2⟩ := ge_split m (by omega) hm l
    refine ⟨?_, ⟨0, rfl⟩⟩
    rw [Nat.sub_zero, chosen, chosen, Nat.sub_zero, Nat.zero_div, Nat.add_zero]
    rw [g1] at e1; rw [g2] at e2
    rw [e2, e1]
    simp only [Nat.zero_add]
    generalize l.count m = c
    generalize 2 ^ (15 - m) = p
    rw [Nat.mul_comm 2 p, ← Nat.mul_assoc]; omega
  | succ t ih =>
    intro h
    obtain ⟨i1, i2⟩ := ih (by omega)
    obtain ⟨d, hd⟩ : ∃ d, m - t = d + 1 := ⟨m - t - 1, by omega⟩
    have hd2 : m - (t + 1) = d := by omega
    rw [hd] at i1
    rw [hd2]
    have hpow : 2 ^ (15 - d) = 2 * 2 ^ (15 - (d + 1)) := by rw [show 15 - d = (15 - (d + 1)) + 1 by omega, Nat.pow_succ, Nat.mul_comm]
    have hev : 2 ∣ chosen m l (t + 1) := by
      obtain ⟨q, hq⟩ := ge_dvd d (by omega) l
      have h32 : 2 ^ d * 2 ^ (15 - d) = 32768 := by rw [← Nat.pow_add, show d + (15 - d) = 15 by omega]
      rw [hk, ← h32, hpow] at hq
      have hp : 0 < 2 ^ (15 - (d + 1)) := Nat.two_pow_pos _
      generalize 2 ^ (15 - (d + 1)) = p at *
      generalize chosen m l (t + 1) = K at *
      generalize cntGe (d + 1) l = c at *
      generalize krGe (d + 1) l = g at *
      generalize 2 ^ d = e at *
      have k1 : e * (2 * p) = 2 * e * p := by rw [← Nat.mul_assoc, Nat.mul_comm e 2]
      have k2 : q * (2 * p) = 2 * q * p := by rw [← Nat.mul_assoc, Nat.mul_comm q 2]
      have k3 : c * (2 * p) = 2 * c * p := by rw [← Nat.mul_assoc, Nat.mul_comm c 2]
      rw [k1, k2] at hq
      rw [k3] at i1
      have k4 : (K + 2 * e) * p = (2 * c + 2 * q) * p := by rw [Nat.add_mul, Nat.add_mul]; omega
      have k5 := Nat.eq_of_mul_eq_mul_right hp k4
      omega
    refine ⟨?_, hev⟩
    obtain ⟨K, hK⟩ := hev
    obtain ⟨e1, e2⟩ := ge_split d (by omega) (by omega) l
    rw [chosen, hd2, hK, show 2 * K / 2 = K by omega, e2, e1]
    rw [hK] at i1
    rw [hpow]
    generalize 2 ^ (15 - (d + 1)) = p at *
    generalize cntGe (d + 1) l = c at *
    generalize krGe (d + 1) l = g at *
    generalize l.count d = x at *
    have k1 : 2 * K * p = K * (2 * p) := by rw [Nat.mul_comm 2 K, Nat.mul_assoc]
    rw [k1] at i1
    have k2 : (c + x + K) * (2 * p) = c * (2 * p) + x * (2 * p) + K * (2 * p) := by rw [Nat.add_mul, Nat.add_mul]
    have k3 : (c + x) * (2 * (2 * p)) = 2 * (c * (2 * p)) + 2 * (x * (2 * p)) := by
      rw [Nat.add_mul, ← Nat.mul_assoc c 2, Nat.mul_comm c 2, Nat.mul_assoc, ← Nat.mul_assoc x 2, Nat.mul_comm x 2, Nat.mul_assoc]
    rw [k2, k3]; omega
theorem chosen_end {m : Nat} {l : List Nat} (hm0 : 1 ≤ m) (hm : m ≤ 15) (hl : ∀ a ∈ l, 1 ≤ a ∧ a ≤ m) (hk : kr l = 32768) : chosen m l m = 2 * l.length - 2 := by
  obtain ⟨t, rfl⟩ : ∃ t, m = t + 1 := ⟨m - 1, by omega⟩
  have h1 := (chosen_is hm (fun a ha => (hl a ha).2) hk t (Nat.le_refl _)).1
  rw [show t + 1 - t = 1 by omega] at h1
  have h2 : ∀ l : List Nat, (∀ a ∈ l, 1 ≤ a ∧ a ≤ t + 1) → cntGe 1 l = l.length ∧ krGe 1 l = kr l := by
    intro l
    induction l with
    | nil => intro _; exact ⟨rfl, rfl⟩
    | cons a l ih =>
      intro h
      have h3 := h a List.mem_cons_self
      obtain ⟨h4, h5⟩ := ih fun b hb => h b (List.mem_cons_of_mem _ hb)
      rw [cntGe, krGe, kr, if_pos h3.1, if_pos h3.1, h4, h5, List.length_cons]
      exact ⟨by omega, rfl⟩
  obtain ⟨h4, h5⟩ := h2 l hl
  rw [h4, h5, hk] at h1
  omega
/-- the lists of packages: each in order, the frequencies and the list below two by two -/
structure Packs (A : List Nat) (m : Nat) (W : Nat → List Nat) : Prop where
  none : W 0 = []
  up : ∀ t, t < m → Up (W (t + 1))
  made : ∀ t, t < m → (W (t + 1)).Perm (A ++ pairs (W t))
/-- No lengths cost less than the first packages weigh. -/
theorem Packs.least {A l : List Nat} {m : Nat} {W : Nat → List Nat} (h : Packs A m W) (hA : Up A) (hlen : l.length = A.length) (hm0 : 1 ≤ m) (hm : m ≤ 15) (hl : ∀ a ∈ l, 1 ≤ a ∧ a ≤ m) (hk : kr l = 32768) :
    total ((W m).take (2 * A.length - 2)) ≤ cst l A ∧ 2 * A.length - 2 ≤ (W m).length := by
  have key : ∀ t, t ≤ m → total ((W t).take (chosen m l t)) ≤ lev m l A t ∧ chosen m l t ≤ (W t).length := by
    intro t
    induction t with
    | zero => intro _; simp [chosen, total]
    | succ t ih =>
      intro ht
      obtain ⟨i1, i2⟩ := ih (by omega)
      obtain ⟨e, he⟩ := (chosen_is hm (fun a ha => (hl a ha).2) hk t ht).2
      have hp := h.made t (by omega)
      have hc := cntGe_le (m - t) l
      have hpl := pairs_length (W t)
      have hw := wGe_first (m - t) l A hlen hA
      rw [he] at i1 i2
      have he2 : chosen m l (t + 1) = cntGe (m - t) l + e := by rw [chosen, he]; omega
      rw [he2]
      have hq := firsts_least (W (t + 1)) (A.take (cntGe (m - t) l) ++ (pairs (W t)).take e) (A.drop (cntGe (m - t) l) ++ (pairs (W t)).drop e) (h.up t (by omega)) (by
        refine hp.trans ?_
        have e1 : A ++ pairs (W t) = (A.take (cntGe (m - t) l) ++ A.drop (cntGe (m - t) l)) ++ ((pairs (W t)).take e ++ (pairs (W t)).drop e) := by rw [List.take_append_drop, List.take_append_drop]
        rw [e1, List.append_assoc, List.append_assoc]
        refine List.Perm.append_left _ ?_
        rw [← List.append_assoc, ← List.append_assoc]
        exact List.perm_append_comm.append_right _)
      rw [List.length_append, List.length_take, List.length_take, Nat.min_eq_left (by omega), Nat.min_eq_left (by omega), total_append] at hq
      have h2 := pairs_take (W t) e
      refine ⟨by rw [lev]; omega, ?_⟩
      have := hp.length_eq
      rw [List.length_append, hpl] at this
      omega
  obtain ⟨k1, k2⟩ := key m (Nat.le_refl _)
  rw [chosen_end hm0 hm hl hk, hlen] at k1 k2
  rw [lev_all m l A hlen fun a ha => (hl a ha).2] at k1
  exact ⟨k1, k2⟩
end Go.Proofs.YthibpnkdhbkakaaGreatDoor
/-
  What is counted from the first packages: lengths of a whole code that cost just what the packages weigh. No program is named here.
-/
namespace Go.Proofs.YthibpnkdhbkakaaGreatDoor
set_option maxRecDepth 5000

/-- The first packages of each level: the first so many of the frequencies, and packages of what is taken below. -/
structure Taken (A : List Nat) (m : Nat) (W : Nat → List Nat) (cnt K : Nat → Nat) : Prop where
  packs : Packs A m W
  top : K m = 2 * A.length - 2
  low : ∀ t, t < m → K t = 2 * (K (t + 1) - cnt (t + 1))
  few : ∀ t, t < m → cnt (t + 1) ≤ A.length ∧ cnt (t + 1) ≤ K (t + 1)
  room : ∀ t, t ≤ m → K t ≤ (W t).length
  split : ∀ t, t < m → ((W (t + 1)).take (K (t + 1))).Perm (A.take (cnt (t + 1)) ++ (pairs (W t)).take (K (t + 1) - cnt (t + 1)))
theorem up_take_drop : ∀ (l : List Nat) (k : Nat), Up l → ∀ a ∈ l.take k, ∀ b ∈ l.drop k, a ≤ b
  | [], k, _ => by simp
  | x :: l, 0, _ => by simp
  | x :: l, k + 1, h => by
    intro a ha b hb
    rw [List.take_succ_cons] at ha
    rw [List.drop_succ_cons] at hb
    rcases List.mem_cons.1 ha with ha | ha
    · subst ha; exact h.1 b (List.mem_of_mem_drop hb)
    · exact up_take_drop l k h.2 a ha b hb
/-- what is in the first ones lies in a package that weighs more -/
theorem in_pair : ∀ (l : List Nat) (e : Nat), 2 * e ≤ l.length → (∀ x ∈ l, 0 < x) → ∀ a ∈ l.take (2 * e), ∃ p ∈ (pairs l).take e, a < p
  | _, 0, _, _ => by simp
  | [], e + 1, h, _ => by simp at h
  | [x], e + 1, h, _ => by simp at h; omega
  | x :: y :: l, e + 1, h, hp => by
    intro a ha
    rw [show 2 * (e + 1) = 2 * e + 1 + 1 by omega, List.take_succ_cons, List.take_succ_cons] at ha
    rw [pairs, List.take_succ_cons]
    have hx := hp x (by simp)
    have hy := hp y (by simp)
    rcases List.mem_cons.1 ha with ha | ha
    · exact ⟨x + y, List.mem_cons_self, by omega⟩
    · rcases List.mem_cons.1 ha with ha | ha
      · exact ⟨x + y, List.mem_cons_self, by omega⟩
      · obtain ⟨p, h1, h2⟩ := in_pair l e (by simp at h; omega) (fun z hz => hp z (by simp [hz])) a ha
        exact ⟨p, List.mem_cons_of_mem _ h1, h2⟩
theorem pairs_pos : ∀ l : List Nat, (∀ x ∈ l, 0 < x) → ∀ x ∈ pairs l, 0 < x
  | [], _ => by simp [pairs]
  | [a], _ => by simp [pairs]
  | a :: b :: l, h => by
    intro x hx
    rw [pairs] at hx
    have := h a (by simp)
    rcases List.mem_cons.1 hx with hx | hx
    · omega
    · exact pairs_pos l (fun z hz => h z (by simp [hz])) x hx
section
variable {A : List Nat} {m : Nat} {W : Nat → List Nat} {cnt K : Nat → Nat} (h : Taken A m W cnt K) (hA : ∀ x ∈ A, 0 < x)
include h hA
theorem Taken.pos : ∀ t, t ≤ m → ∀ x ∈ W t, 0 < x
  | 0, _ => by rw [h.packs.none]; simp
  | t + 1, ht => by
    intro x hx
    rcases List.mem_append.1 ((h.packs.made t (by omega)).mem_iff.1 hx) with h1 | h1
    · exact hA x h1
    · exact pairs_pos _ (Taken.pos t (by omega)) x h1
/-- Deeper levels take no more of the frequencies. -/
theorem Taken.mono (t : Nat) (ht : t + 1 < m) : cnt (t + 1) ≤ cnt (t + 2) := by
  by_cases hle : cnt (t + 1) ≤ cnt (t + 2)
  · exact hle
  exfalso
  obtain ⟨c, hc⟩ : ∃ c, c = cnt (t + 2) := ⟨_, rfl⟩
  have hf1 := h.few t (by omega)
  have hf2 := h.few (t + 1) ht
  obtain ⟨x, hx⟩ := get_some (l := A) (i := c) (by omega)
  have hx1 : x ∈ A.take (cnt (t + 1)) := List.mem_iff_getElem?.2 ⟨c, by rw [List.getElem?_take_of_lt (by omega)]; exact hx⟩
  have hx2 : x ∈ (W (t + 1)).take (K (t + 1)) := (h.split t (by omega)).mem_iff.2 (List.mem_append.2 (.inl hx1))
  have hK := h.low (t + 1) ht
  have hroom := h.room (t + 1) (by omega)
  rw [hK] at hx2 hroom
  obtain ⟨p, hp1, hp2⟩ := in_pair (W (t + 1)) (K (t + 2) - cnt (t + 2)) hroom (Taken.pos h hA (t + 1) (by omega)) x hx2
  have hp3 : p ∈ (W (t + 2)).take (K (t + 2)) := (h.split (t + 1) ht).mem_iff.2 (List.mem_append.2 (.inr hp1))
  have hd : ((W (t + 2)).drop (K (t + 2))).Perm (A.drop (cnt (t + 2)) ++ (pairs (W (t + 1))).drop (K (t + 2) - cnt (t + 2))) := by
    have e1 := h.packs.made (t + 1) ht
    rw [← List.take_append_drop (K (t + 2)) (W (t + 2))] at e1
    have e2 : (A ++ pairs (W (t + 1))).Perm ((A.take (cnt (t + 2)) ++ (pairs (W (t + 1))).take (K (t + 2) - cnt (t + 2))) ++ (A.drop (cnt (t + 2)) ++ (pairs (W (t + 1))).drop (K (t + 2) - cnt (t + 2)))) := by
      have e3 : A ++ pairs (W (t + 1)) = (A.take (cnt (t + 2)) ++ A.drop (cnt (t + 2))) ++ ((pairs (W (t + 1))).take (K (t + 2) - cnt (t + 2)) ++ (pairs (W (t + 1))).drop (K (t + 2) - cnt (t + 2))) := by rw [List.take_append_drop, List.take_append_drop]
      rw [e3, List.append_assoc, List.append_assoc]
      refine List.Perm.append_left _ ?_
      rw [← List.append_assoc, ← List.append_assoc]
      exact List.perm_append_comm.append_right _
    exact (List.perm_append_left_iff _).1 (((h.split (t + 1) ht).append_right _).symm.trans (e1.trans e2))
  have hx3 : x ∈ (W (t + 2)).drop (K (t + 2)) := hd.mem_iff.2 (List.mem_append.2 (.inl (List.mem_iff_getElem?.2 ⟨0, by rw [List.getElem?_drop, ← hc]; exact hx⟩)))
  have := up_take_drop _ _ (h.packs.up (t + 1) ht) p hp3 x hx3
  omega
end
/-! ### the lengths -/
def addFirst : List Nat → Nat → List Nat
  | [], _ => []
  | a :: l, 0 => a :: l
  | a :: l, c + 1 => (a + 1) :: addFirst l c
theorem addFirst_length : ∀ (l : List Nat) (c : Nat), (addFirst l c).length = l.length
  | [], _ => rfl
  | a :: l, 0 => rfl
  | a :: l, c + 1 => by rw [addFirst, List.length_cons, List.length_cons, addFirst_length l c]
theorem addFirst_cst : ∀ (l A : List Nat) (c : Nat), l.length = A.length → cst (addFirst l c) A = cst l A + total (A.take c)
  | [], [], c, _ => by simp [addFirst, cst, total]
  | [], x :: A, c, h => by simp at h
  | a :: l, [], c, h => by simp at h
  | a :: l, x :: A, 0, _ => by simp [addFirst, total]
  | a :: l, x :: A, c + 1, h => by
    rw [addFirst, cst, cst, List.take_succ_cons, total, addFirst_cst l A c (by simpa using h), Nat.add_mul, Nat.one_mul]; omega
/-- the first c are from 1 to t, the others 0 -/
def Shp (t : Nat) : List Nat → Nat → Prop
  | [], c => c = 0
  | a :: l, 0 => a = 0 ∧ Shp t l 0
  | a :: l, c + 1 => 1 ≤ a ∧ a ≤ t ∧ Shp t l c
def sumS (t : Nat) : List Nat → Nat
  | [] => 0
  | a :: l => (if 0 < a then 2 ^ (t - a) else 0) + sumS t l
theorem shp_zero (t : Nat) : ∀ l : List Nat, Shp t l 0 → Shp (t + 1) l 0 ∧ sumS (t + 1) l = 0 ∧ sumS t l = 0
  | [], _ => ⟨rfl, rfl, rfl⟩
  | a :: l, h => by
    obtain ⟨h1, h2⟩ := h
    obtain ⟨k1, k2, k3⟩ := shp_zero t l h2
    exact ⟨⟨h1, k1⟩, by rw [sumS, k2, if_neg (by omega)], by rw [sumS, k3, if_neg (by omega)]⟩
theorem shp_step (t : Nat) : ∀ (l : List Nat) (c c2 : Nat), c ≤ c2 → c2 ≤ l.length → Shp t l c → Shp (t + 1) (addFirst l c2) c2 ∧ sumS (t + 1) (addFirst l c2) = sumS t l + (c2 - c) * 2 ^ t
  | [], c, c2, h1, h2, h => by
    obtain rfl : c2 = 0 := by simpa using h2
    exact ⟨rfl, by simp [addFirst, sumS]⟩
  | a :: l, c, 0, h1, _, h => by
    obtain rfl : c = 0 := by omega
    obtain ⟨k1, k2, k3⟩ := shp_zero t (a :: l) h
    exact ⟨k1, by rw [addFirst, k2, k3]; simp⟩
  | a :: l, 0, c2 + 1, _, h2, h => by
    obtain ⟨h3, h4⟩ := h
    obtain ⟨k1, k2⟩ := shp_step t l 0 c2 (Nat.zero_le _) (by simpa using h2) h4
    subst h3
    refine ⟨⟨by omega, by omega, k1⟩, ?_⟩
    rw [addFirst, sumS, sumS, k2, if_pos (by omega), if_neg (by omega), Nat.sub_zero, Nat.sub_zero, Nat.add_mul, Nat.one_mul, show t + 1 - (0 + 1) = t by omega]; omega
  | a :: l, c + 1, c2 + 1, h1, h2, h => by
    obtain ⟨h3, h4, h5⟩ := h
    obtain ⟨k1, k2⟩ := shp_step t l c c2 (by omega) (by simpa using h2) h5
    refine ⟨⟨by omega, by omega, k1⟩, ?_⟩
    rw [addFirst, sumS, sumS, k2, if_pos (by omega), if_pos (by omega), show t + 1 - (a + 1) = t - a by omega, show c2 + 1 - (c + 1) = c2 - c by omega]; omega
def lensR (n : Nat) (cnt : Nat → Nat) : Nat → List Nat
  | 0 => List.replicate n 0
  | t + 1 => addFirst (lensR n cnt t) (cnt (t + 1))
theorem lensR_length (n : Nat) (cnt : Nat → Nat) : ∀ t, (lensR n cnt t).length = n
  | 0 => by simp [lensR]
  | t + 1 => by rw [lensR, addFirst_length, lensR_length n cnt t]
theorem shp_none (t : Nat) : ∀ n : Nat, Shp t (List.replicate n 0) 0 ∧ sumS t (List.replicate n 0) = 0
  | 0 => ⟨rfl, rfl⟩
  | n + 1 => by
    obtain ⟨h1, h2⟩ := shp_none t n
    rw [List.replicate_succ]
    exact ⟨⟨rfl, h1⟩, by rw [sumS, h2]; simp⟩
theorem cst_none : ∀ A : List Nat, cst (List.replicate A.length 0) A = 0
  | [] => rfl
  | a :: A => by rw [List.length_cons, List.replicate_succ, cst, cst_none A]; omega
theorem shp_all (t : Nat) : ∀ (l : List Nat), Shp t l l.length → (∀ a ∈ l, 1 ≤ a ∧ a ≤ t)
  | [], _ => by simp
  | a :: l, h => by
    obtain ⟨h1, h2, h3⟩ := h
    intro b hb
    rcases List.mem_cons.1 hb with hb | hb
    · subst hb; exact ⟨h1, h2⟩
    · exact shp_all t l h3 b hb
theorem sumS_kr (m : Nat) (hm : m ≤ 15) : ∀ l : List Nat, (∀ a ∈ l, 1 ≤ a ∧ a ≤ m) → kr l = sumS m l * 2 ^ (15 - m)
  | [], _ => by simp [kr, sumS]
  | a :: l, h => by
    have h1 := h a List.mem_cons_self
    rw [kr, sumS, sumS_kr m hm l fun b hb => h b (List.mem_cons_of_mem _ hb), wtN_pos a h1.1 (by omega), if_pos (by omega), Nat.add_mul, ← Nat.pow_add, show m - a + (15 - m) = 15 - a by omega]
theorem shp_pos (t : Nat) : ∀ (l : List Nat) (c : Nat), 0 < c → Shp t l c → 0 < sumS t l
  | [], c, h, hs => by have : c = 0 := hs
                       omega
  | a :: l, c + 1, _, hs => by
    have := hs.1
    rw [sumS, if_pos (by omega)]
    have : 0 < 2 ^ (t - a) := Nat.two_pow_pos _
    omega
  | a :: l, 0, h, _ => by omega
section
variable {A : List Nat} {m : Nat} {W : Nat → List Nat} {cnt K : Nat → Nat} (h : Taken A m W cnt K) (hA : ∀ x ∈ A, 0 < x) (h0 : cnt 0 = 0)
include h hA h0
theorem Taken.stage : ∀ t, t ≤ m → Shp t (lensR A.length cnt t) (cnt t) ∧ K t * 2 ^ t + 2 * sumS t (lensR A.length cnt t) = 2 * cnt t * 2 ^ t ∧ cst (lensR A.length cnt t) A = total ((W t).take (K t))
  | 0, _ => by
    obtain ⟨k1, k2⟩ := shp_none 0 A.length
    have hk : K 0 = 0 := by have h1 := h.room 0 (Nat.zero_le _); rw [h.packs.none] at h1; simpa using h1
    rw [h0, hk]
    exact ⟨k1, by rw [lensR, k2], by rw [lensR, cst_none]; simp [total]⟩
  | t + 1, ht => by
    obtain ⟨k1, k2, k3⟩ := Taken.stage t (by omega)
    have hf := h.few t (by omega)
    have hle : cnt t ≤ cnt (t + 1) := by
      cases t with
      | zero => rw [h0]; exact Nat.zero_le _
      | succ t => exact h.mono hA t (by omega)
    obtain ⟨j1, j2⟩ := shp_step t (lensR A.length cnt t) (cnt t) (cnt (t + 1)) hle (by rw [lensR_length]; exact hf.1) k1
    have hK := h.low t (by omega)
    have hroom := h.room t (by omega)
    refine ⟨j1, ?_, ?_⟩
    · rw [lensR, j2]
      obtain ⟨d, hd⟩ : ∃ d, cnt (t + 1) = cnt t + d := ⟨cnt (t + 1) - cnt t, by omega⟩
      obtain ⟨e, he⟩ : ∃ e, K (t + 1) = cnt (t + 1) + e := ⟨K (t + 1) - cnt (t + 1), by omega⟩
      have hKe : K t = 2 * e := by rw [hK, he]; omega
      rw [he, hd, show cnt t + d - cnt t = d by omega, Nat.pow_succ]
      rw [hKe] at k2
      generalize 2 ^ t = p at *
      generalize cnt t = c at *
      generalize sumS t (lensR A.length cnt t) = S at *
      have e0 : (c + d + e) * p = c * p + d * p + e * p := by rw [Nat.add_mul, Nat.add_mul]
      have e1 : (c + d + e) * (p * 2) = 2 * ((c + d + e) * p) := by rw [← Nat.mul_assoc, Nat.mul_comm]
      have e5 : (c + d) * p = c * p + d * p := Nat.add_mul _ _ _
      have e2 : 2 * (c + d) * (p * 2) = 2 * (2 * ((c + d) * p)) := by rw [← Nat.mul_assoc, Nat.mul_comm _ 2, Nat.mul_assoc 2 (c + d) p]
      rw [e0] at e1
      rw [e5] at e2
      have e3 : 2 * e * p = 2 * (e * p) := Nat.mul_assoc _ _ _
      have e4 : 2 * c * p = 2 * (c * p) := Nat.mul_assoc _ _ _
      rw [e1, e2, Nat.mul_add]
      rw [e3, e4] at k2
      omega
    · rw [lensR, addFirst_cst _ _ _ (lensR_length _ _ _), k3, total_perm (h.split t (by omega)), total_append, pairs_take_eq (W t) (K (t + 1) - cnt (t + 1)) (by rw [← hK]; exact hroom), ← hK]
      omega
/-- What is counted is fit, and costs what the first packages weigh. -/
theorem Taken.fit (hm : 1 ≤ m) (hm2 : m ≤ 15) (hn : 2 ≤ A.length) : (∀ a ∈ lensR A.length cnt m, 1 ≤ a ∧ a ≤ m) ∧ kr (lensR A.length cnt m) = 32768 ∧ cst (lensR A.length cnt m) A = total ((W m).take (2 * A.length - 2)) := by
  obtain ⟨k1, k2, k3⟩ := h.stage hA h0 m (Nat.le_refl _)
  obtain ⟨t, rfl⟩ : ∃ t, m = t + 1 := ⟨m - 1, by omega⟩
  have hf := h.few t (by omega)
  rw [h.top] at k2 k3
  have hp : 0 < 2 ^ (t + 1) := Nat.two_pow_pos _
  have hc0 : 0 < cnt (t + 1) := by
    rcases Nat.eq_zero_or_pos (cnt (t + 1)) with e | e
    · rw [e] at k2
      have : 0 < (2 * A.length - 2) * 2 ^ (t + 1) := Nat.mul_pos (by omega) hp
      omega
    · exact e
  have hS := shp_pos (t + 1) _ _ hc0 k1
  have hcn : cnt (t + 1) = A.length := by
    by_cases e : cnt (t + 1) = A.length
    · exact e
    · exfalso
      have h1 : 2 * cnt (t + 1) * 2 ^ (t + 1) ≤ (2 * A.length - 2) * 2 ^ (t + 1) := Nat.mul_le_mul_right _ (by omega)
      omega
  have hall := shp_all (t + 1) (lensR A.length cnt (t + 1)) (by rw [lensR_length, ← hcn]; rw [hcn] at k1 ⊢; exact k1)
  refine ⟨hall, ?_, k3⟩
  rw [sumS_kr (t + 1) hm2 _ hall]
  have e1 : 2 * cnt (t + 1) * 2 ^ (t + 1) = (2 * A.length - 2) * 2 ^ (t + 1) + 2 * 2 ^ (t + 1) := by
    rw [hcn, ← Nat.add_mul]; congr 1; omega
  have e2 : sumS (t + 1) (lensR A.length cnt (t + 1)) = 2 ^ (t + 1) := by omega
  rw [e2, ← Nat.pow_add, show t + 1 + (15 - (t + 1)) = 15 by omega]
end
/-- Fit lengths that cost what the first packages weigh are the best. -/
theorem packs_best {f l A : List Nat} {m : Nat} {W : Nat → List Nat} (hp : Packs A m W) (hu : Up A) (hA : A.Perm (came f)) (hm : 1 ≤ m) (hm2 : m ≤ 15) (hg : FitL f m l) (hc : cst l f = total ((W m).take (2 * A.length - 2))) : OptL f m l := by
  refine ⟨hg, fun l2 h2 => ?_⟩
  obtain ⟨lq, k1, k2, k3, k4⟩ := gather f l2 h2.len h2.sup
  obtain ⟨lp, g1, g2, g3⟩ := carry hA.symm lq k1
  have h3 := (hp.least hu g1 hm hm2 (fun a ha => by
    have := k2 a (g2.mem_iff.1 ha)
    exact ⟨this.1, h2.le a this.2⟩) (by rw [kr_perm g2, k3]; exact h2.whole)).1
  omega
end Go.Proofs.YthibpnkdhbkakaaGreatDoor
