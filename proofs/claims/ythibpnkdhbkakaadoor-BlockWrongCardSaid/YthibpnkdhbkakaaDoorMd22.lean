/-
  Frequencies in their order: lengths for them are lengths for the symbols, and the other way round. No program is named here.
-/
import Derived.Test.YthibpnkdhbkakaaDoorMd21
namespace Go.Proofs.YthibpnkdhbkakaaDoor
set_option maxRecDepth 5000

theorem kr_perm {l l2 : List Nat} (h : l.Perm l2) : kr l = kr l2 := by
  induction h with
  | nil => rfl
  | cons x _ ih => rw [kr, kr, ih]
  | swap x y l => simp only [kr]; omega
  | trans _ _ ih1 ih2 => rw [ih1, ih2]
/-- lengths turned with their frequencies -/
theorem carry {p q : List Nat} (h : p.Perm q) : ∀ lp : List Nat, lp.length = p.length → ∃ lq : List Nat, lq.length = q.length ∧ lq.Perm lp ∧ cst lq q = cst lp p := by
  induction h with
  | nil => intro lp hl; exact ⟨lp, hl, List.Perm.refl _, rfl⟩
  | cons x _ ih =>
    intro lp hl
    match lp, hl with
    | a :: lp, hl =>
      obtain ⟨lq, h1, h2, h3⟩ := ih lp (by simpa using hl)
      exact ⟨a :: lq, by simp [h1], h2.cons a, by rw [cst, cst, h3]⟩
  | swap x y l =>
    intro lp hl
    match lp, hl with
    | a :: b :: lp, hl => exact ⟨b :: a :: lp, by simpa using hl, List.Perm.swap a b lp, by simp only [cst]; omega⟩
  | trans _ _ ih1 ih2 =>
    intro lp hl
    obtain ⟨lq, h1, h2, h3⟩ := ih1 lp hl
    obtain ⟨lr, k1, k2, k3⟩ := ih2 lq h1
    exact ⟨lr, k1, k2.trans h2, by rw [k3, h3]⟩
def came (f : List Nat) : List Nat := f.filter fun b => decide (0 < b)
/-- lengths for those that come, as lengths for all -/
theorem spread : ∀ (f lq : List Nat), lq.length = (came f).length → (∀ a ∈ lq, 0 < a) →
    ∃ l : List Nat, l.length = f.length ∧ (∀ (i a b : Nat), l[i]? = some a → f[i]? = some b → (0 < a ↔ 0 < b)) ∧ (∀ a ∈ l, a = 0 ∨ a ∈ lq) ∧ kr l = kr lq ∧ cst l f = cst lq (came f)
  | [], lq, h, _ => by
    obtain rfl : lq = [] := List.eq_nil_of_length_eq_zero (by simpa [came] using h)
    exact ⟨[], rfl, by simp, by simp, rfl, rfl⟩
  | b :: f, lq, h, hp => by
    by_cases hb : 0 < b
    · have hc : came (b :: f) = b :: came f := by simp [came, hb]
      rw [hc] at h ⊢
      match lq, h, hp with
      | a :: lq, h, hp =>
        obtain ⟨l, h1, h2, h3, h4, h5⟩ := spread f lq (by simpa using h) fun x hx => hp x (List.mem_cons_of_mem _ hx)
        refine ⟨a :: l, by simp [h1], fun i x y hx hy => ?_, fun x hx => ?_, by rw [kr, kr, h4], by rw [cst, cst, h5]⟩
        · cases i with
          | zero =>
            simp only [List.getElem?_cons_zero, Option.some.injEq] at hx hy
            subst hx; subst hy
            exact ⟨fun _ => hb, fun _ => hp _ List.mem_cons_self⟩
          | succ i => exact h2 i x y (by simpa using hx) (by simpa using hy)
        · rcases List.mem_cons.1 hx with hx | hx
          · exact .inr (by rw [hx]; exact List.mem_cons_self)
          · exact (h3 x hx).imp id (List.mem_cons_of_mem _)
    · have hc : came (b :: f) = came f := by simp [came, hb]
      rw [hc] at h ⊢
      obtain rfl : b = 0 := by omega
      obtain ⟨l, h1, h2, h3, h4, h5⟩ := spread f lq h hp
      refine ⟨0 :: l, by simp [h1], fun i x y hx hy => ?_, fun x hx => ?_, by rw [kr, wtN_zero, h4]; omega, by rw [cst, h5]; omega⟩
      · cases i with
        | zero =>
          simp only [List.getElem?_cons_zero, Option.some.injEq] at hx hy
          subst hx; subst hy; omega
        | succ i => exact h2 i x y (by simpa using hx) (by simpa using hy)
      · rcases List.mem_cons.1 hx with hx | hx
        · exact .inl hx
        · exact h3 x hx
/-- .. and back -/
theorem gather : ∀ (f l : List Nat), l.length = f.length → (∀ (i a b : Nat), l[i]? = some a → f[i]? = some b → (0 < a ↔ 0 < b)) →
    ∃ lq : List Nat, lq.length = (came f).length ∧ (∀ a ∈ lq, 0 < a ∧ a ∈ l) ∧ kr lq = kr l ∧ cst lq (came f) = cst l f
  | [], l, h, _ => by
    obtain rfl : l = [] := List.eq_nil_of_length_eq_zero (by simpa using h)
    exact ⟨[], rfl, by simp, rfl, rfl⟩
  | b :: f, l, h, hs => by
    match l, h, hs with
    | a :: l, h, hs =>
      obtain ⟨lq, h1, h2, h3, h4⟩ := gather f l (by simpa using h) fun i x y hx hy => hs (i + 1) x y (by simpa using hx) (by simpa using hy)
      have h0 := hs 0 a b rfl rfl
      by_cases hb : 0 < b
      · have hc : came (b :: f) = b :: came f := by simp [came, hb]
        rw [hc]
        refine ⟨a :: lq, by simp [h1], fun x hx => ?_, by rw [kr, kr, h3], by rw [cst, cst, h4]⟩
        rcases List.mem_cons.1 hx with hx | hx
        · subst hx; exact ⟨h0.2 hb, List.mem_cons_self⟩
        · exact ⟨(h2 x hx).1, List.mem_cons_of_mem _ (h2 x hx).2⟩
      · have hc : came (b :: f) = came f := by simp [came, hb]
        rw [hc]
        obtain rfl : b = 0 := by omega
        obtain rfl : a = 0 := by
          have : ¬ 0 < a := fun h => by have := h0.1 h; omega
          omega
        exact ⟨lq, h1, fun x hx => ⟨(h2 x hx).1, List.mem_cons_of_mem _ (h2 x hx).2⟩, by rw [kr, wtN_zero, h3]; omega, by rw [cst, h4]; omega⟩

/-- the most frequent first -/
def Down : List Nat → Prop
  | [] => True
  | a :: l => (∀ b ∈ l, b ≤ a) ∧ Down l
theorem cross (a b x y : Nat) (h : b ≤ a) (h2 : y ≤ x) : b * x + a * y ≤ a * x + b * y := by
  obtain ⟨e, rfl⟩ : ∃ e, a = b + e := ⟨a - b, by omega⟩
  obtain ⟨g, rfl⟩ : ∃ g, x = y + g := ⟨x - y, by omega⟩
  rw [Nat.add_mul, Nat.add_mul, Nat.mul_add b y g, Nat.mul_add e y g]; omega
theorem insert_up : ∀ (s l : List Nat) (x a : Nat), l.length = s.length → Down (x :: s) → Up l →
    ∃ l2 : List Nat, l2.Perm (a :: l) ∧ Up l2 ∧ cst l2 (x :: s) ≤ cst (a :: l) (x :: s)
  | _, [], x, a, _, _, _ => ⟨[a], List.Perm.refl _, ⟨by simp, trivial⟩, Nat.le_refl _⟩
  | [], b :: l, x, a, h, _, _ => by simp at h
  | y :: s, b :: l, x, a, h, hd, hu => by
    by_cases hab : a ≤ b
    · exact ⟨a :: b :: l, List.Perm.refl _, ⟨fun c hc => by
        rcases List.mem_cons.1 hc with hc | hc
        · omega
        · have := hu.1 c hc; omega, hu⟩, Nat.le_refl _⟩
    · obtain ⟨l2, h1, h2, h3⟩ := insert_up s l y a (by simpa using h) hd.2 hu.2
      refine ⟨b :: l2, (h1.cons b).trans (List.Perm.swap a b l), ⟨fun c hc => ?_, h2⟩, ?_⟩
      · rcases List.mem_cons.1 (h1.mem_iff.1 hc) with hc | hc
        · omega
        · exact hu.1 c hc
      · have h4 := cross a b x y (by omega) (hd.1 y List.mem_cons_self)
        rw [cst] at h3
        rw [cst, cst, cst]; omega
/-- Lengths put in order cost no more. -/
theorem sort_up : ∀ (s l : List Nat), l.length = s.length → Down s → ∃ l2 : List Nat, l2.Perm l ∧ Up l2 ∧ cst l2 s ≤ cst l s
  | [], l, h, _ => by
    obtain rfl : l = [] := List.eq_nil_of_length_eq_zero (by simpa using h)
    exact ⟨[], List.Perm.refl _, trivial, Nat.le_refl _⟩
  | x :: s, l, h, hd => by
    match l, h with
    | a :: l, h =>
      obtain ⟨l1, h1, h2, h3⟩ := sort_up s l (by simpa using h) hd.2
      obtain ⟨l2, k1, k2, k3⟩ := insert_up s l1 x a (by rw [h1.length_eq]; simpa using h) hd h2
      refine ⟨l2, k1.trans (h1.cons a), k2, ?_⟩
      rw [cst] at k3
      rw [cst]; omega
/-- What the table holds at its end is the least cost. -/
theorem least_is {f l s : List Nat} {m v : Nat} (h : OptL f m l) (hm : m ≤ 15) (hs : Down s) (hp : s.Perm (came f)) (h0 : 0 < s.length)
    (hv : Has s m s.length 0 v) (hall : ∀ c, Has s m s.length 0 c → v ≤ c) : v = cst l f := by
  have h1 : cst l f ≤ v := by
    obtain ⟨ls, k1, _, k3, k4, k5⟩ := hv.lengths hm
    rw [List.take_length] at k5
    obtain ⟨lq, g1, g2, g3⟩ := carry hp ls k1
    obtain ⟨l2, e1, e2, e3, e4, e5⟩ := spread f lq g1 fun a ha => (k3 a (g2.mem_iff.1 ha)).1
    have := h.least l2 ⟨e1, e2, fun a ha => by
      rcases e3 a ha with e | e
      · omega
      · exact (k3 a (g2.mem_iff.1 e)).2, by rw [e4, kr_perm g2]; omega⟩
    omega
  have h2 : v ≤ cst l f := by
    obtain ⟨lq, k1, k2, k3, k4⟩ := gather f l h.good.len h.good.sup
    obtain ⟨ls, g1, g2, g3⟩ := carry hp.symm lq k1
    obtain ⟨l2, e1, e2, e3⟩ := sort_up s ls g1 hs
    have := hall _ (Up.has_all (by rw [e1.length_eq]; exact g1) h0 e2 (fun a ha => by
      have := k2 a (g2.mem_iff.1 (e1.mem_iff.1 ha))
      exact ⟨this.1, h.good.le a this.2⟩) hm (by rw [kr_perm e1, kr_perm g2, k3]; exact h.good.whole))
    omega
  omega
/-- there is a way, for whoever has found lengths -/
theorem least_has {f l s : List Nat} {m : Nat} (h : FitL f m l) (hm : m ≤ 15) (hs : Down s) (hp : s.Perm (came f)) (h0 : 0 < s.length) : ∃ c, Has s m s.length 0 c ∧ c ≤ cst l f := by
  obtain ⟨lq, k1, k2, k3, k4⟩ := gather f l h.len h.sup
  obtain ⟨ls, g1, g2, g3⟩ := carry hp.symm lq k1
  obtain ⟨l2, e1, e2, e3⟩ := sort_up s ls g1 hs
  exact ⟨_, Up.has_all (by rw [e1.length_eq]; exact g1) h0 e2 (fun a ha => by
      have := k2 a (g2.mem_iff.1 (e1.mem_iff.1 ha))
      exact ⟨this.1, h.le a this.2⟩) hm (by rw [kr_perm e1, kr_perm g2, k3]; exact h.whole), by omega⟩
end Go.Proofs.YthibpnkdhbkakaaDoor
/-
  Packages: no lengths cost less than the first packages weigh. No program is named here.
-/
namespace Go.Proofs.YthibpnkdhbkakaaDoor
set_option maxRecDepth 5000

/-- two by two -/
def pairs : List Nat → List Nat
  | a :: b :: l => (a + b) :: pairs l
  | _ => []
theorem pairs_length : ∀ l : List Nat, (pairs l).length = l.length / 2
  | [] => rfl
  | [a] => by simp [pairs]
  | a :: b :: l => by rw [pairs, List.length_cons, pairs_length l, List.length_cons, List.length_cons]; omega
theorem pairs_take : ∀ (l : List Nat) (e : Nat), total ((pairs l).take e) ≤ total (l.take (2 * e))
  | [], e => by simp [pairs, total]
  | [a], e => by simp [pairs, total]
  | a :: b :: l, 0 => by simp [total]
  | a :: b :: l, e + 1 => by
    rw [pairs, List.take_succ_cons, show 2 * (e + 1) = 2 * e + 1 + 1 by omega, List.take_succ_cons, List.take_succ_cons, total, total, total]
    have := pairs_take l e
    omega
theorem pairs_take_eq : ∀ (l : List Nat) (e : Nat), 2 * e ≤ l.length → total ((pairs l).take e) = total (l.take (2 * e))
  | _, 0, _ => by simp [total]
  | [], e + 1, h => by simp at h
  | [a], e + 1, h => by simp at h; omega
  | a :: b :: l, e + 1, h => by
    rw [pairs, List.take_succ_cons, show 2 * (e + 1) = 2 * e + 1 + 1 by omega, List.take_succ_cons, List.take_succ_cons, total, total, total, pairs_take_eq l e (by simp at h; omega)]
    omega
theorem total_perm {a b : List Nat} (h : a.Perm b) : total a = total b := by
  induction h with
  | nil => rfl
  | cons x _ ih => rw [total, total, ih]
  | swap x y l => simp only [total]; omega
  | trans _ _ ih1 ih2 => rw [ih1, ih2]
theorem take_shift (x : Nat) : ∀ (l : List Nat) (c : Nat), (∀ b ∈ l, x ≤ b) → c ≤ l.length → total ((x :: l).take c) ≤ total (l.take c)
  | _, 0, _, _ => by simp [total]
  | [], c + 1, _, h => by simp at h
  | y :: l, c + 1, hx, h => by
    have h1 := hx y List.mem_cons_self
    rw [List.take_succ_cons, total, List.take_succ_cons, total]
    have : total ((y :: l).take c) ≤ total (l.take c) + y := by
      cases c with
      | zero => simp [total]
      | succ c =>
        rw [List.take_succ_cons, total]
        have : ∀ (l : List Nat) (c : Nat), total (l.take c) ≤ total (l.take (c + 1)) := by
          intro l
          induction l with
          | nil => intro c; simp [total]
          | cons z l ih =>
            intro c
            cases c with
            | zero => simp [total]
            | succ c => rw [List.take_succ_cons, List.take_succ_cons, total, total]; have := ih c; omega
        have := this l c
        omega
    match c, h with
    | 0, _ => simp [total]; exact h1
    | c + 1, h =>
      have h2 := take_shift x l (c + 1) (fun b hb => hx b (List.mem_cons_of_mem _ hb)) (by simp at h; omega)
      rw [List.take_succ_cons, total] at h2
      rw [List.take_succ_cons, total]
      have h3 : ∀ b ∈ l, x ≤ b := fun b hb => hx b (List.mem_cons_of_mem _ hb)
      omega
/-- The first ones of a list in order weigh no more than any as many of them. -/
theorem firsts_least : ∀ (M Q R : List Nat), Up M → M.Perm (Q ++ R) → total (M.take Q.length) ≤ total Q
  | [], Q, R, _, h => by
    have := h.length_eq
    have : Q = [] := List.eq_nil_of_length_eq_zero (by simp at this; omega)
    subst this; simp [total]
  | x :: M, Q, R, hu, h => by
    have hx : x ∈ Q ++ R := h.mem_iff.1 List.mem_cons_self
    by_cases hq : x ∈ Q
    · have hQ := List.perm_cons_erase hq
      have h2 : M.Perm (Q.erase x ++ R) := List.Perm.cons_inv (h.trans (hQ.append_right R))
      have ih := firsts_least M _ R hu.2 h2
      have hl := hQ.length_eq
      rw [List.length_cons] at hl
      rw [total_perm hQ, hl, List.take_succ_cons, total, total]; omega
    · have hr : x ∈ R := by
        rcases List.mem_append.1 hx with h | h
        · exact absurd h hq
        · exact h
      have hR := List.perm_cons_erase hr
      have h2 : M.Perm (Q ++ R.erase x) := List.Perm.cons_inv (h.trans ((hR.append_left Q).trans List.perm_middle))
      have ih := firsts_least M Q _ hu.2 h2
      have hl := h2.length_eq
      rw [List.length_append] at hl
      have := take_shift x M Q.length hu.1 (by omega)
      omega

/-! ### what lengths choose at each level -/
def cntGe (d : Nat) : List Nat → Nat
  | [] => 0
  | a :: l => (if d ≤ a then 1 else 0) + cntGe d l
def krGe (d : Nat) : List Nat → Nat
  | [] => 0
  | a :: l => (if d ≤ a then wtN a else 0) + krGe d l
def wGe (d : Nat) : List Nat → List Nat → Nat
  | a :: l, x :: A => (if d ≤ a then x else 0) + wGe d l A
  | _, _ => 0
theorem cntGe_le (d : Nat) : ∀ l : List Nat, cntGe d l ≤ l.length
  | [] => Nat.le_refl _
  | a :: l => by have := cntGe_le d l; rw [cntGe, List.length_cons]; split <;> omega
theorem wGe_first (d : Nat) : ∀ (l A : List Nat), l.length = A.length → Up A → total (A.take (cntGe d l)) ≤ wGe d l A
  | [], A, _, _ => by simp [cntGe, total]
  | a :: l, [], h, _ => by simp at h
  | a :: l, x :: A, h, hu => by
    have ih := wGe_first d l A (by simpa using h) hu.2
    have hc := cntGe_le d l
    rw [cntGe, wGe]
    by_cases ha : d ≤ a
    · rw [if_pos ha, if_pos ha, Nat.add_comm 1, List.take_succ_cons, total]; omega
    · rw [if_neg ha, if_neg ha, Nat.zero_add]
      have := take_shift x A (cntGe d l) hu.1 (by simp at h; omega)
      omega
/-- the weight of the levels from d up to m -/
def lev (m : Nat) (l A : List Nat) : Nat → Nat
  | 0 => 0
  | t + 1 => wGe (m - t) l A + lev m l A t
theorem lev_cons (m a x : Nat) (l A : List Nat) (hm : a ≤ m) : ∀ t, t ≤ m → lev m (a :: l) (x :: A) t = lev m l A t + (a - (m - t)) * x
  | 0, _ => by simp [lev]; rw [show a - m = 0 by omega]; omega
  | t + 1, h => by
    rw [lev, lev, lev_cons m a x l A hm t (by omega), wGe]
    by_cases ha : m - t ≤ a
    · rw [if_pos ha, show a - (m - (t + 1)) = (a - (m - t)) + 1 by omega, Nat.add_mul, Nat.one_mul]; omega
    · rw [if_neg ha, show a - (m - (t + 1)) = a - (m - t) by omega]; omega
theorem lev_all (m : Nat) : ∀ (l A : List Nat), l.length = A.length → (∀ a ∈ l, a ≤ m) → lev m l A m = cst l A
  | [], [], _, _ => by
    have : ∀ t, lev m [] [] t = 0 := by
      intro t
      induction t with
      | zero => rfl
      | succ t ih => rw [lev, ih]; rfl
    rw [this]; rfl
  | [], x :: A, h, _ => by simp at h
  | a :: l, [], h, _ => by simp at h
  | a :: l, x :: A, h, hl => by
    rw [lev_cons m a x l A (hl a List.mem_cons_self) m (Nat.le_refl _), lev_all m l A (by simpa using h) fun b hb => hl b (List.mem_cons_of_mem _ hb), cst, Nat.sub_self, Nat.sub_zero]; omega
/-- how many are chosen of a level's list -/
def chosen (m : Nat) (l : List Nat) : Nat → Nat
  | 0 => 0
  | t + 1 => cntGe (m - t) l + chosen m l t / 2
theorem ge_split (d : Nat) (hd : 1 ≤ d) (hd15 : d ≤ 15) : ∀ l : List Nat, cntGe d l = cntGe (d + 1) l + l.count d ∧ krGe d l = krGe (d + 1) l + l.count d * 2 ^ (15 - d)
  | [] => by simp [cntGe, krGe]
  | a :: l => by
    obtain ⟨h1, h2⟩ := ge_split d hd hd15 l
    by_cases e : a = d
    · subst e
      rw [cntGe, cntGe, krGe, krGe, List.count_cons_self, if_pos (Nat.le_refl a), if_neg (show ¬ a + 1 ≤ a by omega), if_pos (Nat.le_refl a), if_neg (show ¬ a + 1 ≤ a by omega), wtN_pos a hd hd15, Nat.add_mul, Nat.one_mul]
      omega
    · rw [cntGe, cntGe, krGe, krGe, List.count_cons_of_ne e]
      by_cases ha : d ≤ a
      · rw [if_pos ha, if_pos (show d + 1 ≤ a by omega), if_pos ha, if_pos (show d + 1 ≤ a by omega)]; omega
      · rw [if_neg ha, if_neg (show ¬ d + 1 ≤ a by omega), if_neg ha, if_neg (show ¬ d + 1 ≤ a by omega)]; omega
theorem ge_top (m : Nat) : ∀ l : List Nat, (∀ a ∈ l, a ≤ m) → cntGe (m + 1) l = 0 ∧ krGe (m + 1) l = 0
  | [], _ => ⟨rfl, rfl⟩
  | a :: l, h => by
    obtain ⟨h1, h2⟩ := ge_top m l fun b hb => h b (List.mem_cons_of_mem _ hb)
    have := h a List.mem_cons_self
    rw [cntGe, krGe, if_neg (by omega), if_neg (by omega), h1, h2]; exact ⟨rfl, rfl⟩
theorem ge_dvd (d : Nat) (hd : d ≤ 15) : ∀ l : List Nat, ∃ q, kr l = krGe (d + 1) l + q * 2 ^ (15 - d)
  | [] => ⟨0, by simp [kr, krGe]⟩
  | a :: l => by
    obtain ⟨q, hq⟩ := ge_dvd d hd l
    rw [kr, krGe, hq]
    by_cases ha : d + 1 ≤ a
    · exact ⟨q, by rw [if_pos ha]; omega⟩
    · rw [if_neg ha]
      unfold wtN
      by_cases h : 1 ≤ a ∧ a ≤ 15
      · rw [if_pos h, show 15 - a = (15 - d) + (d - a) by omega, Nat.pow_add]
        exact ⟨2 ^ (d - a) + q, by rw [Nat.add_mul, Nat.mul_comm (2 ^ (d - a))]; omega⟩
      · rw [if_neg h]
        exact ⟨q, by omega⟩
theorem chosen_is {m : Nat} {l : List Nat} (hm : m ≤ 15) (hl : ∀ a ∈ l, a ≤ m) (hk : kr l = 32768) : ∀ t, t + 1 ≤ m →
    chosen m l (t + 1) * 2 ^ (15 - (m - t)) + krGe (m - t) l = cntGe (m - t) l * (2 * 2 ^ (15 - (m - t))) ∧ 2 ∣ chosen m l t := by
  intro t
  induction t with
  | zero =>
    intro h
    obtain ⟨g1, g2⟩ := ge_top m l hl
    obtain ⟨e1, e2⟩ := ge_split m (by omega) hm l
    refine ⟨?_, ⟨0, rfl⟩⟩
    rw [Nat.sub_zero, chosen, chosen, Nat.sub_zero, Nat.zero_div, Nat.add_zero]
    rw [g1] at e1; rw [g2] at e2
    rw [e2, e1]
    simp only [Nat.zero_add]
    generalize l.count m = c
    generalize 2 ^ (15 - m) = p
    rw [Nat.mul_comm 2 p, ← Nat.mul_assoc]; omega
  | succ t ih =>
    intro h
    obtain ⟨i1, i2⟩ := ih (by omega)
    obtain ⟨d, hd⟩ : ∃ d, m - t = d + 1 := ⟨m - t - 1, by omega⟩
    have hd2 : m - (t + 1) = d := by omega
    rw [hd] at i1
    rw [hd2]
    have hpow : 2 ^ (15 - d) = 2 * 2 ^ (15 - (d + 1)) := by rw [show 15 - d = (15 - (d + 1)) + 1 by omega, Nat.pow_succ, Nat.mul_comm]
    have hev : 2 ∣ chosen m l (t + 1) := by
      obtain ⟨q, hq⟩ := ge_dvd d (by omega) l
      have h32 : 2 ^ d * 2 ^ (15 - d) = 32768 := by rw [← Nat.pow_add, show d + (15 - d) = 15 by omega]
      rw [hk, ← h32, hpow] at hq
      have hp : 0 < 2 ^ (15 - (d + 1)) := Nat.two_pow_pos _
      generalize 2 ^ (15 - (d + 1)) = p at *
      generalize chosen m l (t + 1) = K at *
      generalize cntGe (d + 1) l = c at *
      generalize krGe (d + 1) l = g at *
      generalize 2 ^ d = e at *
      have k1 : e * (2 * p) = 2 * e * p := by rw [← Nat.mul_assoc, Nat.mul_comm e 2]
      have k2 : q * (2 * p) = 2 * q * p := by rw [← Nat.mul_assoc, Nat.mul_comm q 2]
      have k3 : c * (2 * p) = 2 * c * p := by rw [← Nat.mul_assoc, Nat.mul_comm c 2]
      rw [k1, k2] at hq
      rw [k3] at i1
      have k4 : (K + 2 * e) * p = (2 * c + 2 * q) * p := by rw [Nat.add_mul, Nat.add_mul]; omega
      have k5 := Nat.eq_of_mul_eq_mul_right hp k4
      omega
    refine ⟨?_, hev⟩
    obtain ⟨K, hK⟩ := hev
    obtain ⟨e1, e2⟩ := ge_split d (by omega) (by omega) l
    rw [chosen, hd2, hK, show 2 * K / 2 = K by omega, e2, e1]
    rw [hK] at i1
    rw [hpow]
    generalize 2 ^ (15 - (d + 1)) = p at *
    generalize cntGe (d + 1) l = c at *
    generalize krGe (d + 1) l = g at *
    generalize l.count d = x at *
    have k1 : 2 * K * p = K * (2 * p) := by rw [Nat.mul_comm 2 K, Nat.mul_assoc]
    rw [k1] at i1
    have k2 : (c + x + K) * (2 * p) = c * (2 * p) + x * (2 * p) + K * (2 * p) := by rw [Nat.add_mul, Nat.add_mul]
    have k3 : (c + x) * (2 * (2 * p)) = 2 * (c * (2 * p)) + 2 * (x * (2 * p)) := by
      rw [Nat.add_mul, ← Nat.mul_assoc c 2, Nat.mul_comm c 2, Nat.mul_assoc, ← Nat.mul_assoc x 2, Nat.mul_comm x 2, Nat.mul_assoc]
    rw [k2, k3]; omega
theorem chosen_end {m : Nat} {l : List Nat} (hm0 : 1 ≤ m) (hm : m ≤ 15) (hl : ∀ a ∈ l, 1 ≤ a ∧ a ≤ m) (hk : kr l = 32768) : chosen m l m = 2 * l.length - 2 := by
  obtain ⟨t, rfl⟩ : ∃ t, m = t + 1 := ⟨m - 1, by omega⟩
  have h1 := (chosen_is hm (fun a ha => (hl a ha).2) hk t (Nat.le_refl _)).1
  rw [show t + 1 - t = 1 by omega] at h1
  have h2 : ∀ l : List Nat, (∀ a ∈ l, 1 ≤ a ∧ a ≤ t + 1) → cntGe 1 l = l.length ∧ krGe 1 l = kr l := by
    intro l
    induction l with
    | nil => intro _; exact ⟨rfl, rfl⟩
    | cons a l ih =>
      intro h
      have h3 := h a List.mem_cons_self
      obtain ⟨h4, h5⟩ := ih fun b hb => h b (List.mem_cons_of_mem _ hb)
      rw [cntGe, krGe, kr, if_pos h3.1, if_pos h3.1, h4, h5, List.length_cons]
      exact ⟨by omega, rfl⟩
  obtain ⟨h4, h5⟩ := h2 l hl
  rw [h4, h5, hk] at h1
  omega
/-- the lists of packages: each in order, the frequencies and the list below two by two -/
structure Packs (A : List Nat) (m : Nat) (W : Nat → List Nat) : Prop where
  none : W 0 = []
  up : ∀ t, t < m → Up (W (t + 1))
  made : ∀ t, t < m → (W (t + 1)).Perm (A ++ pairs (W t))
/-- No lengths cost less than the first packages weigh. -/
theorem Packs.least {A l : List Nat} {m : Nat} {W : Nat → List Nat} (h : Packs A m W) (hA : Up A) (hlen : l.length = A.length) (hm0 : 1 ≤ m) (hm : m ≤ 15) (hl : ∀ a ∈ l, 1 ≤ a ∧ a ≤ m) (hk : kr l = 32768) :
    total ((W m).take (2 * A.length - 2)) ≤ cst l A ∧ 2 * A.length - 2 ≤ (W m).length := by
  have key : ∀ t, t ≤ m → total ((W t).take (chosen m l t)) ≤ lev m l A t ∧ chosen m l t ≤ (W t).length := by
    intro t
    induction t with
    | zero => intro _; simp [chosen, total]
    | succ t ih =>
      intro ht
      obtain ⟨i1, i2⟩ := ih (by omega)
      obtain ⟨e, he⟩ := (chosen_is hm (fun a ha => (hl a ha).2) hk t ht).2
      have hp := h.made t (by omega)
      have hc := cntGe_le (m - t) l
      have hpl := pairs_length (W t)
      have hw := wGe_first (m - t) l A hlen hA
      rw [he] at i1 i2
      have he2 : chosen m l (t + 1) = cntGe (m - t) l + e := by rw [chosen, he]; omega
      rw [he2]
      have hq := firsts_least (W (t + 1)) (A.take (cntGe (m - t) l) ++ (pairs (W t)).take e) (A.drop (cntGe (m - t) l) ++ (pairs (W t)).drop e) (h.up t (by omega)) (by
        refine hp.trans ?_
        have e1 : A ++ pairs (W t) = (A.take (cntGe (m - t) l) ++ A.drop (cntGe (m - t) l)) ++ ((pairs (W t)).take e ++ (pairs (W t)).drop e) := by rw [List.take_append_drop, List.take_append_drop]
        rw [e1, List.append_assoc, List.append_assoc]
        refine List.Perm.append_left _ ?_
        rw [← List.append_assoc, ← List.append_assoc]
        exact List.perm_append_comm.append_right _)
      rw [List.length_append, List.length_take, List.length_take, Nat.min_eq_left (by omega), Nat.min_eq_left (by omega), total_append] at hq
      have h2 := pairs_take (W t) e
      refine ⟨by rw [lev]; omega, ?_⟩
      have := hp.length_eq
      rw [List.length_append, hpl] at this
      omega
  obtain ⟨k1, k2⟩ := key m (Nat.le_refl _)
  rw [chosen_end hm0 hm hl hk, hlen] at k1 k2
  rw [lev_all m l A hlen fun a ha => (hl a ha).2] at k1
  exact ⟨k1, k2⟩
end Go.Proofs.YthibpnkdhbkakaaDoor
