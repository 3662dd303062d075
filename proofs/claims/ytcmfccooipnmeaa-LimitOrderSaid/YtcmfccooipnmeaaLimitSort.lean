/-
  Frequencies in their order: lengths for them are lengths for the symbols, and the other way round. No program is named here.
-/
import Derived.Test.YtcmfccooipnmeaaLimitLeast
namespace Go.Proofs.Ytcmfccooipnmeaa

theorem kr_perm {l l2 : List Nat} (h : l.Perm l2) : kr l = kr l2 := by
  induction h with
  | nil => rfl
  | cons x _ ih => rw [kr, kr, ih]
  | swap x y l => simp only [kr]; omega
  | trans _ _ ih1 ih2 => rw [ih1, ih2]
/-- lengths turned with their frequencies -/
theorem carry {p q : List Nat} (h : p.Perm q) : ∀ lp : List Nat, lp.length = p.length → ∃ lq : List Nat, lq.length = q.length ∧ lq.Perm lp ∧ cst lq q = cst lp p := by
  induction h with
  | nil => intro lp hl; exact ⟨lp, hl, List.Perm.refl _, rfl⟩
  | cons x _ ih =>
    intro lp hl
    match lp, hl with
    | a :: lp, hl =>
      obtain ⟨lq, h1, h2, h3⟩ := ih lp (by simpa using hl)
      exact ⟨a :: lq, by simp [h1], h2.cons a, by rw [cst, cst, h3]⟩
  | swap x y l =>
    intro lp hl
    match lp, hl with
    | a :: b :: lp, hl => exact ⟨b :: a :: lp, by simpa using hl, List.Perm.swap a b lp, by simp only [cst]; omega⟩
  | trans _ _ ih1 ih2 =>
    intro lp hl
    obtain ⟨lq, h1, h2, h3⟩ := ih1 lp hl
    obtain ⟨lr, k1, k2, k3⟩ := ih2 lq h1
    exact ⟨lr, k1, k2.trans h2, by rw [k3, h3]⟩
def came (f : List Nat) : List Nat := f.filter fun b => decide (0 < b)
/-- lengths for those that come, as lengths for all -/
theorem spread : ∀ (f lq : List Nat), lq.length = (came f).length → (∀ a ∈ lq, 0 < a) →
    ∃ l : List Nat, l.length = f.length ∧ (∀ (i a b : Nat), l[i]? = some a → f[i]? = some b → (0 < a ↔ 0 < b)) ∧ (∀ a ∈ l, a = 0 ∨ a ∈ lq) ∧ kr l = kr lq ∧ cst l f = cst lq (came f)
  | [], lq, h, _ => by
    obtain rfl : lq = [] := List.eq_nil_of_length_eq_zero (by simpa [came] using h)
    exact ⟨[], rfl, by simp, by simp, rfl, rfl⟩
  | b :: f, lq, h, hp => by
    by_cases hb : 0 < b
    · have hc : came (b :: f) = b :: came f := by simp [came, hb]
      rw [hc] at h ⊢
      match lq, h, hp with
      | a :: lq, h, hp =>
        obtain ⟨l, h1, h2, h3, h4, h5⟩ := spread f lq (by simpa using h) fun x hx => hp x (List.mem_cons_of_mem _ hx)
        refine ⟨a :: l, by simp [h1], fun i x y hx hy => ?_, fun x hx => ?_, by rw [kr, kr, h4], by rw [cst, cst, h5]⟩
        · cases i with
          | zero =>
            simp only [List.getElem?_cons_zero, Option.some.injEq] at hx hy
            subst hx; subst hy
            exact ⟨fun _ => hb, fun _ => hp _ List.mem_cons_self⟩
          | succ i => exact h2 i x y (by simpa using hx) (by simpa using hy)
        · rcases List.mem_cons.1 hx with hx | hx
          · exact .inr (by rw [hx]; exact List.mem_cons_self)
          · exact (h3 x hx).imp id (List.mem_cons_of_mem _)
    · have hc : came (b :: f) = came f := by simp [came, hb]
      rw [hc] at h ⊢
      obtain rfl : b = 0 := by omega
      obtain ⟨l, h1, h2, h3, h4, h5⟩ := spread f lq h hp
      refine ⟨0 :: l, by simp [h1], fun i x y hx hy => ?_, fun x hx => ?_, by rw [kr, wtN_zero, h4]; omega, by rw [cst, h5]; omega⟩
      · cases i with
        | zero =>
          simp only [List.getElem?_cons_zero, Option.some.injEq] at hx hy
          subst hx; subst hy; omega
        | succ i => exact h2 i x y (by simpa using hx) (by simpa using hy)
      · rcases List.mem_cons.1 hx with hx | hx
        · exact .inl hx
        · exact h3 x hx
/-- .. and back -/
theorem gather : ∀ (f l : List Nat), l.length = f.length → (∀ (i a b : Nat), l[i]? = some a → f[i]? = some b → (0 < a ↔ 0 < b)) →
    ∃ lq : List Nat, lq.length = (came f).length ∧ (∀ a ∈ lq, 0 < a ∧ a ∈ l) ∧ kr lq = kr l ∧ cst lq (came f) = cst l f
  | [], l, h, _ => by
    obtain rfl : l = [] := List.eq_nil_of_length_eq_zero (by simpa using h)
    exact ⟨[], rfl, by simp, rfl, rfl⟩
  | b :: f, l, h, hs => by
    match l, h, hs with
    | a :: l, h, hs =>
      obtain ⟨lq, h1, h2, h3, h4⟩ := gather f l (by simpa using h) fun i x y hx hy => hs (i + 1) x y (by simpa using hx) (by simpa using hy)
      have h0 := hs 0 a b rfl rfl
      by_cases hb : 0 < b
      · have hc : came (b :: f) = b :: came f := by simp [came, hb]
        rw [hc]
        refine ⟨a :: lq, by simp [h1], fun x hx => ?_, by rw [kr, kr, h3], by rw [cst, cst, h4]⟩
        rcases List.mem_cons.1 hx with hx | hx
        · subst hx; exact ⟨h0.2 hb, List.mem_cons_self⟩
        · exact ⟨(h2 x hx).1, List.mem_cons_of_mem _ (h2 x hx).2⟩
      · have hc : came (b :: f) = came f := by simp [came, hb]
        rw [hc]
        obtain rfl : b = 0 := by omega
        obtain rfl : a = 0 := by
          have : ¬ 0 < a := fun h => by have := h0.1 h; omega
          omega
        exact ⟨lq, h1, fun x hx => ⟨(h2 x hx).1, List.mem_cons_of_mem _ (h2 x hx).2⟩, by rw [kr, wtN_zero, h3]; omega, by rw [cst, h4]; omega⟩

/-- the most frequent first -/
def Down : List Nat → Prop
  | [] => True
  | a :: l => (∀ b ∈ l, b ≤ a) ∧ Down l
theorem cross (a b x y : Nat) (h : b ≤ a) (h2 : y ≤ x) : b * x + a * y ≤ a * x + b * y := by
  obtain ⟨e, rfl⟩ : ∃ e, a = b + e := ⟨a - b, by omega⟩
  obtain ⟨g, rfl⟩ : ∃ g, x = y + g := ⟨x - y, by omega⟩
  rw [Nat.add_mul, Nat.add_mul, Nat.mul_add b y g, Nat.mul_add e y g]; omega
theorem insert_up : ∀ (s l : List Nat) (x a : Nat), l.length = s.length → Down (x :: s) → Up l →
    ∃ l2 : List Nat, l2.Perm (a :: l) ∧ Up l2 ∧ cst l2 (x :: s) ≤ cst (a :: l) (x :: s)
  | _, [], x, a, _, _, _ => ⟨[a], List.Perm.refl _, ⟨by simp, trivial⟩, Nat.le_refl _⟩
  | [], b :: l, x, a, h, _, _ => by simp at h
  | y :: s, b :: l, x, a, h, hd, hu => by
    by_cases hab : a ≤ b
    · exact ⟨a :: b :: l, List.Perm.refl _, ⟨fun c hc => by
        rcases List.mem_cons.1 hc with hc | hc
        · omega
        · have := hu.1 c hc; omega, hu⟩, Nat.le_refl _⟩
    · obtain ⟨l2, h1, h2, h3⟩ := insert_up s l y a (by simpa using h) hd.2 hu.2
      refine ⟨b :: l2, (h1.cons b).trans (List.Perm.swap a b l), ⟨fun c hc => ?_, h2⟩, ?_⟩
      · rcases List.mem_cons.1 (h1.mem_iff.1 hc) with hc | hc
        · omega
        · exact hu.1 c hc
      · have h4 := cross a b x y (by omega) (hd.1 y List.mem_cons_self)
        rw [cst] at h3
        rw [cst, cst, cst]; omega
/-- Lengths put in order cost no more. -/
theorem sort_up : ∀ (s l : List Nat), l.length = s.length → Down s → ∃ l2 : List Nat, l2.Perm l ∧ Up l2 ∧ cst l2 s ≤ cst l s
  | [], l, h, _ => by
    obtain rfl : l = [] := List.eq_nil_of_length_eq_zero (by simpa using h)
    exact ⟨[], List.Perm.refl _, trivial, Nat.le_refl _⟩
  | x :: s, l, h, hd => by
    match l, h with
    | a :: l, h =>
      obtain ⟨l1, h1, h2, h3⟩ := sort_up s l (by simpa using h) hd.2
      obtain ⟨l2, k1, k2, k3⟩ := insert_up s l1 x a (by rw [h1.length_eq]; simpa using h) hd h2
      refine ⟨l2, k1.trans (h1.cons a), k2, ?_⟩
      rw [cst] at k3
      rw [cst]; omega
/-- What the table holds at its end is the least cost. -/
theorem least_is {f l s : List Nat} {m v : Nat} (h : OptL f m l) (hm : m ≤ 15) (hs : Down s) (hp : s.Perm (came f)) (h0 : 0 < s.length)
    (hv : Has s m s.length 0 v) (hall : ∀ c, Has s m s.length 0 c → v ≤ c) : v = cst l f := by
  have h1 : cst l f ≤ v := by
    obtain ⟨ls, k1, _, k3, k4, k5⟩ := hv.lengths hm
    rw [List.take_length] at k5
    obtain ⟨lq, g1, g2, g3⟩ := carry hp ls k1
    obtain ⟨l2, e1, e2, e3, e4, e5⟩ := spread f lq g1 fun a ha => (k3 a (g2.mem_iff.1 ha)).1
    have := h.least l2 ⟨e1, e2, fun a ha => by
      rcases e3 a ha with e | e
      · omega
      · exact (k3 a (g2.mem_iff.1 e)).2, by rw [e4, kr_perm g2]; omega⟩
    omega
  have h2 : v ≤ cst l f := by
    obtain ⟨lq, k1, k2, k3, k4⟩ := gather f l h.good.len h.good.sup
    obtain ⟨ls, g1, g2, g3⟩ := carry hp.symm lq k1
    obtain ⟨l2, e1, e2, e3⟩ := sort_up s ls g1 hs
    have := hall _ (Up.has_all (by rw [e1.length_eq]; exact g1) h0 e2 (fun a ha => by
      have := k2 a (g2.mem_iff.1 (e1.mem_iff.1 ha))
      exact ⟨this.1, h.good.le a this.2⟩) hm (by rw [kr_perm e1, kr_perm g2, k3]; exact h.good.whole))
    omega
  omega
/-- there is a way, for whoever has found lengths -/
theorem least_has {f l s : List Nat} {m : Nat} (h : FitL f m l) (hm : m ≤ 15) (hs : Down s) (hp : s.Perm (came f)) (h0 : 0 < s.length) : ∃ c, Has s m s.length 0 c ∧ c ≤ cst l f := by
  obtain ⟨lq, k1, k2, k3, k4⟩ := gather f l h.len h.sup
  obtain ⟨ls, g1, g2, g3⟩ := carry hp.symm lq k1
  obtain ⟨l2, e1, e2, e3⟩ := sort_up s ls g1 hs
  exact ⟨_, Up.has_all (by rw [e1.length_eq]; exact g1) h0 e2 (fun a ha => by
      have := k2 a (g2.mem_iff.1 (e1.mem_iff.1 ha))
      exact ⟨this.1, h.le a this.2⟩) hm (by rw [kr_perm e1, kr_perm g2, k3]; exact h.whole), by omega⟩
end Go.Proofs.Ytcmfccooipnmeaa
