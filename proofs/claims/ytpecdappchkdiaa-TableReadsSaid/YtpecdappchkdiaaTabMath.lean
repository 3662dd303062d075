/-
  What symbol bits begin with, by a code with the highest bit first. No program is named here.
-/
import Derived.Test.YtpecdappchkdiaaPrefixMath
import Derived.Test.YtpecdappchkdiaaBitsMath
namespace Go.Proofs.Ytpecdappchkdiaa

/-- a number, its highest bit first -/
def hiN (l : List Nat) : Nat := l.foldl (fun v b => 2 * v + b) 0
def hiBits (n c : Nat) : List Nat := (List.range n).map fun k => c / 2 ^ (n - 1 - k) % 2
theorem hiN_nil : hiN [] = 0 := rfl
theorem hiN_snoc (l : List Nat) (b : Nat) : hiN (l ++ [b]) = 2 * hiN l + b := by simp [hiN]
theorem hiN_take (l : List Nat) (n b : Nat) (h : l[n]? = some b) : hiN (l.take (n + 1)) = 2 * hiN (l.take n) + b := by
  rw [List.take_add_one, h]; exact hiN_snoc _ _
theorem hiN_lt (l : List Nat) (hb : isBits l) : ∀ n, hiN (l.take n) < 2 ^ n
  | 0 => by simp [hiN]
  | n + 1 => by
    have ih := hiN_lt l hb n
    rw [Nat.pow_succ]
    cases h : l[n]? with
    | none =>
      have hl := List.getElem?_eq_none_iff.1 h
      rw [List.take_of_length_le (by omega)]
      rw [List.take_of_length_le hl] at ih
      omega
    | some b =>
      rw [hiN_take l n b h]
      have := hb b (List.mem_of_getElem? h)
      omega
theorem hiN_div (l : List Nat) (hb : isBits l) (n : Nat) : ∀ d, n + d ≤ l.length → hiN (l.take (n + d)) / 2 ^ d = hiN (l.take n)
  | 0, _ => by simp
  | d + 1, h => by
    have ih := hiN_div l hb n d (by omega)
    have hg : l[n + d]? = some l[n + d] := List.getElem?_eq_getElem _
    have hbb := hb _ (List.mem_of_getElem? hg)
    rw [← Nat.add_assoc, hiN_take l (n + d) _ hg, Nat.pow_succ, Nat.mul_comm (2 ^ d) 2, ← Nat.div_div_eq_div_mul, show (2 * hiN (l.take (n + d)) + l[n + d]) / 2 = hiN (l.take (n + d)) by omega]
    exact ih
theorem hiBits_length (n c : Nat) : (hiBits n c).length = n := by simp [hiBits]
theorem hiBits_isBits (n c : Nat) : isBits (hiBits n c) := by
  intro b hb
  obtain ⟨k, _, rfl⟩ := List.mem_map.1 hb
  have := Nat.mod_lt (c / 2 ^ (n - 1 - k)) (show 0 < 2 by decide)
  omega
theorem hiN_hiBits (n c : Nat) : ∀ k, k ≤ n → hiN ((hiBits n c).take k) = c / 2 ^ (n - k) % 2 ^ k
  | 0, _ => by simp [hiN, Nat.mod_one]
  | k + 1, h => by
    have hg : (hiBits n c)[k]? = some (c / 2 ^ (n - 1 - k) % 2) := by simp [hiBits, show k < n by omega]
    rw [hiN_take _ _ _ hg, hiN_hiBits n c k (by omega), show n - 1 - k = n - (k + 1) by omega, show n - k = (n - (k + 1)) + 1 by omega, Nat.pow_succ 2 (n - (k + 1)), ← Nat.div_div_eq_div_mul]
    generalize c / 2 ^ (n - (k + 1)) = x
    have h1 := Nat.mod_mul_right_div_self x 2 (2 ^ k)
    have h2 := Nat.mod_mul_right_mod x 2 (2 ^ k)
    have h3 := Nat.div_add_mod (x % (2 * 2 ^ k)) 2
    rw [Nat.pow_succ, Nat.mul_comm (2 ^ k) 2]
    omega
theorem hiN_code (n c : Nat) (hc : c < 2 ^ n) (rest : List Nat) : hiN ((hiBits n c ++ rest).take n) = c := by
  rw [List.take_append_of_le_length (by rw [hiBits_length]; omega), hiN_hiBits n c n (Nat.le_refl _), Nat.sub_self, Nat.pow_zero, Nat.div_one, Nat.mod_eq_of_lt hc]
/-- the longest code's number of bits -/
def lng (l : List Int) : Nat := l.foldr (fun a m => max a.toNat m) 0
theorem lng_le (l : List Int) : ∀ a ∈ l, a.toNat ≤ lng l := by
  induction l with
  | nil => simp
  | cons b l ih =>
    intro a ha
    show a.toNat ≤ max b.toNat (lng l)
    rcases List.mem_cons.1 ha with rfl | ha
    · omega
    · have := ih a ha; omega
theorem lng_top (l : List Int) (n : Nat) (h : ∀ a ∈ l, a.toNat ≤ n) : lng l ≤ n := by
  induction l with
  | nil => exact Nat.zero_le _
  | cons b l ih =>
    have h1 := h b List.mem_cons_self
    have h2 := ih fun a ha => h a (List.mem_cons_of_mem _ ha)
    show max b.toNat (lng l) ≤ n
    omega
/-- The bits begin with the code of symbol i, of n bits. -/
def Hit (l : List Int) (bs : List Nat) (i n : Nat) : Prop := l[i]? = some (n : Int) ∧ 1 ≤ n ∧ n ≤ bs.length ∧ hiN (bs.take n) = codeAt l i
theorem Hit.long {l : List Int} {bs : List Nat} {i n : Nat} (h : Hit l bs i n) : n ≤ lng l := by
  have := lng_le l _ (List.mem_of_getElem? h.1)
  simpa using this
theorem Hit.one {l : List Int} {bs : List Nat} (hb : isBits bs) (hl : ∀ a ∈ l, 0 ≤ a ∧ a ≤ 15) {i n j m : Nat} (h : Hit l bs i n) (h2 : Hit l bs j m) : i = j ∧ n = m := by
  have key : ∀ {i n j m : Nat}, Hit l bs i n → Hit l bs j m → n ≤ m → i = j := fun {i n j m} h h2 hnm => by
    by_cases e : j = i
    · exact e.symm
    · exfalso
      have hm := hl _ (List.mem_of_getElem? h2.1)
      have h3 := not_begin l i j n m h.1 h2.1 h.2.1 (by omega) hnm e
      apply h3
      rw [← h2.2.2.2, ← h.2.2.2]
      have := hiN_div bs hb n (m - n) (by have := h2.2.2.1; omega)
      rw [show n + (m - n) = m by omega] at this
      exact this
  have e : i = j := by
    rcases Nat.le_total n m with h3 | h3
    · exact key h h2 h3
    · exact (key h2 h h3).symm
  subst e
  have := h.1.symm.trans h2.1
  simp only [Option.some.injEq] at this
  exact ⟨rfl, by omega⟩
theorem Hit.more {l : List Int} {bs : List Nat} {i n : Nat} (h : Hit l bs i n) (cs : List Nat) : Hit l (bs ++ cs) i n :=
  ⟨h.1, h.2.1, by rw [List.length_append]; have := h.2.2.1; omega, by rw [List.take_append_of_le_length h.2.2.1]; exact h.2.2.2⟩
theorem Hit.less {l : List Int} {bs cs : List Nat} {i n : Nat} (h : Hit l (bs ++ cs) i n) (hn : n ≤ bs.length) : Hit l bs i n :=
  ⟨h.1, h.2.1, hn, by have := h.2.2.2; rw [List.take_append_of_le_length hn] at this; exact this⟩
theorem Hit.written {l : List Int} (hs : sumOf l ≤ 32768) {i n : Nat} (h : l[i]? = some (n : Int)) (hn : 1 ≤ n) (hn2 : n ≤ 15) (rest : List Nat) : Hit l (hiBits n (codeAt l i) ++ rest) i n :=
  ⟨h, hn, by rw [List.length_append, hiBits_length]; omega, hiN_code n _ (code_fits l i n h hn hn2 hs) rest⟩
/-- A whole code leaves no bits without a symbol. -/
theorem Hit.whole {l : List Int} (hl : ∀ a ∈ l, 0 ≤ a ∧ a ≤ 15) (hs : sumOf l = 32768) {bs : List Nat} (hb : isBits bs) (hlen : lng l ≤ bs.length) : ∃ i n, Hit l bs i n := by
  have hb2 : isBits (bs ++ List.replicate 15 0) := by
    intro b h
    rcases List.mem_append.1 h with h | h
    · exact hb b h
    · have := List.eq_of_mem_replicate h; omega
  obtain ⟨x, hx⟩ : ∃ x, x = hiN ((bs ++ List.replicate 15 0).take 15) := ⟨_, rfl⟩
  have hx2 : x < 32768 := by rw [hx]; exact hiN_lt _ hb2 15
  have h1 := one_hit l x hl hs hx2
  have h2 : ∃ i, i < l.length ∧ hit l x i = true := by
    by_cases hc : ∃ i, i < l.length ∧ hit l x i = true
    · exact hc
    · exfalso
      unfold hits at h1
      have : (List.range l.length).countP (hit l x) = 0 := by
        rw [List.countP_eq_zero]
        intro i hi hh
        exact hc ⟨i, List.mem_range.1 hi, hh⟩
      omega
  obtain ⟨i, hi, hh⟩ := h2
  have hg : l[i]? = some l[i] := List.getElem?_eq_getElem hi
  have hr := hl _ (List.mem_of_getElem? hg)
  obtain ⟨p, hp⟩ := Int.eq_ofNat_of_zero_le hr.1
  rw [hp] at hg
  have hp15 : p ≤ 15 := by omega
  by_cases hp0 : p = 0
  · subst hp0
    rw [hit_zero l x i hg] at hh; cases hh
  · rw [hit_len l x i p hg (by omega) hp15, decide_eq_true_eq] at hh
    have hpl := lng_le l _ (List.mem_of_getElem? hg)
    have hpb : p ≤ bs.length := by simp at hpl; omega
    refine ⟨i, p, hg, by omega, hpb, ?_⟩
    rw [← hh, hx]
    have := hiN_div (bs ++ List.replicate 15 0) hb2 p (15 - p) (by simp; omega)
    rw [show p + (15 - p) = 15 by omega, List.take_append_of_le_length hpb] at this
    exact this.symm
/-- What is read: a symbol and its number of bits, or an error (5: bits are missing; 3: no code). -/
def ReadIs (l : List Int) (bs : List Nat) (k n e : Nat) : Prop :=
  (e = 0 ∧ Hit l bs k n) ∨ (k = 0 ∧ n = 0 ∧ (∀ i m, ¬ Hit l bs i m) ∧ e = if bs.length < lng l ∨ bs = [] then 5 else 3)
theorem ReadIs.one {l : List Int} {bs : List Nat} (hb : isBits bs) (hl : ∀ a ∈ l, 0 ≤ a ∧ a ≤ 15) {k n e k2 n2 e2 : Nat} (h : ReadIs l bs k n e) (h2 : ReadIs l bs k2 n2 e2) : k = k2 ∧ n = n2 ∧ e = e2 := by
  rcases h with ⟨rfl, h⟩ | ⟨rfl, rfl, h, rfl⟩ <;> rcases h2 with ⟨rfl, h2⟩ | ⟨rfl, rfl, h2, rfl⟩
  · obtain ⟨a, b⟩ := h.one hb hl h2
    exact ⟨a, b, rfl⟩
  · exact absurd h (h2 _ _)
  · exact absurd h2 (h _ _)
  · exact ⟨rfl, rfl, rfl⟩
theorem ReadIs.errs {l : List Int} {bs : List Nat} {k n e : Nat} (h : ReadIs l bs k n e) : e = 0 ∨ e = 3 ∨ e = 5 := by
  rcases h with ⟨rfl, _⟩ | ⟨_, _, _, rfl⟩
  · exact .inl rfl
  · split
    · exact .inr (.inr rfl)
    · exact .inr (.inl rfl)
/-- A part of the bits tells the same, but for missing bits. -/
theorem ReadIs.part {l : List Int} {bs cs : List Nat} {k n e : Nat} (h : ReadIs l bs k n e) (he : e ≠ 5) : ReadIs l (bs ++ cs) k n e := by
  rcases h with ⟨rfl, h⟩ | ⟨rfl, rfl, h, rfl⟩
  · exact .inl ⟨rfl, h.more cs⟩
  · by_cases hc : bs.length < lng l ∨ bs = []
    · rw [if_pos hc] at he; exact absurd rfl he
    · have hl : lng l ≤ bs.length := by
        have : ¬ bs.length < lng l := fun h => hc (.inl h)
        omega
      have hne : bs ≠ [] := fun h => hc (.inr h)
      refine .inr ⟨rfl, rfl, fun i m hh => h i m (hh.less (by have := hh.long; omega)), ?_⟩
      rw [if_neg hc, if_neg]
      rintro (h2 | h2)
      · rw [List.length_append] at h2; omega
      · exact hne (List.append_eq_nil_iff.1 h2).1
theorem hiBits_take (l : List Nat) (hb : isBits l) (q : Nat) (hq : q ≤ l.length) : hiBits q (hiN (l.take q)) = l.take q := by
  refine List.ext_getElem? fun k => ?_
  by_cases hk : k < q
  · have hg : l[k]? = some l[k] := List.getElem?_eq_getElem _
    have h1 := hiN_div l hb (k + 1) (q - 1 - k) (by omega)
    rw [show k + 1 + (q - 1 - k) = q by omega, hiN_take l k _ hg] at h1
    have hbk := hb _ (List.mem_of_getElem? hg)
    rw [List.getElem?_take_of_lt hk, hg]
    simp only [hiBits, List.getElem?_map, List.getElem?_range hk, Option.map_some, h1, Option.some.injEq]
    omega
  · rw [List.getElem?_eq_none (by rw [hiBits_length]; omega), List.getElem?_eq_none (by rw [List.length_take]; omega)]
end Go.Proofs.Ytpecdappchkdiaa
