/-
  What symbol bits begin with, by a code with the highest bit first. No program is named here.
-/
import Derived.Test.YthibpnkdhbkakaaGreatDoorZq04
import Derived.Test.YthibpnkdhbkakaaGreatDoorZq03
import Derived.Test.YthibpnkdhbkakaaGreatDoorProg
import Derived.Test.YthibpnkdhbkakaaGreatDoorZq01
import Derived.StillTailTactics
namespace Go.Proofs.YthibpnkdhbkakaaGreatDoor
set_option maxRecDepth 5000

/-- a number, its highest bit first -/
def hiN (l : List Nat) : Nat := l.foldl (fun v b => 2 * v + b) 0
def hiBits (n c : Nat) : List Nat := (List.range n).map fun k => c / 2 ^ (n - 1 - k) % 2
theorem hiN_nil : hiN [] = 0 := rfl
theorem hiN_snoc (l : List Nat) (b : Nat) : hiN (l ++ [b]) = 2 * hiN l + b := by simp [hiN]
theorem hiN_take (l : List Nat) (n b : Nat) (h : l[n]? = some b) : hiN (l.take (n + 1)) = 2 * hiN (l.take n) + b := by
  rw [List.take_add_one, h]; exact hiN_snoc _ _
theorem hiN_lt (l : List Nat) (hb : isBits l) : ∀ n, hiN (l.take n) < 2 ^ n
  | 0 => by simp [hiN]
  | n + 1 => by
    have ih := hiN_lt l hb n
    rw [Nat.pow_succ]
    cases h : l[n]? with
    | none =>
      have hl := List.getElem?_eq_none_iff.1 h
      rw [List.take_of_length_le (by omega)]
      rw [List.take_of_length_le hl] at ih
      omega
    | some b =>
      rw [hiN_take l n b h]
      have := hb b (List.mem_of_getElem? h)
      omega
theorem hiN_div (l : List Nat) (hb : isBits l) (n : Nat) : ∀ d, n + d ≤ l.length → hiN (l.take (n + d)) / 2 ^ d = hiN (l.take n)
  | 0, _ => by simp
  | d + 1, h => by
    have ih := hiN_div l hb n d (by omega)
    have hg : l[n + d]? = some l[n + d] := List.getElem?_eq_getElem _
    have hbb := hb _ (List.mem_of_getElem? hg)
    rw [← Nat.add_assoc, hiN_take l (n + d) _ hg, Nat.pow_succ, Nat.mul_comm (2 ^ d) 2, ← Nat.div_div_eq_div_mul, show (2 * hiN (l.take (n + d)) + l[n + d]) / 2 = hiN (l.take (n + d)) by omega]
    exact ih
theorem hiBits_length (n c : Nat) : (hiBits n c).length = n := by simp [hiBits]
theorem hiBits_isBits (n c : Nat) : isBits (hiBits n c) := by
  intro b hb
  obtain ⟨k, _, rfl⟩ := List.mem_map.1 hb
  have := Nat.mod_lt (c / 2 ^ (n - 1 - k)) (show 0 < 2 by decide)
  omega
theorem hiN_hiBits (n c : Nat) : ∀ k, k ≤ n → hiN ((hiBits n c).take k) = c / 2 ^ (n - k) % 2 ^ k
  | 0, _ => by simp [hiN, Nat.mod_one]
  | k + 1, h => by
    have hg : (hiBits n c)[k]? = some (c / 2 ^ (n - 1 - k) % 2) := by simp [hiBits, show k < n by omega]
    rw [hiN_take _ _ _ hg, hiN_hiBits n c k (by omega), show n - 1 - k = n - (k + 1) by omega, show n - k = (n - (k + 1)) + 1 by omega, Nat.pow_succ 2 (n - (k + 1)), ← Nat.div_div_eq_div_mul]
    generalize c / 2 ^ (n - (k + 1)) = x
    have h1 := Nat.mod_mul_right_div_self x 2 (2 ^ k)
    have h2 := Nat.mod_mul_right_mod x 2 (2 ^ k)
    have h3 := Nat.div_add_mod (x % (2 * 2 ^ k)) 2
    rw [Nat.pow_succ, Nat.mul_comm (2 ^ k) 2]
    omega
theorem hiN_code (n c : Nat) (hc : c < 2 ^ n) (rest : List Nat) : hiN ((hiBits n c ++ rest).take n) = c := by
  rw [List.take_append_of_le_length (by rw [hiBits_length]; omega), hiN_hiBits n c n (Nat.le_refl _), Nat.sub_self, Nat.pow_zero, Nat.div_one, Nat.mod_eq_of_lt hc]
/-- the longest code's number of bits -/
def lng (l : List Int) : Nat := l.foldr (fun a m => max a.toNat m) 0
theorem lng_le (l : List Int) : ∀ a ∈ l, a.toNat ≤ lng l := by
  induction l with
  | nil => simp
  | cons b l ih =>
    intro a ha
    show a.toNat ≤ max b.toNat (lng l)
    rcases List.mem_cons.1 ha with rfl | ha
    · omega
    · have := ih a ha; omega
theorem lng_top (l : List Int) (n : Nat) (h : ∀ a ∈ l, a.toNat ≤ n) : lng l ≤ n := by
  induction l with
  | nil => exact Nat.zero_le _
  | cons b l ih =>
    have h1 := h b List.mem_cons_self
    have h2 := ih fun a ha => h a (List.mem_cons_of_mem _ ha)
    show max b.toNat (lng l) ≤ n
    omega
/-- The bits begin with the code of symbol i, of n bits. -/
def Hit (l : List Int) (bs : List Nat) (i n : Nat) : Prop := l[i]? = some (n : Int) ∧ 1 ≤ n ∧ n ≤ bs.length ∧ hiN (bs.take n) = codeAt l i
theorem Hit.long {l : List Int} {bs : List Nat} {i n : Nat} (h : Hit l bs i n) : n ≤ lng l := by
  have := lng_le l _ (List.mem_of_getElem? h.1)
  simpa using this
theorem Hit.one {l : List Int} {bs : List Nat} (hb : isBits bs) (hl : ∀ a ∈ l, 0 ≤ a ∧ a ≤ 15) {i n j m : Nat} (h : Hit l bs i n) (h2 : Hit l bs j m) : i = j ∧ n = m := by
  have key : ∀ {i n j m : Nat}, Hit l bs i n → Hit l bs j m → n ≤ m → i = j := fun {i n j m} h h2 hnm => by
    by_cases e : j = i
    · exact e.symm
    · exfalso
      have hm := hl _ (List.mem_of_getElem? h2.1)
      have h3 := not_begin l i j n m h.1 h2.1 h.2.1 (by omega) hnm e
      apply h3
      rw [← h2.2.2.2, ← h.2.2.2]
      have := hiN_div bs hb n (m - n) (by have := h2.2.2.1; omega)
      rw [show n + (m - n) = m by omega] at this
      exact this
  have e : i = j := by
    rcases Nat.le_total n m with h3 | h3
    · exact key h h2 h3
    · exact (key h2 h h3).symm
  subst e
  have := h.1.symm.trans h2.1
  simp only [Option.some.injEq] at this
  exact ⟨rfl, by omega⟩
theorem Hit.more {l : List Int} {bs : List Nat} {i n : Nat} (h : Hit l bs i n) (cs : List Nat) : Hit l (bs ++ cs) i n :=
  ⟨h.1, h.2.1, by rw [List.length_append]; have := h.2.2.1; omega, by rw [List.take_append_of_le_length h.2.2.1]; exact h.2.2.2⟩
theorem Hit.less {l : List Int} {bs cs : List Nat} {i n : Nat} (h : Hit l (bs ++ cs) i n) (hn : n ≤ bs.length) : Hit l bs i n :=
  ⟨h.1, h.2.1, hn, by have := h.2.2.2; rw [List.take_append_of_le_length hn] at this; exact this⟩
theorem Hit.written {l : List Int} (hs : sumOf l ≤ 32768) {i n : Nat} (h : l[i]? = some (n : Int)) (hn : 1 ≤ n) (hn2 : n ≤ 15) (rest : List Nat) : Hit l (hiBits n (codeAt l i) ++ rest) i n :=
  ⟨h, hn, by rw [List.length_append, hiBits_length]; omega, hiN_code n _ (code_fits l i n h hn hn2 hs) rest⟩
/-- A whole code leaves no bits without a symbol. -/
theorem Hit.whole {l : List Int} (hl : ∀ a ∈ l, 0 ≤ a ∧ a ≤ 15) (hs : sumOf l = 32768) {bs : List Nat} (hb : isBits bs) (hlen : lng l ≤ bs.length) : ∃ i n, Hit l bs i n := by
  have hb2 : isBits (bs ++ List.replicate 15 0) := by
    intro b h
    rcases List.mem_append.1 h with h | h
    · exact hb b h
    · have := List.eq_of_mem_replicate h; omega
  obtain ⟨x, hx⟩ : ∃ x, x = hiN ((bs ++ List.replicate 15 0).take 15) := ⟨_, rfl⟩
  have hx2 : x < 32768 := by rw [hx]; exact hiN_lt _ hb2 15
  have h1 := one_hit l x hl hs hx2
  have h2 : ∃ i, i < l.length ∧ hit l x i = true := by
    by_cases hc : ∃ i, i < l.length ∧ hit l x i = true
    · exact hc
    · exfalso
      unfold hits at h1
      have : (List.range l.length).countP (hit l x) = 0 := by
        rw [List.countP_eq_zero]
        intro i hi hh
        exact hc ⟨i, List.mem_range.1 hi, hh⟩
      omega
  obtain ⟨i, hi, hh⟩ := h2
  have hg : l[i]? = some l[i] := List.getElem?_eq_getElem hi
  have hr := hl _ (List.mem_of_getElem? hg)
  obtain ⟨p, hp⟩ := Int.eq_ofNat_of_zero_le hr.1
  rw [hp] at hg
  have hp15 : p ≤ 15 := by omega
  by_cases hp0 : p = 0
  · subst hp0
    rw [hit_zero l x i hg] at hh; cases hh
  · rw [hit_len l x i p hg (by omega) hp15, decide_eq_true_eq] at hh
    have hpl := lng_le l _ (List.mem_of_getElem? hg)
    have hpb : p ≤ bs.length := by simp at hpl; omega
    refine ⟨i, p, hg, by omega, hpb, ?_⟩
    rw [← hh, hx]
    have := hiN_div (bs ++ List.replicate 15 0) hb2 p (15 - p) (by simp; omega)
    rw [show p + (15 - p) = 15 by omega, List.take_append_of_le_length hpb] at this
    exact this.symm
/-- What is read: a symbol and its number of bits, or an error (5: bits are missing; 3: no code). -/
def ReadIs (l : List Int) (bs : List Nat) (k n e : Nat) : Prop :=
  (e = 0 ∧ Hit l bs k n) ∨ (k = 0 ∧ n = 0 ∧ (∀ i m, ¬ Hit l bs i m) ∧ e = if bs.length < lng l ∨ bs = [] then 5 else 3)
theorem ReadIs.one {l : List Int} {bs : List Nat} (hb : isBits bs) (hl : ∀ a ∈ l, 0 ≤ a ∧ a ≤ 15) {k n e k2 n2 e2 : Nat} (h : ReadIs l bs k n e) (h2 : ReadIs l bs k2 n2 e2) : k = k2 ∧ n = n2 ∧ e = e2 := by
  rcases h with ⟨rfl, h⟩ | ⟨rfl, rfl, h, rfl⟩ <;> rcases h2 with ⟨rfl, h2⟩ | ⟨rfl, rfl, h2, rfl⟩
  · obtain ⟨a, b⟩ := h.one hb hl h2
    exact ⟨a, b, rfl⟩
  · exact absurd h (h2 _ _)
  · exact absurd h2 (h _ _)
  · exact ⟨rfl, rfl, rfl⟩
theorem ReadIs.errs {l : List Int} {bs : List Nat} {k n e : Nat} (h : ReadIs l bs k n e) : e = 0 ∨ e = 3 ∨ e = 5 := by
  rcases h with ⟨rfl, _⟩ | ⟨_, _, _, rfl⟩
  · exact .inl rfl
  · split
    · exact .inr (.inr rfl)
    · exact .inr (.inl rfl)
/-- A part of the bits tells the same, but for missing bits. -/
theorem ReadIs.part {l : List Int} {bs cs : List Nat} {k n e : Nat} (h : ReadIs l bs k n e) (he : e ≠ 5) : ReadIs l (bs ++ cs) k n e := by
  rcases h with ⟨rfl, h⟩ | ⟨rfl, rfl, h, rfl⟩
  · exact .inl ⟨rfl, h.more cs⟩
  · by_cases hc : bs.length < lng l ∨ bs = []
    · rw [if_pos hc] at he; exact absurd rfl he
    · have hl : lng l ≤ bs.length := by
        have : ¬ bs.length < lng l := fun h => hc (.inl h)
        omega
      have hne : bs ≠ [] := fun h => hc (.inr h)
      refine .inr ⟨rfl, rfl, fun i m hh => h i m (hh.less (by have := hh.long; omega)), ?_⟩
      rw [if_neg hc, if_neg]
      rintro (h2 | h2)
      · rw [List.length_append] at h2; omega
      · exact hne (List.append_eq_nil_iff.1 h2).1
theorem hiBits_take (l : List Nat) (hb : isBits l) (q : Nat) (hq : q ≤ l.length) : hiBits q (hiN (l.take q)) = l.take q := by
  refine List.ext_getElem? fun k => ?_
  by_cases hk : k < q
  · have hg : l[k]? = some l[k] := List.getElem?_eq_getElem _
    have h1 := hiN_div l hb (k + 1) (q - 1 - k) (by omega)
    rw [show k + 1 + (q - 1 - k) = q by omega, hiN_take l k _ hg] at h1
    have hbk := hb _ (List.mem_of_getElem? hg)
    rw [List.getElem?_take_of_lt hk, hg]
    simp only [hiBits, List.getElem?_map, List.getElem?_range hk, Option.map_some, h1, Option.some.injEq]
    omega
  · rw [List.getElem?_eq_none (by rw [hiBits_length]; omega), List.getElem?_eq_none (by rw [List.length_take]; omega)]
end Go.Proofs.YthibpnkdhbkakaaGreatDoor
/-
  The codes of lengths and distances: first values, extra bits, and the code of a value. No program is named here.
-/
namespace Go.Proofs.YthibpnkdhbkakaaGreatDoor
set_option maxRecDepth 5000

/-- the first value and the extra bits of the code c, in groups of g codes -/
def sb (g c : Nat) : Nat := if c < g then c else (g + c % g) * 2 ^ (c / g - 1)
def sx (g c : Nat) : Nat := if c < g then 0 else c / g - 1
/-- of the length code 257 + k, of the distance code k -/
def lB (k : Nat) : Nat := if k = 28 then 258 else 3 + sb 4 k
def lX (k : Nat) : Nat := if k = 28 then 0 else sx 4 k
def dB (k : Nat) : Nat := 1 + sb 2 k
def dX (k : Nat) : Nat := sx 2 k
/-- c is the code of v: the last one, below m, whose first value is not above v -/
def CodeIs (B : Nat → Nat) (m v c : Nat) : Prop := c < m ∧ B c ≤ v ∧ ∀ d, c < d → d < m → v < B d
theorem CodeIs.same {B : Nat → Nat} {m v c d : Nat} (h : CodeIs B m v c) (h' : CodeIs B m v d) : c = d := by
  obtain ⟨h1, h2, h3⟩ := h
  obtain ⟨g1, g2, g3⟩ := h'
  rcases Nat.lt_trichotomy c d with h | h | h
  · have := h3 d h g1; omega
  · exact h
  · have := g3 c h h1; omega
theorem lB_step : ∀ k, k < 27 → lB (k + 1) = lB k + 2 ^ lX k := by decide +kernel
theorem dB_step : ∀ k, k < 29 → dB (k + 1) = dB k + 2 ^ dX k := by decide +kernel
theorem lB_asc : ∀ k, k < 29 → ∀ j, j < k → lB j < lB k := by decide +kernel
theorem dB_asc : ∀ k, k < 30 → ∀ j, j < k → dB j < dB k := by decide +kernel
theorem lX_le : ∀ k, k < 29 → lX k ≤ 5 := by decide +kernel
theorem dX_le : ∀ k, k < 30 → dX k ≤ 13 := by decide +kernel
theorem lB_le : ∀ k, k < 29 → 3 ≤ lB k ∧ lB k ≤ 258 := by decide +kernel
theorem dB_le : ∀ k, k < 30 → 1 ≤ dB k ∧ dB k ≤ 24577 := by decide +kernel
/-- what a code's value is, fits its extra bits -/
theorem lB_fits : ∀ k, k < 28 → lB (k + 1) ≤ lB k + 2 ^ lX k := by decide +kernel
theorem dB_fits : ∀ k, k < 29 → dB (k + 1) ≤ dB k + 2 ^ dX k := by decide +kernel
theorem len_fits {v c : Nat} (h : CodeIs lB 29 v c) (hv : v ≤ 258) : v - lB c < 2 ^ lX c := by
  obtain ⟨h1, h2, h3⟩ := h
  by_cases hc : c = 28
  · subst hc
    have e : lB 28 = 258 := by decide
    have e2 : lX 28 = 0 := by decide
    rw [e] at h2 ⊢
    rw [e2]
    simp; omega
  · have := h3 (c + 1) (by omega) (by omega)
    have := lB_fits c (by omega)
    omega
theorem dist_fits {v c : Nat} (h : CodeIs dB 30 v c) (hv : v ≤ 32768) : v - dB c < 2 ^ dX c := by
  obtain ⟨h1, h2, h3⟩ := h
  by_cases hc : c = 29
  · subst hc
    have e : dB 29 = 24577 := by decide
    have e2 : dX 29 = 13 := by decide
    rw [e] at h2 ⊢
    rw [e2]
    omega
  · have := h3 (c + 1) (by omega) (by omega)
    have := dB_fits c (by omega)
    omega
end Go.Proofs.YthibpnkdhbkakaaGreatDoor
/-
  The program's codes of lengths and distances.
-/
namespace Go.Proofs.YthibpnkdhbkakaaGreatDoor
set_option maxRecDepth 5000
open Go.RowKit

theorem start_any (c g : Nat) (hc : c < 1000) (hg : 1 ≤ g) (hg2 : g ≤ 4) (he : c / g ≤ 15) (w : World) :
    Calls Tryz.prog 93 #[.int .i64 (c : Int), .int .i64 (g : Int)] w fun e w' => e = .returned (.tuple #[.int .i64 ((sb g c : Nat) : Int), .int .i64 ((sx g c : Nat) : Int)]) ∧ w = w' := by
  have hc0 : (0 : Int) ≤ (c : Int) := Int.natCast_nonneg _
  have hg0 : (0 : Int) ≤ (g : Int) := Int.natCast_nonneg _
  rcases Nat.lt_or_ge c g with h | h
  · have e1 : sb g c = c := if_pos h
    have e2 : sx g c = 0 := if_pos h
    rw [e1, e2]
    have hI : (c : Int) < (g : Int) := by omega
    go_enter Tryz.func93, Tryz.ntmps93
    go_wp2
    go_ret2
    exact ⟨rfl, rfl⟩
  · have hI : ¬ (c : Int) < (g : Int) := by omega
    obtain ⟨x, hx⟩ : ∃ x, x = c / g - 1 := ⟨_, rfl⟩
    obtain ⟨r, hr⟩ : ∃ r, r = c % g := ⟨_, rfl⟩
    have e1 : sb g c = (g + r) * 2 ^ x := by rw [hr, hx]; exact if_neg (by omega)
    have e2 : sx g c = x := by rw [hx]; exact if_neg (by omega)
    rw [e1, e2]
    have hrg : r < g := by rw [hr]; exact Nat.mod_lt _ (by omega)
    have hx14 : x ≤ 14 := by omega
    have h1 : 1 ≤ c / g := (Nat.le_div_iff_mul_le (by omega)).2 (by omega)
    have hq : (c : Int) / (g : Int) - 1 = (x : Int) := by rw [hx]; omega
    have hm : (c : Int) % (g : Int) = (r : Int) := by rw [hr]; rfl
    have hgz : ¬ (g : Int) = 0 := by omega
    have hx0 : (0 : Int) ≤ (x : Int) := Int.natCast_nonneg _
    have hr0 : (0 : Int) ≤ (r : Int) := Int.natCast_nonneg _
    obtain ⟨y, hy⟩ : ∃ y, y = (g + r) * 2 ^ x := ⟨_, rfl⟩
    rw [← hy]
    have hyI : ((g : Int) + (r : Int)) * 2 ^ x = (y : Int) := by rw [hy]; push_cast; rfl
    have hyb : y ≤ 8 * 2 ^ 14 := by rw [hy]; exact Nat.mul_le_mul (by omega) (Nat.pow_le_pow_right (by decide) hx14)
    have hw : wrap64 (((g : Int) + (r : Int)) * 2 ^ x) = (y : Int) := by rw [hyI]; unfold wrap64; omega
    clear hx hr e1 e2 hyI hy hyb
    go_enter Tryz.func93, Tryz.ntmps93
    go_wp2
    go_ret2
    exact ⟨rfl, rfl⟩
/-- what LenBase returns -/
def lensOf (code : Int) : Value := if code < 257 ∨ 285 < code then .tuple #[.int .i64 0, .int .i64 0, .bool false] else .tuple #[.int .i64 ((lB (code - 257).toNat : Nat) : Int), .int .i64 ((lX (code - 257).toNat : Nat) : Int), .bool true]
def distsOf (code : Int) : Value := if code < 0 ∨ 30 ≤ code then .tuple #[.int .i64 0, .int .i64 0, .bool false] else .tuple #[.int .i64 ((dB code.toNat : Nat) : Int), .int .i64 ((dX code.toNat : Nat) : Int), .bool true]
theorem lens_at (k : Nat) (hk : k < 29) : lensOf ((257 + k : Nat) : Int) = .tuple #[.int .i64 ((lB k : Nat) : Int), .int .i64 ((lX k : Nat) : Int), .bool true] := by
  unfold lensOf
  rw [if_neg (by omega), show (((257 + k : Nat) : Int) - 257).toNat = k by omega]
theorem dists_at (k : Nat) (hk : k < 30) : distsOf (k : Int) = .tuple #[.int .i64 ((dB k : Nat) : Int), .int .i64 ((dX k : Nat) : Int), .bool true] := by
  unfold distsOf
  rw [if_neg (by omega), Int.toNat_natCast]
theorem lenBase_any (code : Int) (w : World) :
    Calls Tryz.prog 83 #[.int .i64 code] w fun e w' => e = .returned (lensOf code) ∧ w = w' := by
  rcases (by omega : code < 257 ∨ 285 < code ∨ code = 285 ∨ (257 ≤ code ∧ code < 285)) with h | h | rfl | ⟨h1, h2⟩
  · have e : lensOf code = .tuple #[.int .i64 0, .int .i64 0, .bool false] := if_pos (.inl h)
    rw [e]
    clear e
    go_enter Tryz.func83, Tryz.ntmps83
    go_wp2
    go_ret3
    exact ⟨rfl, rfl⟩
  · have e : lensOf code = .tuple #[.int .i64 0, .int .i64 0, .bool false] := if_pos (.inr h)
    rw [e]
    have h0 : ¬ code < 257 := by omega
    clear e
    go_enter Tryz.func83, Tryz.ntmps83
    go_wp2
    go_ret3
    exact ⟨rfl, rfl⟩
  · have e : lensOf 285 = .tuple #[.int .i64 258, .int .i64 0, .bool true] := by
      have := lens_at 28 (by decide)
      rw [show lB 28 = 258 by decide, show lX 28 = 0 by decide] at this
      exact this
    rw [e]
    clear e
    go_enter Tryz.func83, Tryz.ntmps83
    go_wp2
    go_ret3
    exact ⟨rfl, rfl⟩
  · obtain ⟨k, rfl⟩ : ∃ k : Nat, code = ((257 + k : Nat) : Int) := ⟨(code - 257).toNat, by omega⟩
    have hk : k < 28 := by omega
    rw [lens_at k (by omega)]
    have e1 : lB k = 3 + sb 4 k := if_neg (by omega)
    have e2 : lX k = sx 4 k := if_neg (by omega)
    rw [e1, e2]
    have hb : sb 4 k ≤ 1000 := by have := (lB_le k (by omega)).2; omega
    have hkI : ((257 + k : Nat) : Int) - 257 = (k : Int) := by omega
    have hc1 : ((257 + k : Nat) : Int) ≠ 285 := by omega
    have HS := hid (start_any k 4 (by omega) (by decide) (by decide) (by omega) w)
    generalize sb 4 k = y at *
    generalize sx 4 k = x at *
    generalize ((257 + k : Nat) : Int) = code at *
    have hc3 : (code == 285) = false := by simp; omega
    have hc4 : ¬ code < 257 := by omega
    have hc5 : ¬ 285 < code := by omega
    have hy0 : (0 : Int) ≤ (y : Int) := Int.natCast_nonneg _
    clear e1 e2 h1 h2
    go_enter Tryz.func83, Tryz.ntmps83
    go_wp2_with fail
    refine HS.out.mono ?_
    rintro e w1 ⟨rfl, rfl⟩
    go_wp2
    go_ret3
    exact ⟨by push_cast; rfl, rfl⟩
theorem distBase_any (code : Int) (w : World) :
    Calls Tryz.prog 84 #[.int .i64 code] w fun e w' => e = .returned (distsOf code) ∧ w = w' := by
  rcases (by omega : code < 0 ∨ 30 ≤ code ∨ (0 ≤ code ∧ code < 30)) with h | h | ⟨h1, h2⟩
  · have e : distsOf code = .tuple #[.int .i64 0, .int .i64 0, .bool false] := if_pos (.inl h)
    rw [e]
    clear e
    go_enter Tryz.func84, Tryz.ntmps84
    go_wp2
    go_ret3
    exact ⟨rfl, rfl⟩
  · have e : distsOf code = .tuple #[.int .i64 0, .int .i64 0, .bool false] := if_pos (.inr h)
    rw [e]
    have h0 : ¬ code < 0 := by omega
    clear e
    go_enter Tryz.func84, Tryz.ntmps84
    go_wp2
    go_ret3
    exact ⟨rfl, rfl⟩
  · obtain ⟨k, rfl⟩ := Int.eq_ofNat_of_zero_le h1
    have hk : k < 30 := by omega
    rw [dists_at k hk]
    have e1 : dB k = 1 + sb 2 k := rfl
    have e2 : dX k = sx 2 k := rfl
    rw [e1, e2]
    have hb : sb 2 k ≤ 30000 := by have := (dB_le k hk).2; omega
    have HS := hid (start_any k 2 (by omega) (by decide) (by decide) (by omega) w)
    generalize sb 2 k = y at *
    generalize sx 2 k = x at *
    have hc4 : ¬ (k : Int) < 0 := by omega
    have hc5 : ¬ 30 ≤ (k : Int) := by omega
    have hy0 : (0 : Int) ≤ (y : Int) := Int.natCast_nonneg _
    clear e1 e2 h1 h2
    go_enter Tryz.func84, Tryz.ntmps84
    go_wp2_with fail
    refine HS.out.mono ?_
    rintro e w1 ⟨rfl, rfl⟩
    go_wp2
    go_ret3
    exact ⟨by push_cast; rfl, rfl⟩
theorem isLength_any (n : Int) (w : World) :
    Calls Tryz.prog 75 #[.int .i64 n] w fun e w' => e = .returned (.bool (decide (3 ≤ n ∧ n ≤ 258))) ∧ w = w' := by
  rcases (by omega : n < 3 ∨ (3 ≤ n ∧ 258 < n) ∨ (3 ≤ n ∧ n ≤ 258)) with h | ⟨h, h2⟩ | ⟨h, h2⟩
  · have e : decide (3 ≤ n ∧ n ≤ 258) = false := decide_eq_false (by omega)
    rw [e]
    have h0 : ¬ 3 ≤ n := by omega
    clear e
    go_enter Tryz.func75, Tryz.ntmps75
    go_wp2
    go_ret
    exact ⟨rfl, rfl⟩
  · have e : decide (3 ≤ n ∧ n ≤ 258) = false := decide_eq_false (by omega)
    rw [e]
    have h0 : decide (n ≤ 258) = false := decide_eq_false (by omega)
    clear e
    go_enter Tryz.func75, Tryz.ntmps75
    go_wp2
    go_ret
    exact ⟨rfl, rfl⟩
  · have e : decide (3 ≤ n ∧ n ≤ 258) = true := decide_eq_true (by omega)
    rw [e]
    have h0 : decide (n ≤ 258) = true := decide_eq_true (by omega)
    clear e
    go_enter Tryz.func75, Tryz.ntmps75
    go_wp2
    go_ret
    exact ⟨rfl, rfl⟩
theorem isDistance_any (n : Int) (w : World) :
    Calls Tryz.prog 76 #[.int .i64 n] w fun e w' => e = .returned (.bool (decide (1 ≤ n ∧ n ≤ 32768))) ∧ w = w' := by
  rcases (by omega : n < 1 ∨ (1 ≤ n ∧ 32768 < n) ∨ (1 ≤ n ∧ n ≤ 32768)) with h | ⟨h, h2⟩ | ⟨h, h2⟩
  · have e : decide (1 ≤ n ∧ n ≤ 32768) = false := decide_eq_false (by omega)
    rw [e]
    have h0 : ¬ 1 ≤ n := by omega
    clear e
    go_enter Tryz.func76, Tryz.ntmps76
    go_wp2
    go_ret
    exact ⟨rfl, rfl⟩
  · have e : decide (1 ≤ n ∧ n ≤ 32768) = false := decide_eq_false (by omega)
    rw [e]
    have h0 : decide (n ≤ 32768) = false := decide_eq_false (by omega)
    clear e
    go_enter Tryz.func76, Tryz.ntmps76
    go_wp2
    go_ret
    exact ⟨rfl, rfl⟩
  · have e : decide (1 ≤ n ∧ n ≤ 32768) = true := decide_eq_true (by omega)
    rw [e]
    have h0 : decide (n ≤ 32768) = true := decide_eq_true (by omega)
    clear e
    go_enter Tryz.func76, Tryz.ntmps76
    go_wp2
    go_ret
    exact ⟨rfl, rfl⟩
/-- find at any table whose function keeps its contract -/
theorem find_any (F : FuncId) (B X : Nat → Nat) (lo m v : Nat) (hm1 : 1 ≤ m) (hm : m ≤ 1000) (hlo : lo ≤ 1000) (hv : v ≤ 100000) (hB0 : B 0 ≤ v) (hasc : ∀ k, k < m → ∀ j, j < k → B j < B k) (hBb : ∀ k, k < m → B k ≤ 100000)
    (hcf : ∀ args w, (callFunc F args).run Tryz.prog w = .ok (.enter F args) w) (hF : ∀ k, k < m → ∀ w, Calls Tryz.prog F #[.int .i64 ((lo + k : Nat) : Int)] w fun e w' => e = .returned (.tuple #[.int .i64 ((B k : Nat) : Int), .int .i64 ((X k : Nat) : Int), .bool true]) ∧ w = w') (w : World) :
    Calls Tryz.prog 82 #[.int .i64 (v : Int), .int .i64 (lo : Int), .int .i64 ((lo + m : Nat) : Int), .func (.func F) #[] #[]] w fun e w' => ∃ c q x z : Nat, CodeIs B m v c ∧ q = lo + c ∧ x = X c ∧ z = v - B c ∧ e = .returned (.tuple #[.int .i64 (q : Int), .int .i64 (x : Int), .int .i64 (z : Int)]) ∧ w = w' := by
  have HF := hid hF
  have HA := hid (And.intro hasc hBb)
  clear hF hasc hBb
  go_enter Tryz.func82, Tryz.ntmps82
  go_wp2
  go_loopg [1, 2] (m + 2) (fun k t1 t2 wr => ∃ a b : Nat, a < b ∧ b ≤ m ∧ b - a < k ∧ t1 = .int .i64 ((lo + a : Nat) : Int) ∧ t2 = .int .i64 ((lo + b : Nat) : Int) ∧ Hid (B a ≤ v ∧ ∀ d, b ≤ d → d < m → v < B d) ∧ wr = w)
  case atStart => exact ⟨0, m, by omega, by omega, by omega, rfl, rfl, hid ⟨hB0, fun d h1 h2 => by omega⟩, rfl⟩
  case round =>
    obtain ⟨a, b, hab, hbm, hk, rfl, rfl, HI, rfl⟩ := hrel
    have hla : (0 : Int) ≤ ((lo + a : Nat) : Int) := Int.natCast_nonneg _
    have hlb : (0 : Int) ≤ ((lo + b : Nat) : Int) := Int.natCast_nonneg _
    by_cases hd : b - a = 1
    · have hI : ¬ (1 : Int) < ((lo + b : Nat) : Int) - ((lo + a : Nat) : Int) := by omega
      have HC := hid (HF.out a (by omega) wr)
      have hba := HA.out.2 a (by omega)
      have HS : Hid (CodeIs B m v a) := hid ⟨by omega, HI.out.1, fun d h1 h2 => HI.out.2 d (by omega) h2⟩
      have hle := HI.out.1
      obtain ⟨y, hy⟩ : ∃ y, y = B a := ⟨_, rfl⟩
      have HY := hid hy
      rw [← hy] at hle hba HC
      have hyI : (v : Int) - (y : Int) = ((v - y : Nat) : Int) := by omega
      have hv0 : (0 : Int) ≤ (v : Int) := Int.natCast_nonneg _
      have hy0 : (0 : Int) ≤ (y : Int) := Int.natCast_nonneg _
      have hAL : ((lo + a : Nat) : Int) ≤ 3000 := by omega
      have hBL : ((lo + b : Nat) : Int) ≤ 3000 := by omega
      obtain ⟨la, hA2⟩ : ∃ z : Int, z = ((lo + a : Nat) : Int) := ⟨_, rfl⟩
      have HLA := hid hA2
      rw [← hA2] at hI HC hla hAL ⊢
      generalize ((lo + b : Nat) : Int) = lb at *
      clear hy hA2
      go_wp2_with fail
      refine HC.out.mono ?_
      rintro e w1 ⟨rfl, rfl⟩
      go_wp2
      go_ret3
      exact ⟨a, lo + a, X a, v - B a, HS.out, rfl, rfl, rfl, by rw [← HY.out, ← HLA.out]; rfl, rfl⟩
    · obtain ⟨c, hc⟩ : ∃ c, c = (a + b) / 2 := ⟨_, rfl⟩
      have hc1 : a < c := by omega
      have hc2 : c < b := by omega
      have hI : (1 : Int) < ((lo + b : Nat) : Int) - ((lo + a : Nat) : Int) := by omega
      have hmid : (((lo + a : Nat) : Int) + ((lo + b : Nat) : Int)) / 2 = ((lo + c : Nat) : Int) := by omega
      have HC := hid (HF.out c (by omega) wr)
      have hbc := HA.out.2 c (by omega)
      have HASC := hid (HA.out.1)
      obtain ⟨y, hy⟩ : ∃ y, y = B c := ⟨_, rfl⟩
      have HY := hid hy
      rw [← hy] at hbc HC
      have hAL : ((lo + a : Nat) : Int) ≤ 3000 := by omega
      have hBL : ((lo + b : Nat) : Int) ≤ 3000 := by omega
      have hCL : ((lo + c : Nat) : Int) ≤ 3000 := by omega
      have hlc : (0 : Int) ≤ ((lo + c : Nat) : Int) := Int.natCast_nonneg _
      obtain ⟨la, hA2⟩ : ∃ z : Int, z = ((lo + a : Nat) : Int) := ⟨_, rfl⟩
      obtain ⟨lb, hB2⟩ : ∃ z : Int, z = ((lo + b : Nat) : Int) := ⟨_, rfl⟩
      obtain ⟨lc, hC2⟩ : ∃ z : Int, z = ((lo + c : Nat) : Int) := ⟨_, rfl⟩
      have HLA := hid hA2
      have HLB := hid hB2
      have HLC := hid hC2
      rw [← hA2] at hI hmid hla hAL ⊢
      rw [← hB2] at hI hmid hlb hBL ⊢
      rw [← hC2] at hmid hlc hCL HC
      clear hy hc hA2 hB2 hC2
      by_cases hyv : y ≤ v
      · have hyI : (y : Int) ≤ (v : Int) := by omega
        go_wp2_with fail
        refine HC.out.mono ?_
        rintro e w1 ⟨rfl, rfl⟩
        go_wp2
        go_roundg (gk - 1)
        case measure => omega
        case rel => exact ⟨c, b, hc2, hbm, by omega, by rw [← HLC.out], by rw [← HLB.out], hid ⟨by rw [← HY.out]; exact hyv, HI.out.2⟩, rfl⟩
      · have hyI : ¬ (y : Int) ≤ (v : Int) := by omega
        go_wp2_with fail
        refine HC.out.mono ?_
        rintro e w1 ⟨rfl, rfl⟩
        go_wp2
        go_roundg (gk - 1)
        case measure => omega
        case rel =>
          refine ⟨a, c, hc1, by omega, by omega, by rw [← HLA.out], by rw [← HLC.out], hid ⟨HI.out.1, fun d h1 h2 => ?_⟩, rfl⟩
          rcases Nat.eq_or_lt_of_le h1 with rfl | h3
          · rw [← HY.out]; omega
          · have := HASC.out d h2 c h3
            rw [← HY.out] at this; omega
/-- what LenCode returns at a length, or at none -/
def IsLenCode (n : Int) (v : Value) : Prop := ((n < 3 ∨ 258 < n) ∧ v = .tuple #[.int .i64 0, .int .i64 0, .int .i64 0]) ∨ ∃ k c q x z : Nat, n = (k : Int) ∧ 3 ≤ k ∧ k ≤ 258 ∧ CodeIs lB 29 k c ∧ q = 257 + c ∧ x = lX c ∧ z = k - lB c ∧ v = .tuple #[.int .i64 (q : Int), .int .i64 (x : Int), .int .i64 (z : Int)]
def IsDistCode (n : Int) (v : Value) : Prop := ((n < 1 ∨ 32768 < n) ∧ v = .tuple #[.int .i64 0, .int .i64 0, .int .i64 0]) ∨ ∃ k c q x z : Nat, n = (k : Int) ∧ 1 ≤ k ∧ k ≤ 32768 ∧ CodeIs dB 30 k c ∧ q = 0 + c ∧ x = dX c ∧ z = k - dB c ∧ v = .tuple #[.int .i64 (q : Int), .int .i64 (x : Int), .int .i64 (z : Int)]
theorem lenCode_any (n : Int) (w : World) :
    Calls Tryz.prog 65 #[.int .i64 n] w fun e w' => (∃ v, e = .returned v ∧ IsLenCode n v) ∧ w = w' := by
  have HL := hid (isLength_any n w)
  rcases (by omega : (n < 3 ∨ 258 < n) ∨ (3 ≤ n ∧ n ≤ 258)) with h | ⟨h, h2⟩
  · have e : decide (3 ≤ n ∧ n ≤ 258) = false := decide_eq_false (by omega)
    rw [e] at HL
    have HS : Hid (IsLenCode n (.tuple #[.int .i64 0, .int .i64 0, .int .i64 0])) := hid (.inl ⟨h, rfl⟩)
    clear e h
    go_enter Tryz.func65, Tryz.ntmps65
    go_wp2_with fail
    refine HL.out.mono ?_
    rintro e w1 ⟨rfl, rfl⟩
    go_wp2
    go_ret3
    exact ⟨⟨_, rfl, HS.out⟩, rfl⟩
  · have e : decide (3 ≤ n ∧ n ≤ 258) = true := decide_eq_true (by omega)
    rw [e] at HL
    obtain ⟨k, rfl⟩ := Int.eq_ofNat_of_zero_le (show 0 ≤ n by omega)
    have HF := hid (find_any 83 lB lX 257 29 k (by decide) (by decide) (by decide) (by omega) (by have : lB 0 = 3 := (by decide); omega) lB_asc (fun j hj => by have := lB_le j hj; omega) (fun _ _ => rfl)
      (fun j hj w => by
        have h1 := lenBase_any ((257 + j : Nat) : Int) w
        rw [lens_at j hj] at h1
        exact h1) w)
    have HK := hid (And.intro (show 3 ≤ k by omega) (show k ≤ 258 by omega))
    clear e h h2
    go_enter Tryz.func65, Tryz.ntmps65
    go_wp2_with fail
    refine HL.out.mono ?_
    rintro e w1 ⟨rfl, rfl⟩
    go_wp2_with fail
    refine HF.out.mono ?_
    rintro e w1 ⟨c, q, x, z, hc, hq, hx, hz, rfl, rfl⟩
    have HC := hid hc
    have HQ := hid hq
    have HX := hid hx
    have HZ := hid hz
    clear hc hq hx hz
    go_wp2
    go_ret3
    exact ⟨⟨_, rfl, .inr ⟨k, c, q, x, z, rfl, HK.out.1, HK.out.2, HC.out, HQ.out, HX.out, HZ.out, rfl⟩⟩, rfl⟩
theorem distCode_any (n : Int) (w : World) :
    Calls Tryz.prog 66 #[.int .i64 n] w fun e w' => (∃ v, e = .returned v ∧ IsDistCode n v) ∧ w = w' := by
  have HL := hid (isDistance_any n w)
  rcases (by omega : (n < 1 ∨ 32768 < n) ∨ (1 ≤ n ∧ n ≤ 32768)) with h | ⟨h, h2⟩
  · have e : decide (1 ≤ n ∧ n ≤ 32768) = false := decide_eq_false (by omega)
    rw [e] at HL
    have HS : Hid (IsDistCode n (.tuple #[.int .i64 0, .int .i64 0, .int .i64 0])) := hid (.inl ⟨h, rfl⟩)
    clear e h
    go_enter Tryz.func66, Tryz.ntmps66
    go_wp2_with fail
    refine HL.out.mono ?_
    rintro e w1 ⟨rfl, rfl⟩
    go_wp2
    go_ret3
    exact ⟨⟨_, rfl, HS.out⟩, rfl⟩
  · have e : decide (1 ≤ n ∧ n ≤ 32768) = true := decide_eq_true (by omega)
    rw [e] at HL
    obtain ⟨k, rfl⟩ := Int.eq_ofNat_of_zero_le (show 0 ≤ n by omega)
    have HF := hid (find_any 84 dB dX 0 30 k (by decide) (by decide) (by decide) (by omega) (by have : dB 0 = 1 := (by decide); omega) dB_asc (fun j hj => by have := dB_le j hj; omega) (fun _ _ => rfl)
      (fun j hj w => by
        have h1 := distBase_any (j : Int) w
        rw [dists_at j hj] at h1
        rw [Nat.zero_add]
        exact h1) w)
    have HK := hid (And.intro (show 1 ≤ k by omega) (show k ≤ 32768 by omega))
    clear e h h2
    go_enter Tryz.func66, Tryz.ntmps66
    go_wp2_with fail
    refine HL.out.mono ?_
    rintro e w1 ⟨rfl, rfl⟩
    go_wp2_with fail
    refine HF.out.mono ?_
    rintro e w1 ⟨c, q, x, z, hc, hq, hx, hz, rfl, rfl⟩
    have HC := hid hc
    have HQ := hid hq
    have HX := hid hx
    have HZ := hid hz
    clear hc hq hx hz
    go_wp2
    go_ret3
    exact ⟨⟨_, rfl, .inr ⟨k, c, q, x, z, rfl, HK.out.1, HK.out.2, HC.out, HQ.out, HX.out, HZ.out, rfl⟩⟩, rfl⟩
end Go.Proofs.YthibpnkdhbkakaaGreatDoor
