/-
  What symbol bits begin with, by a code with the highest bit first. No program is named here.
-/
import Derived.Test.YtbkbkmgogbgofaaDoorZh02
import Derived.Test.YtbkbkmgogbgofaaDoorProg
import Derived.Test.YtbkbkmgogbgofaaDoorZh01
import Derived.StillTailTactics
namespace Go.Proofs.YtbkbkmgogbgofaaDoor
set_option maxRecDepth 5000
def hiN (l : List Nat) : Nat := l.foldl (fun v b => 2 * v + b) 0
def hiBits (n c : Nat) : List Nat := (List.range n).map fun k => c / 2 ^ (n - 1 - k) % 2
theorem hiN_snoc (l : List Nat) (b : Nat) : hiN (l ++ [b]) = 2 * hiN l + b := by simp [hiN]
theorem hiN_take (l : List Nat) (n b : Nat) (h : l[n]? = some b) : hiN (l.take (n + 1)) = 2 * hiN (l.take n) + b := by
  rw [List.take_add_one, h]; exact hiN_snoc _ _
theorem hiN_lt (l : List Nat) (hb : isBits l) : ∀ n, hiN (l.take n) < 2 ^ n
  | 0 => by simp [hiN]
  | n + 1 => by
    have ih := hiN_lt l hb n
    rw [Nat.pow_succ]
    cases h : l[n]? with
    | none =>
      have hl := List.getElem?_eq_none_iff.1 h
      rw [List.take_of_length_le (by omega)]
      rw [List.take_of_length_le hl] at ih
      omega
    | some b =>
      rw [hiN_take l n b h]
      have := hb b (List.mem_of_getElem? h)
      omega
theorem hiN_div (l : List Nat) (hb : isBits l) (n : Nat) : ∀ d, n + d ≤ l.length → hiN (l.take (n + d)) / 2 ^ d = hiN (l.take n)
  | 0, _ => by simp
  | d + 1, h => by
    have ih := hiN_div l hb n d (by omega)
    have hg : l[n + d]? = some l[n + d] := List.getElem?_eq_getElem _
    have hbb := hb _ (List.mem_of_getElem? hg)
    rw [← Nat.add_assoc, hiN_take l (n + d) _ hg, Nat.pow_succ, Nat.mul_comm (2 ^ d) 2, ← Nat.div_div_eq_div_mul, show (2 * hiN (l.take (n + d)) + l[n + d]) / 2 = hiN (l.take (n + d)) by omega]
    exact ih
theorem hiBits_length (n c : Nat) : (hiBits n c).length = n := by simp [hiBits]
theorem hiBits_isBits (n c : Nat) : isBits (hiBits n c) := by
  intro b hb
  obtain ⟨k, _, rfl⟩ := List.mem_map.1 hb
  have := Nat.mod_lt (c / 2 ^ (n - 1 - k)) (show 0 < 2 by decide)
  omega
theorem hiN_hiBits (n c : Nat) : ∀ k, k ≤ n → hiN ((hiBits n c).take k) = c / 2 ^ (n - k) % 2 ^ k
  | 0, _ => by simp [hiN, Nat.mod_one]
  | k + 1, h => by
    have hg : (hiBits n c)[k]? = some (c / 2 ^ (n - 1 - k) % 2) := by simp [hiBits, show k < n by omega]
    rw [hiN_take _ _ _ hg, hiN_hiBits n c k (by omega), show n - 1 - k = n - (k + 1) by omega, show n - k = (n - (k + 1)) + 1 by omega, Nat.pow_succ 2 (n - (k + 1)), ← Nat.div_div_eq_div_mul]
    generalize c / 2 ^ (n - (k + 1)) = x
    have h1 := Nat.mod_mul_right_div_self x 2 (2 ^ k)
    have h2 := Nat.mod_mul_right_mod x 2 (2 ^ k)
    have h3 := Nat.div_add_mod (x % (2 * 2 ^ k)) 2
    rw [Nat.pow_succ, Nat.mul_comm (2 ^ k) 2]
    omega
theorem hiN_code (n c : Nat) (hc : c < 2 ^ n) (rest : List Nat) : hiN ((hiBits n c ++ rest).take n) = c := by
  rw [List.take_append_of_le_length (by rw [hiBits_length]; omega), hiN_hiBits n c n (Nat.le_refl _), Nat.sub_self, Nat.pow_zero, Nat.div_one, Nat.mod_eq_of_lt hc]
def lng (l : List Int) : Nat := l.foldr (fun a m => max a.toNat m) 0
theorem lng_le (l : List Int) : ∀ a ∈ l, a.toNat ≤ lng l := by
  induction l with
  | nil => simp
  | cons b l ih =>
    intro a ha
    show a.toNat ≤ max b.toNat (lng l)
    rcases List.mem_cons.1 ha with rfl | ha
    · omega
    · have := ih a ha; omega
theorem lng_top (l : List Int) (n : Nat) (h : ∀ a ∈ l, a.toNat ≤ n) : lng l ≤ n := by
  induction l with
  | nil => exact Nat.zero_le _
  | cons b l ih =>
    have h1 := h b List.mem_cons_self
    have h2 := ih fun a ha => h a (List.mem_cons_of_mem _ ha)
    show max b.toNat (lng l) ≤ n
    omega
def Hit (l : List Int) (bs : List Nat) (i n : Nat) : Prop := l[i]? = some (n : Int) ∧ 1 ≤ n ∧ n ≤ bs.length ∧ hiN (bs.take n) = codeAt l i
theorem Hit.long {l : List Int} {bs : List Nat} {i n : Nat} (h : Hit l bs i n) : n ≤ lng l := by
  have := lng_le l _ (List.mem_of_getElem? h.1)
  simpa using this
theorem Hit.one {l : List Int} {bs : List Nat} (hb : isBits bs) (hl : ∀ a ∈ l, 0 ≤ a ∧ a ≤ 15) {i n j m : Nat} (h : Hit l bs i n) (h2 : Hit l bs j m) : i = j ∧ n = m := by
  have key : ∀ {i n j m : Nat}, Hit l bs i n → Hit l bs j m → n ≤ m → i = j := fun {i n j m} h h2 hnm => by
    by_cases e : j = i
    · exact e.symm
    · exfalso
      have hm := hl _ (List.mem_of_getElem? h2.1)
      have h3 := not_begin l i j n m h.1 h2.1 h.2.1 (by omega) hnm e
      apply h3
      rw [← h2.2.2.2, ← h.2.2.2]
      have := hiN_div bs hb n (m - n) (by have := h2.2.2.1; omega)
      rw [show n + (m - n) = m by omega] at this
      exact this
  have e : i = j := by
    rcases Nat.le_total n m with h3 | h3
    · exact key h h2 h3
    · exact (key h2 h h3).symm
  subst e
  have := h.1.symm.trans h2.1
  simp only [Option.some.injEq] at this
  exact ⟨rfl, by omega⟩
theorem Hit.written {l : List Int} (hs : sumOf l ≤ 32768) {i n : Nat} (h : l[i]? = some (n : Int)) (hn : 1 ≤ n) (hn2 : n ≤ 15) (rest : List Nat) : Hit l (hiBits n (codeAt l i) ++ rest) i n :=
  ⟨h, hn, by rw [List.length_append, hiBits_length]; omega, hiN_code n _ (code_fits l i n h hn hn2 hs) rest⟩
theorem Hit.whole {l : List Int} (hl : ∀ a ∈ l, 0 ≤ a ∧ a ≤ 15) (hs : sumOf l = 32768) {bs : List Nat} (hb : isBits bs) (hlen : lng l ≤ bs.length) : ∃ i n, Hit l bs i n := by
  have hb2 : isBits (bs ++ List.replicate 15 0) := by
    intro b h
    rcases List.mem_append.1 h with h | h
    · exact hb b h
    · have := List.eq_of_mem_replicate h; omega
  obtain ⟨x, hx⟩ : ∃ x, x = hiN ((bs ++ List.replicate 15 0).take 15) := ⟨_, rfl⟩
  have hx2 : x < 32768 := by rw [hx]; exact hiN_lt _ hb2 15
  have h1 := one_hit l x hl hs hx2
  have h2 : ∃ i, i < l.length ∧ hit l x i = true := by
    by_cases hc : ∃ i, i < l.length ∧ hit l x i = true
    · exact hc
    · exfalso
      unfold hits at h1
      have : (List.range l.length).countP (hit l x) = 0 := by
        rw [List.countP_eq_zero]
        intro i hi hh
        exact hc ⟨i, List.mem_range.1 hi, hh⟩
      omega
  obtain ⟨i, hi, hh⟩ := h2
  have hg : l[i]? = some l[i] := List.getElem?_eq_getElem hi
  have hr := hl _ (List.mem_of_getElem? hg)
  obtain ⟨p, hp⟩ := Int.eq_ofNat_of_zero_le hr.1
  rw [hp] at hg
  have hp15 : p ≤ 15 := by omega
  by_cases hp0 : p = 0
  · subst hp0
    rw [hit_zero l x i hg] at hh; cases hh
  · rw [hit_len l x i p hg (by omega) hp15, decide_eq_true_eq] at hh
    have hpl := lng_le l _ (List.mem_of_getElem? hg)
    have hpb : p ≤ bs.length := by simp at hpl; omega
    refine ⟨i, p, hg, by omega, hpb, ?_⟩
    rw [← hh, hx]
    have := hiN_div (bs ++ List.replicate 15 0) hb2 p (15 - p) (by simp; omega)
    rw [show p + (15 - p) = 15 by omega, List.take_append_of_le_length hpb] at this
    exact this.symm
def ReadIs (l : List Int) (bs : List Nat) (k n e : Nat) : Prop :=
  (e = 0 ∧ Hit l bs k n) ∨ (k = 0 ∧ n = 0 ∧ (∀ i m, ¬ Hit l bs i m) ∧ e = if bs.length < lng l ∨ bs = [] then 5 else 3)
theorem ReadIs.one {l : List Int} {bs : List Nat} (hb : isBits bs) (hl : ∀ a ∈ l, 0 ≤ a ∧ a ≤ 15) {k n e k2 n2 e2 : Nat} (h : ReadIs l bs k n e) (h2 : ReadIs l bs k2 n2 e2) : k = k2 ∧ n = n2 ∧ e = e2 := by
  rcases h with ⟨rfl, h⟩ | ⟨rfl, rfl, h, rfl⟩ <;> rcases h2 with ⟨rfl, h2⟩ | ⟨rfl, rfl, h2, rfl⟩
  · obtain ⟨a, b⟩ := h.one hb hl h2
    exact ⟨a, b, rfl⟩
  · exact absurd h (h2 _ _)
  · exact absurd h2 (h _ _)
  · exact ⟨rfl, rfl, rfl⟩
theorem ReadIs.errs {l : List Int} {bs : List Nat} {k n e : Nat} (h : ReadIs l bs k n e) : e = 0 ∨ e = 3 ∨ e = 5 := by
  rcases h with ⟨rfl, _⟩ | ⟨_, _, _, rfl⟩
  · exact .inl rfl
  · split
    · exact .inr (.inr rfl)
    · exact .inr (.inl rfl)
end Go.Proofs.YtbkbkmgogbgofaaDoor
/-
  The codes of lengths and distances: first values, extra bits, and the code of a value. No program is named here.
-/
namespace Go.Proofs.YtbkbkmgogbgofaaDoor
set_option maxRecDepth 5000
def sb (g c : Nat) : Nat := if c < g then c else (g + c % g) * 2 ^ (c / g - 1)
def sx (g c : Nat) : Nat := if c < g then 0 else c / g - 1
def lB (k : Nat) : Nat := if k = 28 then 258 else 3 + sb 4 k
def lX (k : Nat) : Nat := if k = 28 then 0 else sx 4 k
def dB (k : Nat) : Nat := 1 + sb 2 k
def dX (k : Nat) : Nat := sx 2 k
theorem lX_le : ∀ k, k < 29 → lX k ≤ 5 := by decide +kernel
theorem dX_le : ∀ k, k < 30 → dX k ≤ 13 := by decide +kernel
theorem lB_le : ∀ k, k < 29 → 3 ≤ lB k ∧ lB k ≤ 258 := by decide +kernel
theorem dB_le : ∀ k, k < 30 → 1 ≤ dB k ∧ dB k ≤ 24577 := by decide +kernel
end Go.Proofs.YtbkbkmgogbgofaaDoor
/-
  The program's codes of lengths and distances.
-/
namespace Go.Proofs.YtbkbkmgogbgofaaDoor
set_option maxRecDepth 5000
open Go.RowKit
theorem start_any (c g : Nat) (hc : c < 1000) (hg : 1 ≤ g) (hg2 : g ≤ 4) (he : c / g ≤ 15) (w : World) :
    Calls Tryd.prog 91 #[.int .i64 (c : Int), .int .i64 (g : Int)] w fun e w' => e = .returned (.tuple #[.int .i64 ((sb g c : Nat) : Int), .int .i64 ((sx g c : Nat) : Int)]) ∧ w = w' := by
  have hc0 : (0 : Int) ≤ (c : Int) := Int.natCast_nonneg _
  have hg0 : (0 : Int) ≤ (g : Int) := Int.natCast_nonneg _
  rcases Nat.lt_or_ge c g with h | h
  · have e1 : sb g c = c := if_pos h
    have e2 : sx g c = 0 := if_pos h
    rw [e1, e2]
    have hI : (c : Int) < (g : Int) := by omega
    go_enter Tryd.func91, Tryd.ntmps91
    go_wp2
    go_ret2
    exact ⟨rfl, rfl⟩
  · have hI : ¬ (c : Int) < (g : Int) := by omega
    obtain ⟨x, hx⟩ : ∃ x, x = c / g - 1 := ⟨_, rfl⟩
    obtain ⟨r, hr⟩ : ∃ r, r = c % g := ⟨_, rfl⟩
    have e1 : sb g c = (g + r) * 2 ^ x := by rw [hr, hx]; exact if_neg (by omega)
    have e2 : sx g c = x := by rw [hx]; exact if_neg (by omega)
    rw [e1, e2]
    have hrg : r < g := by rw [hr]; exact Nat.mod_lt _ (by omega)
    have hx14 : x ≤ 14 := by omega
    have h1 : 1 ≤ c / g := (Nat.le_div_iff_mul_le (by omega)).2 (by omega)
    have hq : (c : Int) / (g : Int) - 1 = (x : Int) := by rw [hx]; omega
    have hm : (c : Int) % (g : Int) = (r : Int) := by rw [hr]; rfl
    have hgz : ¬ (g : Int) = 0 := by omega
    have hx0 : (0 : Int) ≤ (x : Int) := Int.natCast_nonneg _
    have hr0 : (0 : Int) ≤ (r : Int) := Int.natCast_nonneg _
    obtain ⟨y, hy⟩ : ∃ y, y = (g + r) * 2 ^ x := ⟨_, rfl⟩
    rw [← hy]
    have hyI : ((g : Int) + (r : Int)) * 2 ^ x = (y : Int) := by rw [hy]; push_cast; rfl
    have hyb : y ≤ 8 * 2 ^ 14 := by rw [hy]; exact Nat.mul_le_mul (by omega) (Nat.pow_le_pow_right (by decide) hx14)
    have hw : wrap64 (((g : Int) + (r : Int)) * 2 ^ x) = (y : Int) := by rw [hyI]; unfold wrap64; omega
    clear hx hr e1 e2 hyI hy hyb
    go_enter Tryd.func91, Tryd.ntmps91
    go_wp2
    go_ret2
    exact ⟨rfl, rfl⟩
def lensOf (code : Int) : Value := if code < 257 ∨ 285 < code then .tuple #[.int .i64 0, .int .i64 0, .bool false] else .tuple #[.int .i64 ((lB (code - 257).toNat : Nat) : Int), .int .i64 ((lX (code - 257).toNat : Nat) : Int), .bool true]
def distsOf (code : Int) : Value := if code < 0 ∨ 30 ≤ code then .tuple #[.int .i64 0, .int .i64 0, .bool false] else .tuple #[.int .i64 ((dB code.toNat : Nat) : Int), .int .i64 ((dX code.toNat : Nat) : Int), .bool true]
theorem lens_at (k : Nat) (hk : k < 29) : lensOf ((257 + k : Nat) : Int) = .tuple #[.int .i64 ((lB k : Nat) : Int), .int .i64 ((lX k : Nat) : Int), .bool true] := by
  unfold lensOf
  rw [if_neg (by omega), show (((257 + k : Nat) : Int) - 257).toNat = k by omega]
theorem dists_at (k : Nat) (hk : k < 30) : distsOf (k : Int) = .tuple #[.int .i64 ((dB k : Nat) : Int), .int .i64 ((dX k : Nat) : Int), .bool true] := by
  unfold distsOf
  rw [if_neg (by omega), Int.toNat_natCast]
theorem lenBase_any (code : Int) (w : World) :
    Calls Tryd.prog 75 #[.int .i64 code] w fun e w' => e = .returned (lensOf code) ∧ w = w' := by
  rcases (by omega : code < 257 ∨ 285 < code ∨ code = 285 ∨ (257 ≤ code ∧ code < 285)) with h | h | rfl | ⟨h1, h2⟩
  · have e : lensOf code = .tuple #[.int .i64 0, .int .i64 0, .bool false] := if_pos (.inl h)
    rw [e]
    clear e
    go_enter Tryd.func75, Tryd.ntmps75
    go_wp2
    go_ret3
    exact ⟨rfl, rfl⟩
  · have e : lensOf code = .tuple #[.int .i64 0, .int .i64 0, .bool false] := if_pos (.inr h)
    rw [e]
    have h0 : ¬ code < 257 := by omega
    clear e
    go_enter Tryd.func75, Tryd.ntmps75
    go_wp2
    go_ret3
    exact ⟨rfl, rfl⟩
  · have e : lensOf 285 = .tuple #[.int .i64 258, .int .i64 0, .bool true] := by
      have := lens_at 28 (by decide)
      rw [show lB 28 = 258 by decide, show lX 28 = 0 by decide] at this
      exact this
    rw [e]
    clear e
    go_enter Tryd.func75, Tryd.ntmps75
    go_wp2
    go_ret3
    exact ⟨rfl, rfl⟩
  · obtain ⟨k, rfl⟩ : ∃ k : Nat, code = ((257 + k : Nat) : Int) := ⟨(code - 257).toNat, by omega⟩
    have hk : k < 28 := by omega
    rw [lens_at k (by omega)]
    have e1 : lB k = 3 + sb 4 k := if_neg (by omega)
    have e2 : lX k = sx 4 k := if_neg (by omega)
    rw [e1, e2]
    have hb : sb 4 k ≤ 1000 := by have := (lB_le k (by omega)).2; omega
    have hkI : ((257 + k : Nat) : Int) - 257 = (k : Int) := by omega
    have hc1 : ((257 + k : Nat) : Int) ≠ 285 := by omega
    have HS := hid (start_any k 4 (by omega) (by decide) (by decide) (by omega) w)
    generalize sb 4 k = y at *
    generalize sx 4 k = x at *
    generalize ((257 + k : Nat) : Int) = code at *
    have hc3 : (code == 285) = false := by simp; omega
    have hc4 : ¬ code < 257 := by omega
    have hc5 : ¬ 285 < code := by omega
    have hy0 : (0 : Int) ≤ (y : Int) := Int.natCast_nonneg _
    clear e1 e2 h1 h2
    go_enter Tryd.func75, Tryd.ntmps75
    go_wp2_with fail
    refine HS.out.mono ?_
    rintro e w1 ⟨rfl, rfl⟩
    go_wp2
    go_ret3
    exact ⟨by push_cast; rfl, rfl⟩
theorem distBase_any (code : Int) (w : World) :
    Calls Tryd.prog 76 #[.int .i64 code] w fun e w' => e = .returned (distsOf code) ∧ w = w' := by
  rcases (by omega : code < 0 ∨ 30 ≤ code ∨ (0 ≤ code ∧ code < 30)) with h | h | ⟨h1, h2⟩
  · have e : distsOf code = .tuple #[.int .i64 0, .int .i64 0, .bool false] := if_pos (.inl h)
    rw [e]
    clear e
    go_enter Tryd.func76, Tryd.ntmps76
    go_wp2
    go_ret3
    exact ⟨rfl, rfl⟩
  · have e : distsOf code = .tuple #[.int .i64 0, .int .i64 0, .bool false] := if_pos (.inr h)
    rw [e]
    have h0 : ¬ code < 0 := by omega
    clear e
    go_enter Tryd.func76, Tryd.ntmps76
    go_wp2
    go_ret3
    exact ⟨rfl, rfl⟩
  · obtain ⟨k, rfl⟩ := Int.eq_ofNat_of_zero_le h1
    have hk : k < 30 := by omega
    rw [dists_at k hk]
    have e1 : dB k = 1 + sb 2 k := rfl
    have e2 : dX k = sx 2 k := rfl
    rw [e1, e2]
    have hb : sb 2 k ≤ 30000 := by have := (dB_le k hk).2; omega
    have HS := hid (start_any k 2 (by omega) (by decide) (by decide) (by omega) w)
    generalize sb 2 k = y at *
    generalize sx 2 k = x at *
    have hc4 : ¬ (k : Int) < 0 := by omega
    have hc5 : ¬ 30 ≤ (k : Int) := by omega
    have hy0 : (0 : Int) ≤ (y : Int) := Int.natCast_nonneg _
    clear e1 e2 h1 h2
    go_enter Tryd.func76, Tryd.ntmps76
    go_wp2_with fail
    refine HS.out.mono ?_
    rintro e w1 ⟨rfl, rfl⟩
    go_wp2
    go_ret3
    exact ⟨by push_cast; rfl, rfl⟩
end Go.Proofs.YtbkbkmgogbgofaaDoor
/-
  Several things that a call has made, held side by side: each lies in blocks of its own, all of them newer than the call's beginning. A step turns one of them and leaves the others as they are. No program is named here.
-/
namespace Go.Proofs.YtbkbkmgogbgofaaDoor
set_option maxRecDepth 5000
open Go.RowKit
def Res := World → (Nat → Prop) → Prop
def Res.Local (R : Res) : Prop := ∀ w w' F S, R w F → Mod w w' S → (∀ k, F k → ¬ S k) → R w' F
structure Thing where
  res : Res
  loc : res.Local
def HeldU (w0 w : World) : (Nat → Prop) → List Thing → Prop
  | _, [] => Mod w0 w (fun _ => False)
  | U, R :: Rs => ∃ F : Nat → Prop, R.res w F ∧ (∀ k, F k → w0.heap.size ≤ k ∧ k < w.heap.size ∧ ¬ U k) ∧ HeldU w0 w (fun k => U k ∨ F k) Rs
def Held (w0 w : World) (Rs : List Thing) : Prop := HeldU w0 w (fun _ => False) Rs
theorem HeldU.mod {w0 w : World} : ∀ {Rs : List Thing} {U : Nat → Prop}, HeldU w0 w U Rs → Mod w0 w (fun _ => False)
  | [], _, h => h
  | _ :: _, _, ⟨_, _, _, h⟩ => HeldU.mod h
theorem HeldU.less {w0 w : World} : ∀ {Rs : List Thing} {U V : Nat → Prop}, HeldU w0 w U Rs → (∀ k, V k → U k) → HeldU w0 w V Rs
  | [], _, _, h, _ => h
  | _ :: _, _, _, ⟨F, h1, h2, h3⟩, hv => ⟨F, h1, fun k hk => ⟨(h2 k hk).1, (h2 k hk).2.1, fun hV => (h2 k hk).2.2 (hv k hV)⟩, h3.less fun k hk => hk.imp (hv k) id⟩
theorem HeldU.more {w0 w : World} : ∀ {Rs : List Thing} {U V : Nat → Prop}, HeldU w0 w U Rs → (∀ k, V k → U k ∨ w.heap.size ≤ k) → HeldU w0 w V Rs
  | [], _, _, h, _ => h
  | _ :: _, U, V, ⟨F, h1, h2, h3⟩, hv => ⟨F, h1, fun k hk => ⟨(h2 k hk).1, (h2 k hk).2.1, fun hV => (hv k hV).elim (h2 k hk).2.2 (fun h => by have := (h2 k hk).2.1; omega)⟩,
      h3.more fun k hk => hk.elim (fun h => (hv k h).imp .inl id) (fun h => .inl (.inr h))⟩
theorem HeldU.step {w0 w w' : World} {S : Nat → Prop} (hm : Mod w w' S) : ∀ {Rs : List Thing} {U : Nat → Prop}, HeldU w0 w U Rs → (∀ k, S k → k < w.heap.size → w0.heap.size ≤ k) → (∀ k, S k → k < w.heap.size → U k) → HeldU w0 w' U Rs
  | [], _, h, h0, _ => by
    have hM : Mod w0 w (fun _ => False) := h
    exact hM.trans hm (fun k hk hs => absurd (h0 k hs (Nat.lt_of_lt_of_le hk hM.size)) (by omega))
  | R :: _, _, ⟨F, h1, h2, h3⟩, h0, hu =>
    ⟨F, R.loc w w' F S h1 hm (fun k hk hs => (h2 k hk).2.2 (hu k hs (h2 k hk).2.1)), fun k hk => ⟨(h2 k hk).1, Nat.lt_of_lt_of_le (h2 k hk).2.1 hm.size, (h2 k hk).2.2⟩,
      h3.step hm h0 fun k hs hk => .inl (hu k hs hk)⟩
theorem Held.mod {w0 w : World} {Rs : List Thing} (h : Held w0 w Rs) : Mod w0 w (fun _ => False) := HeldU.mod h
theorem Held.start (w : World) : Held w w [] := Mod.refl w _
theorem Held.take {w0 w : World} {R : Thing} {Rs : List Thing} (h : Held w0 w (R :: Rs)) :
    ∃ F : Nat → Prop, R.res w F ∧ (∀ k, F k → w0.heap.size ≤ k ∧ k < w.heap.size) ∧
      ∀ (w' : World) (R' : Thing) (F' : Nat → Prop), R'.res w' F' → Mod w w' F → (∀ k, F' k → F k ∨ w.heap.size ≤ k) → (∀ k, F' k → k < w'.heap.size) → Held w0 w' (R' :: Rs) := by
  obtain ⟨F, h1, h2, h3⟩ := h
  refine ⟨F, h1, fun k hk => ⟨(h2 k hk).1, (h2 k hk).2.1⟩, fun w' R' F' hR hm hF hlt => ⟨F', hR, fun k hk => ⟨?_, hlt k hk, fun h => h⟩, ?_⟩⟩
  · rcases hF k hk with hf | hf
    · exact (h2 k hf).1
    · exact Nat.le_trans (HeldU.mod h3).size hf
  · have h4 := (h3.more (V := fun k => (False ∨ F k) ∨ F' k) fun k hk => by
      rcases hk with hk | hk
      · exact .inl hk
      · rcases hF k hk with hf | hf
        · exact .inl (.inr hf)
        · exact .inr hf).step hm (fun k hk _ => (h2 k hk).1) (fun k hk _ => .inl (.inr hk))
    exact h4.less fun k hk => by
      rcases hk with hk | hk
      · exact hk.elim
      · exact .inr hk
theorem Held.push {w0 w w' : World} {Rs : List Thing} (h : Held w0 w Rs) (R : Thing) (F : Nat → Prop) (hR : R.res w' F) (hm : Mod w w' (fun _ => False)) (hF : ∀ k, F k → w.heap.size ≤ k ∧ k < w'.heap.size) : Held w0 w' (R :: Rs) := by
  refine ⟨F, hR, fun k hk => ⟨Nat.le_trans (HeldU.mod h).size (hF k hk).1, (hF k hk).2, fun h => h⟩, ?_⟩
  exact ((HeldU.more h (V := fun k => False ∨ F k) fun k hk => by
    rcases hk with hk | hk
    · exact hk.elim
    · exact .inr (hF k hk).1)).step hm (fun _ h => h.elim) (fun _ h => h.elim)
theorem Held.same {w0 w w' : World} {Rs : List Thing} (h : Held w0 w Rs) (hm : Mod w w' (fun _ => False)) : Held w0 w' Rs := HeldU.step hm h (fun _ h => h.elim) (fun _ h => h.elim)
theorem Held.alloc {w0 w : World} {Rs : List Thing} (h : Held w0 w Rs) (o : Obj) : Held w0 (w.alloc o) Rs := h.same ((Mod.refl w _).alloc o)
theorem Held.drew {w0 w : World} {Rs : List Thing} (h : Held w0 w Rs) : Held w0 w.drew Rs := h.same (Mod.refl w _).drew
theorem Held.drewN {w0 w : World} {Rs : List Thing} (h : Held w0 w Rs) (n : Nat) : Held w0 (w.drewN n) Rs := h.same ((Mod.refl w _).drewN n)
theorem Held.drop {w0 w : World} {R : Thing} {Rs : List Thing} (h : Held w0 w (R :: Rs)) : Held w0 w Rs := by
  obtain ⟨F, h1, h2, h3⟩ := h
  exact h3.less fun _ h => h.elim
theorem HeldU.swap {w0 w : World} {R1 R2 : Thing} {Rs : List Thing} {U : Nat → Prop} (h : HeldU w0 w U (R1 :: R2 :: Rs)) : HeldU w0 w U (R2 :: R1 :: Rs) := by
  obtain ⟨F1, h1, h2, F2, h3, h4, h5⟩ := h
  refine ⟨F2, h3, fun k hk => ⟨(h4 k hk).1, (h4 k hk).2.1, fun hu => (h4 k hk).2.2 (.inl hu)⟩, F1, h1, fun k hk => ⟨(h2 k hk).1, (h2 k hk).2.1, fun hu => ?_⟩, h5.less fun k hk => ?_⟩
  · rcases hu with hu | hu
    · exact (h2 k hk).2.2 hu
    · exact (h4 k hu).2.2 (.inr hk)
  · rcases hk with (hk | hk) | hk
    · exact .inl (.inl hk)
    · exact .inr hk
    · exact .inl (.inr hk)
theorem HeldU.perm {w0 w : World} {Rs Rs' : List Thing} (hp : Rs.Perm Rs') : ∀ {U : Nat → Prop}, HeldU w0 w U Rs → HeldU w0 w U Rs' := by
  induction hp with
  | nil => exact fun h => h
  | cons x _ ih => exact fun ⟨F, h1, h2, h3⟩ => ⟨F, h1, h2, ih h3⟩
  | swap x y l => exact fun h => HeldU.swap h
  | trans _ _ ih1 ih2 => exact fun h => ih2 (ih1 h)
theorem Held.perm {w0 w : World} {Rs Rs' : List Thing} (h : Held w0 w Rs) (hp : Rs.Perm Rs') : Held w0 w Rs' := HeldU.perm hp h
theorem Held.swap {w0 w : World} {R1 R2 : Thing} {Rs : List Thing} (h : Held w0 w (R1 :: R2 :: Rs)) : Held w0 w (R2 :: R1 :: Rs) := HeldU.swap h
theorem Held.third {w0 w : World} {R1 R2 R3 : Thing} {Rs : List Thing} (h : Held w0 w (R1 :: R2 :: R3 :: Rs)) : Held w0 w (R3 :: R1 :: R2 :: Rs) :=
  h.perm ((List.Perm.cons R1 (List.Perm.swap R3 R2 Rs)).trans (List.Perm.swap R3 R1 (R2 :: Rs)))
theorem Held.fourth {w0 w : World} {R1 R2 R3 R4 : Thing} {Rs : List Thing} (h : Held w0 w (R1 :: R2 :: R3 :: R4 :: Rs)) : Held w0 w (R4 :: R1 :: R2 :: R3 :: Rs) :=
  h.perm (((List.Perm.cons R1 ((List.Perm.cons R2 (List.Perm.swap R4 R3 Rs)).trans (List.Perm.swap R4 R2 (R3 :: Rs))))).trans (List.Perm.swap R4 R1 (R2 :: R3 :: Rs)))
theorem Held.old {w0 w : World} {Rs : List Thing} (h : Held w0 w Rs) {size : Nat} {v : Value} {n : Nat} {xs : List Value} (hv : Rd w0 size v n xs) : Rd w size v n xs := hv.kept h.mod (fun _ _ h => h)
/-! ### A slice of the call's own -/
def ownT (e : TypeId) (size : Nat) (v : Value) (n : Nat) (xs : List Value) : Thing where
  res := fun w F => Own w e size v n xs ∧ ∀ k, F k ↔ v.ownBlock = some k
  loc := fun _ _ _ _ h hm hS => ⟨h.1.kept hm (fun k hk => hS k ((h.2 k).2 hk)), h.2⟩
theorem Held.own {w0 w : World} {e : TypeId} {size : Nat} {v : Value} {n : Nat} {xs : List Value} {Rs : List Thing} (h : Held w0 w (ownT e size v n xs :: Rs)) : Own w e size v n xs := by
  obtain ⟨F, h1, _⟩ := h
  exact h1.1
theorem Held.fresh {w0 w : World} {e : TypeId} {size : Nat} {v : Value} {n : Nat} {xs : List Value} {Rs : List Thing} (h : Held w0 w (ownT e size v n xs :: Rs)) : ∀ k, v.ownBlock = some k → w0.heap.size ≤ k := by
  obtain ⟨F, h1, h2, _⟩ := h
  exact fun k hk => (h2 k ((h1.2 k).2 hk)).1
theorem Held.nil {w0 w : World} {Rs : List Thing} (h : Held w0 w Rs) (e : TypeId) (size : Nat) : Held w0 w (ownT e size (.slice none 0 0) 0 [] :: Rs) :=
  h.push _ (fun _ => False) ⟨Own.nil w e size, fun k => by simp [Value.ownBlock]⟩ (Mod.refl w _) (fun _ h => h.elim)
theorem Held.lit {w0 w : World} {Rs : List Thing} (h : Held w0 w Rs) (e : TypeId) (size : Nat) (cs : List Value) (n : Nat) (hm : n ≤ maxLen) (hs : cs.length = n * size) :
    Held w0 (w.alloc (.cells cs.toArray e)) (ownT e size (.slice (some ⟨w.heap.size, 0, none⟩) n n) n cs :: Rs) :=
  h.push _ (fun k => k = w.heap.size) ⟨Own.lit w cs n hm hs, fun k => by simp [Value.ownBlock, eq_comm]⟩ ((Mod.refl w _).alloc _) (fun k hk => by subst hk; exact ⟨Nat.le_refl _, by simp⟩)
theorem Held.app {w0 w w' : World} {e : TypeId} {size : Nat} {v v' : Value} {n n' : Nat} {xs xs' : List Value} {Rs : List Thing} (h : Held w0 w (ownT e size v n xs :: Rs)) (hown : Own w' e size v' n' xs') (hgrow : w.grownBy w' v.ownBlock)
    (hat : v'.ownBlock = v.ownBlock ∨ v'.ownBlock = some w.heap.size) : Held w0 w' (ownT e size v' n' xs' :: Rs) := by
  obtain ⟨F, h1, h2, back⟩ := h.take
  refine back w' _ (fun k => v'.ownBlock = some k) ⟨hown, fun k => Iff.rfl⟩ ((Mod.refl w F).grown hgrow fun k hk => .inr ((h1.2 k).2 hk)) (fun k hk => ?_) hown.lt
  rcases hat with ha | ha
  · exact .inl ((h1.2 k).2 (ha ▸ hk))
  · rw [ha] at hk; injection hk with hk; exact .inr (by omega)
theorem Held.pushOwn {w0 w w' : World} {Rs : List Thing} {e : TypeId} {size : Nat} {v : Value} {n : Nat} {xs : List Value} (h : Held w0 w Rs) (hown : Own w' e size v n xs) (hm : Mod w w' (fun _ => False)) (hfr : ∀ k, v.ownBlock = some k → w.heap.size ≤ k) :
    Held w0 w' (ownT e size v n xs :: Rs) :=
  h.push _ (fun k => v.ownBlock = some k) ⟨hown, fun _ => Iff.rfl⟩ hm (fun k hk => ⟨hfr k hk, hown.lt k hk⟩)
theorem Held.recut {w0 w : World} {e : TypeId} {size : Nat} {v v' : Value} {n n' : Nat} {xs xs' : List Value} {Rs : List Thing} (h : Held w0 w (ownT e size v n xs :: Rs)) (hown : Own w e size v' n' xs') (hb : v'.ownBlock = v.ownBlock) : Held w0 w (ownT e size v' n' xs' :: Rs) := by
  obtain ⟨F, h1, h2, back⟩ := h.take
  exact back w _ F ⟨hown, fun k => by rw [hb]; exact h1.2 k⟩ (Mod.refl w F) (fun k hk => .inl hk) (fun k hk => (h2 k hk).2)
/-! ### A whole object -/
def objT (B : Nat) (cs : List Value) (T : TypeId) : Thing where
  res := fun w F => Blk w B cs T ∧ ∀ k, F k ↔ k = B
  loc := fun _ _ _ _ h hm hS => ⟨h.1.kept hm (hS B ((h.2 B).2 rfl)), h.2⟩
theorem Held.obj {w0 w : World} {B : Nat} {cs : List Value} {T : TypeId} {Rs : List Thing} (h : Held w0 w (objT B cs T :: Rs)) : Blk w B cs T := by
  obtain ⟨F, h1, _⟩ := h
  exact h1.1
theorem Held.newObj {w0 w : World} {Rs : List Thing} (h : Held w0 w Rs) (cs : List Value) (T : TypeId) : Held w0 (w.alloc (.cells cs.toArray T)) (objT w.heap.size cs T :: Rs) :=
  h.push _ (fun k => k = w.heap.size) ⟨Blk.new w cs T, fun _ => Iff.rfl⟩ ((Mod.refl w _).alloc _) (fun k hk => by subst hk; exact ⟨Nat.le_refl _, by simp⟩)
theorem Held.setObj {w0 w : World} {B : Nat} {cs : List Value} {T : TypeId} {Rs : List Thing} (h : Held w0 w (objT B cs T :: Rs)) (i : Nat) (u : Value) : Held w0 (w.setCell ⟨B, i, none⟩ u) (objT B (cs.set i u) T :: Rs) := by
  obtain ⟨F, h1, h2, back⟩ := h.take
  exact back _ _ F ⟨h1.1.set i u, h1.2⟩ ((Mod.refl w F).setCell (p := ⟨B, i, none⟩) (.inr ((h1.2 B).2 rfl)) u) (fun k hk => .inl hk) (fun k hk => by simpa [World.setCell] using (h2 k hk).2)
end Go.Proofs.YtbkbkmgogbgofaaDoor
