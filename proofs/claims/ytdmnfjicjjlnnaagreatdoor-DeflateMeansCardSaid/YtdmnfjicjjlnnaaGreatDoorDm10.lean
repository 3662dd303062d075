/-
  An encoder told as functions of its data ('EncS'): what it writes is read as its data, by what a finder and a writer of blocks are to do. No program is named here.
-/
import Derived.Test.YtdmnfjicjjlnnaaGreatDoorDm09
import Derived.Test.YtdmnfjicjjlnnaaGreatDoorDm03
import Derived.Maps.Own
import Derived.Maps.OwnOps
import Derived.DeepKeys4
import Derived.WalkSpells
namespace Go.Proofs.YtdmnfjicjjlnnaaGreatDoor
set_option maxRecDepth 5000
structure EncS (St : Type) where
  f : St
  raw : List Nat
  list : List Tok
  told : Nat
  acc : List Nat
  packs : Bool
section
variable {St : Type} (F : Nat → List Tok → List Nat → Nat → List Nat)
def encTell (s : EncS St) (t : Tok) : EncS St := { s with list := s.list ++ [t], told := s.told + adv t }
def encBlock (last : Bool) (s : EncS St) : EncS St := { s with raw := s.raw.drop s.told, list := [], told := 0, acc := s.acc ++ bitsOne F s.packs s.list (s.raw.take s.told) last s.acc.length }
def encStep (s : EncS St) (t : Tok) : EncS St := if 16384 ≤ (encTell s t).told then encBlock F false (encTell s t) else encTell s t
def encToks (s : EncS St) (ts : List Tok) : EncS St := ts.foldl (encStep F) s
def encGap (s : EncS St) : EncS St := { s with acc := s.acc ++ blkBits F 0 [] [] false s.acc.length }
def encTake (s : EncS St) : EncS St := { s with acc := s.acc.drop (8 * (bytesOf s.acc).length) }
end
def partAt (b : List Nat) (i : Nat) : List Nat := (b.drop (16384 * i)).take 16384
section
variable (M : MatchM) (F : Nat → List Tok → List Nat → Nat → List Nat)
def encStart (lev : Int) : EncS M.St := ⟨M.start lev, [], [], 0, [], decide (0 < lev)⟩
def encAdd (s : EncS M.St) (b : List Nat) : EncS M.St := { s with f := M.write s.f b, raw := s.raw ++ b }
def encMore (e : Bool) (s : EncS M.St) : EncS M.St := encToks F { s with f := (M.toks s.f e).1 } (M.toks s.f e).2
def encUpto (s : EncS M.St) (b : List Nat) : Nat → EncS M.St
  | 0 => s
  | i + 1 => encMore M F false (encAdd M (encUpto s b i) (partAt b i))
def partsOf (n : Nat) : Nat := (n + 16383) / 16384
def encWrite (s : EncS M.St) (b : List Nat) : EncS M.St := encUpto M F s b (partsOf b.length)
def encEnd (s : EncS M.St) : EncS M.St := if 0 < (encMore M F true s).told then encBlock F false (encMore M F true s) else encMore M F true s
def encFlush (s : EncS M.St) : EncS M.St := encGap F (encEnd M F s)
def encClose (s : EncS M.St) : List Nat := evened (encBlock F true (encMore M F true s)).acc
def wholeF (b : List Nat) (lev : Int) : List Nat := bytesOf (encClose M F (encWrite M F (encStart M lev) b))
end
/-! ### What holds between two blocks -/
structure EncMid {St : Type} (x : List Nat) (Q : Nat) (s : EncS St) (T : List Nat) (e P : Nat) (ks ss : List Nat) : Prop where
  sum : P + s.told = Q
  le : Q ≤ x.length
  raw : s.raw = x.drop P
  byt : byteOK s.list
  ex : expT (x.take P) s.list = (0, x.take Q)
  ch : Chain x.length (T ++ s.acc) (x.take P) ks ss
  zero : s.packs = false → ∀ k ∈ ks, k = 0
  size : (T ++ s.acc).length ≤ 8 * P + 42 * ks.length
  cnt : 16384 * ks.length ≤ P + 16384 * e
  even : T.length % 8 = 0
theorem expT_allSound : ∀ (l : List Tok) (acc : List Nat), (expT acc l).1 = 0 → allSound l
  | [], _, _ => fun _ h => by cases h
  | t :: r, acc, h => by
    rw [expT_cons] at h
    split at h
    · rename_i h0
      intro x hx
      rcases List.mem_cons.1 hx with rfl | hx
      · unfold stepT at h0
        split at h0
        · simp at h0
        · simpa using ‹¬ soundB x = false›
      · exact expT_allSound r _ h x hx
    · contradiction
theorem stepT_adv {acc : List Nat} {t : Tok} (h : (stepT acc t).1 = 0) : (stepT acc t).2.length = acc.length + adv t := by
  unfold stepT at h ⊢
  split <;> rename_i c1
  · rw [if_pos c1] at h; simp at h
  · rw [if_neg c1] at h
    have hs : soundB t = true := by simpa using c1
    split <;> rename_i c2
    · rw [if_pos c2] at h
      split <;> rename_i c3
      · rw [if_pos c3] at h; simp at h
      · unfold adv; rw [c2]; simp
    · have := sound_match hs c2
      rw [if_neg c2] at h
      split <;> rename_i c3
      · rw [if_pos c3] at h; simp at h
      · rw [if_neg c3] at h
        split <;> rename_i c4
        · rw [if_pos c4] at h; simp at h
        · simp only [ext_length]; unfold adv; omega
theorem take_eq_of_pre {x y : List Nat} {A : Nat} (h : y <+: x.take A) : y = x.take y.length := by
  have h1 := List.prefix_iff_eq_take.1 h
  rw [List.take_take, Nat.min_eq_left (by have := h.length_le; rw [List.length_take] at this; omega)] at h1
  exact h1
section
variable {St : Type} {F : Nat → List Tok → List Nat → Nat → List Nat} {x : List Nat} {Q e P : Nat} {s : EncS St} {T ks ss : List Nat}
theorem tell_on {t : Tok} {r : List Tok} {A : Nat} (hQ : Q ≤ x.length) (h : expT (x.take Q) (t :: r) = (0, x.take A)) (hA : A ≤ x.length) :
    stepT (x.take Q) t = (0, x.take (Q + adv t)) ∧ expT (x.take (Q + adv t)) r = (0, x.take A) ∧ Q + adv t ≤ A := by
  rw [expT_cons] at h
  by_cases h0 : (stepT (x.take Q) t).1 = 0
  · rw [if_pos h0] at h
    have hl := stepT_adv h0
    rw [List.length_take, Nat.min_eq_left hQ] at hl
    have hp := expT_pre r _ (by rw [h])
    rw [h] at hp
    have hle : (stepT (x.take Q) t).2.length ≤ A := by
      have := hp.length_le
      have h2 : (x.take A).length ≤ A := by rw [List.length_take]; omega
      exact Nat.le_trans this h2
    have he := take_eq_of_pre hp
    rw [hl] at he
    refine ⟨Prod.ext h0 he, ?_, by omega⟩
    rw [← he]; exact h
  · rw [if_neg h0] at h; simp at h; exact absurd h.1 h0
theorem mid_tell (h : EncMid x Q s T e P ks ss) {t : Tok} {r : List Tok} {A : Nat} (hx : expT (x.take Q) (t :: r) = (0, x.take A)) (hA : A ≤ x.length) (hb : 0 ≤ t.1 ∧ t.1 ≤ 255) :
    EncMid x (Q + adv t) (encTell s t) T e P ks ss ∧ expT (x.take (Q + adv t)) r = (0, x.take A) ∧ Q + adv t ≤ A := by
  obtain ⟨h1, h2, h3⟩ := tell_on h.le hx hA
  refine ⟨⟨?_, by omega, h.raw, ?_, ?_, h.ch, h.zero, h.size, h.cnt, h.even⟩, h2, h3⟩
  · show P + (s.told + adv t) = _
    have := h.sum; omega
  · intro u hu
    rcases List.mem_append.1 hu with hu | hu
    · exact h.byt u hu
    · simp at hu; subst hu; exact hb
  · show expT (x.take P) (s.list ++ [t]) = _
    rw [expT_app, h.ex, if_pos rfl, expT_cons, h1, if_pos rfl]; rfl
theorem mid_part (h : EncMid x Q s T e P ks ss) (hr : ∀ b ∈ x, b < 256) (ht : s.told ≤ 16642) : (s.raw.take s.told).length = s.told ∧ x.take P ++ s.raw.take s.told = x.take Q ∧ (∀ b ∈ s.raw.take s.told, b < 256) ∧ allSound s.list ∧ s.list.length < 1048576 ∧ s.told ≤ s.raw.length := by
  have h1 := h.sum
  have h2 := h.le
  have hl : s.told ≤ s.raw.length := by rw [h.raw, List.length_drop]; omega
  refine ⟨by rw [List.length_take]; omega, ?_, fun b hb => ?_, expT_allSound _ _ (by rw [h.ex]), ?_, hl⟩
  · rw [h.raw, ← h1, List.take_add]
  · have := List.mem_of_mem_take hb
    rw [h.raw] at this
    exact hr b (List.mem_of_mem_drop this)
  · have h3 := expT_grow _ _ _ h.ex
    rw [List.length_take, List.length_take] at h3
    omega
theorem out_same {kind P Q : Nat} {l' l : List Tok} {raw : List Nat} (h : l' = l ∨ kind = 0 ∧ l' = []) (hraw : x.take P ++ raw = x.take Q) (he : expT (x.take P) l = (0, x.take Q)) : ∃ o, expT (x.take P) l' = (0, o) ∧ outOf kind raw (x.take P) o = x.take Q ∧ o.length ≤ x.length := by
  rcases h with rfl | ⟨rfl, rfl⟩
  · refine ⟨_, he, ?_, by rw [List.length_take]; omega⟩
    unfold outOf; split
    · exact hraw
    · rfl
  · exact ⟨_, rfl, hraw, by rw [List.length_take]; omega⟩
theorem mid_block (HF : BlkLaw F) (h : EncMid x Q s T e P ks ss) (hr : ∀ b ∈ x, b < 256) (ht : s.told ≤ 16642) (d : Nat) (hd : 16384 ≤ s.told + 16384 * d) :
    ∃ ks' ss', EncMid x Q (encBlock F false s) T (e + d) Q ks' ss' := by
  obtain ⟨h1, h2, h3, h4, h5, h6⟩ := mid_part h hr ht
  have hs := h.sum
  have hle := h.le
  obtain ⟨kind, l', bs, hk, hz, hl, hB, hE, hS⟩ := one_is HF (packs := s.packs) h.byt h3 (by omega) h4 h5 false (T ++ s.acc).length
  obtain ⟨o, ho, hout, hol⟩ := out_same hl h2 h.ex
  have hE2 : bitsOne F s.packs s.list (s.raw.take s.told) false s.acc.length = bitsOf 3 (2 * kind) ++ bs := by
    rw [bitsOne_place HF (b := (T ++ s.acc).length) (by rw [List.length_append]; have := h.even; omega), hE]
    congr 2
    exact Nat.zero_add _
  have hc := Chain.snoc (T ++ s.acc) (x.take P) ks ss kind l' _ bs o h.ch hk hB ho hol (by rw [List.length_take, h1]; omega) (by rw [hout, List.length_take, List.length_take]; omega)
  rw [hout] at hc
  have hacc : T ++ (encBlock F false s).acc = T ++ s.acc ++ (bitsOf 3 (2 * kind) ++ bs) := by
    show T ++ (s.acc ++ _) = _
    rw [hE2, List.append_assoc]
  refine ⟨_, _, ⟨(by simp [encBlock]), hle, ?_, (fun _ h => by cases h), rfl, (by rw [hacc]; exact hc), ?_, ?_, ?_, h.even⟩⟩
  · show s.raw.drop s.told = _
    rw [h.raw, List.drop_drop, hs]
  · intro hp k hk
    rcases List.mem_append.1 hk with hk | hk
    · exact h.zero hp k hk
    · simp at hk; subst hk; exact hz hp
  · rw [hacc]
    have := h.size
    simp only [List.length_append, bitsOf_length, List.length_cons, List.length_nil] at this ⊢
    omega
  · have := h.cnt
    simp only [List.length_append, List.length_cons, List.length_nil]
    omega
theorem mid_step (HF : BlkLaw F) (hr : ∀ b ∈ x, b < 256) (h : EncMid x Q s T e P ks ss) (ht : s.told < 16384) {t : Tok} {r : List Tok} {A : Nat} (hx : expT (x.take Q) (t :: r) = (0, x.take A)) (hA : A ≤ x.length) (hb : 0 ≤ t.1 ∧ t.1 ≤ 255) :
    ∃ P' ks' ss', EncMid x (Q + adv t) (encStep F s t) T e P' ks' ss' ∧ (encStep F s t).told < 16384 ∧ expT (x.take (Q + adv t)) r = (0, x.take A) ∧ Q + adv t ≤ A := by
  obtain ⟨h1, h2, h3⟩ := mid_tell h hx hA hb
  unfold encStep
  by_cases hc : 16384 ≤ (encTell s t).told
  · rw [if_pos hc]
    have h4 : (encTell s t).told ≤ 16642 := by
      have h5 := (tell_on h.le hx hA).1
      have h6 : adv t ≤ 258 := by
        by_cases hs : soundB t = true
        · by_cases h0 : t.2.1 = 0
          · unfold adv; omega
          · have := sound_match hs h0
            unfold adv; omega
        · rw [stepT_bad (by simpa using hs)] at h5; cases h5
      show s.told + adv t ≤ _
      omega
    obtain ⟨ks', ss', h7⟩ := mid_block HF h1 hr h4 0 (by omega)
    exact ⟨_, ks', ss', h7, by show (0 : Nat) < _; omega, h2, h3⟩
  · rw [if_neg hc]
    exact ⟨_, _, _, h1, by omega, h2, h3⟩
theorem mid_toks (HF : BlkLaw F) (hr : ∀ b ∈ x, b < 256) {A : Nat} (hA : A ≤ x.length) : ∀ (r : List Tok) {Q P : Nat} {s : EncS St} {ks ss : List Nat}, EncMid x Q s T e P ks ss → s.told < 16384 → expT (x.take Q) r = (0, x.take A) → byteOK r →
    ∃ P' ks' ss', EncMid x A (encToks F s r) T e P' ks' ss' ∧ (encToks F s r).told < 16384
  | [], Q, P, s, ks, ss, h, ht, hx, _ => by
    have : Q = A := by
      have h1 : x.take Q = x.take A := (congrArg Prod.snd hx)
      have h2 := congrArg List.length h1
      rw [List.length_take, List.length_take] at h2
      have := h.le
      omega
    subst this
    exact ⟨_, _, _, h, ht⟩
  | t :: r, Q, P, s, ks, ss, h, ht, hx, hb => by
    obtain ⟨P', ks', ss', h1, h2, h3, h4⟩ := mid_step HF hr h ht hx hA (hb t (List.mem_cons_self ..))
    exact mid_toks HF hr hA r h1 h2 h3 fun u hu => hb u (List.mem_cons_of_mem _ hu)
end
/-! ### What holds of an encoder -/
def atOf (M : MatchM) (f : M.St) : Nat := (M.inp f).length - M.wait f
structure EncInv (M : MatchM) (x : List Nat) (s : EncS M.St) (T : List Nat) (e : Nat) : Prop where
  ok : M.Ok s.f
  inp : M.inp s.f = x
  byt : ∀ b ∈ x, b < 256
  low : s.told < 16384
  mid : ∃ P ks ss, EncMid x (atOf M s.f) s T e P ks ss
section
variable {M : MatchM} {F : Nat → List Tok → List Nat → Nat → List Nat} {x : List Nat} {s : EncS M.St} {T : List Nat} {e : Nat}
theorem at_of (L : MatchLaws M) {f : M.St} (h : M.Ok f) (hm : (M.inp f).length ≤ most) : atOf M f ≤ (M.inp f).length ∧ expT [] (M.outs f) = (0, (M.inp f).take (atOf M f)) := ⟨Nat.sub_le _ _, (L.means f h hm).2⟩
theorem at_same {x y : List Nat} {a b : Nat} {o : List Tok} (ha : a ≤ x.length) (hb : b ≤ y.length) (h1 : expT [] o = (0, x.take a)) (h2 : expT [] o = (0, y.take b)) : a = b := by
  have := congrArg List.length (congrArg Prod.snd (h1.symm.trans h2))
  simp only [List.length_take] at this
  omega
theorem inv_start (lev : Int) (L : MatchLaws M) : EncInv M [] (encStart M lev) [] 0 := by
  have h0 := L.inp_start lev
  have h1 : atOf M (encStart M lev).f = 0 := by
    unfold atOf
    rw [show (encStart M lev).f = M.start lev from rfl, h0]
    exact Nat.zero_sub _
  refine ⟨L.ok_start lev, h0, (fun b h => by cases h), (by show (0 : Nat) < _; omega), 0, [], [], ?_⟩
  rw [h1]
  exact ⟨rfl, Nat.le_refl _, rfl, (fun _ h => by cases h), rfl, .nil, (fun _ k h => by cases h), Nat.zero_le _, Nat.zero_le _, rfl⟩
theorem inv_add (L : MatchLaws M) (h : EncInv M x s T e) (b : List Nat) (hb : ∀ c ∈ b, c < 256) (hl : x.length + b.length ≤ most) : EncInv M (x ++ b) (encAdd M s b) T e := by
  have hin : M.inp (M.write s.f b) = x ++ b := by rw [L.inp_write, h.inp]
  have hok := L.ok_write s.f b h.ok hb (by rw [h.inp]; unfold most at hl; omega)
  have h1 := at_of L h.ok (by rw [h.inp]; omega)
  have h2 := at_of L hok (by rw [hin, List.length_append]; exact hl)
  rw [L.outs_write, hin] at h2
  rw [h.inp] at h1
  have h3 := at_same h1.1 h2.1 h1.2 h2.2
  obtain ⟨P, ks, ss, hm⟩ := h.mid
  have hP : P ≤ x.length := by have := hm.sum; have := hm.le; omega
  refine ⟨hok, hin, fun c hc => (List.mem_append.1 hc).elim (h.byt c) (hb c), h.low, P, ks, ss, ?_⟩
  show EncMid (x ++ b) (atOf M (M.write s.f b)) _ T e P ks ss
  rw [← h3]
  refine ⟨hm.sum, by rw [List.length_append]; have := hm.le; omega, ?_, hm.byt, ?_, ?_, hm.zero, hm.size, hm.cnt, hm.even⟩
  · show s.raw ++ b = _
    rw [hm.raw, List.drop_append_of_le_length hP]
  · show expT ((x ++ b).take P) s.list = _
    rw [List.take_append_of_le_length hP, List.take_append_of_le_length h1.1]
    exact hm.ex
  · rw [List.take_append_of_le_length hP]
    exact hm.ch.more (by rw [List.length_append]; omega)
theorem inv_more (L : MatchLaws M) (HF : BlkLaw F) (h : EncInv M x s T e) (b : Bool) (hl : x.length ≤ most) : EncInv M x (encMore M F b s) T e := by
  have hin : M.inp (M.toks s.f b).1 = x := by rw [L.inp_toks, h.inp]
  have hok := L.ok_toks s.f b h.ok
  have h1 := at_of L h.ok (by rw [h.inp]; exact hl)
  have h2 := at_of L hok (by rw [hin]; exact hl)
  rw [L.outs_toks, hin] at h2
  rw [h.inp] at h1
  rw [expT_app, h1.2, if_pos rfl] at h2
  obtain ⟨P, ks, ss, hm⟩ := h.mid
  have hbk : byteOK (M.toks s.f b).2 := by
    have := L.bytes _ hok
    rw [L.outs_toks] at this
    exact fun t ht => this t (List.mem_append_right _ ht)
  have hm2 : EncMid x (atOf M s.f) { s with f := (M.toks s.f b).1 } T e P ks ss := ⟨hm.sum, hm.le, hm.raw, hm.byt, hm.ex, hm.ch, hm.zero, hm.size, hm.cnt, hm.even⟩
  obtain ⟨P', ks', ss', h3, h4⟩ := mid_toks HF h.byt h2.1 _ hm2 h.low h2.2 hbk
  have hf : ∀ (r : List Tok) (u : EncS M.St), (encToks F u r).f = u.f := by
    intro r
    induction r with
    | nil => exact fun _ => rfl
    | cons t r ih =>
      intro u
      show (encToks F (encStep F u t) r).f = _
      rw [ih]
      unfold encStep
      split <;> rfl
  have hf2 : (encMore M F b s).f = (M.toks s.f b).1 := hf _ _
  exact ⟨by rw [hf2]; exact hok, by rw [hf2]; exact hin, h.byt, h4, P', ks', ss', by rw [hf2]; exact h3⟩
theorem part_len (b : List Nat) (i : Nat) : b.take (16384 * i) ++ partAt b i = b.take (16384 * (i + 1)) := by
  unfold partAt
  rw [Nat.mul_succ, List.take_add]
theorem inv_upto (L : MatchLaws M) (HF : BlkLaw F) (h : EncInv M x s T e) (b : List Nat) (hb : ∀ c ∈ b, c < 256) (hl : x.length + b.length ≤ most) : ∀ i, EncInv M (x ++ b.take (16384 * i)) (encUpto M F s b i) T e
  | 0 => by
    rw [Nat.mul_zero, List.take_zero, List.append_nil]
    exact h
  | i + 1 => by
    have ih := inv_upto L HF h b hb hl i
    rw [← part_len, ← List.append_assoc]
    have hp : ∀ c ∈ partAt b i, c < 256 := fun c hc => hb c (List.mem_of_mem_drop (List.mem_of_mem_take hc))
    have hle : (x ++ b.take (16384 * i)).length + (partAt b i).length ≤ most := by
      rw [← List.length_append, List.append_assoc, part_len, List.length_append, List.length_take]
      omega
    exact inv_more L HF (inv_add L ih (partAt b i) hp hle) false (by rw [List.length_append]; exact hle)
theorem inv_write (L : MatchLaws M) (HF : BlkLaw F) (h : EncInv M x s T e) (b : List Nat) (hb : ∀ c ∈ b, c < 256) (hl : x.length + b.length ≤ most) : EncInv M (x ++ b) (encWrite M F s b) T e := by
  have h1 := inv_upto L HF h b hb hl (partsOf b.length)
  rw [List.take_of_length_le (by unfold partsOf; omega)] at h1
  exact h1
theorem more_end (L : MatchLaws M) (HF : BlkLaw F) (h : EncInv M x s T e) (hl : x.length ≤ most) : ∃ P ks ss, EncMid x x.length (encMore M F true s) T e P ks ss := by
  obtain ⟨P, ks, ss, hm⟩ := (inv_more L HF h true hl).mid
  have hf : ∀ (r : List Tok) (u : EncS M.St), (encToks F u r).f = u.f := by
    intro r
    induction r with
    | nil => exact fun _ => rfl
    | cons t r ih =>
      intro u
      show (encToks F (encStep F u t) r).f = _
      rw [ih]
      unfold encStep
      split <;> rfl
  have hf2 : (encMore M F true s).f = (M.toks s.f true).1 := hf _ _
  have : atOf M (encMore M F true s).f = x.length := by
    unfold atOf
    rw [hf2, L.wait_end _ h.ok, L.inp_toks, h.inp, Nat.sub_zero]
  rw [this] at hm
  exact ⟨P, ks, ss, hm⟩
theorem inv_take (h : EncInv M x s T e) : EncInv M x (encTake s) (T ++ bits8 (bytesOf s.acc)) e ∧ T ++ s.acc = T ++ bits8 (bytesOf s.acc) ++ (encTake s).acc := by
  obtain ⟨P, ks, ss, hm⟩ := h.mid
  have hbits : isBits s.acc := fun b hb => hm.ch.bits01 b (List.mem_append_right _ hb)
  have hsplit : bits8 (bytesOf s.acc) ++ s.acc.drop (8 * (bytesOf s.acc).length) = s.acc := by
    have hl : (bytesOf s.acc).length = s.acc.length / 8 := bytesOf_length _
    have h8 : (s.acc.take (8 * (s.acc.length / 8))).length % 8 = 0 := by rw [List.length_take]; omega
    have h1 := bits8_bytesOf (s.acc.take (8 * (s.acc.length / 8))) (fun b hb => hbits b (List.mem_of_mem_take hb)) h8
    have h2 : bytesOf (s.acc.take (8 * (s.acc.length / 8))) = bytesOf s.acc := by
      have h3 := bytesOf_bits8 (bytesOf (s.acc.take (8 * (s.acc.length / 8)))) (s.acc.drop (8 * (s.acc.length / 8))) (bytesOf_lt _ fun b hb => hbits b (List.mem_of_mem_take hb)) (by rw [List.length_drop]; omega)
      rw [h1, List.take_append_drop] at h3
      exact h3.symm
    rw [h2] at h1
    rw [h1, hl, List.take_append_drop]
  have hE : T ++ s.acc = T ++ bits8 (bytesOf s.acc) ++ (encTake s).acc := by
    show _ = T ++ bits8 (bytesOf s.acc) ++ s.acc.drop _
    rw [List.append_assoc, hsplit]
  refine ⟨⟨h.ok, h.inp, h.byt, h.low, P, ks, ss, ⟨hm.sum, hm.le, hm.raw, hm.byt, hm.ex, ?_, hm.zero, ?_, hm.cnt, ?_⟩⟩, hE⟩
  · rw [← hE]; exact hm.ch
  · rw [← hE]; exact hm.size
  · rw [List.length_append, bits8_length]; have := hm.even; omega
theorem inv_flush (L : MatchLaws M) (HF : BlkLaw F) (h : EncInv M x s T e) (hl : x.length ≤ most) :
    EncInv M x (encFlush M F s) T (e + 2) ∧ (T ++ (encFlush M F s).acc).length % 8 = 0 ∧ (T ++ (encFlush M F s).acc).length ≤ 8 * x.length + 42 * (x.length / 16384 + e + 2) ∧
      ∀ N, x.length ≤ N → ∃ tk ks ss, inflF (T ++ (encFlush M F s).acc) N ((T ++ (encFlush M F s).acc).length + 1) 0 [] [] [] [] = ⟨5, (T ++ (encFlush M F s).acc).length, x, tk, ks, ss, 0⟩ := by
  obtain ⟨P, ks, ss, hm⟩ := more_end L HF h hl
  have hI := inv_more (F := F) L HF h true hl
  have h1 : ∃ P ks ss, EncMid x x.length (encEnd M F s) T (e + 1) P ks ss ∧ (encEnd M F s).told = 0 ∧ (encEnd M F s).f = (encMore M F true s).f := by
    unfold encEnd
    by_cases hc : 0 < (encMore M F true s).told
    · rw [if_pos hc]
      obtain ⟨ks', ss', h2⟩ := mid_block HF hm h.byt (by have := hI.low; omega) 1 (by omega)
      exact ⟨_, ks', ss', h2, rfl, rfl⟩
    · rw [if_neg hc]
      exact ⟨P, ks, ss, ⟨hm.sum, hm.le, hm.raw, hm.byt, hm.ex, hm.ch, hm.zero, hm.size, (by have := hm.cnt; omega), hm.even⟩, by omega, rfl⟩
  obtain ⟨P, ks, ss, hm, h0, hf⟩ := h1
  have hP : P = x.length := by have := hm.sum; omega
  subst hP
  generalize hu : encEnd M F s = u at *
  have hx : x.take x.length = x := List.take_of_length_le (Nat.le_refl _)
  have hch := hm.ch
  rw [hx] at hch
  have hbits : ∀ b, b ∈ ([] : List Nat) → b < 256 := fun b hb => by cases hb
  have hg := HF.good 0 [] [] ((T ++ u.acc).length + 3) (.inl ⟨rfl, by decide⟩) (fun _ hb => by cases hb) hbits
  have hs := hg.of_zero
  have hE : blkBits F 0 [] [] false u.acc.length = bitsOf 3 (2 * 0) ++ F 0 [] [] ((T ++ u.acc).length + 3) := by
    rw [blkBits_place HF (b := (T ++ u.acc).length) (by rw [List.length_append]; have := hm.even; omega)]
    rfl
  have hc := Chain.snoc (T ++ u.acc) x ks ss 0 [] [] _ x hch (by decide) hg rfl (Nat.le_refl _) (by simp) (by simp [outOf])
  have ho : outOf 0 [] x x = x := by simp [outOf]
  rw [ho] at hc
  have hacc : T ++ (encFlush M F s).acc = T ++ u.acc ++ (bitsOf 3 (2 * 0) ++ F 0 [] [] ((T ++ u.acc).length + 3)) := by
    unfold encFlush
    rw [hu]
    show T ++ (u.acc ++ _) = _
    rw [hE, List.append_assoc]
  have hlen : (T ++ (encFlush M F s).acc).length = evenF ((T ++ u.acc).length + 3) + 32 := by
    rw [hacc, hs]
    unfold storedBits
    simp only [List.length_append, List.length_replicate, bitsOf_length, bits8_length, List.length_nil]
    unfold evenF
    omega
  have hfu : (encFlush M F s).f = (encMore M F true s).f := by
    unfold encFlush; rw [hu]; exact hf
  have hat : atOf M (encFlush M F s).f = x.length := by
    rw [hfu]
    have h3 : ∀ (r : List Tok) (v : EncS M.St), (encToks F v r).f = v.f := by
      intro r
      induction r with
      | nil => exact fun _ => rfl
      | cons t r ih =>
        intro v
        show (encToks F (encStep F v t) r).f = _
        rw [ih]
        unfold encStep
        split <;> rfl
    have h4 : (encMore M F true s).f = (M.toks s.f true).1 := h3 _ _
    unfold atOf
    rw [h4, L.wait_end _ h.ok, L.inp_toks, h.inp, Nat.sub_zero]
  have hsz := hm.size
  have hcnt := hm.cnt
  refine ⟨⟨by rw [hfu]; exact hI.ok, by rw [hfu]; exact hI.inp, h.byt, ?_, x.length, ks ++ [0], ss ++ [x.length], ?_⟩, ?_, ?_, fun N hN => ?_⟩
  · show (encGap F (encEnd M F s)).told < _
    rw [hu]
    show u.told < _
    omega
  · rw [hat]
    refine ⟨?_, Nat.le_refl _, ?_, ?_, ?_, ?_, ?_, ?_, ?_, hm.even⟩
    · show x.length + (encGap F (encEnd M F s)).told = _
      rw [hu]; show x.length + u.told = _; omega
    · show (encGap F (encEnd M F s)).raw = _
      rw [hu]; exact hm.raw
    · show byteOK (encGap F (encEnd M F s)).list
      rw [hu]; exact hm.byt
    · show expT _ (encGap F (encEnd M F s)).list = _
      rw [hu]; exact hm.ex
    · rw [hacc, hx]; exact hc
    · intro hp k hk
      have hp2 : u.packs = false := by
        have : (encGap F (encEnd M F s)).packs = false := hp
        rw [hu] at this; exact this
      rcases List.mem_append.1 hk with hk | hk
      · exact hm.zero hp2 k hk
      · simpa using hk
    · rw [hlen]
      simp only [List.length_append, List.length_cons, List.length_nil] at hsz ⊢
      unfold evenF
      omega
    · simp only [List.length_append, List.length_cons, List.length_nil]
      omega
  · rw [hlen]; unfold evenF; omega
  · rw [hlen]; unfold evenF; omega
  · obtain ⟨tk, h5⟩ := hc.over hN
    rw [← hacc] at h5
    exact ⟨tk, _, _, h5⟩
theorem inv_close (L : MatchLaws M) (HF : BlkLaw F) (h : EncInv M x s T e) (hl : x.length ≤ most) :
    (T ++ encClose M F s).length % 8 = 0 ∧ isBits (T ++ encClose M F s) ∧ (T ++ encClose M F s).length ≤ 8 * x.length + 42 * (x.length / 16384 + e + 1) + 7 ∧
      ∀ N, x.length ≤ N → ∃ tk ks ss p, inflF (T ++ encClose M F s) N ((T ++ encClose M F s).length + 1) 0 [] [] [] [] = ⟨0, p, x, tk, ks, ss, (T ++ encClose M F s).length / 8⟩ ∧ ss.length = ks.length ∧ Gaps ss ∧ (s.packs = false → ∀ k ∈ ks, k = 0) ∧ ∀ v ∈ ss, v ≤ x.length := by
  obtain ⟨P, ks, ss, hm⟩ := more_end L HF h hl
  have hI := inv_more (F := F) L HF h true hl
  have hpk : ∀ (r : List Tok) (v : EncS M.St), (encToks F v r).packs = v.packs := by
    intro r
    induction r with
    | nil => exact fun _ => rfl
    | cons t r ih =>
      intro v
      show (encToks F (encStep F v t) r).packs = _
      rw [ih]
      unfold encStep
      split <;> rfl
  have hp2 : (encMore M F true s).packs = s.packs := hpk _ _
  unfold encClose
  generalize encMore M F true s = u at *
  have hlow := hI.low
  obtain ⟨h1, h2, h3, h4, h5, h6⟩ := mid_part hm h.byt (by omega)
  obtain ⟨kind, l', bs, hk, hz, hll, hB, hE, hS⟩ := one_is HF (packs := u.packs) hm.byt h3 (by omega) h4 h5 true (T ++ u.acc).length
  obtain ⟨o, ho, hout, hol⟩ := out_same hll h2 hm.ex
  have hx : x.take x.length = x := List.take_of_length_le (Nat.le_refl _)
  rw [hx] at hout
  have hE2 : (encBlock F true u).acc = u.acc ++ (bitsOf 3 (1 + 2 * kind) ++ bs) := by
    show u.acc ++ bitsOne F u.packs u.list (u.raw.take u.told) true u.acc.length = _
    rw [bitsOne_place HF (b := (T ++ u.acc).length) (by rw [List.length_append]; have := hm.even; omega), hE]
    rfl
  have hev : T ++ evened (encBlock F true u).acc = evened (T ++ u.acc ++ (bitsOf 3 (1 + 2 * kind) ++ bs)) := by
    rw [hE2, List.append_assoc T u.acc]
    have h8 : ∀ A : List Nat, T ++ evened A = evened (T ++ A) := fun A => by
      unfold evened
      rw [List.append_assoc, show (8 - (T ++ A).length % 8) % 8 = (8 - A.length % 8) % 8 by rw [List.length_append]; have := hm.even; omega]
    exact h8 _
  rw [hev]
  have hbits : isBits (T ++ u.acc ++ (bitsOf 3 (1 + 2 * kind) ++ bs)) := isBits_append hm.ch.bits01 (isBits_append (bitsOf_isBits _ _) hB.isBits)
  have hle : (evened (T ++ u.acc ++ (bitsOf 3 (1 + 2 * kind) ++ bs))).length ≤ (T ++ u.acc ++ (bitsOf 3 (1 + 2 * kind) ++ bs)).length + 7 := evened_le _
  have hXl : (T ++ u.acc ++ (bitsOf 3 (1 + 2 * kind) ++ bs)).length = (T ++ u.acc).length + 3 + bs.length := by
    simp only [List.length_append, bitsOf_length]; omega
  have hsz := hm.size
  have hcnt := hm.cnt
  have hsum := hm.sum
  refine ⟨evened_length _, evened_isBits hbits, by omega, fun N hN => ?_⟩
  obtain ⟨tk, h7⟩ := hm.ch.last hN hk hB ho (by omega) (by rw [List.length_take, h1]; omega)
  rw [hout] at h7
  refine ⟨tk, ks ++ [kind], ss ++ [x.length], (T ++ u.acc ++ (bitsOf 3 (1 + 2 * kind) ++ bs)).length, ?_, ?_, ?_, ?_, fun v hv => ?_⟩
  · rw [h7]
    congr 1
    have h8 := evened_octets (T ++ u.acc ++ (bitsOf 3 (1 + 2 * kind) ++ bs))
    rw [bytesOf_length] at h8
    exact h8.symm
  · simp only [List.length_append, List.length_cons, List.length_nil]
    have := hm.ch.count.2
    omega
  · refine gaps_snoc hm.ch.gaps.1 ?_
    rw [hm.ch.gaps.2, List.length_take]
    omega
  · intro hp k hk2
    rcases List.mem_append.1 hk2 with hk2 | hk2
    · exact hm.zero (hp2.trans hp) k hk2
    · simp at hk2; subst hk2; exact hz (hp2.trans hp)
  · rcases List.mem_append.1 hv with hv | hv
    · exact hm.ch.stops v hv
    · simp only [List.mem_singleton] at hv; omega
theorem whole_is (L : MatchLaws M) (HF : BlkLaw F) (b : List Nat) (lev : Int) (hb : ∀ c ∈ b, c < 256) (hl : b.length ≤ most) :
    bits8 (wholeF M F b lev) = encClose M F (encWrite M F (encStart M lev) b) ∧ (∀ c ∈ wholeF M F b lev, c < 256) ∧ (wholeF M F b lev).length ≤ b.length + 6 * (b.length / 16384 + 1) + 6 ∧
      ∀ N, b.length ≤ N → ∃ tk ks ss p, inflF (bits8 (wholeF M F b lev)) N ((bits8 (wholeF M F b lev)).length + 1) 0 [] [] [] [] = ⟨0, p, b, tk, ks, ss, (wholeF M F b lev).length⟩ ∧ ss.length = ks.length ∧ Gaps ss ∧ (lev ≤ 0 → ∀ k ∈ ks, k = 0) ∧ ∀ v ∈ ss, v ≤ b.length := by
  have h1 := inv_write (F := F) L HF (inv_start lev L) b hb (by simpa using hl)
  rw [List.nil_append] at h1
  obtain ⟨h2, h3, h4, h5⟩ := inv_close L HF h1 hl
  rw [List.nil_append] at h2 h3 h4 h5
  have h6 : bits8 (wholeF M F b lev) = encClose M F (encWrite M F (encStart M lev) b) := bits8_bytesOf _ h3 h2
  have hlen : (wholeF M F b lev).length = (encClose M F (encWrite M F (encStart M lev) b)).length / 8 := bytesOf_length _
  refine ⟨h6, bytesOf_lt _ h3, by omega, fun N hN => ?_⟩
  obtain ⟨tk, ks, ss, p, h7, h8, h9, h10, h11⟩ := h5 N hN
  rw [h6, hlen]
  refine ⟨tk, ks, ss, p, h7, h8, h9, fun hv => h10 ?_, h11⟩
  have hpk : ∀ (r : List Tok) (v : EncS M.St), (encToks F v r).packs = v.packs := by
    intro r
    induction r with
    | nil => exact fun _ => rfl
    | cons t r ih =>
      intro v
      show (encToks F (encStep F v t) r).packs = _
      rw [ih]
      unfold encStep
      split <;> rfl
  have : ∀ i, (encUpto M F (encStart M lev) b i).packs = decide (0 < lev) := by
    intro i
    induction i with
    | zero => rfl
    | succ i ih => exact (hpk _ _).trans ih
  show (encUpto M F (encStart M lev) b _).packs = false
  rw [this]
  exact decide_eq_false (by omega)
end
end Go.Proofs.YtdmnfjicjjlnnaaGreatDoor
/-
  A map that a call owns: what is stored at which key, told by a function; look-up, store, clear, make. No program is named here.
-/
namespace Go.Proofs.YtdmnfjicjjlnnaaGreatDoor
set_option maxRecDepth 5000
open Go.RowKit
section
variable {κ ε : Type} {P : Program} {k : TypeId}
structure KeyIs (P : Program) (k : TypeId) (kv : κ → Value) (ok : κ → Prop) : Prop where
  keyed : Go.Maps.Keyed P k
  is : ∀ s, ok s → ∃ l, keyOf P k (kv s) = some l
  inj : ∀ s s', kv s = kv s' → s = s'
def MapIs (kv : κ → Value) (ok : κ → Prop) (ev : ε → Value) (w : World) (b : Nat) (g : κ → Option ε) (n : Nat) : Prop :=
  ∃ es clock, w.heap[b]? = some (.map es clock) ∧ (∀ x ∈ es.toList, ∃ s p, ok s ∧ g s = some p ∧ x.key = kv s ∧ x.val = ev p) ∧ (∀ s p, ok s → g s = some p → ∃ x ∈ es.toList, x.key = kv s) ∧
    es.toList.Pairwise (fun x y => x.key ≠ y.key) ∧ es.size ≤ n
variable {kv : κ → Value} {ok : κ → Prop} {ev : ε → Value} {w : World} {b n : Nat} {g : κ → Option ε}
theorem MapIs.lt (h : MapIs kv ok ev w b g n) : b < w.heap.size := by
  obtain ⟨es, clock, hb, _⟩ := h
  exact (Array.getElem?_eq_some_iff.1 hb).1
theorem MapIs.kept (h : MapIs kv ok ev w b g n) {w' : World} {S : Nat → Prop} (hm : Mod w w' S) (hs : ¬ S b) : MapIs kv ok ev w' b g n := by
  have hl := h.lt
  obtain ⟨es, clock, hb, rest⟩ := h
  exact ⟨es, clock, (hm.block b hl hs).trans hb, rest⟩
theorem MapIs.look {t e : TypeId} {z : Value} (h : MapIs kv ok ev w b g n) (K : KeyIs P k kv ok) (ht : P.underlying t = some (.map k e)) (hz : (zeroValue e).run P w = .ok z w) (s : κ) (hs : ok s) :
    (Instr.lookup t (.map (some b)) (kv s) true).run P w = .ok (.tuple #[((g s).map ev).getD z, .bool (g s).isSome]) w := by
  obtain ⟨es, clock, hb, h1, h2, _, _⟩ := h
  obtain ⟨l, hl⟩ := K.is s hs
  have hk : ∀ x ∈ es.toList, ∃ l, keyOf P k x.key = some l := fun x hx => by
    obtain ⟨s', p, o1, _, o2, _⟩ := h1 x hx
    rw [o2]; exact K.is s' o1
  rcases K.keyed.find w hl es.toList hk with ⟨f1, f2⟩ | ⟨j, x, f1, f2, f3⟩
  · have hg : g s = none := by
      cases c : g s with
      | none => rfl
      | some p =>
        obtain ⟨x, hx, hxk⟩ := h2 s p hs c
        exact absurd hxk (f2 x hx)
    rw [hg]
    simp [Instr.lookup, run_underlying ht, MapKept.run_getObj_map hb, K.keyed.check w _ hl, f1, hz, Result.andThen]
  · obtain ⟨s', p, o1, o2, o3, o4⟩ := h1 x (List.mem_of_getElem? f2)
    have e : s' = s := K.inj _ _ (o3.symm.trans f3)
    subst e
    rw [o2]
    rw [o4] at f1
    simp [Instr.lookup, run_underlying ht, MapKept.run_getObj_map hb, K.keyed.check w _ hl, f1, Result.andThen]
theorem MapIs.store {t e : TypeId} (h : MapIs kv ok ev w b g n) (K : KeyIs P k kv ok) (ht : P.underlying t = some (.map k e)) (s : κ) (hs : ok s) (p : ε) (g' : κ → Option ε) (h1 : g' s = some p) (h2 : ∀ s', s' ≠ s → g' s' = g s') :
    ∃ w', (Instr.mapUpdate t (.map (some b)) (kv s) (ev p)).run P w = .ok () w' ∧ MapIs kv ok ev w' b g' (n + 1) ∧ Mod w w' (fun j => j = b) := by
  obtain ⟨es, clock, hb, k1, k2, k3, k4⟩ := h
  obtain ⟨l, hl⟩ := K.is s hs
  have hk : ∀ x ∈ es.toList, ∃ l, keyOf P k x.key = some l := fun x hx => by
    obtain ⟨s', p, o1, _, o2, _⟩ := k1 x hx
    rw [o2]; exact K.is s' o1
  have hmod : ∀ o, Mod w (ChangeMaps.setBlock w b o) (fun j => j = b) := fun o =>
    ⟨rfl, rfl, rfl, by simp [ChangeMaps.setBlock], fun j _ hj => ChangeMaps.heap_setBlock_other hb _ hj⟩
  rcases K.keyed.find w hl es.toList hk with ⟨f1, f2⟩ | ⟨j, x, f1, f2, f3⟩
  · refine ⟨ChangeMaps.setBlock w b (.map (es.push ⟨kv s, ev p, clock⟩) (clock + 1)), ?_, ⟨es.push ⟨kv s, ev p, clock⟩, clock + 1, ChangeMaps.heap_setBlock_same hb _, ?_, ?_, ?_, by simp; omega⟩, hmod _⟩
    · simp [Instr.mapUpdate, run_underlying ht, MapKept.run_getObj_map hb, K.keyed.check w false hl, f1, MapKept.run_setObj_map _ hb, Result.andThen, ChangeMaps.setBlock]
    · intro y hy
      simp only [Array.toList_push, List.mem_append, List.mem_singleton] at hy
      rcases hy with hy | rfl
      · obtain ⟨s', p', o1, o2, o3, o4⟩ := k1 y hy
        exact ⟨s', p', o1, by rw [h2 s' fun e => f2 y hy (by rw [o3, e])]; exact o2, o3, o4⟩
      · exact ⟨s, p, hs, h1, rfl, rfl⟩
    · intro s' p' o1 o2
      by_cases c : s' = s
      · subst c; exact ⟨⟨kv s', ev p, clock⟩, by simp, rfl⟩
      · obtain ⟨y, hy, hyk⟩ := k2 s' p' o1 (by rw [← h2 s' c]; exact o2)
        exact ⟨y, by simp only [Array.toList_push, List.mem_append]; exact .inl hy, hyk⟩
    · rw [Array.toList_push, List.pairwise_append]
      exact ⟨k3, List.pairwise_singleton _ _, fun a ha c hc => by
        simp only [List.mem_singleton] at hc; subst hc; exact f2 a ha⟩
  · have hj : es[j]? = some x := by simpa using f2
    have hjl : j < es.toList.length := (List.getElem?_eq_some_iff.1 f2).1
    have hlist : (es.modify j (fun e' => { e' with key := kv s, val := ev p })).toList = es.toList.set j { x with key := kv s, val := ev p } := by rw [Array.toList_modify, ChangeMaps.modify_eq_set _ _ _ _ f2]
    have hap := List.pairwise_iff_getElem.1 k3
    have other : ∀ i (hi : i < es.toList.length), i ≠ j → (es.toList[i]).key ≠ kv s := by
      intro i hi hne e
      have hx : es.toList[j] = x := (List.getElem?_eq_some_iff.1 f2).2
      rcases Nat.lt_or_gt_of_ne hne with c | c
      · exact hap i j hi hjl c (by rw [e, hx, f3])
      · exact hap j i hjl hi c (by rw [e, hx, f3])
    refine ⟨ChangeMaps.setBlock w b (.map (es.modify j (fun e' => { e' with key := kv s, val := ev p })) clock), ?_, ⟨es.modify j (fun e' => { e' with key := kv s, val := ev p }), clock, ChangeMaps.heap_setBlock_same hb _, ?_, ?_, ?_, by simp; omega⟩, hmod _⟩
    · simp [Instr.mapUpdate, run_underlying ht, MapKept.run_getObj_map hb, K.keyed.check w false hl, f1, hj, f3, K.keyed.stays w hl, MapKept.run_setObj_map _ hb, Result.andThen, ChangeMaps.setBlock]
    · intro y hy
      rw [hlist] at hy
      obtain ⟨i, hi, rfl⟩ := List.getElem_of_mem hy
      rw [List.length_set] at hi
      rw [List.getElem_set]
      by_cases c : j = i
      · rw [if_pos c]; exact ⟨s, p, hs, h1, rfl, rfl⟩
      · rw [if_neg c]
        obtain ⟨s', p', o1, o2, o3, o4⟩ := k1 _ (List.getElem_mem hi)
        exact ⟨s', p', o1, by rw [h2 s' fun e => other i hi (fun e2 => c e2.symm) (by rw [o3, e])]; exact o2, o3, o4⟩
    · intro s' p' o1 o2
      rw [hlist]
      by_cases c : s' = s
      · subst c
        exact ⟨_, List.mem_iff_getElem.2 ⟨j, by simpa using hjl, rfl⟩, by simp⟩
      · obtain ⟨y, hy, hyk⟩ := k2 s' p' o1 (by rw [← h2 s' c]; exact o2)
        obtain ⟨i, hi, rfl⟩ := List.getElem_of_mem hy
        have hij : j ≠ i := fun e => c (K.inj _ _ (by
          subst e
          have hx : es.toList[j] = x := (List.getElem?_eq_some_iff.1 f2).2
          rw [← hyk, hx, f3]))
        exact ⟨es.toList[i], List.mem_iff_getElem.2 ⟨i, by simpa using hi, by rw [List.getElem_set, if_neg hij]⟩, hyk⟩
    · rw [hlist, List.pairwise_iff_getElem]
      intro i i' hi hi' hlt
      rw [List.length_set] at hi hi'
      rw [List.getElem_set, List.getElem_set]
      split
      · rw [if_neg (by omega)]; exact fun e => other i' hi' (by omega) e.symm
      · split
        · exact other i hi (by omega)
        · exact hap i i' hi hi' hlt
theorem MapIs.clear {t e ty : TypeId} (h : MapIs kv ok ev w b g n) (ht : P.underlying t = some (.map k e)) :
    ∃ w', (Builtin.clear_ #[t] ty #[.map (some b)]).run P w = .ok (.tuple #[]) w' ∧ MapIs kv ok ev w' b (fun _ => none) 0 ∧ Mod w w' (fun j => j = b) := by
  obtain ⟨es, clock, hb, _⟩ := h
  refine ⟨ChangeMaps.setBlock w b (.map #[] clock), ?_, ⟨#[], clock, ChangeMaps.heap_setBlock_same hb _, by simp, by simp, by simp, Nat.le_refl _⟩, ⟨rfl, rfl, rfl, by simp [ChangeMaps.setBlock], fun j _ hj => ChangeMaps.heap_setBlock_other hb _ hj⟩⟩
  simp [Builtin.clear_, run_underlying ht, MapKept.run_getObj_map hb, MapKept.run_setObj_map _ hb, Result.andThen, ChangeMaps.setBlock]
theorem MapIs.made (w : World) : MapIs kv ok ev (w.alloc (.map #[] 0)) w.heap.size (fun _ => none) 0 :=
  ⟨#[], 0, (MapKept.heap_alloc w _).1, by simp, by simp, by simp, Nat.le_refl _⟩
def mapT (kv : κ → Value) (ok : κ → Prop) (ev : ε → Value) (v : Value) (g : κ → Option ε) (n : Nat) : Thing where
  res := fun w F => ∃ b, v = .map (some b) ∧ MapIs kv ok ev w b g n ∧ ∀ j, F j ↔ j = b
  loc := fun _ _ _ _ ⟨b, hv, h, hF⟩ hm hS => ⟨b, hv, h.kept hm (hS b ((hF b).2 rfl)), hF⟩
variable {w0 w' : World} {Rs : List Thing} {v : Value}
theorem Held.map (h : Held w0 w (mapT kv ok ev v g n :: Rs)) : ∃ b, v = .map (some b) ∧ MapIs kv ok ev w b g n := by
  obtain ⟨F, ⟨b, hv, h1, _⟩, _⟩ := h
  exact ⟨b, hv, h1⟩
theorem Held.putMap {g' : κ → Option ε} {n' : Nat} (h : Held w0 w (mapT kv ok ev (.map (some b)) g n :: Rs)) (h1 : MapIs kv ok ev w' b g' n') (hm : Mod w w' (fun j => j = b)) : Held w0 w' (mapT kv ok ev (.map (some b)) g' n' :: Rs) := by
  obtain ⟨F, ⟨b', hv, h2, hF⟩, h3, back⟩ := h.take
  simp only [Value.map.injEq, Option.some.injEq] at hv
  subst hv
  exact back w' _ F ⟨b, rfl, h1, hF⟩ (hm.mono fun j _ hj => (hF j).2 hj) (fun j hj => .inl hj) (fun j hj => Nat.lt_of_lt_of_le (h3 j hj).2 hm.size)
theorem Held.newMap (h : Held w0 w Rs) : Held w0 (w.alloc (.map #[] 0)) (mapT kv ok ev (.map (some w.heap.size)) (fun _ => none) 0 :: Rs) :=
  h.push _ (fun j => j = w.heap.size) ⟨_, rfl, MapIs.made w, fun _ => Iff.rfl⟩ ((Mod.refl w _).alloc _) (fun j hj => by subst hj; exact ⟨Nat.le_refl _, by simp⟩)
theorem Held.moreMap {n' : Nat} (h : Held w0 w (mapT kv ok ev v g n :: Rs)) (hn : n ≤ n') : Held w0 w (mapT kv ok ev v g n' :: Rs) := by
  obtain ⟨F, ⟨b, hv, ⟨es, clock, h1, h2, h3, h4, h5⟩, hF⟩, h6⟩ := h
  exact ⟨F, ⟨b, hv, ⟨es, clock, h1, h2, h3, h4, Nat.le_trans h5 hn⟩, hF⟩, h6⟩
theorem wpList_clear_held {t e : TypeId} {ops : Array Oper} {rest : List Oper} {o : Oper} {a : Act} {Q : Exit → Act → World → Prop} (hgd : o.guard = none) (x : Operand) (hop : o.op = .call { callee := .builtin .clear, args := #[x], argTypes := #[t] })
    (ht : P.underlying t = some (.map k e)) (hx : a.eval x = .map (some b)) (hh : Held w0 w (mapT kv ok ev (.map (some b)) g n :: Rs))
    (h : ∀ w', Held w0 w' (mapT kv ok ev (.map (some b)) (fun _ => none) 0 :: Rs) → wpList P ops Q rest (a.put o.dst (.tuple #[])) w') : wpList P ops Q (o :: rest) a w := by
  refine wpList_plain hgd fun K' hK' => ?_
  obtain ⟨b', hv, hM⟩ := hh.map
  simp only [Value.map.injEq, Option.some.injEq] at hv
  subst hv
  obtain ⟨w', hrun, r1, r2⟩ := hM.clear (ty := o.type) ht
  unfold Oper.wp execOp
  simp only [hop, resolve, invoke, builtin, Sem.run_bind, Sem.run_pure, Result.andThen_ok, List.map_toArray, List.map_cons, List.map_nil, hx, hrun]
  exact hK' _ _ (h w' (hh.putMap r1 r2))
end
end Go.Proofs.YtdmnfjicjjlnnaaGreatDoor
