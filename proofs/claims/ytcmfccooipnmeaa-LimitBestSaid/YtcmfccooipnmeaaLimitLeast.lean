/-
  The least cost by how many codes there are of each length: what the reference's table holds. No program is named here.
-/
import Derived.Test.YtcmfccooipnmeaaLimitMath
namespace Go.Proofs.Ytcmfccooipnmeaa

/-- The cost c can be had: the first i of the frequencies s have lengths of at most d, and o places of d bits are open. -/
inductive Has (s : List Nat) : Nat → Nat → Nat → Nat → Prop where
  | start : Has s 0 0 1 0
  | step {d i o c t : Nat} (h : Has s d i o c) (hi : i < s.length) (ho : 1 ≤ o) (ho2 : o ≤ s.length) (ht : t ≤ 2 * o) (hn : i + t ≤ s.length) (hl : 2 * o - t ≤ s.length) :
      Has s (d + 1) (i + t) (2 * o - t) (c + (d + 1) * total ((s.drop i).take t))
  | rest {d c : Nat} (h : Has s d s.length 0 c) : Has s (d + 1) s.length 0 c
theorem total_append (a b : List Nat) : total (a ++ b) = total a + total b := by
  induction a with
  | nil => simp [total]
  | cons x a ih => rw [List.cons_append, total, total, ih]; omega
theorem cst_same (d : Nat) : ∀ s : List Nat, cst (List.replicate s.length d) s = d * total s
  | [] => by simp [cst, total]
  | x :: s => by rw [List.length_cons, List.replicate_succ, cst, total, cst_same d s, Nat.mul_add]
/-- .. by lengths -/
theorem Has.lengths {s : List Nat} {d i o c : Nat} (h : Has s d i o c) (hd : d ≤ 15) :
    ∃ l : List Nat, l.length = i ∧ i ≤ s.length ∧ (∀ a ∈ l, 1 ≤ a ∧ a ≤ d) ∧ kr l + o * 2 ^ (15 - d) = 32768 ∧ cst l (s.take i) = c := by
  induction h with
  | start => exact ⟨[], rfl, Nat.zero_le _, by simp, by decide, by simp [cst]⟩
  | @step d i o c t h hi ho ho2 ht hn hl ih =>
    obtain ⟨l, h1, h2, h3, h4, h5⟩ := ih (by omega)
    have hlen : ((s.drop i).take t).length = t := by simp; omega
    refine ⟨l ++ List.replicate t (d + 1), by simp [h1], hn, fun a ha => ?_, ?_, ?_⟩
    · rcases List.mem_append.1 ha with ha | ha
      · have := h3 a ha; omega
      · have := List.eq_of_mem_replicate ha; omega
    · rw [kr_append, kr_flat (d + 1) (by omega) hd]
      rw [show 15 - d = (15 - (d + 1)) + 1 by omega, Nat.pow_succ] at h4
      generalize 2 ^ (15 - (d + 1)) = p at *
      have e1 : o * (p * 2) = 2 * o * p := by rw [Nat.mul_comm p 2, ← Nat.mul_assoc, Nat.mul_comm o 2]
      have e2 : t * p + (2 * o - t) * p = 2 * o * p := by rw [← Nat.add_mul, Nat.add_sub_cancel' ht]
      omega
    · have e : s.take (i + t) = s.take i ++ (s.drop i).take t := by rw [List.take_add]
      rw [e, cst_append _ _ _ _ (by simp; omega), h5]
      congr 1
      have := cst_same (d + 1) ((s.drop i).take t)
      rw [hlen] at this
      exact this
  | @rest d c h ih =>
    obtain ⟨l, h1, h2, h3, h4, h5⟩ := ih (by omega)
    exact ⟨l, h1, h2, fun a ha => by have := h3 a ha; omega, by simpa using h4, h5⟩
/-- lengths in order -/
def Up : List Nat → Prop
  | [] => True
  | a :: l => (∀ b ∈ l, a ≤ b) ∧ Up l
/-- how many are of at most d bits -/
def upto (d : Nat) (l : List Nat) : Nat := l.countP fun a => decide (a ≤ d)
theorem upto_cons (d a : Nat) (l : List Nat) : upto d (a :: l) = upto d l + (if a ≤ d then 1 else 0) := by
  unfold upto; rw [List.countP_cons]; simp
theorem upto_none {d : Nat} : ∀ {l : List Nat}, (∀ b ∈ l, d < b) → upto d l = 0
  | [], _ => rfl
  | a :: l, h => by rw [upto_cons, upto_none fun b hb => h b (List.mem_cons_of_mem _ hb), if_neg]; have := h a List.mem_cons_self; omega
theorem upto_le (d : Nat) (l : List Nat) : upto d l ≤ l.length := List.countP_le_length
theorem Up.take {d : Nat} : ∀ {l : List Nat}, Up l → ∀ a ∈ l.take (upto d l), a ≤ d
  | [], _ => by simp
  | x :: l, h => by
    intro a ha
    by_cases hx : x ≤ d
    · rw [upto_cons, if_pos hx, List.take_succ_cons] at ha
      rcases List.mem_cons.1 ha with ha | ha
      · omega
      · exact h.2.take a ha
    · have : upto d (x :: l) = 0 := upto_none fun b hb => by
        rcases List.mem_cons.1 hb with hb | hb
        · omega
        · have := h.1 b hb; omega
      rw [this] at ha; simp at ha
theorem Up.drop {d : Nat} : ∀ {l : List Nat}, Up l → ∀ a ∈ l.drop (upto d l), d < a
  | [], _ => by simp
  | x :: l, h => by
    intro a ha
    by_cases hx : x ≤ d
    · rw [upto_cons, if_pos hx, List.drop_succ_cons] at ha
      exact h.2.drop a ha
    · have : upto d (x :: l) = 0 := upto_none fun b hb => by
        rcases List.mem_cons.1 hb with hb | hb
        · omega
        · have := h.1 b hb; omega
      rw [this, List.drop_zero] at ha
      rcases List.mem_cons.1 ha with ha | ha
      · omega
      · have := h.1 a ha; omega
theorem Up.mid {d : Nat} : ∀ {l : List Nat}, Up l → ∃ t, upto (d + 1) l = upto d l + t ∧ (l.drop (upto d l)).take t = List.replicate t (d + 1)
  | [], _ => ⟨0, rfl, rfl⟩
  | x :: l, h => by
    obtain ⟨t, h1, h2⟩ := h.2.mid (d := d)
    by_cases hx : x ≤ d
    · refine ⟨t, ?_, ?_⟩
      · rw [upto_cons, upto_cons, if_pos hx, if_pos (by omega), h1]; omega
      · rw [upto_cons, if_pos hx, List.drop_succ_cons]; exact h2
    · have h0 : upto d (x :: l) = 0 := upto_none fun b hb => by
        rcases List.mem_cons.1 hb with hb | hb
        · omega
        · have := h.1 b hb; omega
      have h0' : upto d l = 0 := upto_none fun b hb => by have := h.1 b hb; omega
      by_cases hx2 : x = d + 1
      · subst hx2
        refine ⟨t + 1, ?_, ?_⟩
        · rw [h0, upto_cons, if_pos (Nat.le_refl _), h1, h0']; omega
        · rw [h0, List.drop_zero, List.take_succ_cons, List.replicate_succ]
          rw [h0', List.drop_zero] at h2
          rw [h2]
      · refine ⟨0, ?_, by simp⟩
        rw [h0, Nat.add_zero]
        exact upto_none fun b hb => by
          rcases List.mem_cons.1 hb with hb | hb
          · omega
          · have := h.1 b hb; omega
theorem kr_small (d : Nat) (hd : d ≤ 14) : ∀ l : List Nat, (∀ a ∈ l, d < a) → kr l ≤ l.length * 2 ^ (14 - d)
  | [], _ => by simp [kr]
  | a :: l, h => by
    have h1 := kr_small d hd l fun b hb => h b (List.mem_cons_of_mem _ hb)
    have h2 := h a List.mem_cons_self
    rw [kr, List.length_cons, Nat.add_mul, Nat.one_mul]
    have : wtN a ≤ 2 ^ (14 - d) := by
      unfold wtN
      split
      · exact Nat.pow_le_pow_right (by decide) (by omega)
      · exact Nat.zero_le _
    omega
theorem kr_some : ∀ l : List Nat, (∀ a ∈ l, 1 ≤ a ∧ a ≤ 15) → l ≠ [] → 0 < kr l
  | [], _, h => absurd rfl h
  | a :: l, h, _ => by
    have h1 := h a List.mem_cons_self
    have := wtN_pos a h1.1 h1.2
    have hp : 0 < 2 ^ (15 - a) := Nat.two_pow_pos _
    rw [kr]; omega
/-- Lengths in order have their way through the table. -/
theorem Up.has {s l : List Nat} (hl : l.length = s.length) (hs : 0 < s.length) (hu : Up l) (hr : ∀ a ∈ l, 1 ≤ a ∧ a ≤ 15) (hk : kr l = 32768) :
    ∀ d : Nat, d ≤ 15 → ∃ o : Nat, Has s d (upto d l) o (cst (l.take (upto d l)) (s.take (upto d l))) ∧ kr (l.take (upto d l)) + o * 2 ^ (15 - d) = 32768
  | 0, _ => by
    have h0 : upto 0 l = 0 := upto_none fun b hb => by have := hr b hb; omega
    rw [h0]
    exact ⟨1, by simpa [cst] using Has.start, by simp [kr]⟩
  | d + 1, hd => by
    obtain ⟨o, h1, h2⟩ := Up.has hl hs hu hr hk d (by omega)
    obtain ⟨t, ht1, ht2⟩ := hu.mid (d := d)
    have hsplit := List.take_append_drop (upto d l) l
    have hkk : kr (l.take (upto d l)) + kr (l.drop (upto d l)) = 32768 := by rw [← kr_append, hsplit]; exact hk
    have hp : 0 < 2 ^ (14 - d) := Nat.two_pow_pos _
    have e15 : 2 ^ (15 - d) = 2 ^ (14 - d) * 2 := by rw [← Nat.pow_succ]; congr 1; omega
    have hko : kr (l.drop (upto d l)) = 2 * o * 2 ^ (14 - d) := by
      rw [e15] at h2
      have : o * (2 ^ (14 - d) * 2) = 2 * o * 2 ^ (14 - d) := by rw [Nat.mul_comm (2 ^ (14 - d)) 2, ← Nat.mul_assoc, Nat.mul_comm o 2]
      omega
    have hdl : (l.drop (upto d l)).length = s.length - upto d l := by rw [List.length_drop, hl]
    have hsm := kr_small d (by omega) _ (hu.drop (d := d))
    rw [hko, hdl] at hsm
    have ho2 : 2 * o ≤ s.length - upto d l := Nat.le_of_mul_le_mul_right hsm hp
    have hul := upto_le d l
    have hul2 := upto_le (d + 1) l
    by_cases hi : upto d l < s.length
    · have ho : 1 ≤ o := by
        have h3 := kr_some (l.drop (upto d l)) (fun a ha => hr a (List.mem_of_mem_drop ha)) (by
          intro e
          have := congrArg List.length e
          rw [hdl] at this; simp at this; omega)
        rw [hko] at h3
        have := Nat.pos_of_mul_pos_right h3
        omega
      have htl : t ≤ (l.drop (upto d l)).length := by rw [List.length_drop]; omega
      have hkt : t * 2 ^ (14 - d) ≤ kr (l.drop (upto d l)) := by
        rw [← List.take_append_drop t (l.drop (upto d l)), kr_append, ht2, kr_flat (d + 1) (by omega) hd, show 15 - (d + 1) = 14 - d by omega]
        omega
      rw [hko] at hkt
      have ht : t ≤ 2 * o := Nat.le_of_mul_le_mul_right hkt hp
      have hstep := Has.step h1 hi ho (by omega) ht (by omega) (by omega)
      have etake : l.take (upto d l + t) = l.take (upto d l) ++ List.replicate t (d + 1) := by rw [List.take_add, ht2]
      have estake : s.take (upto d l + t) = s.take (upto d l) ++ (s.drop (upto d l)).take t := List.take_add
      refine ⟨2 * o - t, ?_, ?_⟩
      · rw [ht1, etake, estake, cst_append _ _ _ _ (by simp; omega)]
        have hsl : ((s.drop (upto d l)).take t).length = t := by simp; omega
        have h5 := cst_same (d + 1) ((s.drop (upto d l)).take t)
        rw [hsl] at h5
        rw [h5]
        exact hstep
      · rw [ht1, etake, kr_append, kr_flat (d + 1) (by omega) hd, show 15 - (d + 1) = 14 - d by omega]
        have e2 : t * 2 ^ (14 - d) + (2 * o - t) * 2 ^ (14 - d) = 2 * o * 2 ^ (14 - d) := by rw [← Nat.add_mul, Nat.add_sub_cancel' ht]
        omega
    · have hue : upto d l = s.length := by omega
      have ht0 : t = 0 := by omega
      subst ht0
      rw [Nat.add_zero] at ht1
      have ho0 : o = 0 := by omega
      subst ho0
      refine ⟨0, ?_, ?_⟩
      · rw [ht1, hue] at *
        exact Has.rest h1
      · rw [ht1]; simpa using h2
theorem Up.has_all {s l : List Nat} {m : Nat} (hl : l.length = s.length) (hs : 0 < s.length) (hu : Up l) (hr : ∀ a ∈ l, 1 ≤ a ∧ a ≤ m) (hm : m ≤ 15) (hk : kr l = 32768) : Has s m s.length 0 (cst l s) := by
  obtain ⟨o, h1, h2⟩ := Up.has hl hs hu (fun a ha => by have := hr a ha; omega) hk m hm
  have hue : upto m l = s.length := by
    rw [← hl]; unfold upto
    rw [List.countP_eq_length]
    intro a ha
    simpa using (hr a ha).2
  rw [hue, ← hl, List.take_length, hk] at h2
  have ho : o = 0 := by
    have hp : 0 < 2 ^ (15 - m) := Nat.two_pow_pos _
    have : o * 2 ^ (15 - m) = 0 := by omega
    rcases Nat.mul_eq_zero.1 this with h | h <;> omega
  subst ho
  rw [hue] at h1
  rw [List.take_length] at h1
  rw [← hl, List.take_length] at h1
  rw [← hl]; exact h1
end Go.Proofs.Ytcmfccooipnmeaa
