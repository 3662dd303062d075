/-
  What the program writes as a dynamic block, told as a function: the codes without their last zeros, the items that stand for their lengths, the third code; each block is one that is read as what it means. No program is named here.
-/
import Derived.Test.YthibpnkdhbkakaaGreatDoorZq13
import Derived.Test.YthibpnkdhbkakaaGreatDoorZq14
namespace Go.Proofs.YthibpnkdhbkakaaGreatDoor
set_option maxRecDepth 5000

/-! ### Lengths as a code that Check takes -/
def natI (l : List Nat) : List Int := l.map fun (n : Nat) => (n : Int)
theorem natI_length (l : List Nat) : (natI l).length = l.length := by simp [natI]
theorem natI_get (l : List Nat) (k : Nat) : (natI l)[k]? = (l[k]?).map fun (n : Nat) => (n : Int) := by simp [natI]
theorem check_of {l : List Int} {m : Nat} (hm : 1 ≤ m) (hm2 : m ≤ 15) (hl : l.length ≤ 288) (ha : ∀ a ∈ l, 0 ≤ a ∧ a ≤ (m : Int)) (hs : sumOf l = 0 ∨ sumOf l = 32768 ∨ sumOf l = 16384 ∧ l.count 1 = 1) : checkOf l (m : Int) = 0 := by
  unfold checkOf argBad
  rw [if_neg, if_pos hs]
  have h1 : decide ((m : Int) < 1 ∨ 15 < (m : Int) ∨ 288 < l.length) = false := by rw [decide_eq_false_iff_not]; omega
  have h2 : allIn l (m : Int) = true := (allIn_iff l m).2 ha
  rw [h1, h2]; decide
theorem check_is {l : List Int} {m : Nat} (h : checkOf l (m : Int) = 0) : l.length ≤ 288 ∧ (∀ a ∈ l, 0 ≤ a ∧ a ≤ (m : Int)) ∧ (sumOf l = 0 ∨ sumOf l = 32768 ∨ sumOf l = 16384 ∧ l.count 1 = 1) := by
  unfold checkOf at h
  split at h
  · cases h
  · rename_i hb
    split at h
    · rename_i hs
      simp only [argBad, Bool.or_eq_true, decide_eq_true_eq, Bool.not_eq_true', not_or, Bool.not_eq_false] at hb
      exact ⟨by omega, (allIn_iff l m).1 hb.2, hs⟩
    · cases h
/-- what the lengths of a best code are for some frequencies -/
structure LenFor (f : List Nat) (m : Nat) (l : List Nat) : Prop where
  len : l.length = f.length
  le : ∀ a ∈ l, a ≤ m
  sup : ∀ (i a b : Nat), l[i]? = some a → f[i]? = some b → (0 < a ↔ 0 < b)
  sum : kr l = 0 ∧ codedN f = 0 ∨ kr l = 32768 ∨ kr l = 16384 ∧ (natI l).count 1 = 1
theorem few_kr : ∀ (l f : List Nat), l.length = f.length → (∀ (i a b : Nat), l[i]? = some a → f[i]? = some b → a = if 0 < b then 1 else 0) → kr l = 16384 * codedN f ∧ (natI l).count 1 = codedN f ∧ ∀ a ∈ l, a ≤ 1
  | [], [], _, _ => ⟨rfl, rfl, fun _ h => by cases h⟩
  | [], _ :: _, h, _ => by simp at h
  | _ :: _, [], h, _ => by simp at h
  | a :: l, b :: f, h, hh => by
    obtain ⟨h1, h2, h3⟩ := few_kr l f (by simpa using h) fun i x y hx hy => hh (i + 1) x y hx hy
    have h0 := hh 0 a b rfl rfl
    have e : (natI (a :: l)).count 1 = (natI l).count 1 + (if a = 1 then 1 else 0) := by
      simp only [natI, List.map_cons, List.count_cons, beq_iff_eq]
      congr 1
      by_cases c : a = 1
      · subst c; rfl
      · rw [if_neg (by omega), if_neg c]
    rw [kr, codedN, h1, e, h2]
    by_cases c : 0 < b
    · rw [if_pos c] at h0 ⊢
      subst h0
      rw [show wtN 1 = 16384 by decide, if_pos rfl]
      exact ⟨by omega, by omega, fun x hx => by rcases List.mem_cons.1 hx with rfl | hx; exact Nat.le_refl _; exact h3 x hx⟩
    · rw [if_neg c] at h0 ⊢
      subst h0
      rw [wtN_zero, if_neg (by decide)]
      exact ⟨by omega, by omega, fun x hx => by rcases List.mem_cons.1 hx with rfl | hx; exact Nat.zero_le _; exact h3 x hx⟩
theorem LenOK.for {f l : List Nat} {m : Nat} (h : LenOK f m l) (hm : 1 ≤ m) : LenFor f m l := by
  by_cases hc : codedN f < 2
  · obtain ⟨h1, h2, h3⟩ := few_kr l f h.len (h.few hc)
    refine ⟨h.len, fun a ha => Nat.le_trans (h3 a ha) hm, fun i a b ha hb => ?_, ?_⟩
    · have := h.few hc i a b ha hb
      rw [this]
      split <;> omega
    · have h4 : codedN f = 0 ∨ codedN f = 1 := by omega
      rcases h4 with h4 | h4
      · exact .inl ⟨by rw [h1, h4], h4⟩
      · exact .inr (.inr ⟨by rw [h1, h4], by rw [h2, h4]⟩)
  · have hg := (h.best (by omega)).good
    exact ⟨hg.len, hg.le, hg.sup, .inr (.inl hg.whole)⟩
section
variable {f l : List Nat} {m : Nat}
theorem LenFor.all (h : LenFor f m l) : ∀ a ∈ natI l, 0 ≤ a ∧ a ≤ (m : Int) := fun a ha => by
  obtain ⟨n, hn, rfl⟩ := List.mem_map.1 ha
  have := h.le n hn
  exact ⟨Int.natCast_nonneg _, by omega⟩
theorem LenFor.check (h : LenFor f m l) (hm : 1 ≤ m) (hm2 : m ≤ 15) (hf : f.length ≤ 288) : checkOf (natI l) (m : Int) = 0 := by
  refine check_of hm hm2 (by rw [natI_length, h.len]; exact hf) h.all ?_
  have e : sumOf (natI l) = kr l := kr_sum l
  rw [e]
  rcases h.sum with h1 | h1 | h1
  · exact .inl h1.1
  · exact .inr (.inl h1)
  · exact .inr (.inr h1)
theorem LenFor.has (h : LenFor f m l) {k b : Nat} (hb : f[k]? = some b) (h0 : 0 < b) : HasSym (natI l) k := by
  have hk : k < l.length := by rw [h.len]; exact (List.getElem?_eq_some_iff.1 hb).1
  refine ⟨((l[k] : Nat) : Int), by rw [natI_get, List.getElem?_eq_getElem hk]; rfl, ?_⟩
  have := (h.sup k l[k] b (List.getElem?_eq_getElem hk) hb).2 h0
  omega
end

/-! ### The last zeros -/
def cutN (l : List Int) (least : Nat) : Nat → Nat
  | 0 => 0
  | n + 1 => if least < n + 1 ∧ l[n]?.getD 0 = 0 then cutN l least n else n + 1
def cutL (l : List Int) (least : Nat) : List Int := l.take (cutN l least l.length)
section
variable {l : List Int} {least : Nat}
theorem cutN_le : ∀ n, cutN l least n ≤ n
  | 0 => Nat.le_refl _
  | n + 1 => by unfold cutN; have := cutN_le n; split <;> omega
theorem cutN_ge : ∀ n, least ≤ n → least ≤ cutN l least n
  | 0, h => h
  | n + 1, h => by
    unfold cutN
    split
    · exact cutN_ge n (by omega)
    · exact h
theorem cutN_zero : ∀ n k, cutN l least n ≤ k → k < n → l[k]?.getD 0 = 0
  | 0, k, _, h => by omega
  | n + 1, k, h, h2 => by
    unfold cutN at h
    split at h
    · rename_i hc
      by_cases e : k = n
      · subst e; exact hc.2
      · exact cutN_zero n k h (by omega)
    · omega
theorem cutL_length : (cutL l least).length = cutN l least l.length := by
  have := cutN_le (l := l) (least := least) l.length
  simp [cutL]; omega
theorem cutL_get (k : Nat) : (cutL l least)[k]?.getD 0 = l[k]?.getD 0 := by
  unfold cutL
  rw [List.getElem?_take]
  split
  · rfl
  · rename_i h
    by_cases hk : k < l.length
    · exact (cutN_zero (least := least) l.length k (by omega) hk).symm
    · rw [List.getElem?_eq_none (by omega)]
theorem cutL_at (k : Nat) : lenAt (cutL l least) k = lenAt l k := by unfold lenAt; rw [cutL_get]
theorem cutL_has {k : Nat} (h : HasSym l k) : HasSym (cutL l least) k := by
  obtain ⟨a, h1, h2⟩ := h
  have h3 := cutL_get (l := l) (least := least) k
  rw [h1] at h3
  cases e : (cutL l least)[k]? with
  | none => rw [e] at h3; simp at h3; omega
  | some b => rw [e] at h3; simp at h3; exact ⟨b, e, by omega⟩
theorem cutL_split (l : List Int) (least : Nat) : ∃ z, l = cutL l least ++ List.replicate z 0 := by
  refine ⟨l.length - cutN l least l.length, ?_⟩
  have hd : l.drop (cutN l least l.length) = List.replicate (l.length - cutN l least l.length) 0 := by
    refine List.ext_getElem? fun j => ?_
    rw [List.getElem?_drop, List.getElem?_replicate]
    by_cases hj : j < l.length - cutN l least l.length
    · rw [if_pos hj]
      have h1 := cutN_zero (l := l) (least := least) l.length (cutN l least l.length + j) (by omega) (by omega)
      rw [List.getElem?_eq_getElem (by omega)] at h1 ⊢
      simp at h1
      rw [h1]
    · rw [if_neg hj, List.getElem?_eq_none (by omega)]
  conv => lhs; rw [← List.take_append_drop (cutN l least l.length) l, hd]
  rfl
theorem sum_zeros : ∀ z : Nat, sumOf (List.replicate z 0) = 0
  | 0 => rfl
  | z + 1 => by
    rw [List.replicate_succ, sum_cons, sum_zeros z]
    decide
theorem cutL_check {m : Nat} (h : checkOf l (m : Int) = 0) (hm : 1 ≤ m) (hm2 : m ≤ 15) : checkOf (cutL l least) (m : Int) = 0 := by
  obtain ⟨h1, h2, h3⟩ := check_is h
  obtain ⟨z, hz⟩ := cutL_split l least
  have hle : (cutL l least).length ≤ l.length := by rw [cutL_length]; exact cutN_le _
  have hmem : ∀ a ∈ cutL l least, a ∈ l := fun a ha => List.mem_of_mem_take ha
  have hs : sumOf l = sumOf (cutL l least) := by
    have e : sumOf l = sumOf (cutL l least ++ List.replicate z 0) := congrArg sumOf hz
    rw [e]
    show tot _ 15 = tot _ 15
    rw [tot_append]
    have := sum_zeros z
    unfold sumOf at this
    rw [this, Nat.add_zero]
  have hc : l.count 1 = (cutL l least).count 1 := by
    have e : l.count 1 = (cutL l least ++ List.replicate z 0).count 1 := congrArg (List.count 1) hz
    rw [e, List.count_append, List.count_replicate]
    simp
  rw [hs, hc] at h3
  exact check_of hm hm2 (by omega) (fun a ha => h2 a (hmem a ha)) h3
theorem cutL_all {P : Int → Prop} (h : ∀ a ∈ l, P a) : ∀ a ∈ cutL l least, P a := fun a ha => h a (List.mem_of_mem_take ha)
end

/-! ### What stands for the lengths -/
def eqRun (v : Int) : List Int → Nat
  | [] => 0
  | a :: r => if a = v then eqRun v r + 1 else 0
theorem eqRun_le (v : Int) : ∀ l : List Int, eqRun v l ≤ l.length
  | [] => Nat.le_refl _
  | a :: r => by unfold eqRun; have := eqRun_le v r; split <;> simp <;> omega
theorem eqRun_get (v : Int) : ∀ (l : List Int) (k : Nat), k < eqRun v l → l[k]? = some v
  | [], k, h => by simp [eqRun] at h
  | a :: r, k, h => by
    unfold eqRun at h
    split at h
    · rename_i e
      cases k with
      | zero => rw [List.getElem?_cons_zero, e]
      | succ k => exact eqRun_get v r k (by omega)
    · omega
theorem eqRun_stop (v : Int) : ∀ (l : List Int) (a : Int), l[eqRun v l]? = some a → a ≠ v
  | [], _, h => by simp at h
  | b :: r, a, h => by
    unfold eqRun at h
    split at h
    · rw [List.getElem?_cons_succ] at h; exact eqRun_stop v r a h
    · rename_i e
      rw [List.getElem?_cons_zero, Option.some.injEq] at h
      rw [← h]; exact e
theorem eqRun_pos {v : Int} {l : List Int} (h : l[0]? = some v) : 1 ≤ eqRun v l := by
  cases l with
  | nil => cases h
  | cons a r =>
    simp at h
    unfold eqRun
    rw [if_pos h]; omega
abbrev Item := Nat × Nat × Nat
/-- what stands for the lengths from a place on, and for how many of them -/
def nextI (all : List Int) (a : Nat) : Item × Nat :=
  if all[a]?.getD 0 = 0 ∧ 11 ≤ eqRun (all[a]?.getD 0) (all.drop a) then ((18, 7, min (eqRun (all[a]?.getD 0) (all.drop a)) 138 - 11), min (eqRun (all[a]?.getD 0) (all.drop a)) 138)
  else if all[a]?.getD 0 = 0 ∧ 3 ≤ eqRun (all[a]?.getD 0) (all.drop a) then ((17, 3, min (eqRun (all[a]?.getD 0) (all.drop a)) 10 - 3), min (eqRun (all[a]?.getD 0) (all.drop a)) 10)
  else if 0 < a ∧ all[a - 1]?.getD 0 = all[a]?.getD 0 ∧ 3 ≤ eqRun (all[a]?.getD 0) (all.drop a) then ((16, 2, min (eqRun (all[a]?.getD 0) (all.drop a)) 6 - 3), min (eqRun (all[a]?.getD 0) (all.drop a)) 6)
  else (((all[a]?.getD 0).toNat, 0, 0), 1)
def itemsF (all : List Int) : Nat → Nat → List Item
  | 0, _ => []
  | f + 1, a => if a < all.length then (nextI all a).1 :: itemsF all f (a + (nextI all a).2) else []
def itemB (hd : List Int) (x : Item) : List Nat := symBits hd x.1 ++ bitsOf x.2.1 x.2.2
section
variable {all : List Int}
theorem nextI_fits {a : Nat} (h : a < all.length) : 1 ≤ (nextI all a).2 ∧ a + (nextI all a).2 ≤ all.length := by
  have h1 := eqRun_le (all[a]?.getD 0) (all.drop a)
  rw [List.length_drop] at h1
  unfold nextI
  split
  · simp only; omega
  · split
    · simp only; omega
    · split
      · simp only; omega
      · simp only; omega
theorem nextI_sym (hA : ∀ x ∈ all, 0 ≤ x ∧ x ≤ 15) (a : Nat) : (nextI all a).1.1 < 19 ∧ (nextI all a).1.2.1 ≤ 7 ∧ (nextI all a).1.2.2 < 2 ^ (nextI all a).1.2.1 := by
  unfold nextI
  split
  · simp only; omega
  · split
    · simp only; omega
    · split
      · simp only; omega
      · refine ⟨?_, Nat.zero_le _, Nat.lt_succ_self 0⟩
        show (all[a]?.getD 0).toNat < 19
        cases e : all[a]? with
        | none => decide
        | some v => have := hA v (List.mem_of_getElem? e); show v.toNat < 19; omega
theorem itemsF_sym (hA : ∀ x ∈ all, 0 ≤ x ∧ x ≤ 15) : ∀ f a, ∀ x ∈ itemsF all f a, x.1 < 19 ∧ x.2.1 ≤ 7 ∧ x.2.2 < 2 ^ x.2.1
  | 0, _, x, h => by cases h
  | f + 1, a, x, h => by
    unfold itemsF at h
    split at h
    · rcases List.mem_cons.1 h with rfl | h
      · exact nextI_sym hA a
      · exact itemsF_sym hA f _ x h
    · cases h
theorem itemsF_length : ∀ f a, (itemsF all f a).length ≤ f
  | 0, _ => Nat.le_refl _
  | f + 1, a => by
    unfold itemsF
    split
    · rw [List.length_cons]; have := itemsF_length f (a + (nextI all a).2); omega
    · exact Nat.zero_le _
theorem take_run {a n : Nat} {v : Int} (h : n ≤ eqRun v (all.drop a)) : all.take a ++ List.replicate n v = all.take (a + n) := by
  rw [List.take_add]
  congr 1
  refine List.ext_getElem? fun j => ?_
  rw [List.getElem?_replicate, List.getElem?_take]
  by_cases hj : j < n
  · rw [if_pos hj, if_pos hj, eqRun_get v _ j (by omega)]
  · rw [if_neg hj, if_neg hj]
theorem items_lens {hd : List Int} (hA : ∀ x ∈ all, 0 ≤ x ∧ x ≤ 15) : ∀ f a, a ≤ all.length → all.length - a ≤ f → (∀ x ∈ itemsF all f a, HasSym hd x.1) → LenBits hd (all.take a) ((itemsF all f a).flatMap (itemB hd)) all
  | 0, a, h1, h2, _ => by
    have e : all.take a = all := List.take_of_length_le (by omega)
    rw [e]
    exact .done all
  | f + 1, a, h1, h2, hs => by
    unfold itemsF at hs ⊢
    by_cases h : a < all.length
    · rw [if_pos h] at hs ⊢
      obtain ⟨g1, g2⟩ := nextI_fits h
      have ih := items_lens hA f (a + (nextI all a).2) g2 (by omega) fun x hx => hs x (List.mem_cons_of_mem _ hx)
      have hs1 := hs _ (List.mem_cons_self ..)
      rw [List.flatMap_cons]
      generalize hR : (itemsF all f (a + (nextI all a).2)).flatMap (itemB hd) = R at ih ⊢
      have hv : all[a]? = some (all[a]?.getD 0) := by rw [List.getElem?_eq_getElem h]; rfl
      have hvm := hA _ (List.mem_of_getElem? hv)
      generalize hvv : all[a]?.getD 0 = v at hv hvm
      have hrun : (all.drop a)[0]? = some v := by rw [List.getElem?_drop]; exact hv
      have hpos := eqRun_pos hrun
      unfold nextI at ih hs1 ⊢
      rw [hvv] at ih hs1 ⊢
      unfold itemB
      split
      · rename_i c
        rw [if_pos c] at ih hs1
        obtain ⟨rfl, c2⟩ := c
        have e := take_run (all := all) (a := a) (n := min (eqRun 0 (all.drop a)) 138) (v := 0) (by omega)
        rw [← e] at ih
        have hm : 11 + (min (eqRun 0 (all.drop a)) 138 - 11) = min (eqRun 0 (all.drop a)) 138 := by omega
        simp only [List.append_assoc]
        refine .many _ _ _ _ (by omega) hs1 ?_
        rw [hm]; exact ih
      · rename_i c
        rw [if_neg c] at ih hs1
        split
        · rename_i c1
          rw [if_pos c1] at ih hs1
          obtain ⟨rfl, c2⟩ := c1
          have e := take_run (all := all) (a := a) (n := min (eqRun 0 (all.drop a)) 10) (v := 0) (by omega)
          rw [← e] at ih
          have hm : 3 + (min (eqRun 0 (all.drop a)) 10 - 3) = min (eqRun 0 (all.drop a)) 10 := by omega
          simp only [List.append_assoc]
          refine .zeros _ _ _ _ (by omega) hs1 ?_
          rw [hm]; exact ih
        · rename_i c1
          rw [if_neg c1] at ih hs1
          split
          · rename_i c2
            rw [if_pos c2] at ih hs1
            obtain ⟨c3, c4, c5⟩ := c2
            have e := take_run (all := all) (a := a) (n := min (eqRun v (all.drop a)) 6) (v := v) (by omega)
            rw [← e] at ih
            have hm : 3 + (min (eqRun v (all.drop a)) 6 - 3) = min (eqRun v (all.drop a)) 6 := by omega
            simp only [List.append_assoc]
            refine .same _ v _ _ _ ?_ (by omega) hs1 ?_
            · rw [List.getLast?_eq_getElem?, List.getElem?_take, List.length_take, if_pos (by omega), show min a all.length - 1 = a - 1 by omega]
              rw [List.getElem?_eq_getElem (by omega)] at c4 ⊢
              simp at c4
              rw [c4]
            · rw [hm]; exact ih
          · rename_i c2
            rw [if_neg c2] at ih hs1
            have e := take_run (all := all) (a := a) (n := 1) (v := v) (by omega)
            rw [← e] at ih
            have hz : bitsOf 0 0 = [] := rfl
            simp only [hz, List.append_nil]
            refine .one _ _ _ _ (by omega) hs1 ?_
            have e2 : ((v.toNat : Nat) : Int) = v := by omega
            rw [e2]
            exact ih
    · rw [if_neg h]
      have e : all.take a = all := List.take_of_length_le (by omega)
      rw [e]
      exact .done all
end
end Go.Proofs.YthibpnkdhbkakaaGreatDoor
/-
  A stream of blocks that were written, block by block, as the model of reading has it; what a program that writes blocks is to do ('BlockOK'). The mathematics names no program.
-/
namespace Go.Proofs.YthibpnkdhbkakaaGreatDoor
set_option maxRecDepth 5000

/-- what has come out behind a block, and its tokens -/
def outOf (kind : Nat) (raw out o : List Nat) : List Nat := if kind = 0 then out ++ raw else o
def tksOf (kind : Nat) (tk l : List Tok) : List Tok := if kind = 0 then tk else tk ++ l
section
variable {l : List Tok} {raw bs out o pre post : List Nat} {tk : List Tok} {kind M f : Nat} {ks ss : List Nat}
theorem blk_at (h : BlockBits l raw (pre.length + 3) kind bs) (hp : isBits post) (he : expT out l = (0, o)) (ho : o.length ≤ M) (hr : out.length + raw.length ≤ M) (v : Nat) (hv : v < 8) (hvk : v / 2 = kind) :
    takeM (pre ++ (bitsOf 3 v ++ (bs ++ post))) pre.length 3 = some v ∧ blockF (pre ++ (bitsOf 3 v ++ (bs ++ post))) M (v / 2) (pre.length + 3) out tk = (0, pre.length + 3 + bs.length, outOf kind raw out o, tksOf kind tk l) := by
  refine ⟨take_read pre (bs ++ post) 3 v hv, ?_⟩
  have e : pre ++ (bitsOf 3 v ++ (bs ++ post)) = (pre ++ bitsOf 3 v) ++ (bs ++ post) := by simp
  have hl : (pre ++ bitsOf 3 v).length = pre.length + 3 := by rw [List.length_append, bitsOf_length]
  have h2 := block_read (pre ++ bitsOf 3 v) (by rw [hl]; exact h) hp M out o tk he ho hr
  rw [hl, ← e] at h2
  rw [hvk]
  exact h2
theorem infl_more (h : BlockBits l raw (pre.length + 3) kind bs) (hk : kind < 3) (hp : isBits post) (he : expT out l = (0, o)) (ho : o.length ≤ M) (hr : out.length + raw.length ≤ M) :
    inflF (pre ++ (bitsOf 3 (2 * kind) ++ (bs ++ post))) M (f + 1) pre.length out tk ks ss = inflF (pre ++ (bitsOf 3 (2 * kind) ++ (bs ++ post))) M f (pre.length + 3 + bs.length) (outOf kind raw out o) (tksOf kind tk l) (ks ++ [kind]) (ss ++ [(outOf kind raw out o).length]) := by
  obtain ⟨h1, h2⟩ := blk_at (tk := tk) h hp he ho hr (2 * kind) (by omega) (by omega)
  have h3 := inflF_on (f := f) (round_more (ks := ks) (ss := ss) h1 h2 (by omega))
  rw [show 2 * kind / 2 = kind by omega] at h3
  exact h3
theorem infl_last (h : BlockBits l raw (pre.length + 3) kind bs) (hk : kind < 3) (hp : isBits post) (he : expT out l = (0, o)) (ho : o.length ≤ M) (hr : out.length + raw.length ≤ M) :
    inflF (pre ++ (bitsOf 3 (1 + 2 * kind) ++ (bs ++ post))) M (f + 1) pre.length out tk ks ss = ⟨0, pre.length + 3 + bs.length, outOf kind raw out o, tksOf kind tk l, ks ++ [kind], ss ++ [(outOf kind raw out o).length], (pre.length + 3 + bs.length + 7) / 8⟩ := by
  obtain ⟨h1, h2⟩ := blk_at (tk := tk) h hp he ho hr (1 + 2 * kind) (by omega) (by omega)
  have h3 := inflF_over (f := f) (round_last (ks := ks) (ss := ss) h1 h2 (by omega))
  rw [show (1 + 2 * kind) / 2 = kind by omega] at h3
  exact h3
end
/-- an empty stored block that is not the last, at a byte's beginning -/
def gapBits : List Nat := bitsOf 3 0 ++ storedBits 3 []
theorem gap_length : gapBits.length = 40 := by decide
theorem gap_isBits : isBits gapBits := by unfold isBits; decide
theorem storedBits_mod {a b : Nat} (h : a % 8 = b % 8) (raw : List Nat) : storedBits a raw = storedBits b raw := by
  unfold storedBits
  rw [show evenF a - a = evenF b - b by unfold evenF; omega]
theorem stored_nil (a : Nat) : BlockBits [] [] a 0 (storedBits a []) := .stored (fun b h => by cases h) (by decide)
/-- so many of them -/
def gaps : Nat → List Nat
  | 0 => []
  | n + 1 => gaps n ++ gapBits
theorem gaps_length : ∀ n, (gaps n).length = 40 * n
  | 0 => rfl
  | n + 1 => by rw [gaps, List.length_append, gaps_length n, gap_length]; omega
theorem gaps_isBits : ∀ n, isBits (gaps n)
  | 0 => by intro b hb; cases hb
  | n + 1 => isBits_append (gaps_isBits n) gap_isBits
theorem gaps_split (i : Nat) : ∀ d, ∃ r, isBits r ∧ gaps (i + 1 + d) = gaps i ++ (gapBits ++ r)
  | 0 => ⟨[], (fun b h => by cases h), by simp [gaps]⟩
  | d + 1 => by
    obtain ⟨r, hr, e⟩ := gaps_split i d
    exact ⟨r ++ gapBits, isBits_append hr gap_isBits, by rw [show i + 1 + (d + 1) = i + 1 + d + 1 by omega, gaps, e]; simp⟩
/-- past them -/
theorem infl_gaps (n M : Nat) {post : List Nat} (hp : isBits post) (f : Nat) : ∀ d i, i + d = n → inflF (gaps n ++ post) M (d + f) (gaps i).length [] [] (List.replicate i 0) (List.replicate i 0) = inflF (gaps n ++ post) M f (gaps n).length [] [] (List.replicate n 0) (List.replicate n 0)
  | 0, i, h => by simp at h; subst h; rw [Nat.zero_add]
  | d + 1, i, h => by
    obtain ⟨r, hr, e⟩ := gaps_split i d
    have en : gaps n = gaps i ++ (gapBits ++ r) := by rw [← e]; congr 1; omega
    have hb : BlockBits [] [] ((gaps i).length + 3) 0 (storedBits 3 []) := by
      have := stored_nil ((gaps i).length + 3)
      rw [storedBits_mod (b := 3) (by rw [gaps_length]; omega)] at this
      exact this
    have e2 : gaps n ++ post = gaps i ++ (bitsOf 3 (2 * 0) ++ (storedBits 3 [] ++ (r ++ post))) := by rw [en, gapBits]; simp
    have h1 := infl_more (f := d + f) (tk := []) (out := []) (o := []) (M := M) (ks := List.replicate i 0) (ss := List.replicate i 0) hb (by decide) (isBits_append hr hp) rfl (by simp) (by simp)
    rw [← e2] at h1
    rw [show d + 1 + f = d + f + 1 by omega, h1]
    have h2 := infl_gaps n M hp f d (i + 1) (by omega)
    rw [← h2]
    have e3 : (gaps i).length + 3 + (storedBits 3 []).length = (gaps (i + 1)).length := by
      rw [gaps_length, gaps_length]
      have : (storedBits 3 []).length = 37 := by decide
      omega
    rw [e3]
    have e4 : List.replicate i 0 ++ [0] = List.replicate (i + 1) (0 : Nat) := by rw [List.replicate_succ']
    show inflF _ M (d + f) _ [] [] (List.replicate i 0 ++ [0]) (List.replicate i 0 ++ [0]) = _
    rw [e4]
end Go.Proofs.YthibpnkdhbkakaaGreatDoor
/-
  What the program writes as a dynamic block, told as a function: the codes, the head, the whole; it is read as what it means. No program is named here.
-/
namespace Go.Proofs.YthibpnkdhbkakaaGreatDoor
set_option maxRecDepth 5000

/-- how lengths are found: for frequencies that may be, those that are asked -/
def LensOK (Ln : List Nat → Nat → List Nat) : Prop := ∀ (f : List Nat) (m : Nat), f.length ≤ 288 → 1 ≤ m → m ≤ 15 → codedN f ≤ 2 ^ m → LenOK f m (Ln f m)
/-- the second code has a length -/
def fixD (d : List Int) : List Int := if sumOf d = 0 then d.set 0 1 else d
def litC (Ln : List Nat → Nat → List Nat) (l : List Tok) : List Int := cutL (natI (Ln (litF l) 15)) 257
def dstL (Ln : List Nat → Nat → List Nat) (l : List Tok) : List Int := cutL (fixD (natI (Ln (dstF l) 15))) 1
def itemsOf (lit dist : List Int) : List Item := itemsF (lit ++ dist) (lit ++ dist).length 0
def frqN (xs : List Item) (k : Nat) : Nat := xs.countP fun x => decide (x.1 = k)
def frqF (xs : List Item) : List Nat := (List.range 19).map (frqN xs)
def headC (Ln : List Nat → Nat → List Nat) (xs : List Item) : List Int := natI (Ln (frqF xs) 7)
def inOrd (hd : List Int) : List Int := orderF.map fun s => hd[s]?.getD 0
def headN (hd : List Int) : Nat := cutN (inOrd hd) 4 19
def itemsB (hd : List Int) (xs : List Item) : List Nat := xs.flatMap (itemB hd)
def headB (lit dist hd : List Int) (xs : List Item) : List Nat := dynBits lit dist hd (headN hd) (itemsB hd xs)
/-- a block behind its first three bits -/
def blkF (Ln : List Nat → Nat → List Nat) (kind : Nat) (l : List Tok) (raw : List Nat) (a : Nat) : List Nat :=
  if kind = 0 then storedBits a raw
  else if kind = 1 then toksB fixLit fixDist l
  else headB (litC Ln l) (dstL Ln l) (headC Ln (itemsOf (litC Ln l) (dstL Ln l))) (itemsOf (litC Ln l) (dstL Ln l)) ++ toksB (litC Ln l) (dstL Ln l) l

/-! ### Frequencies that may be -/
theorem codedN_le_len : ∀ l : List Nat, codedN l ≤ l.length
  | [] => Nat.le_refl _
  | a :: l => by rw [codedN, List.length_cons]; have := codedN_le_len l; split <;> omega
theorem codedN_pos {l : List Nat} {k b : Nat} (h : l[k]? = some b) (hb : 0 < b) : 1 ≤ codedN l := by
  induction l generalizing k with
  | nil => cases h
  | cons a l ih =>
    rw [codedN]
    cases k with
    | zero =>
      simp at h
      rw [if_pos (by omega)]; omega
    | succ k => have := ih h; omega
section
variable {Ln : List Nat → Nat → List Nat} {l : List Tok}
theorem lit_for (H : LensOK Ln) (l : List Tok) : LenFor (litF l) 15 (Ln (litF l) 15) :=
  (H (litF l) 15 (by rw [litF_length]; decide) (by decide) (by decide) (Nat.le_trans (codedN_le_len _) (by rw [litF_length]; decide))).for (by decide)
theorem dst_for (H : LensOK Ln) (l : List Tok) : LenFor (dstF l) 15 (Ln (dstF l) 15) :=
  (H (dstF l) 15 (by rw [dstF_length]; decide) (by decide) (by decide) (Nat.le_trans (codedN_le_len _) (by rw [dstF_length]; decide))).for (by decide)
theorem frqF_length (xs : List Item) : (frqF xs).length = 19 := by simp [frqF]
theorem frqF_get (xs : List Item) {k : Nat} (h : k < 19) : (frqF xs)[k]? = some (frqN xs k) := by simp [frqF, h]
theorem frqN_le (xs : List Item) (k : Nat) : frqN xs k ≤ xs.length := List.countP_le_length
theorem head_for (H : LensOK Ln) (xs : List Item) : LenFor (frqF xs) 7 (Ln (frqF xs) 7) :=
  (H (frqF xs) 7 (by rw [frqF_length]; decide) (by decide) (by decide) (Nat.le_trans (codedN_le_len _) (by rw [frqF_length]; decide))).for (by decide)
theorem lit_check0 (H : LensOK Ln) (l : List Tok) : checkOf (natI (Ln (litF l) 15)) 15 = 0 := (lit_for H l).check (by decide) (by decide) (by rw [litF_length]; decide)
theorem lit_check (H : LensOK Ln) (l : List Tok) : checkOf (litC Ln l) 15 = 0 := cutL_check (m := 15) (lit_check0 H l) (by decide) (by decide)
theorem set_first {l : List Int} (h : ∀ a ∈ l, a = 0) (hl : 0 < l.length) : l.set 0 1 = 1 :: List.replicate (l.length - 1) 0 := by
  match l, hl with
  | a :: r, _ =>
    show 1 :: r = _
    congr 1
    exact List.eq_replicate_iff.2 ⟨by simp, fun b hb => h b (List.mem_cons_of_mem _ hb)⟩
theorem sum_zero_all {l : List Int} (hh : ∀ a ∈ l, 0 ≤ a ∧ a ≤ 15) (hs : sumOf l = 0) : ∀ a ∈ l, a = 0 := by
  intro a ha
  obtain ⟨i, hi⟩ := List.getElem?_of_mem ha
  have h1 := hh a ha
  refine Classical.byContradiction fun hne => ?_
  obtain ⟨n, hn⟩ : ∃ n : Nat, a = ((n + 1 : Nat) : Int) := ⟨a.toNat - 1, by omega⟩
  subst hn
  have h2 := place_end l i n hi (by omega)
  have h3 := tot_mono l (n + 1) 15 (by omega)
  have h4 : 1 ≤ 2 ^ (14 - n) := Nat.one_le_two_pow
  unfold sumOf at hs
  generalize 2 ^ (14 - n) = z at h2 h4
  generalize codeAt l i * z = y at h2
  omega
theorem fixD_check {d : List Int} (h : checkOf d 15 = 0) (hl : 1 ≤ d.length) : checkOf (fixD d) 15 = 0 ∧ (fixD d).length = d.length ∧ ∀ k, HasSym d k → fixD d = d := by
  obtain ⟨h1, h2, h3⟩ := check_is (m := 15) h
  unfold fixD
  by_cases c : sumOf d = 0
  · rw [if_pos c]
    have hz := sum_zero_all h2 c
    refine ⟨?_, by simp, fun k ⟨a, ha, ha0⟩ => by have := hz a (List.mem_of_getElem? ha); omega⟩
    rw [set_first hz hl]
    refine check_of (m := 15) (by decide) (by decide) (by simp; omega) (fun a ha => ?_) (.inr (.inr ⟨?_, ?_⟩))
    · rcases List.mem_cons.1 ha with rfl | ha
      · decide
      · rw [List.eq_of_mem_replicate ha]; decide
    · rw [sum_cons, sum_zeros]; decide
    · rw [List.count_cons, List.count_replicate]; simp
  · rw [if_neg c]
    exact ⟨h, rfl, fun _ _ => rfl⟩
theorem dst_check0 (H : LensOK Ln) (l : List Tok) : checkOf (natI (Ln (dstF l) 15)) 15 = 0 := (dst_for H l).check (by decide) (by decide) (by rw [dstF_length]; decide)
theorem dst_len0 (H : LensOK Ln) (l : List Tok) : (natI (Ln (dstF l) 15)).length = 30 := by rw [natI_length, (dst_for H l).len, dstF_length]
theorem lit_len0 (H : LensOK Ln) (l : List Tok) : (natI (Ln (litF l) 15)).length = 286 := by rw [natI_length, (lit_for H l).len, litF_length]
theorem dst_check1 (H : LensOK Ln) (l : List Tok) : checkOf (fixD (natI (Ln (dstF l) 15))) 15 = 0 := (fixD_check (dst_check0 H l) (by rw [dst_len0 H l]; decide)).1
theorem dst_len1 (H : LensOK Ln) (l : List Tok) : (fixD (natI (Ln (dstF l) 15))).length = 30 := by rw [(fixD_check (dst_check0 H l) (by rw [dst_len0 H l]; decide)).2.1, dst_len0 H l]
theorem dst_check (H : LensOK Ln) (l : List Tok) : checkOf (dstL Ln l) 15 = 0 := cutL_check (m := 15) (dst_check1 H l) (by decide) (by decide)
theorem lit_all (H : LensOK Ln) (l : List Tok) : ∀ a ∈ litC Ln l, 0 ≤ a ∧ a ≤ 15 := (check_is (m := 15) (lit_check H l)).2.1
theorem dst_all (H : LensOK Ln) (l : List Tok) : ∀ a ∈ dstL Ln l, 0 ≤ a ∧ a ≤ 15 := (check_is (m := 15) (dst_check H l)).2.1
theorem lit_len (H : LensOK Ln) (l : List Tok) : 257 ≤ (litC Ln l).length ∧ (litC Ln l).length ≤ 286 := by
  have h := lit_len0 H l
  unfold litC
  rw [cutL_length, h]
  exact ⟨cutN_ge _ (by decide), cutN_le _⟩
theorem dst_len (H : LensOK Ln) (l : List Tok) : 1 ≤ (dstL Ln l).length ∧ (dstL Ln l).length ≤ 30 := by
  have h := dst_len1 H l
  unfold dstL
  rw [cutL_length, h]
  exact ⟨cutN_ge _ (by decide), cutN_le _⟩
theorem lit_has (H : LensOK Ln) {l : List Tok} {k : Nat} (hk : k < 286) (h : 0 < litE l k) : HasSym (litC Ln l) k := cutL_has ((lit_for H l).has (litF_get l hk) h)
theorem dst_has (H : LensOK Ln) {l : List Tok} {k : Nat} (hk : k < 30) (h : 0 < dstN l k) : HasSym (dstL Ln l) k := by
  have h1 := (dst_for H l).has (dstF_get l hk) h
  unfold dstL
  rw [(fixD_check (dst_check0 H l) (by rw [dst_len0 H l]; decide)).2.2 k h1]
  exact cutL_has h1
theorem covers_dyn (H : LensOK Ln) {l : List Tok} (hs : ∀ t ∈ l, soundB t = true) (hb : byteOK l) : Covers (litC Ln l) (dstL Ln l) l :=
  ⟨lit_has H (by decide) (litE_end l), fun t ht => ⟨lit_has H (symOf_lt (hs t ht) (hb t ht)) (litE_pos ht), fun h0 => dst_has H (dstC_is (hs t ht) h0).1 (dstN_pos ht h0)⟩⟩
theorem fixLit_has : ∀ k, k < 288 → HasSym fixLit k := by
  intro k hk
  have h : fixLit[k]? = some (fixAt k) := by simp [fixLit, hk]
  refine ⟨_, h, ?_⟩
  unfold fixAt
  repeat (first | decide | split)
theorem covers_fix {l : List Tok} (hs : ∀ t ∈ l, soundB t = true) (hb : byteOK l) : Covers fixLit fixDist l :=
  ⟨fixLit_has 256 (by decide), fun t ht => ⟨fixLit_has _ (by have := symOf_lt (hs t ht) (hb t ht); omega), fun h0 => by
    have := (dstC_is (hs t ht) h0).1
    exact ⟨5, by unfold fixDist; rw [List.getElem?_replicate, if_pos (by omega)], by decide⟩⟩⟩
theorem headC_len (H : LensOK Ln) (xs : List Item) : (headC Ln xs).length = 19 := by unfold headC; rw [natI_length, (head_for H xs).len, frqF_length]
theorem headC_check (H : LensOK Ln) (xs : List Item) : checkOf (headC Ln xs) 7 = 0 := (head_for H xs).check (by decide) (by decide) (by rw [frqF_length]; decide)
theorem headC_all (H : LensOK Ln) (xs : List Item) : ∀ a ∈ headC Ln xs, 0 ≤ a ∧ a ≤ 7 := (head_for H xs).all
theorem headC_has (H : LensOK Ln) {xs : List Item} {x : Item} (h : x ∈ xs) (hx : x.1 < 19) : HasSym (headC Ln xs) x.1 :=
  (head_for H xs).has (frqF_get xs hx) (List.countP_pos_iff.2 ⟨x, h, by simp⟩)
theorem inOrd_length (hd : List Int) : (inOrd hd).length = 19 := by simp [inOrd]; rfl
theorem inOrd_get (hd : List Int) {i : Nat} (h : i < 19) : (inOrd hd)[i]? = some (hd[orderAt i]?.getD 0) := by
  unfold inOrd orderAt
  have : i < orderF.length := h
  rw [List.getElem?_map, List.getElem?_eq_getElem this]; rfl
theorem order_all : ∀ j, j < 19 → ∃ i, i < 19 ∧ orderAt i = j := by
  intro j hj
  have h : ∀ j, j < 19 → (List.range 19).any (fun i => decide (orderAt i = j)) = true := by decide +kernel
  obtain ⟨i, hi, e⟩ := List.any_eq_true.1 (h j hj)
  exact ⟨i, List.mem_range.1 hi, of_decide_eq_true e⟩
theorem order_mem {i c : Nat} (h : i < c) (hi : i < 19) : orderAt i ∈ orderF.take c := by
  have h2 : i < orderF.length := hi
  have e : orderF[i]? = some (orderAt i) := by unfold orderAt; rw [List.getElem?_eq_getElem h2]; rfl
  refine List.mem_of_getElem? (i := i) ?_
  rw [List.getElem?_take, if_pos h, e]
theorem part_head {hd : List Int} (hl : hd.length = 19) : partH hd (headN hd) = hd := by
  refine List.ext_getElem? fun j => ?_
  unfold partH
  by_cases hj : j < 19
  · rw [List.getElem?_map, List.getElem?_range hj]
    have hv : hd[j]? = some (hd[j]?.getD 0) := by rw [List.getElem?_eq_getElem (by omega)]; rfl
    rw [hv]
    simp only [Option.map_some, Option.some.injEq]
    split
    · rfl
    · rename_i hno
      obtain ⟨i, hi, e⟩ := order_all j hj
      have hc : headN hd ≤ i := by
        refine Classical.byContradiction fun h => hno ?_
        rw [← e]
        exact order_mem (by omega) hi
      have h2 := cutN_zero (l := inOrd hd) (least := 4) 19 i hc hi
      rw [inOrd_get hd hi, e] at h2
      exact h2.symm
  · rw [List.getElem?_eq_none (by simp; omega), List.getElem?_eq_none (by omega)]
theorem any_head {hd : List Int} {k : Nat} (hk : k < 19) (h : HasSym hd k) : ∃ i, i < headN hd ∧ 0 < hd[orderAt i]?.getD 0 := by
  obtain ⟨i, hi, e⟩ := order_all k hk
  obtain ⟨a, ha, h0⟩ := h
  have hp : 0 < hd[orderAt i]?.getD 0 := by rw [e, ha]; exact h0
  refine ⟨i, Classical.byContradiction fun hc => ?_, hp⟩
  have h2 := cutN_zero (l := inOrd hd) (least := 4) 19 i (by unfold headN at hc; omega) hi
  rw [inOrd_get hd hi] at h2
  have h3 : hd[orderAt i]?.getD 0 = 0 := h2
  omega
theorem all_app {lit dist : List Int} (h1 : ∀ a ∈ lit, 0 ≤ a ∧ a ≤ 15) (h2 : ∀ a ∈ dist, 0 ≤ a ∧ a ≤ 15) : ∀ a ∈ lit ++ dist, 0 ≤ a ∧ a ≤ 15 := fun a ha => (List.mem_append.1 ha).elim (h1 a) (h2 a)
theorem sum_le_of {l : List Int} {m : Nat} (h : checkOf l (m : Int) = 0) : sumOf l ≤ 32768 := by have := (check_is h).2.2; omega
theorem dyn_codes (H : LensOK Ln) (l : List Tok) : DynCodes (litC Ln l) (dstL Ln l) (headC Ln (itemsOf (litC Ln l) (dstL Ln l))) (headN (headC Ln (itemsOf (litC Ln l) (dstL Ln l)))) (itemsB (headC Ln (itemsOf (litC Ln l) (dstL Ln l))) (itemsOf (litC Ln l) (dstL Ln l))) := by
  have hA := all_app (lit_all H l) (dst_all H l)
  have hl := lit_len H l
  have hd := dst_len H l
  have hsym := itemsF_sym hA (litC Ln l ++ dstL Ln l).length 0
  have hh := headC_len H (itemsOf (litC Ln l) (dstL Ln l))
  have hlen : 0 < (litC Ln l ++ dstL Ln l).length := by rw [List.length_append]; omega
  have hx : ∃ x, x ∈ itemsOf (litC Ln l) (dstL Ln l) := by
    unfold itemsOf
    obtain ⟨n, hn⟩ : ∃ n, (litC Ln l ++ dstL Ln l).length = n + 1 := ⟨(litC Ln l ++ dstL Ln l).length - 1, by omega⟩
    rw [hn, itemsF, if_pos (by omega)]
    exact ⟨_, List.mem_cons_self ..⟩
  obtain ⟨x, hx⟩ := hx
  have hx19 := (hsym x hx).1
  have h256 : HasSym (litC Ln l) 256 := lit_has H (by decide) (litE_end l)
  have hI := items_lens (hd := headC Ln (itemsOf (litC Ln l) (dstL Ln l))) hA (litC Ln l ++ dstL Ln l).length 0 (Nat.zero_le _) (by omega) fun y hy => headC_has H hy (hsym y hy).1
  exact {
    a1 := hl.1
    a2 := hl.2
    b1 := hd.1
    b2 := hd.2
    c1 := cutN_ge _ (by decide)
    c2 := cutN_le _
    h7 := headC_all H _
    part := part_head hh
    check := headC_check H _
    sum := sum_le_of (m := 7) (headC_check H _)
    any := any_head hx19 (headC_has H hx hx19)
    lens := hI
    lit15 := lit_check H l
    dist15 := dst_check H l
    stop := by
      obtain ⟨a, ha, h0⟩ := h256
      rw [ha]
      show a ≠ 0
      omega }
/-- what is written is read as what it means -/
theorem blkF_good (H : LensOK Ln) (kind : Nat) (l : List Tok) (raw : List Nat) (a : Nat) (hm : kind = 0 ∧ raw.length ≤ 65535 ∨ (kind = 1 ∨ kind = 2) ∧ (∀ t ∈ l, soundB t = true)) (hb : byteOK l) (hr : ∀ b ∈ raw, b < 256) : BlockBits l raw a kind (blkF Ln kind l raw a) := by
  rcases hm with ⟨rfl, h2⟩ | ⟨rfl | rfl, h2⟩
  · exact .stored hr h2
  · exact .fixed _ (toksB_is h2 hb (covers_fix h2 hb))
  · exact .dynamic _ _ _ _ _ _ (dyn_codes H l) (toksB_is h2 hb (covers_dyn H h2 hb))
theorem storedBits_length (a : Nat) (raw : List Nat) : (storedBits a raw).length = evenF a - a + 32 + 8 * raw.length := by
  unfold storedBits
  simp only [List.length_append, List.length_replicate, bitsOf_length, bits8_length]; omega
theorem itemB_length (hd : List Int) (x : Item) : (itemB hd x).length = lenAt hd x.1 + x.2.1 := by unfold itemB; rw [List.length_append, symBits_length, bitsOf_length]
theorem itemsB_short {hd : List Int} (h7 : ∀ a ∈ hd, 0 ≤ a ∧ a ≤ 7) : ∀ {xs : List Item}, (∀ x ∈ xs, x.2.1 ≤ 7) → (itemsB hd xs).length ≤ 14 * xs.length
  | [], _ => Nat.le_refl _
  | x :: xs, h => by
    have ih := itemsB_short h7 (xs := xs) fun y hy => h y (List.mem_cons_of_mem _ hy)
    unfold itemsB at ih ⊢
    have h1 := lenAt_le (m := 7) h7 x.1
    have h2 := h x (List.mem_cons_self ..)
    rw [List.flatMap_cons, List.length_append, itemB_length, List.length_cons]; omega
theorem headB_length (lit dist hd : List Int) (xs : List Item) : (headB lit dist hd xs).length = 14 + 3 * headN hd + (itemsB hd xs).length := by
  unfold headB dynBits
  simp only [List.length_append, bitsOf_length, headBits_length]; omega
theorem blkF_short (H : LensOK Ln) (kind : Nat) (l : List Tok) (raw : List Nat) (a : Nat) (hm : kind = 0 ∧ raw.length ≤ 65535 ∨ (kind = 1 ∨ kind = 2) ∧ (∀ t ∈ l, soundB t = true)) : (blkF Ln kind l raw a).length < 1000000 + 100 * l.length := by
  rcases hm with ⟨rfl, h2⟩ | ⟨rfl | rfl, h2⟩
  · show (storedBits a raw).length < _
    rw [storedBits_length]
    have := evenF_le a
    omega
  · show (toksB fixLit fixDist l).length < _
    have := toksB_short (check_is (m := 15) fix_check.1).2.1 (check_is (m := 15) fix_check.2).2.1 h2
    omega
  · show (headB _ _ _ _ ++ toksB _ _ _).length < _
    have h3 := toksB_short (lit_all H l) (dst_all H l) h2
    have hA := all_app (lit_all H l) (dst_all H l)
    have h4 := itemsB_short (headC_all H (itemsOf (litC Ln l) (dstL Ln l))) (xs := itemsOf (litC Ln l) (dstL Ln l)) fun x hx => (itemsF_sym hA _ _ x hx).2.1
    have h5 := itemsF_length (all := litC Ln l ++ dstL Ln l) (litC Ln l ++ dstL Ln l).length 0
    have h6 := lit_len H l
    have h7 := dst_len H l
    have h8 : headN (headC Ln (itemsOf (litC Ln l) (dstL Ln l))) ≤ 19 := cutN_le _
    have h9 : (litC Ln l ++ dstL Ln l).length = (litC Ln l).length + (dstL Ln l).length := List.length_append
    have h10 : (itemsOf (litC Ln l) (dstL Ln l)).length ≤ (litC Ln l ++ dstL Ln l).length := h5
    rw [List.length_append, headB_length]
    omega
theorem blkF_place (kind : Nat) (l : List Tok) (raw : List Nat) (a b : Nat) (h : a % 8 = b % 8) : blkF Ln kind l raw a = blkF Ln kind l raw b := by
  unfold blkF
  rw [storedBits_mod h raw]
end
end Go.Proofs.YthibpnkdhbkakaaGreatDoor
