/-
  What the program writes as a block, told as a function: the bits of tokens by two codes, how often symbols come, what they cost. No program is named here.
-/
import Derived.Test.YthibpnkdhbkakaaDoorMd10
import Derived.Test.YthibpnkdhbkakaaDoorProg
import Derived.Test.YthibpnkdhbkakaaDoorMd04
import Derived.StillTailTactics
import Derived.Test.YthibpnkdhbkakaaDoorMd03
namespace Go.Proofs.YthibpnkdhbkakaaDoor
set_option maxRecDepth 5000

/-! ### The code of a length or a distance -/
def lcF (B : Nat → Nat) (v : Nat) : Nat → Nat
  | 0 => 0
  | m + 1 => if B m ≤ v then m else lcF B v m
theorem lcF_is {B : Nat → Nat} {v : Nat} (h0 : B 0 ≤ v) : ∀ m, 0 < m → CodeIs B m v (lcF B v m)
  | 0, h => by omega
  | m + 1, _ => by
    unfold lcF
    by_cases c : B m ≤ v
    · rw [if_pos c]; exact ⟨by omega, c, fun d h1 h2 => by omega⟩
    · rw [if_neg c]
      have hm : 0 < m := by
        cases m with
        | zero => exact absurd h0 c
        | succ m => omega
      obtain ⟨h1, h2, h3⟩ := lcF_is h0 m hm
      exact ⟨by omega, h2, fun d h4 h5 => if h6 : d = m then by subst h6; omega else h3 d h4 (by omega)⟩
def lenC (t : Tok) : Nat := lcF lB t.2.1.toNat 29
def dstC (t : Tok) : Nat := lcF dB t.2.2.toNat 30
section
variable {t : Tok}
theorem lenC_is (hs : soundB t = true) (h0 : t.2.1 ≠ 0) : CodeIs lB 29 t.2.1.toNat (lenC t) := by
  have h := sound_match hs h0
  exact lcF_is (by have : lB 0 = 3 := by decide
                   omega) 29 (by decide)
theorem dstC_is (hs : soundB t = true) (h0 : t.2.1 ≠ 0) : CodeIs dB 30 t.2.2.toNat (dstC t) := by
  have h := sound_match hs h0
  exact lcF_is (by have : dB 0 = 1 := by decide
                   omega) 30 (by decide)
end
/-- the symbol of a token in the first code -/
def symOf (t : Tok) : Nat := if t.2.1 = 0 then t.1.toNat else 257 + lenC t
/-- its extra bits -/
def xtra (t : Tok) : Nat := if t.2.1 = 0 then 0 else lX (lenC t) + dX (dstC t)
theorem symOf_lt {t : Tok} (hs : soundB t = true) (hb : 0 ≤ t.1 ∧ t.1 ≤ 255) : symOf t < 286 := by
  unfold symOf
  split
  · omega
  · rename_i h
    have := (lenC_is hs h).1
    omega
def tokB (lit dist : List Int) (t : Tok) : List Nat :=
  if t.2.1 = 0 then symBits lit t.1.toNat
  else symBits lit (257 + lenC t) ++ (bitsOf (lX (lenC t)) (t.2.1.toNat - lB (lenC t)) ++ (symBits dist (dstC t) ++ bitsOf (dX (dstC t)) (t.2.2.toNat - dB (dstC t))))
def toksB (lit dist : List Int) (l : List Tok) : List Nat := l.flatMap (tokB lit dist) ++ symBits lit 256
theorem toksB_cons (lit dist : List Int) (t : Tok) (l : List Tok) : toksB lit dist (t :: l) = tokB lit dist t ++ toksB lit dist l := by simp [toksB]
/-- each symbol that comes has a code -/
def Covers (lit dist : List Int) (l : List Tok) : Prop := HasSym lit 256 ∧ ∀ t ∈ l, HasSym lit (symOf t) ∧ (t.2.1 ≠ 0 → HasSym dist (dstC t))
theorem tokB_is {lit dist : List Int} {t : Tok} (hs : soundB t = true) (hb : 0 ≤ t.1 ∧ t.1 ≤ 255) (h1 : HasSym lit (symOf t)) (h2 : t.2.1 ≠ 0 → HasSym dist (dstC t)) : TokBits lit dist t (tokB lit dist t) := by
  obtain ⟨a, n, d⟩ := t
  unfold tokB
  by_cases h0 : n = 0
  · have hd := sound_lit hs h0
    have hd2 : d = 0 := hd
    subst h0
    subst hd2
    rw [if_pos rfl]
    unfold symOf at h1
    rw [if_pos rfl] at h1
    have h3 := TokBits.lit (lit := lit) (dist := dist) a.toNat (by show a.toNat < 256; have : a ≤ 255 := hb.2; omega) h1
    have e : ((a.toNat : Nat) : Int) = a := by have : 0 ≤ a := hb.1; omega
    rw [e] at h3
    exact h3
  · rw [if_neg h0]
    obtain ⟨ha, ⟨hn1, hn2⟩, hd1, hd2⟩ := sound_match hs h0
    have hn1 : 3 ≤ n := hn1
    have hn2 : n ≤ 258 := hn2
    have hd1 : 1 ≤ d := hd1
    have hd2 : d ≤ 32768 := hd2
    have ha : a = 0 := ha
    subst ha
    unfold symOf at h1
    rw [if_neg h0] at h1
    have h3 := TokBits.ref (lit := lit) (dist := dist) n.toNat d.toNat (lenC (0, n, d)) (dstC (0, n, d)) (lenC_is hs h0) (by omega) (by omega) (dstC_is hs h0) (by omega) (by omega) h1 (h2 h0)
    have e1 : ((n.toNat : Nat) : Int) = n := by omega
    have e2 : ((d.toNat : Nat) : Int) = d := by omega
    rw [e1, e2] at h3
    exact h3
theorem toksB_is {lit dist : List Int} : ∀ {l : List Tok}, (∀ t ∈ l, soundB t = true) → byteOK l → Covers lit dist l → ToksBits lit dist l (toksB lit dist l)
  | [], _, _, hc => by
    show ToksBits lit dist [] (symBits lit 256)
    exact .nil hc.1
  | t :: l, hs, hb, hc => by
    rw [toksB_cons]
    have h1 := hc.2 t (List.mem_cons_self ..)
    exact .cons _ _ _ _ (tokB_is (hs t (List.mem_cons_self ..)) (hb t (List.mem_cons_self ..)) h1.1 h1.2)
      (toksB_is (fun s h => hs s (List.mem_cons_of_mem _ h)) (fun s h => hb s (List.mem_cons_of_mem _ h)) ⟨hc.1, fun s h => hc.2 s (List.mem_cons_of_mem _ h)⟩)

/-! ### How often symbols come -/
def litN (l : List Tok) (k : Nat) : Nat := l.countP fun t => decide (symOf t = k)
def dstN (l : List Tok) (k : Nat) : Nat := l.countP fun t => decide (t.2.1 ≠ 0 ∧ dstC t = k)
def extN (l : List Tok) : Nat := (l.map xtra).sum
/-- with the end of the block -/
def litE (l : List Tok) (k : Nat) : Nat := litN l k + (if 256 = k then 1 else 0)
def litF (l : List Tok) : List Nat := (List.range 286).map (litE l)
def dstF (l : List Tok) : List Nat := (List.range 30).map (dstN l)
theorem litN_le (l : List Tok) (k : Nat) : litN l k ≤ l.length := List.countP_le_length
theorem dstN_le (l : List Tok) (k : Nat) : dstN l k ≤ l.length := List.countP_le_length
theorem litE_le (l : List Tok) (k : Nat) : litE l k ≤ l.length + 1 := by have := litN_le l k; unfold litE; split <;> omega
theorem litF_le {l : List Tok} (h : l.length < 1048576) : ∀ a ∈ litF l, a ≤ 1048576 := fun a ha => by
  obtain ⟨k, _, rfl⟩ := List.mem_map.1 ha
  have := litE_le l k; omega
theorem dstF_le {l : List Tok} (h : l.length < 1048576) : ∀ a ∈ dstF l, a ≤ 1048576 := fun a ha => by
  obtain ⟨k, _, rfl⟩ := List.mem_map.1 ha
  have := dstN_le l k; omega
theorem litF_length (l : List Tok) : (litF l).length = 286 := by simp [litF]
theorem dstF_length (l : List Tok) : (dstF l).length = 30 := by simp [dstF]
theorem litF_get (l : List Tok) {k : Nat} (h : k < 286) : (litF l)[k]? = some (litE l k) := by simp [litF, h]
theorem dstF_get (l : List Tok) {k : Nat} (h : k < 30) : (dstF l)[k]? = some (dstN l k) := by simp [dstF, h]
theorem litE_end (l : List Tok) : 0 < litE l 256 := by unfold litE; rw [if_pos rfl]; omega
theorem litE_pos {l : List Tok} {t : Tok} (h : t ∈ l) : 0 < litE l (symOf t) := by
  have : 0 < litN l (symOf t) := List.countP_pos_iff.2 ⟨t, h, by simp⟩
  unfold litE; omega
theorem dstN_pos {l : List Tok} {t : Tok} (h : t ∈ l) (h0 : t.2.1 ≠ 0) : 0 < dstN l (dstC t) := List.countP_pos_iff.2 ⟨t, h, by simp [h0]⟩
theorem litN_snoc (l : List Tok) (t : Tok) (k : Nat) : litN (l ++ [t]) k = litN l k + (if symOf t = k then 1 else 0) := by
  simp only [litN, List.countP_append, List.countP_cons, List.countP_nil, decide_eq_true_eq]; omega
theorem dstN_snoc (l : List Tok) (t : Tok) (k : Nat) : dstN (l ++ [t]) k = dstN l k + (if t.2.1 ≠ 0 ∧ dstC t = k then 1 else 0) := by
  simp only [dstN, List.countP_append, List.countP_cons, List.countP_nil, decide_eq_true_eq]; omega
theorem extN_snoc (l : List Tok) (t : Tok) : extN (l ++ [t]) = extN l + xtra t := by simp [extN]

/-! ### What they cost -/
def lenAt (l : List Int) (k : Nat) : Nat := (l[k]?.getD 0).toNat
def csum (l : List Int) (g : Nat → Nat) : Nat → Nat
  | 0 => 0
  | n + 1 => csum l g n + lenAt l n * g n
theorem csum_add (l : List Int) (g h : Nat → Nat) : ∀ n, csum l (fun k => g k + h k) n = csum l g n + csum l h n
  | 0 => rfl
  | n + 1 => by rw [csum, csum, csum, csum_add l g h n, Nat.mul_add]; omega
theorem csum_zero (l : List Int) (g : Nat → Nat) : ∀ n, (∀ k, k < n → g k = 0) → csum l g n = 0
  | 0, _ => rfl
  | n + 1, h => by rw [csum, csum_zero l g n (fun k hk => h k (by omega)), h n (by omega)]; rfl
theorem csum_one (l : List Int) (s : Nat) : ∀ n, s < n → csum l (fun k => if s = k then 1 else 0) n = lenAt l s
  | 0, h => by omega
  | n + 1, h => by
    rw [csum]
    by_cases c : s = n
    · subst c
      rw [csum_zero l _ s (fun k hk => if_neg (by omega)), if_pos rfl]; omega
    · rw [csum_one l s n (by omega), if_neg c]; omega
theorem csum_ext (l m : List Int) (g h : Nat → Nat) : ∀ n, (∀ k, k < n → lenAt l k = lenAt m k ∧ g k = h k) → csum l g n = csum m h n
  | 0, _ => rfl
  | n + 1, hh => by rw [csum, csum, csum_ext l m g h n (fun k hk => hh k (by omega)), (hh n (by omega)).1, (hh n (by omega)).2]
theorem symBits_length (l : List Int) (k : Nat) : (symBits l k).length = lenAt l k := by unfold symBits lenAt; rw [hiBits_length]
theorem tokB_length (lit dist : List Int) (t : Tok) : (tokB lit dist t).length = lenAt lit (symOf t) + (if t.2.1 ≠ 0 then lenAt dist (dstC t) else 0) + xtra t := by
  unfold tokB symOf xtra
  by_cases h : t.2.1 = 0
  · rw [if_pos h, if_pos h, if_pos h, if_neg (fun c => c h), symBits_length]; omega
  · rw [if_neg h, if_neg h, if_neg h, if_pos h]
    simp only [List.length_append, symBits_length, bitsOf_length]; omega
theorem toksB_length {lit dist : List Int} : ∀ {l : List Tok}, (∀ t ∈ l, soundB t = true) → byteOK l → (toksB lit dist l).length = csum lit (litE l) 286 + csum dist (dstN l) 30 + extN l
  | [], _, _ => by
    rw [toksB, List.flatMap_nil, List.nil_append, symBits_length]
    have e : litE [] = fun k => if 256 = k then 1 else 0 := by funext k; simp [litE, litN]
    rw [e, csum_one _ _ _ (by decide), csum_zero dist (dstN []) 30 (fun k _ => rfl)]; rfl
  | t :: l, hs, hb => by
    have hs1 := hs t (List.mem_cons_self ..)
    have hb1 := hb t (List.mem_cons_self ..)
    rw [toksB_cons, List.length_append, toksB_length (fun s h => hs s (List.mem_cons_of_mem _ h)) (fun s h => hb s (List.mem_cons_of_mem _ h)), tokB_length]
    have e1 : litE (t :: l) = fun k => litE l k + (if symOf t = k then 1 else 0) := by
      funext k
      simp only [litE, litN, List.countP_cons, decide_eq_true_eq]; omega
    have e2 : dstN (t :: l) = fun k => dstN l k + (if t.2.1 ≠ 0 ∧ dstC t = k then 1 else 0) := by
      funext k
      simp only [dstN, List.countP_cons, decide_eq_true_eq]
    have e3 : extN (t :: l) = xtra t + extN l := by simp [extN]
    rw [e1, e2, e3, csum_add, csum_add, csum_one _ _ _ (symOf_lt hs1 hb1)]
    by_cases h0 : t.2.1 = 0
    · rw [csum_zero dist (fun k => if t.2.1 ≠ 0 ∧ dstC t = k then 1 else 0) 30 (fun k _ => if_neg fun h => h.1 h0), if_neg (fun h => h h0)]; omega
    · have e4 : (fun k => if t.2.1 ≠ 0 ∧ dstC t = k then 1 else 0) = fun k => if dstC t = k then 1 else 0 := by funext k; simp [h0]
      rw [e4, csum_one _ _ _ (dstC_is hs1 h0).1, if_pos h0]; omega
/-- what the program's Cost counts -/
theorem costTo_csum {l : List Int} {g : Nat → Nat} {N : Nat} (hl : ∀ a ∈ l, 0 ≤ a ∧ a ≤ 15) (hg : ∀ k, k < N → g k ≤ 1048576) : ∀ k, k ≤ N → k ≤ l.length → costTo l (((List.range N).map g).map fun (n : Nat) => (n : Int)) k = csum l g k
  | 0, _, _ => rfl
  | k + 1, h1, h2 => by
    rw [costTo, csum, costTo_csum hl hg k (by omega) (by omega)]
    have e1 : l.getD k 0 = l[k]?.getD 0 := by simp [List.getD]
    have e2 : (((List.range N).map g).map fun (n : Nat) => (n : Int)).getD k 0 = ((g k : Nat) : Int) := by
      have hk : k < N := by omega
      simp [List.getD, hk]
    have e3 := hl _ (List.mem_of_getElem? (List.getElem?_eq_getElem (show k < l.length by omega)))
    rw [e1, e2, List.getElem?_eq_getElem (show k < l.length by omega)]
    unfold valOf lenAt
    rw [List.getElem?_eq_getElem (show k < l.length by omega)]
    simp only [Option.getD_some]
    have := hg k (by omega)
    rw [if_pos ⟨e3.1, by omega⟩, if_pos ⟨Int.natCast_nonneg _, by omega⟩, Int.toNat_natCast]
theorem csum_past {l : List Int} {g : Nat → Nat} {n : Nat} (h : l.length ≤ n) : ∀ d, csum l g (n + d) = csum l g n
  | 0 => rfl
  | d + 1 => by
    rw [← Nat.add_assoc, csum, csum_past h d]
    have : lenAt l (n + d) = 0 := by unfold lenAt; rw [List.getElem?_eq_none (by omega)]; rfl
    rw [this, Nat.zero_mul, Nat.add_zero]
theorem cost_csum {l : List Int} {g : Nat → Nat} {N : Nat} (hl : ∀ a ∈ l, 0 ≤ a ∧ a ≤ 15) (hg : ∀ k, k < N → g k ≤ 1048576) : costTo l (((List.range N).map g).map fun (n : Nat) => (n : Int)) (min l.length (((List.range N).map g).map fun (n : Nat) => (n : Int)).length) = csum l g N := by
  have hlen : (((List.range N).map g).map fun (n : Nat) => (n : Int)).length = N := by simp
  rw [hlen]
  by_cases h : l.length ≤ N
  · rw [Nat.min_eq_left h, costTo_csum hl hg _ h (Nat.le_refl _)]
    have := csum_past (g := g) (Nat.le_refl l.length) (N - l.length)
    rw [show l.length + (N - l.length) = N by omega] at this
    exact this.symm
  · rw [Nat.min_eq_right (by omega), costTo_csum hl hg _ (Nat.le_refl _) (by omega)]
theorem lenAt_le {l : List Int} {m : Nat} (h : ∀ a ∈ l, 0 ≤ a ∧ a ≤ (m : Int)) (k : Nat) : lenAt l k ≤ m := by
  unfold lenAt
  cases e : l[k]? with
  | none => exact Nat.zero_le _
  | some a => have := h a (List.mem_of_getElem? e); show a.toNat ≤ m; omega
theorem xtra_le {t : Tok} (hs : soundB t = true) : xtra t ≤ 18 := by
  unfold xtra
  split
  · omega
  · rename_i h
    have h1 := lX_le _ (lenC_is hs h).1
    have h2 := dX_le _ (dstC_is hs h).1
    omega
theorem toksB_short {lit dist : List Int} (hl : ∀ a ∈ lit, 0 ≤ a ∧ a ≤ 15) (hd : ∀ a ∈ dist, 0 ≤ a ∧ a ≤ 15) : ∀ {l : List Tok}, (∀ t ∈ l, soundB t = true) → (toksB lit dist l).length ≤ 48 * l.length + 15
  | [], _ => by
    rw [toksB, List.flatMap_nil, List.nil_append, symBits_length]
    have := lenAt_le (m := 15) hl 256
    simpa using this
  | t :: l, hs => by
    have ih := toksB_short hl hd (l := l) fun s h => hs s (List.mem_cons_of_mem _ h)
    have h1 := lenAt_le (m := 15) hl (symOf t)
    have h2 := lenAt_le (m := 15) hd (dstC t)
    have h3 := xtra_le (hs t (List.mem_cons_self ..))
    rw [toksB_cons, List.length_append, tokB_length, List.length_cons]
    split <;> omega
end Go.Proofs.YthibpnkdhbkakaaDoor
/-
  The reference's MayLimit.
-/
namespace Go.Proofs.YthibpnkdhbkakaaDoor
set_option maxRecDepth 5000
open Go.RowKit

def frqIn (f : List Int) : Bool := f.all fun a => decide (0 ≤ a ∧ a ≤ 1048576)
theorem frqIn_iff (f : List Int) : frqIn f = true ↔ ∀ a ∈ f, 0 ≤ a ∧ a ≤ 1048576 := by simp [frqIn]
theorem frqIn_snoc (l : List Int) (a : Int) : frqIn (l ++ [a]) = (frqIn l && decide (0 ≤ a ∧ a ≤ 1048576)) := by simp [frqIn]
theorem frqIn_take (l : List Int) (i : Nat) (h : frqIn (l.take i) = false) : frqIn l = false := by
  rw [← List.take_append_drop i l]
  unfold frqIn at *
  rw [List.all_append, h]; rfl
/-- what MayLimit returns -/
def mayOf (f : List Int) (most : Int) : Nat :=
  if 288 < f.length ∨ most < 1 ∨ 15 < most ∨ frqIn f = false then 1 else if 2 ^ most.toNat < coded f then 3 else 0
theorem mayOf_ok {f : List Int} {most : Int} (h : mayOf f most = 0) : f.length ≤ 288 ∧ 1 ≤ most ∧ most ≤ 15 ∧ (∀ a ∈ f, 0 ≤ a ∧ a ≤ 1048576) ∧ coded f ≤ 2 ^ most.toNat := by
  unfold mayOf at h
  split at h
  · cases h
  · rename_i h1
    split at h
    · cases h
    · rename_i h2
      have h3 : frqIn f = true := by
        cases hf : frqIn f with
        | true => rfl
        | false => exact absurd (.inr (.inr (.inr hf))) h1
      exact ⟨by omega, by omega, by omega, (frqIn_iff f).1 h3, by omega⟩
end Go.Proofs.YthibpnkdhbkakaaDoor
/-
  Lengths of least cost within a limit: what follows from being the least, whatever way they were found. No program is named here.
-/
namespace Go.Proofs.YthibpnkdhbkakaaDoor
set_option maxRecDepth 5000

/-- how many of the longest codes begin with a code of n bits -/
def wtN (n : Nat) : Nat := if 1 ≤ n ∧ n ≤ 15 then 2 ^ (15 - n) else 0
def kr : List Nat → Nat
  | [] => 0
  | n :: l => wtN n + kr l
def cst : List Nat → List Nat → Nat
  | a :: l, b :: f => a * b + cst l f
  | _, _ => 0
theorem wtN_int (n : Nat) : wtTo 15 (n : Int) = wtN n := by
  unfold wtTo wtN
  by_cases h : 1 ≤ n ∧ n ≤ 15
  · rw [if_pos (by omega), if_pos h]; simp
  · rw [if_neg (by omega), if_neg h]
theorem kr_sum (l : List Nat) : sumOf (l.map fun (n : Nat) => (n : Int)) = kr l := by
  induction l with
  | nil => simp [sumOf, tot_nil, kr]
  | cons a l ih => rw [List.map_cons, sum_cons, wtN_int, ih, kr]
theorem wtN_zero : wtN 0 = 0 := by decide
theorem kr_append (l m : List Nat) : kr (l ++ m) = kr l + kr m := by
  induction l with
  | nil => simp [kr]
  | cons a l ih => rw [List.cons_append, kr, kr, ih]; omega
theorem kr_set (b : Nat) : ∀ (l : List Nat) (k a : Nat), l[k]? = some a → kr (l.set k b) + wtN a = kr l + wtN b
  | [], k, a, h => by simp at h
  | c :: l, 0, a, h => by
    simp only [List.getElem?_cons_zero, Option.some.injEq] at h
    subst h
    rw [List.set_cons_zero, kr, kr]; omega
  | c :: l, k + 1, a, h => by
    rw [List.set_cons_succ, kr, kr]
    have := kr_set b l k a (by simpa using h)
    omega
theorem cst_set (b : Nat) : ∀ (l f : List Nat) (k a c : Nat), l[k]? = some a → f[k]? = some c → cst (l.set k b) f + a * c = cst l f + b * c
  | [], f, k, a, c, h, _ => by simp at h
  | x :: l, [], k, a, c, _, h => by simp at h
  | x :: l, y :: f, 0, a, c, h, h2 => by
    simp only [List.getElem?_cons_zero, Option.some.injEq] at h h2
    subst h; subst h2
    rw [List.set_cons_zero, cst, cst]; omega
  | x :: l, y :: f, k + 1, a, c, h, h2 => by
    rw [List.set_cons_succ, cst, cst]
    have := cst_set b l f k a c (by simpa using h) (by simpa using h2)
    omega
theorem cst_append : ∀ (l f l2 f2 : List Nat), l.length = f.length → cst (l ++ l2) (f ++ f2) = cst l f + cst l2 f2
  | [], [], l2, f2, _ => by simp [cst]
  | [], y :: f, _, _, h => by simp at h
  | x :: l, [], _, _, h => by simp at h
  | x :: l, y :: f, l2, f2, h => by
    rw [List.cons_append, List.cons_append, cst, cst, cst_append l f l2 f2 (by simpa using h)]; omega
theorem cst_mono : ∀ (l l2 f : List Nat), l.length = f.length → l2.length = f.length → (∀ (i a b c : Nat), l[i]? = some a → l2[i]? = some b → f[i]? = some c → 0 < c → a ≤ b) → cst l f ≤ cst l2 f
  | [], [], [], _, _, _ => Nat.le_refl _
  | [], y :: l2, [], _, h, _ => by simp at h
  | [], _, z :: f, h, _, _ => by simp at h
  | x :: l, _, [], h, _, _ => by simp at h
  | x :: l, [], z :: f, _, h, _ => by simp at h
  | x :: l, y :: l2, z :: f, h1, h2, h => by
    have h3 := cst_mono l l2 f (by simpa using h1) (by simpa using h2) fun i a b c ha hb hc => h (i + 1) a b c (by simpa using ha) (by simpa using hb) (by simpa using hc)
    have h4 : x * z ≤ y * z := by
      by_cases hz : 0 < z
      · exact Nat.mul_le_mul_right _ (h 0 x y z rfl rfl rfl hz)
      · obtain rfl : z = 0 := by omega
        simp
    rw [cst, cst]; omega

/-- lengths that frequencies may have -/
structure FitL (f : List Nat) (m : Nat) (l : List Nat) : Prop where
  len : l.length = f.length
  sup : ∀ (i a b : Nat), l[i]? = some a → f[i]? = some b → (0 < a ↔ 0 < b)
  le : ∀ a ∈ l, a ≤ m
  whole : kr l = 32768
/-- .. of least cost -/
structure OptL (f : List Nat) (m : Nat) (l : List Nat) : Prop where
  good : FitL f m l
  least : ∀ l2, FitL f m l2 → cst l f ≤ cst l2 f

theorem get_some {l : List Nat} {i : Nat} (h : i < l.length) : ∃ a, l[i]? = some a := ⟨_, List.getElem?_eq_getElem h⟩
/-- What comes more often has no longer code. -/
theorem OptL.order {f l : List Nat} {m : Nat} (h : OptL f m l) {i j a b c d : Nat} (hi : l[i]? = some a) (hj : l[j]? = some b) (hfi : f[i]? = some c) (hfj : f[j]? = some d) (hd : 0 < d) (hcd : d < c) : a ≤ b := by
  by_cases hab : a ≤ b
  · exact hab
  exfalso
  have hne : i ≠ j := by
    intro e; subst e
    rw [hfi] at hfj; injection hfj with e; omega
  have hb0 := (h.good.sup j b d hj hfj).2 hd
  have h1 := cst_set b l f i a c hi hfi
  have hj2 : (l.set i b)[j]? = some b := by rw [List.getElem?_set_ne hne]; exact hj
  have h2 := cst_set a (l.set i b) f j b d hj2 hfj
  have k1 := kr_set b l i a hi
  have k2 := kr_set a (l.set i b) j b hj2
  have hil := (List.getElem?_eq_some_iff.1 hi).1
  have hjl := (List.getElem?_eq_some_iff.1 hj).1
  have hg : FitL f m ((l.set i b).set j a) := by
    refine ⟨by simp [h.good.len], fun k x y hx hy => ?_, fun x hx => ?_, by have := h.good.whole; omega⟩
    · by_cases e1 : k = j
      · subst e1
        rw [List.getElem?_set_self (by simpa using hjl)] at hx
        injection hx with hx; subst hx
        rw [hfj] at hy; injection hy with hy; subst hy
        omega
      · rw [List.getElem?_set_ne (fun e => e1 e.symm)] at hx
        by_cases e2 : k = i
        · subst e2
          rw [List.getElem?_set_self hil] at hx
          injection hx with hx; subst hx
          rw [hfi] at hy; injection hy with hy; subst hy
          omega
        · rw [List.getElem?_set_ne (fun e => e2 e.symm)] at hx
          exact h.good.sup k x y hx hy
    · rcases List.mem_or_eq_of_mem_set hx with hx | hx
      · rcases List.mem_or_eq_of_mem_set hx with hx | hx
        · exact h.good.le x hx
        · subst hx; exact h.good.le x (List.mem_of_getElem? hj)
      · subst hx; exact h.good.le x (List.mem_of_getElem? hi)
  have h3 := h.least _ hg
  obtain ⟨e, rfl⟩ : ∃ e, a = b + (e + 1) := ⟨a - b - 1, by omega⟩
  obtain ⟨g, rfl⟩ : ∃ g, c = d + (g + 1) := ⟨c - d - 1, by omega⟩
  have e1 : (b + (e + 1)) * (d + (g + 1)) = b * d + b * (g + 1) + (e + 1) * d + (e + 1) * (g + 1) := by
    rw [Nat.add_mul, Nat.mul_add b d (g + 1), Nat.mul_add (e + 1) d (g + 1)]; omega
  have e2 : b * (d + (g + 1)) = b * d + b * (g + 1) := Nat.mul_add _ _ _
  have e3 : (b + (e + 1)) * d = b * d + (e + 1) * d := Nat.add_mul _ _ _
  have e4 : 0 < (e + 1) * (g + 1) := Nat.mul_pos (by omega) (by omega)
  omega
theorem FitL.more {f l : List Nat} {m : Nat} (h : FitL f m l) : FitL f (m + 1) l := ⟨h.len, h.sup, fun a ha => Nat.le_succ_of_le (h.le a ha), h.whole⟩
/-- To allow longer codes never costs more. -/
theorem OptL.more {f l k : List Nat} {m : Nat} (h : OptL f m l) (h2 : OptL f (m + 1) k) : cst k f ≤ cst l f := h2.least _ h.good.more
/-- the turned frequencies -/
theorem FitL.turn {f1 f2 l : List Nat} {m : Nat} (h : FitL (f1 ++ f2) m l) : FitL (f2 ++ f1) m (l.drop f1.length ++ l.take f1.length) ∧ cst (l.drop f1.length ++ l.take f1.length) (f2 ++ f1) = cst l (f1 ++ f2) := by
  have hl : l.length = f1.length + f2.length := by rw [h.len, List.length_append]
  obtain ⟨l1, l2, rfl, h1⟩ : ∃ l1 l2, l = l1 ++ l2 ∧ l1.length = f1.length := ⟨l.take f1.length, l.drop f1.length, (List.take_append_drop _ _).symm, by simp; omega⟩
  rw [← h1, List.drop_left, List.take_left]
  have h2 : l2.length = f2.length := by rw [List.length_append] at hl; omega
  refine ⟨⟨by simp [h1, h2], fun i a b ha hb => ?_, fun a ha => h.le a ?_, ?_⟩, ?_⟩
  · by_cases hi : i < l2.length
    · rw [List.getElem?_append_left hi] at ha
      rw [List.getElem?_append_left (by omega)] at hb
      refine h.sup (l1.length + i) a b ?_ ?_
      · rw [List.getElem?_append_right (by omega), show l1.length + i - l1.length = i by omega]; exact ha
      · rw [List.getElem?_append_right (by omega), show l1.length + i - f1.length = i by omega]; exact hb
    · rw [List.getElem?_append_right (by omega)] at ha
      rw [List.getElem?_append_right (by omega)] at hb
      have hil := (List.getElem?_eq_some_iff.1 ha).1
      refine h.sup (i - l2.length) a b ?_ ?_
      · rw [List.getElem?_append_left (by omega)]; exact ha
      · rw [List.getElem?_append_left (by omega), h2]; exact hb
  · rw [List.mem_append] at ha ⊢
    exact ha.symm
  · have := h.whole
    rw [kr_append] at this ⊢; omega
  · rw [cst_append _ _ _ _ h2, cst_append _ _ _ _ h1]; omega
theorem OptL.turn {f1 f2 l x : List Nat} {m : Nat} (h : OptL (f1 ++ f2) m l) (h2 : OptL (f2 ++ f1) m x) : cst x (f2 ++ f1) = cst l (f1 ++ f2) := by
  have h3 := h2.least _ h.good.turn.1
  rw [h.good.turn.2] at h3
  have h4 := h.least _ h2.good.turn.1
  rw [h2.good.turn.2] at h4
  omega

/-! ### lengths that leave room, made whole -/
def total : List Nat → Nat
  | [] => 0
  | a :: l => a + total l
theorem total_set (b : Nat) : ∀ (l : List Nat) (k a : Nat), l[k]? = some a → total (l.set k b) + a = total l + b
  | [], k, a, h => by simp at h
  | c :: l, 0, a, h => by
    simp only [List.getElem?_cons_zero, Option.some.injEq] at h
    subst h
    rw [List.set_cons_zero, total, total]; omega
  | c :: l, k + 1, a, h => by
    rw [List.set_cons_succ, total, total]
    have := total_set b l k a (by simpa using h)
    omega
/-- how many symbols have a code -/
def codedN : List Nat → Nat
  | [] => 0
  | a :: l => (if 0 < a then 1 else 0) + codedN l
theorem kr_ones : ∀ l : List Nat, (∀ a ∈ l, a ≤ 1) → kr l = 16384 * codedN l
  | [], _ => rfl
  | a :: l, h => by
    have h1 := h a List.mem_cons_self
    have h2 := kr_ones l fun b hb => h b (List.mem_cons_of_mem _ hb)
    rw [kr, codedN, h2]
    by_cases h0 : a = 0
    · subst h0; rw [wtN_zero, if_neg (by omega)]; omega
    · obtain rfl : a = 1 := by omega
      rw [show wtN 1 = 16384 by decide, if_pos (by omega)]; omega
/-- what lengths of at most n bits take is a multiple of what one of n bits takes -/
theorem kr_dvd (n : Nat) (hn : n ≤ 15) : ∀ l : List Nat, (∀ a ∈ l, a ≤ n) → 2 ^ (15 - n) ∣ kr l
  | [], _ => ⟨0, rfl⟩
  | a :: l, h => by
    have h1 := h a List.mem_cons_self
    have h2 := kr_dvd n hn l fun b hb => h b (List.mem_cons_of_mem _ hb)
    rw [kr]
    refine Nat.dvd_add ?_ h2
    unfold wtN
    split
    · exact Nat.pow_dvd_pow 2 (by omega)
    · exact ⟨0, rfl⟩
theorem longest : ∀ l : List Nat, l ≠ [] → ∃ (k n : Nat), l[k]? = some n ∧ ∀ a ∈ l, a ≤ n
  | [], h => absurd rfl h
  | [a], _ => ⟨0, a, rfl, fun b hb => by simp at hb; omega⟩
  | a :: b :: l, _ => by
    obtain ⟨k, n, h1, h2⟩ := longest (b :: l) (by simp)
    by_cases h : a ≤ n
    · exact ⟨k + 1, n, by simpa using h1, fun c hc => by
        rcases List.mem_cons.1 hc with hc | hc
        · omega
        · exact h2 c hc⟩
    · exact ⟨0, a, rfl, fun c hc => by
        rcases List.mem_cons.1 hc with hc | hc
        · omega
        · have := h2 c hc; omega⟩
theorem wtN_half (n : Nat) (h1 : 1 ≤ n) (h : n ≤ 14) : wtN n = 2 * wtN (n + 1) := by
  unfold wtN
  rw [if_pos (by omega), if_pos (by omega), show 15 - n = (15 - (n + 1)) + 1 by omega, Nat.pow_succ, Nat.mul_comm]
theorem wtN_pos (n : Nat) (h1 : 1 ≤ n) (h : n ≤ 15) : wtN n = 2 ^ (15 - n) := by unfold wtN; rw [if_pos ⟨h1, h⟩]
theorem codedN_set (b : Nat) : ∀ (l : List Nat) (k a : Nat), l[k]? = some a → 0 < a → 0 < b → codedN (l.set k b) = codedN l
  | [], k, a, h, _, _ => by simp at h
  | c :: l, 0, a, h, h1, h2 => by
    simp only [List.getElem?_cons_zero, Option.some.injEq] at h
    subst h
    rw [List.set_cons_zero, codedN, codedN, if_pos h1, if_pos h2]
  | c :: l, k + 1, a, h, h1, h2 => by
    rw [List.set_cons_succ, codedN, codedN, codedN_set b l k a (by simpa using h) h1 h2]
/-- Two codes or more that leave room can be shortened until they leave none. -/
theorem tighten : ∀ (t : Nat) (l : List Nat), total l ≤ t → (∀ a ∈ l, a ≤ 15) → kr l ≤ 32768 → 2 ≤ codedN l →
    ∃ l2 : List Nat, l2.length = l.length ∧ (∀ (i a b : Nat), l2[i]? = some a → l[i]? = some b → (0 < a ↔ 0 < b) ∧ a ≤ b) ∧ kr l2 = 32768 := by
  intro t
  induction t with
  | zero =>
    intro l ht _ _ hc
    exfalso
    have : ∀ l : List Nat, total l ≤ 0 → codedN l = 0 := by
      intro l
      induction l with
      | nil => intro _; rfl
      | cons a l ih =>
        intro h
        rw [total] at h
        rw [codedN, ih (by omega), if_neg (by omega)]
    rw [this l ht] at hc; omega
  | succ t ih =>
    intro l ht hl hk hc
    by_cases hw : kr l = 32768
    · exact ⟨l, rfl, fun i a b ha hb => by rw [ha] at hb; injection hb with hb; subst hb; exact ⟨Iff.rfl, Nat.le_refl _⟩, hw⟩
    · have hne : l ≠ [] := by rintro rfl; simp [codedN] at hc
      obtain ⟨k, n, h1, h2⟩ := longest l hne
      have hn15 := hl n (List.mem_of_getElem? h1)
      have hn2 : 2 ≤ n := by
        by_cases h : n ≤ 1
        · have := kr_ones l fun a ha => by have := h2 a ha; omega
          omega
        · omega
      obtain ⟨m, rfl⟩ : ∃ m, n = m + 1 := ⟨n - 1, by omega⟩
      obtain ⟨q, hq⟩ := kr_dvd (m + 1) hn15 l h2
      have hp : 2 ^ (15 - (m + 1)) * 2 ^ (m + 1) = 32768 := by rw [← Nat.pow_add, show 15 - (m + 1) + (m + 1) = 15 by omega]
      have hroom : kr l + 2 ^ (15 - (m + 1)) ≤ 32768 := by
        rw [hq] at hk hw ⊢
        rw [← hp] at hk hw ⊢
        have hpp : 0 < 2 ^ (15 - (m + 1)) := Nat.two_pow_pos _
        have h5 : q ≤ 2 ^ (m + 1) := Nat.le_of_mul_le_mul_left hk hpp
        have h6 : q ≠ 2 ^ (m + 1) := fun e => hw (by rw [e])
        have h7 : q + 1 ≤ 2 ^ (m + 1) := by omega
        have h8 := Nat.mul_le_mul_left (2 ^ (15 - (m + 1))) h7
        rw [Nat.mul_add, Nat.mul_one] at h8
        exact h8
      have k1 := kr_set m l k (m + 1) h1
      have k2 := wtN_half m (by omega) (by omega)
      have k3 := wtN_pos (m + 1) (by omega) hn15
      have k4 := total_set m l k (m + 1) h1
      have k5 := codedN_set m l k (m + 1) h1 (by omega) (by omega)
      obtain ⟨l2, g1, g2, g3⟩ := ih (l.set k m) (by omega) (fun a ha => by
        rcases List.mem_or_eq_of_mem_set ha with h | h
        · exact hl a h
        · omega) (by omega) (by omega)
      have hkl := (List.getElem?_eq_some_iff.1 h1).1
      refine ⟨l2, by simpa using g1, fun i a b ha hb => ?_, g3⟩
      by_cases e : k = i
      · subst e
        have := g2 k a m ha (List.getElem?_set_self hkl)
        rw [h1] at hb; injection hb with hb
        omega
      · exact g2 i a b ha (by rw [List.getElem?_set_ne e]; exact hb)
/-- the lengths of the symbols that come -/
def onlyOf : List Nat → List Nat → List Nat
  | b :: f, a :: o => (if 0 < b then a else 0) :: onlyOf f o
  | _, _ => []
theorem onlyOf_length : ∀ (f o : List Nat), o.length = f.length → (onlyOf f o).length = f.length
  | [], [], _ => rfl
  | [], a :: o, h => by simp at h
  | b :: f, [], h => by simp at h
  | b :: f, a :: o, h => by simp only [onlyOf, List.length_cons]; rw [onlyOf_length f o (by simpa using h)]
theorem onlyOf_get : ∀ (f o : List Nat) (i a b : Nat), o[i]? = some a → f[i]? = some b → (onlyOf f o)[i]? = some (if 0 < b then a else 0)
  | [], _, i, a, b, _, h => by simp at h
  | b :: f, [], i, a, c, h, _ => by simp at h
  | b :: f, a :: o, 0, x, y, h, h2 => by
    simp only [List.getElem?_cons_zero, Option.some.injEq] at h h2
    subst h; subst h2; rfl
  | b :: f, a :: o, i + 1, x, y, h, h2 => by
    simp only [onlyOf, List.getElem?_cons_succ]
    exact onlyOf_get f o i x y (by simpa using h) (by simpa using h2)
theorem onlyOf_kr : ∀ (f o : List Nat), kr (onlyOf f o) ≤ kr o
  | [], o => by simp [onlyOf, kr]
  | b :: f, [] => by simp [onlyOf, kr]
  | b :: f, a :: o => by
    have := onlyOf_kr f o
    rw [onlyOf, kr, kr]
    split
    · omega
    · rw [wtN_zero]; omega
theorem onlyOf_cst : ∀ (f o : List Nat), cst (onlyOf f o) f = cst o f
  | [], o => by cases o <;> simp [onlyOf, cst]
  | b :: f, [] => by simp [onlyOf, cst]
  | b :: f, a :: o => by
    rw [onlyOf, cst, cst, onlyOf_cst f o]
    split
    · rfl
    · obtain rfl : b = 0 := by omega
      simp
theorem onlyOf_le (m : Nat) : ∀ (f o : List Nat), (∀ a ∈ o, a ≤ m) → ∀ a ∈ onlyOf f o, a ≤ m
  | [], o, _ => by simp [onlyOf]
  | b :: f, [], _ => by simp [onlyOf]
  | b :: f, a :: o, h => by
    intro x hx
    rw [onlyOf] at hx
    rcases List.mem_cons.1 hx with hx | hx
    · have := h a List.mem_cons_self
      rw [hx]; split <;> omega
    · exact onlyOf_le m f o (fun y hy => h y (List.mem_cons_of_mem _ hy)) x hx
theorem onlyOf_coded : ∀ (f o : List Nat), o.length = f.length → (∀ (i a b : Nat), o[i]? = some a → f[i]? = some b → 0 < b → 0 < a) → codedN (onlyOf f o) = codedN f
  | [], [], _, _ => rfl
  | [], a :: o, h, _ => by simp at h
  | b :: f, [], h, _ => by simp at h
  | b :: f, a :: o, h, h2 => by
    rw [onlyOf, codedN, codedN, onlyOf_coded f o (by simpa using h) fun i x y hx hy => h2 (i + 1) x y (by simpa using hx) (by simpa using hy)]
    have := h2 0 a b rfl rfl
    by_cases hb : 0 < b
    · rw [if_pos hb, if_pos hb, if_pos (this hb)]
    · rw [if_neg hb, if_neg hb, if_neg (by omega)]
/-- No other code for these symbols, and maybe for more, costs less. -/
theorem OptL.best {f l o : List Nat} {m : Nat} (h : OptL f m l) (hm : m ≤ 15) (ho : o.length = f.length) (hle : ∀ a ∈ o, a ≤ m) (hk : kr o ≤ 32768) (hs : ∀ (i a b : Nat), o[i]? = some a → f[i]? = some b → 0 < b → 0 < a) (hc : 2 ≤ codedN f) : cst l f ≤ cst o f := by
  obtain ⟨l2, g1, g2, g3⟩ := tighten (total (onlyOf f o)) (onlyOf f o) (Nat.le_refl _) (fun a ha => Nat.le_trans (onlyOf_le m f o hle a ha) hm) (Nat.le_trans (onlyOf_kr f o) hk) (by rw [onlyOf_coded f o ho hs]; exact hc)
  have hlen : l2.length = f.length := by rw [g1, onlyOf_length f o ho]
  have hat : ∀ (i a b : Nat), l2[i]? = some a → f[i]? = some b → (0 < a ↔ 0 < b) ∧ ∃ c, o[i]? = some c ∧ (0 < b → a ≤ c) := by
    intro i a b ha hb
    have hi := (List.getElem?_eq_some_iff.1 hb).1
    obtain ⟨c, hc⟩ := get_some (l := o) (i := i) (by omega)
    have h1 := g2 i a _ ha (onlyOf_get f o i c b hc hb)
    have h2 := hs i c b hc hb
    by_cases h0 : 0 < b
    · rw [if_pos h0] at h1
      exact ⟨⟨fun _ => h0, fun _ => h1.1.2 (h2 h0)⟩, c, hc, fun _ => h1.2⟩
    · rw [if_neg h0] at h1
      exact ⟨⟨fun hh => absurd (h1.1.1 hh) (by omega), fun hh => absurd hh h0⟩, c, hc, fun hh => absurd hh h0⟩
  have hfit : FitL f m l2 := ⟨hlen, fun i a b ha hb => (hat i a b ha hb).1, fun a ha => by
    obtain ⟨i, hi⟩ := List.mem_iff_getElem?.1 ha
    have hil := (List.getElem?_eq_some_iff.1 hi).1
    obtain ⟨b, hb⟩ := get_some (l := f) (i := i) (by omega)
    obtain ⟨h1, c, hc, h2⟩ := hat i a b hi hb
    by_cases h0 : 0 < b
    · exact Nat.le_trans (h2 h0) (hle c (List.mem_of_getElem? hc))
    · have : ¬ 0 < a := fun hh => h0 (h1.1 hh)
      omega, g3⟩
  have h1 := h.least l2 hfit
  have h2 := cst_mono l2 o f hlen ho fun i a b c ha hb hc h0 => by
    obtain ⟨_, d, hd, h3⟩ := hat i a c ha hc
    rw [hb] at hd; injection hd with hd; subst hd
    exact h3 h0
  omega

/-! ### equal frequencies -/
theorem tangent_all : ∀ k ∈ List.range 9, ∀ n ∈ List.range 16, 1 ≤ k → 1 ≤ n → 2 ^ (15 - k) * (k + 1) ≤ wtN n + 2 ^ (15 - k) * n ∧ (wtN n + 2 ^ (15 - k) * n = 2 ^ (15 - k) * (k + 1) → n = k ∨ n + 1 = k) := by decide
theorem tangent (k : Nat) (hk : k < 9) (n : Nat) (hn : n < 16) (h1 : 1 ≤ k) (h2 : 1 ≤ n) : 2 ^ (15 - k) * (k + 1) ≤ wtN n + 2 ^ (15 - k) * n ∧ (wtN n + 2 ^ (15 - k) * n = 2 ^ (15 - k) * (k + 1) → n = k ∨ n + 1 = k) :=
  tangent_all k (List.mem_range.2 hk) n (List.mem_range.2 hn) h1 h2
theorem flat_sum (k : Nat) (hk : 1 ≤ k) (hk8 : k ≤ 8) : ∀ l : List Nat, (∀ a ∈ l, 1 ≤ a ∧ a ≤ 15) → l.length * (2 ^ (15 - k) * (k + 1)) ≤ kr l + 2 ^ (15 - k) * total l ∧
    (kr l + 2 ^ (15 - k) * total l ≤ l.length * (2 ^ (15 - k) * (k + 1)) → ∀ a ∈ l, a ≤ k)
  | [], _ => by simp [kr, total]
  | a :: l, h => by
    have ha := h a List.mem_cons_self
    obtain ⟨h1, h2⟩ := flat_sum k hk hk8 l fun b hb => h b (List.mem_cons_of_mem _ hb)
    obtain ⟨t1, t2⟩ := tangent k (by omega) a (by omega) hk ha.1
    rw [kr, total, List.length_cons, Nat.add_mul, Nat.one_mul, Nat.mul_add (2 ^ (15 - k)) a (total l)]
    generalize 2 ^ (15 - k) * (k + 1) = P at *
    generalize 2 ^ (15 - k) * a = A at *
    generalize 2 ^ (15 - k) * total l = T at *
    generalize l.length * P = L at *
    refine ⟨by omega, fun hle b hb => ?_⟩
    rcases List.mem_cons.1 hb with hb | hb
    · have := t2 (by omega)
      omega
    · exact h2 (by omega) b hb
theorem total_top (k : Nat) : ∀ l : List Nat, (∀ a ∈ l, a ≤ k) → total l ≤ l.length * k ∧ (l.length * k ≤ total l → ∀ a ∈ l, a = k)
  | [], _ => by simp [total]
  | a :: l, h => by
    have ha := h a List.mem_cons_self
    obtain ⟨h1, h2⟩ := total_top k l fun b hb => h b (List.mem_cons_of_mem _ hb)
    rw [total, List.length_cons, Nat.add_mul, Nat.one_mul]
    refine ⟨by omega, fun hle b hb => ?_⟩
    rcases List.mem_cons.1 hb with hb | hb
    · omega
    · exact h2 (by omega) b hb
theorem cst_flat (c : Nat) : ∀ (l : List Nat) (n : Nat), l.length = n → cst l (List.replicate n c) = total l * c
  | [], n, h => by obtain rfl : n = 0 := h.symm
                   simp [cst, total]
  | a :: l, 0, h => by simp at h
  | a :: l, n + 1, h => by rw [List.replicate_succ, cst, total, cst_flat c l n (by simpa using h), Nat.add_mul]
theorem kr_flat (k : Nat) (hk : 1 ≤ k) (hk8 : k ≤ 15) : ∀ n : Nat, kr (List.replicate n k) = n * 2 ^ (15 - k)
  | 0 => by simp [kr]
  | n + 1 => by rw [List.replicate_succ, kr, kr_flat k hk hk8 n, wtN_pos k hk hk8, Nat.add_mul]; omega
theorem total_flat (k : Nat) : ∀ n : Nat, total (List.replicate n k) = n * k
  | 0 => by simp [total]
  | n + 1 => by rw [List.replicate_succ, total, total_flat k n, Nat.add_mul]; omega
theorem OptL.flat {k m c : Nat} {l : List Nat} (hk : 1 ≤ k) (hk8 : k ≤ 8) (hkm : k ≤ m) (hm : m ≤ 15) (hc : 0 < c) (h : OptL (List.replicate (2 ^ k) c) m l) : ∀ a ∈ l, a = k := by
  have hlen : l.length = 2 ^ k := by rw [h.good.len, List.length_replicate]
  have hp : 2 ^ k * 2 ^ (15 - k) = 32768 := by rw [← Nat.pow_add, show k + (15 - k) = 15 by omega]
  have hg : FitL (List.replicate (2 ^ k) c) m (List.replicate (2 ^ k) k) := by
    refine ⟨by simp, fun i a b ha hb => ?_, fun a ha => ?_, by rw [kr_flat k hk (by omega)]; exact hp⟩
    · have ha' := List.eq_of_mem_replicate (List.mem_of_getElem? ha)
      have hb' := List.eq_of_mem_replicate (List.mem_of_getElem? hb)
      omega
    · have := List.eq_of_mem_replicate ha
      omega
  have h1 := h.least _ hg
  rw [cst_flat c _ _ hlen, cst_flat c _ _ (by simp), total_flat] at h1
  have h2 := Nat.le_of_mul_le_mul_right h1 hc
  have hr : ∀ a ∈ l, 1 ≤ a ∧ a ≤ 15 := by
    intro a ha
    obtain ⟨i, hi⟩ := List.mem_iff_getElem?.1 ha
    have hil := (List.getElem?_eq_some_iff.1 hi).1
    have := (h.good.sup i a c hi (by rw [List.getElem?_replicate, if_pos (by omega)])).2 hc
    have := h.good.le a ha
    omega
  have hle : ∀ a ∈ l, a ≤ k := by
    refine (flat_sum k hk hk8 l hr).2 ?_
    rw [h.good.whole, hlen, ← hp]
    have e1 : 2 ^ k * (2 ^ (15 - k) * (k + 1)) = 2 ^ (15 - k) * (2 ^ k * k) + 2 ^ k * 2 ^ (15 - k) := by
      rw [Nat.mul_add, Nat.mul_one, Nat.mul_add]
      congr 1
      rw [← Nat.mul_assoc, ← Nat.mul_assoc, Nat.mul_comm (2 ^ k)]
    have e2 := Nat.mul_le_mul_left (2 ^ (15 - k)) h2
    omega
  have hlow := (flat_sum k hk hk8 l hr).1
  rw [h.good.whole, hlen, ← hp] at hlow
  have e1 : 2 ^ k * (2 ^ (15 - k) * (k + 1)) = 2 ^ (15 - k) * (2 ^ k * k) + 2 ^ k * 2 ^ (15 - k) := by
    rw [Nat.mul_add, Nat.mul_one, Nat.mul_add]
    congr 1
    rw [← Nat.mul_assoc, ← Nat.mul_assoc, Nat.mul_comm (2 ^ k)]
  have hge : 2 ^ k * k ≤ total l := Nat.le_of_mul_le_mul_left (by omega) (Nat.two_pow_pos (15 - k))
  exact (total_top k l hle).2 (by rw [hlen]; exact hge)
/-- What comes more often than all others together has one bit. -/
theorem OptL.four {o m : Nat} {l : List Nat} (hm : 3 ≤ m) (hm2 : m ≤ 15) (h : OptL [1, 2, o + 4, 1] m l) : l[2]? = some 1 := by
  have hlen := h.good.len
  match l, hlen with
  | [x0, x1, x2, x3], _ =>
    have p0 := (h.good.sup 0 x0 1 rfl rfl).2 (by omega)
    have p1 := (h.good.sup 1 x1 2 rfl rfl).2 (by omega)
    have p2 := (h.good.sup 2 x2 (o + 4) rfl rfl).2 (by omega)
    have p3 := (h.good.sup 3 x3 1 rfl rfl).2 (by omega)
    have hg : FitL [1, 2, o + 4, 1] m [3, 2, 1, 3] := by
      refine ⟨rfl, fun i a b ha hb => ?_, fun a ha => ?_, by decide⟩
      · match i, ha, hb with
        | 0, ha, hb => simp at ha hb; omega
        | 1, ha, hb => simp at ha hb; omega
        | 2, ha, hb => simp at ha hb; omega
        | 3, ha, hb => simp at ha hb; omega
        | i + 4, ha, hb => simp at ha
      · simp at ha; omega
    have h1 := h.least _ hg
    have hw := h.good.whole
    simp only [cst, kr] at h1 hw
    by_cases hx : x2 = 1
    · rw [hx]; rfl
    · exfalso
      obtain ⟨z, rfl⟩ : ∃ z, x2 = z + 2 := ⟨x2 - 2, by omega⟩
      have e1 : (z + 2) * (o + 4) = z * (o + 4) + 2 * (o + 4) := Nat.add_mul _ _ _
      have e2 : z * 4 ≤ z * (o + 4) := Nat.mul_le_mul_left _ (by omega)
      have hz : z = 0 := by omega
      subst hz
      have w2 : wtN (0 + 2) = 8192 := by decide
      have w1 : wtN 1 = 16384 := by decide
      have w3 : wtN 3 = 4096 := by decide
      have w2' : wtN 2 = 8192 := by decide
      have hcase : x1 = 1 ∨ x1 = 2 := by omega
      rcases hcase with rfl | rfl
      · have hc2 : (x0 = 1 ∧ x3 = 1) ∨ (x0 = 1 ∧ x3 = 2) ∨ (x0 = 1 ∧ x3 = 3) ∨ (x0 = 2 ∧ x3 = 1) ∨ (x0 = 2 ∧ x3 = 2) ∨ (x0 = 3 ∧ x3 = 1) := by omega
        rcases hc2 with ⟨rfl, rfl⟩ | ⟨rfl, rfl⟩ | ⟨rfl, rfl⟩ | ⟨rfl, rfl⟩ | ⟨rfl, rfl⟩ | ⟨rfl, rfl⟩ <;> omega
      · obtain ⟨rfl, rfl⟩ : x0 = 1 ∧ x3 = 1 := by omega
        omega
end Go.Proofs.YthibpnkdhbkakaaDoor
