/-
  What is written is read: the bits of a symbol, of a token, of a block's tokens, of stored bytes, of the codes that a dynamic block has, and what the model of reading makes of them. No program is named here.
-/
import Derived.Test.YtmmfkppkmgjljaaDoorZE09
import Derived.Test.YtmmfkppkmgjljaaDoorZE10
namespace Go.Proofs.YtmmfkppkmgjljaaDoor
set_option maxRecDepth 5000
/-! ### Numbers and symbols -/
theorem take_read (pre post : List Nat) (n v : Nat) (h : v < 2 ^ n) : takeM (pre ++ (bitsOf n v ++ post)) pre.length n = some v := by
  unfold takeM
  rw [if_pos (by simp [bitsOf_length]), List.drop_left, List.take_left' (bitsOf_length n v), numOf_bitsOf, Nat.mod_eq_of_lt h]
def symBits (l : List Int) (k : Nat) : List Nat := hiBits (l[k]?.getD 0).toNat (codeAt l k)
structure GoodCode (l : List Int) : Prop where
  lens : ∀ a ∈ l, 0 ≤ a ∧ a ≤ 15
  sum : sumOf l ≤ 32768
def HasSym (l : List Int) (k : Nat) : Prop := ∃ a, l[k]? = some a ∧ 0 < a
theorem symBits_len {l : List Int} {k : Nat} (hs : HasSym l k) : 1 ≤ (symBits l k).length := by
  obtain ⟨a, h1, h2⟩ := hs
  unfold symBits
  rw [h1, hiBits_length]
  show 1 ≤ a.toNat
  omega
theorem symBits_isBits (l : List Int) (k : Nat) : isBits (symBits l k) := hiBits_isBits _ _
theorem sym_read {l : List Int} {k : Nat} (hl : GoodCode l) (hs : HasSym l k) {post : List Nat} (hb : isBits post) : symF l (symBits l k ++ post) = (k, (symBits l k).length, 0) := by
  obtain ⟨a, h1, h2⟩ := hs
  have h3 := hl.lens a (List.mem_of_getElem? h1)
  have h4 : l[k]? = some ((a.toNat : Nat) : Int) := by rw [h1]; congr 1; omega
  have hh := Hit.written hl.sum h4 (by omega) (by omega) post
  have e : symBits l k = hiBits a.toNat (codeAt l k) := by unfold symBits; rw [h1]; rfl
  rw [e, hiBits_length]
  exact symF_of (isBits_append (hiBits_isBits _ _) hb) hl.lens (.inl ⟨rfl, hh⟩)
theorem sym_at {l : List Int} {k : Nat} (hl : GoodCode l) (hs : HasSym l k) (pre : List Nat) {post : List Nat} (hb : isBits post) : symF l ((pre ++ (symBits l k ++ post)).drop pre.length) = (k, (symBits l k).length, 0) := by
  rw [List.drop_left]; exact sym_read hl hs hb
/-! ### Tokens -/
inductive TokBits (lit dist : List Int) : Tok → List Nat → Prop
  | lit (b : Nat) : b < 256 → HasSym lit b → TokBits lit dist ((b : Int), 0, 0) (symBits lit b)
  | ref (n d c q : Nat) : CodeIs lB 29 n c → n ≤ 258 → 3 ≤ n → CodeIs dB 30 d q → d ≤ 32768 → 1 ≤ d → HasSym lit (257 + c) → HasSym dist q →
      TokBits lit dist (0, (n : Int), (d : Int)) (symBits lit (257 + c) ++ (bitsOf (lX c) (n - lB c) ++ (symBits dist q ++ bitsOf (dX q) (d - dB q))))
theorem TokBits.isBits {lit dist : List Int} {t : Tok} {bs : List Nat} (h : TokBits lit dist t bs) : isBits bs := by
  cases h with
  | lit b _ _ => exact symBits_isBits _ _
  | ref n d c q => exact isBits_append (symBits_isBits _ _) (isBits_append (bitsOf_isBits _ _) (isBits_append (symBits_isBits _ _) (bitsOf_isBits _ _)))
theorem TokBits.len {lit dist : List Int} {t : Tok} {bs : List Nat} (h : TokBits lit dist t bs) : 1 ≤ bs.length := by
  cases h with
  | lit b _ h2 => exact symBits_len h2
  | ref n d c q _ _ _ _ _ _ h2 _ => rw [List.length_append]; have := symBits_len h2; omega
theorem tok_read {lit dist : List Int} (hl : GoodCode lit) (hd : GoodCode dist) {t : Tok} {bs : List Nat} (h : TokBits lit dist t bs) (pre : List Nat) {post : List Nat} (hb : isBits post) (M : Nat) (out : List Nat) (tk : List Tok)
    (hs : (stepT out t).1 = 0) (hM2 : (stepT out t).2.length ≤ M) : stepF lit dist (pre ++ (bs ++ post)) M pre.length out tk = (false, 0, pre.length + bs.length, (stepT out t).2, tk ++ [t]) := by
  cases h with
  | lit b h1 h2 =>
    have hsy := sym_at hl h2 pre hb
    have hss : stepT out ((b : Int), 0, 0) = if most ≤ out.length then (6, []) else (0, out ++ [b]) := by
      unfold stepT
      rw [if_neg (by simp [soundB]), if_pos rfl]
      simp
    rw [hss] at hs hM2 ⊢
    split at hs
    · cases hs
    · rename_i c
      rw [if_neg c] at hM2 ⊢
      rw [step_lit hsy h1 (by simp at hM2; omega)]
  | ref n d c q h1 h2 h3 h4 h5 h6 h7 h8 =>
    have hc29 : c < 29 := h1.1
    have hq30 : q < 30 := h4.1
    have hlb : lB c ≤ n := h1.2.1
    have hdb : dB q ≤ d := h4.2.1
    have hsb : soundB (0, (n : Int), (d : Int)) = true := by
      unfold soundB
      rw [Bool.or_eq_true]
      exact .inr (decide_eq_true ⟨rfl, ⟨(by omega : (3 : Int) ≤ (n : Int)), (by omega : (n : Int) ≤ 258)⟩, (by omega : (1 : Int) ≤ (d : Int)), (by omega : (d : Int) ≤ 32768)⟩)
    have hn0 : (n : Int) ≠ 0 := by omega
    have hst : ¬ most < out.length + n ∧ ¬ out.length < d ∧ stepT out (0, (n : Int), (d : Int)) = (0, ext out d n) := by
      by_cases c1 : most < out.length + n
      · rw [stepT_matchCap hsb hn0 c1] at hs; cases hs
      · by_cases c2 : out.length < d
        · rw [stepT_far hsb hn0 c1 c2] at hs; cases hs
        · exact ⟨c1, c2, stepT_match hsb hn0 c1 c2⟩
    obtain ⟨k1, k2, k3⟩ := hst
    rw [k3] at hM2 ⊢
    have hM3 : out.length + n ≤ M := by rw [ext_length] at hM2; exact hM2
    have e0 : pre ++ (symBits lit (257 + c) ++ (bitsOf (lX c) (n - lB c) ++ (symBits dist q ++ bitsOf (dX q) (d - dB q))) ++ post) = pre ++ (symBits lit (257 + c) ++ (bitsOf (lX c) (n - lB c) ++ (symBits dist q ++ (bitsOf (dX q) (d - dB q) ++ post)))) := by simp
    have b3 : isBits (bitsOf (dX q) (d - dB q) ++ post) := isBits_append (bitsOf_isBits _ _) hb
    have b2 : isBits (symBits dist q ++ (bitsOf (dX q) (d - dB q) ++ post)) := isBits_append (symBits_isBits _ _) b3
    have b1 : isBits (bitsOf (lX c) (n - lB c) ++ (symBits dist q ++ (bitsOf (dX q) (d - dB q) ++ post))) := isBits_append (bitsOf_isBits _ _) b2
    have hsy := sym_at hl h7 pre b1
    rw [e0, step_len hsy (by omega) (by omega), show 257 + c - 257 = c by omega]
    have e1 : pre ++ (symBits lit (257 + c) ++ (bitsOf (lX c) (n - lB c) ++ (symBits dist q ++ (bitsOf (dX q) (d - dB q) ++ post)))) = (pre ++ symBits lit (257 + c)) ++ (bitsOf (lX c) (n - lB c) ++ (symBits dist q ++ (bitsOf (dX q) (d - dB q) ++ post))) := by simp
    have t1 := take_read (pre ++ symBits lit (257 + c)) (symBits dist q ++ (bitsOf (dX q) (d - dB q) ++ post)) (lX c) (n - lB c) (len_fits h1 h2)
    rw [← e1, List.length_append] at t1
    have e2 : pre ++ (symBits lit (257 + c) ++ (bitsOf (lX c) (n - lB c) ++ (symBits dist q ++ (bitsOf (dX q) (d - dB q) ++ post)))) = (pre ++ symBits lit (257 + c) ++ bitsOf (lX c) (n - lB c)) ++ (symBits dist q ++ (bitsOf (dX q) (d - dB q) ++ post)) := by simp
    have s2 := sym_at hd h8 (pre ++ symBits lit (257 + c) ++ bitsOf (lX c) (n - lB c)) b3
    rw [← e2, List.length_append, List.length_append, bitsOf_length] at s2
    rw [match_far t1 s2]
    have e3 : pre ++ (symBits lit (257 + c) ++ (bitsOf (lX c) (n - lB c) ++ (symBits dist q ++ (bitsOf (dX q) (d - dB q) ++ post)))) = (pre ++ symBits lit (257 + c) ++ bitsOf (lX c) (n - lB c) ++ symBits dist q) ++ (bitsOf (dX q) (d - dB q) ++ post) := by simp
    have t3 := take_read (pre ++ symBits lit (257 + c) ++ bitsOf (lX c) (n - lB c) ++ symBits dist q) post (dX q) (d - dB q) (dist_fits h4 h5)
    rw [← e3, List.length_append, List.length_append, List.length_append, bitsOf_length] at t3
    rw [show lB c + (n - lB c) = n by omega, far_ok (by omega) t3 (by omega) (by omega), show dB q + (d - dB q) = d by omega]
    simp [bitsOf_length, Nat.add_assoc]
inductive ToksBits (lit dist : List Int) : List Tok → List Nat → Prop
  | nil : HasSym lit 256 → ToksBits lit dist [] (symBits lit 256)
  | cons (t : Tok) (bs : List Nat) (r : List Tok) (cs : List Nat) : TokBits lit dist t bs → ToksBits lit dist r cs → ToksBits lit dist (t :: r) (bs ++ cs)
theorem ToksBits.isBits {lit dist : List Int} : ∀ {l : List Tok} {bs : List Nat}, ToksBits lit dist l bs → isBits bs
  | _, _, .nil _ => symBits_isBits _ _
  | _, _, .cons _ _ _ _ h1 h2 => isBits_append h1.isBits h2.isBits
theorem ToksBits.len {lit dist : List Int} : ∀ {l : List Tok} {bs : List Nat}, ToksBits lit dist l bs → l.length + 1 ≤ bs.length
  | _, _, .nil h => symBits_len h
  | _, _, .cons _ _ _ _ h1 h2 => by
    have := h1.len; have := h2.len
    rw [List.length_append, List.length_cons]; omega
theorem toks_read {lit dist : List Int} (hl : GoodCode lit) (hd : GoodCode dist) {post : List Nat} (hb : isBits post) (M : Nat) : ∀ {l : List Tok} {bs : List Nat}, ToksBits lit dist l bs →
    ∀ (pre : List Nat) (f : Nat) (out o : List Nat) (tk : List Tok), l.length < f → expT out l = (0, o) → o.length ≤ M → tokF lit dist (pre ++ (bs ++ post)) M f pre.length out tk = (0, pre.length + bs.length, o, tk ++ l)
  | _, _, .nil h, pre, f, out, o, tk, hf, he, _ => by
    obtain ⟨g, rfl⟩ : ∃ g, f = g + 1 := ⟨f - 1, by omega⟩
    simp [expT] at he
    subst he
    rw [tokF_over (step_end (sym_at hl h pre hb)), List.append_nil]
  | _, _, .cons t bs r cs h1 h2, pre, f, out, o, tk, hf, he, ho => by
    obtain ⟨g, rfl⟩ : ∃ g, f = g + 1 := ⟨f - 1, by simp at hf; omega⟩
    rw [expT_cons] at he
    by_cases h0 : (stepT out t).1 = 0
    · rw [if_pos h0] at he
      have hp := expT_pre r _ (by rw [he])
      rw [he] at hp
      have hlen : (stepT out t).2.length ≤ o.length := hp.length_le
      have e0 : pre ++ (bs ++ cs ++ post) = pre ++ (bs ++ (cs ++ post)) := by simp
      have hst := tok_read hl hd h1 pre (isBits_append h2.isBits hb) M out tk h0 (by omega)
      rw [e0, tokF_on hst]
      have e1 : pre ++ (bs ++ (cs ++ post)) = (pre ++ bs) ++ (cs ++ post) := by simp
      have ih := toks_read hl hd hb M h2 (pre ++ bs) g (stepT out t).2 o (tk ++ [t]) (by simp at hf; omega) he ho
      rw [← e1, List.length_append] at ih
      rw [ih, List.length_append]
      simp [Nat.add_assoc]
    · rw [if_neg h0] at he; simp at he; exact absurd he.1 h0
/-! ### Stored bytes -/
def storedBits (a : Nat) (raw : List Nat) : List Nat := List.replicate (evenF a - a) 0 ++ (bitsOf 16 raw.length ++ (bitsOf 16 (65535 - raw.length) ++ bits8 raw))
theorem copy_read (M : Nat) {post : List Nat} : ∀ (raw pre out : List Nat), (∀ b ∈ raw, b < 256) → out.length + raw.length ≤ M → copyF (pre ++ (bits8 raw ++ post)) M raw.length pre.length out = (0, pre.length + (bits8 raw).length, out ++ raw)
  | [], pre, out, _, _ => by simp [copyF, bits8_nil]
  | b :: r, pre, out, hb, hM => by
    have e : pre ++ (bits8 (b :: r) ++ post) = pre ++ (bitsOf 8 b ++ (bits8 r ++ post)) := by rw [bits8_cons]; simp
    have t := take_read pre (bits8 r ++ post) 8 b (hb b (by simp))
    rw [e, List.length_cons, copyF, t]
    show (if M ≤ out.length then _ else _) = _
    rw [if_neg (by simp at hM; omega)]
    have e2 : pre ++ (bitsOf 8 b ++ (bits8 r ++ post)) = (pre ++ bitsOf 8 b) ++ (bits8 r ++ post) := by simp
    have ih := copy_read M (post := post) r (pre ++ bitsOf 8 b) (out ++ [b]) (fun c hc => hb c (by simp [hc])) (by simp at hM ⊢; omega)
    rw [← e2, List.length_append, bitsOf_length] at ih
    rw [ih, bits8_cons, List.length_append, bitsOf_length]
    simp [Nat.add_assoc]
theorem evenF_le (a : Nat) : a ≤ evenF a ∧ evenF a ≤ a + 7 := by unfold evenF; omega
theorem stored_read (pre post raw out : List Nat) (M : Nat) (hr : ∀ b ∈ raw, b < 256) (hlen : raw.length ≤ 65535) (hM : out.length + raw.length ≤ M) :
    storedF (pre ++ (storedBits pre.length raw ++ post)) M pre.length out = (0, pre.length + (storedBits pre.length raw).length, out ++ raw) := by
  have he := evenF_le pre.length
  obtain ⟨pad, hp⟩ : ∃ pad, pad = pre ++ List.replicate (evenF pre.length - pre.length) 0 := ⟨_, rfl⟩
  have hpl : pad.length = evenF pre.length := by rw [hp]; simp; omega
  have e0 : pre ++ (storedBits pre.length raw ++ post) = pad ++ (bitsOf 16 raw.length ++ (bitsOf 16 (65535 - raw.length) ++ (bits8 raw ++ post))) := by rw [hp, storedBits]; simp
  have hlen2 : (storedBits pre.length raw).length = evenF pre.length - pre.length + (32 + (bits8 raw).length) := by simp [storedBits, bitsOf_length]; omega
  have t1 := take_read pad (bitsOf 16 (65535 - raw.length) ++ (bits8 raw ++ post)) 16 raw.length (by omega)
  have t2 := take_read (pad ++ bitsOf 16 raw.length) (bits8 raw ++ post) 16 (65535 - raw.length) (by omega)
  have e1 : pad ++ bitsOf 16 raw.length ++ (bitsOf 16 (65535 - raw.length) ++ (bits8 raw ++ post)) = pad ++ (bitsOf 16 raw.length ++ (bitsOf 16 (65535 - raw.length) ++ (bits8 raw ++ post))) := by simp
  rw [e1, List.length_append, bitsOf_length] at t2
  unfold takeM at t1 t2
  split at t1
  · split at t2
    · rename_i c1 c2
      simp only [Option.some.injEq] at t1 t2
      rw [hpl] at t1 t2 c2
      unfold storedF
      rw [e0]
      simp only
      rw [if_neg (by omega), t1, t2, if_neg (by omega)]
      have e2 : pad ++ (bitsOf 16 raw.length ++ (bitsOf 16 (65535 - raw.length) ++ (bits8 raw ++ post))) = (pad ++ bitsOf 16 raw.length ++ bitsOf 16 (65535 - raw.length)) ++ (bits8 raw ++ post) := by simp
      have hc := copy_read M (post := post) raw (pad ++ bitsOf 16 raw.length ++ bitsOf 16 (65535 - raw.length)) out hr hM
      rw [← e2, List.length_append, List.length_append, bitsOf_length, bitsOf_length, hpl] at hc
      rw [show evenF pre.length + 32 = evenF pre.length + 16 + 16 by omega, hc, hlen2]
      refine Prod.ext rfl (Prod.ext ?_ rfl)
      show evenF pre.length + 16 + 16 + (bits8 raw).length = pre.length + (evenF pre.length - pre.length + (32 + (bits8 raw).length))
      omega
    · cases t2
  · cases t1
end Go.Proofs.YtmmfkppkmgjljaaDoor
/-
  What is written is read: a dynamic block's codes; a block of each kind. No program is named here.
-/
namespace Go.Proofs.YtmmfkppkmgjljaaDoor
set_option maxRecDepth 5000
inductive LenBits (head : List Int) : List Int → List Nat → List Int → Prop
  | done (acc : List Int) : LenBits head acc [] acc
  | one (acc : List Int) (k : Nat) (bs : List Nat) (l : List Int) : k < 16 → HasSym head k → LenBits head (acc ++ [(k : Int)]) bs l → LenBits head acc (symBits head k ++ bs) l
  | same (acc : List Int) (v : Int) (more : Nat) (bs : List Nat) (l : List Int) : acc.getLast? = some v → more < 4 → HasSym head 16 → LenBits head (acc ++ List.replicate (3 + more) v) bs l → LenBits head acc (symBits head 16 ++ (bitsOf 2 more ++ bs)) l
  | zeros (acc : List Int) (more : Nat) (bs : List Nat) (l : List Int) : more < 8 → HasSym head 17 → LenBits head (acc ++ List.replicate (3 + more) 0) bs l → LenBits head acc (symBits head 17 ++ (bitsOf 3 more ++ bs)) l
  | many (acc : List Int) (more : Nat) (bs : List Nat) (l : List Int) : more < 128 → HasSym head 18 → LenBits head (acc ++ List.replicate (11 + more) 0) bs l → LenBits head acc (symBits head 18 ++ (bitsOf 7 more ++ bs)) l
theorem LenBits.le {head acc l : List Int} {bs : List Nat} (h : LenBits head acc bs l) : acc.length ≤ l.length := by
  induction h with
  | done => exact Nat.le_refl _
  | one acc k bs l _ _ _ ih => simp at ih; omega
  | same acc v more bs l _ _ _ _ ih => simp at ih; omega
  | zeros acc more bs l _ _ _ ih => simp at ih; omega
  | many acc more bs l _ _ _ ih => simp at ih; omega
theorem LenBits.isBits {head acc l : List Int} {bs : List Nat} (h : LenBits head acc bs l) : isBits bs := by
  induction h with
  | done => intro b hb; cases hb
  | one acc k bs l _ _ _ ih => exact isBits_append (symBits_isBits _ _) ih
  | same acc v more bs l _ _ _ _ ih => exact isBits_append (symBits_isBits _ _) (isBits_append (bitsOf_isBits _ _) ih)
  | zeros acc more bs l _ _ _ ih => exact isBits_append (symBits_isBits _ _) (isBits_append (bitsOf_isBits _ _) ih)
  | many acc more bs l _ _ _ ih => exact isBits_append (symBits_isBits _ _) (isBits_append (bitsOf_isBits _ _) ih)
theorem run_read {head acc l : List Int} {bs : List Nat} (hl : GoodCode head) {post : List Nat} (hb : isBits post) (k wd ba more : Nat) (v : Int) (hk : ¬ k < 16) (hw : wd = if k = 17 then 3 else if k = 18 then 7 else 2) (hba : ba = if k = 18 then 11 else 3) (hm : more < 2 ^ wd)
    (hv : v = if k = 16 then acc.getLast?.getD 0 else 0) (hne : ¬ (k = 16 ∧ acc = [])) (hs : HasSym head k) (h2 : LenBits head (acc ++ List.replicate (ba + more) v) bs l) (pre : List Nat) (N : Nat) (hN : N = l.length) :
    lenStep head (pre ++ (symBits head k ++ (bitsOf wd more ++ (bs ++ post)))) N pre.length acc = (false, 0, (pre ++ symBits head k ++ bitsOf wd more).length, acc ++ List.replicate (ba + more) v) := by
  have b1 : isBits (bitsOf wd more ++ (bs ++ post)) := isBits_append (bitsOf_isBits _ _) (isBits_append h2.isBits hb)
  have hsy := sym_at hl hs pre b1
  rw [len_run hsy]
  have e1 : pre ++ (symBits head k ++ (bitsOf wd more ++ (bs ++ post))) = (pre ++ symBits head k) ++ (bitsOf wd more ++ (bs ++ post)) := by simp
  have t1 := take_read (pre ++ symBits head k) (bs ++ post) wd more hm
  rw [← e1, List.length_append] at t1
  have hle := h2.le
  rw [List.length_append, List.length_replicate] at hle
  rw [run_more hk hne hw hba t1 (by omega), List.length_append, List.length_append, bitsOf_length, hv]
theorem len_read {head : List Int} (hl : GoodCode head) {post : List Nat} (hb : isBits post) {acc l : List Int} {bs : List Nat} (h : LenBits head acc bs l) : ∀ (pre : List Nat) (f N : Nat), bs.length < f → N = l.length →
    lenF head (pre ++ (bs ++ post)) N f pre.length acc = (0, pre.length + bs.length, l) := by
  induction h with
  | done acc =>
    intro pre f N hf hN
    obtain ⟨g, rfl⟩ : ∃ g, f = g + 1 := ⟨f - 1, by omega⟩
    rw [lenF_done (by omega)]; simp
  | one acc k bs l hk hs h2 ih =>
    intro pre f N hf hN
    have hsl := symBits_len hs
    rw [List.length_append] at hf
    obtain ⟨g, rfl⟩ : ∃ g, f = g + 1 := ⟨f - 1, by omega⟩
    have hle := h2.le
    rw [List.length_append, List.length_singleton] at hle
    have hsy := sym_at hl hs pre (isBits_append h2.isBits hb)
    have e0 : pre ++ (symBits head k ++ bs ++ post) = pre ++ (symBits head k ++ (bs ++ post)) := by simp
    have e1 : pre ++ (symBits head k ++ (bs ++ post)) = (pre ++ symBits head k) ++ (bs ++ post) := by simp
    have ih2 := ih (pre ++ symBits head k) g N (by omega) hN
    rw [← e1, List.length_append] at ih2
    rw [e0, lenF_on (by omega) (by rw [len_run hsy, run_one hk]), ih2, List.length_append]
    simp [Nat.add_assoc]
  | same acc v more bs l hv hm hs h2 ih =>
    intro pre f N hf hN
    have hsl := symBits_len hs
    rw [List.length_append, List.length_append] at hf
    obtain ⟨g, rfl⟩ : ∃ g, f = g + 1 := ⟨f - 1, by omega⟩
    have hle := h2.le
    rw [List.length_append, List.length_replicate] at hle
    have hst := run_read hl hb 16 2 3 more v (by omega) rfl rfl (by omega) (by rw [hv]; rfl) (fun h => by rw [h.2] at hv; cases hv) hs h2 pre N hN
    have e0 : pre ++ (symBits head 16 ++ (bitsOf 2 more ++ bs) ++ post) = pre ++ (symBits head 16 ++ (bitsOf 2 more ++ (bs ++ post))) := by simp
    have e1 : pre ++ (symBits head 16 ++ (bitsOf 2 more ++ (bs ++ post))) = (pre ++ symBits head 16 ++ bitsOf 2 more) ++ (bs ++ post) := by simp
    have ih2 := ih (pre ++ symBits head 16 ++ bitsOf 2 more) g N (by omega) hN
    rw [← e1] at ih2
    rw [e0, lenF_on (by omega) hst, ih2]
    simp [Nat.add_assoc]
  | zeros acc more bs l hm hs h2 ih =>
    intro pre f N hf hN
    have hsl := symBits_len hs
    rw [List.length_append, List.length_append] at hf
    obtain ⟨g, rfl⟩ : ∃ g, f = g + 1 := ⟨f - 1, by omega⟩
    have hle := h2.le
    rw [List.length_append, List.length_replicate] at hle
    have hst := run_read hl hb 17 3 3 more 0 (by omega) rfl rfl (by omega) rfl (fun h => by omega) hs h2 pre N hN
    have e0 : pre ++ (symBits head 17 ++ (bitsOf 3 more ++ bs) ++ post) = pre ++ (symBits head 17 ++ (bitsOf 3 more ++ (bs ++ post))) := by simp
    have e1 : pre ++ (symBits head 17 ++ (bitsOf 3 more ++ (bs ++ post))) = (pre ++ symBits head 17 ++ bitsOf 3 more) ++ (bs ++ post) := by simp
    have ih2 := ih (pre ++ symBits head 17 ++ bitsOf 3 more) g N (by omega) hN
    rw [← e1] at ih2
    rw [e0, lenF_on (by omega) hst, ih2]
    simp [Nat.add_assoc]
  | many acc more bs l hm hs h2 ih =>
    intro pre f N hf hN
    have hsl := symBits_len hs
    rw [List.length_append, List.length_append] at hf
    obtain ⟨g, rfl⟩ : ∃ g, f = g + 1 := ⟨f - 1, by omega⟩
    have hle := h2.le
    rw [List.length_append, List.length_replicate] at hle
    have hst := run_read hl hb 18 7 11 more 0 (by omega) rfl rfl (by omega) rfl (fun h => by omega) hs h2 pre N hN
    have e0 : pre ++ (symBits head 18 ++ (bitsOf 7 more ++ bs) ++ post) = pre ++ (symBits head 18 ++ (bitsOf 7 more ++ (bs ++ post))) := by simp
    have e1 : pre ++ (symBits head 18 ++ (bitsOf 7 more ++ (bs ++ post))) = (pre ++ symBits head 18 ++ bitsOf 7 more) ++ (bs ++ post) := by simp
    have ih2 := ih (pre ++ symBits head 18 ++ bitsOf 7 more) g N (by omega) hN
    rw [← e1] at ih2
    rw [e0, lenF_on (by omega) hst, ih2]
    simp [Nat.add_assoc]
/-! ### The lengths of the third code -/
def orderAt (i : Nat) : Nat := orderF[i]?.getD 0
def headBits (hd : List Int) : Nat → List Nat
  | 0 => []
  | i + 1 => headBits hd i ++ bitsOf 3 (hd[orderAt i]?.getD 0).toNat
def partH (hd : List Int) (i : Nat) : List Int := (List.range 19).map fun j => if j ∈ orderF.take i then hd[j]?.getD 0 else 0
theorem headBits_length (hd : List Int) : ∀ i, (headBits hd i).length = 3 * i
  | 0 => rfl
  | i + 1 => by rw [headBits, List.length_append, headBits_length hd i, bitsOf_length]; omega
theorem headBits_split (hd : List Int) (i : Nat) : ∀ d, ∃ r, headBits hd (i + 1 + d) = headBits hd i ++ (bitsOf 3 (hd[orderAt i]?.getD 0).toNat ++ r)
  | 0 => ⟨[], by simp [headBits]⟩
  | d + 1 => by
    obtain ⟨r, hr⟩ := headBits_split hd i d
    exact ⟨r ++ bitsOf 3 (hd[orderAt (i + 1 + d)]?.getD 0).toNat, by rw [show i + 1 + (d + 1) = i + 1 + d + 1 by omega, headBits, hr]; simp⟩
theorem orderAt_lt : ∀ i, i < 19 → orderAt i < 19 := by decide
theorem partH_zero (hd : List Int) : partH hd 0 = List.replicate 19 0 := by
  unfold partH
  simp only [List.take_zero, List.not_mem_nil, if_false]
  rw [List.map_const']; simp
theorem partH_set (hd : List Int) (i : Nat) (hi : i < 19) : (partH hd i).set (orderAt i) (hd[orderAt i]?.getD 0) = partH hd (i + 1) := by
  have ho := orderAt_lt i hi
  have hoi : orderF[i]? = some (orderAt i) := by
    unfold orderAt
    have : i < orderF.length := hi
    rw [List.getElem?_eq_getElem this]; rfl
  refine List.ext_getElem? fun j => ?_
  rw [List.getElem?_set]
  by_cases hj : j < 19
  · have g : ∀ i, (partH hd i)[j]? = some (if j ∈ orderF.take i then hd[j]?.getD 0 else 0) := fun i => by
      unfold partH
      rw [List.getElem?_map, List.getElem?_range hj]; rfl
    rw [g, g, List.take_add_one, hoi]
    by_cases c : orderAt i = j
    · subst c
      have hl : (partH hd i).length = 19 := by simp [partH]
      rw [if_pos rfl, if_pos (by rw [hl]; exact hj), if_pos (by simp)]
    · rw [if_neg c]
      congr 1
      simp only [Option.toList_some, List.mem_append, List.mem_singleton]
      by_cases c2 : j ∈ orderF.take i
      · rw [if_pos c2, if_pos (.inl c2)]
      · rw [if_neg c2, if_neg (by rintro (h | h); exact c2 h; exact c h.symm)]
  · have hl : ∀ i, (partH hd i).length = 19 := fun i => by simp [partH]
    rw [if_neg (by omega), List.getElem?_eq_none (by rw [hl]; omega), List.getElem?_eq_none (by rw [hl]; omega)]
theorem three_at (hd : List Int) (C i : Nat) (hi : i < C) (h7 : ∀ a ∈ hd, 0 ≤ a ∧ a ≤ 7) (pre post : List Nat) : numOf (((pre ++ (headBits hd C ++ post)).drop (pre.length + 3 * i)).take 3) = (hd[orderAt i]?.getD 0).toNat := by
  obtain ⟨r, hr⟩ := headBits_split hd i (C - (i + 1))
  rw [show i + 1 + (C - (i + 1)) = C by omega] at hr
  have e : pre ++ (headBits hd C ++ post) = (pre ++ headBits hd i) ++ (bitsOf 3 (hd[orderAt i]?.getD 0).toNat ++ (r ++ post)) := by rw [hr]; simp
  have hlt : (hd[orderAt i]?.getD 0).toNat < 2 ^ 3 := by
    cases e2 : hd[orderAt i]? with
    | none => decide
    | some a => have := h7 a (List.mem_of_getElem? e2); show a.toNat < 8; omega
  rw [e, show pre.length + 3 * i = (pre ++ headBits hd i).length by rw [List.length_append, headBits_length], List.drop_left, List.take_left' (bitsOf_length _ _), numOf_bitsOf, Nat.mod_eq_of_lt hlt]
theorem head_read (hd : List Int) (C : Nat) (hC : C ≤ 19) (h7 : ∀ a ∈ hd, 0 ≤ a ∧ a ≤ 7) (pre post : List Nat) : ∀ i, i ≤ C → headF (pre ++ (headBits hd C ++ post)) pre.length i = partH hd i
  | 0, _ => (partH_zero hd).symm
  | i + 1, h => by
    rw [headF, head_read hd C hC h7 pre post i (by omega), three_at hd C i (by omega) h7 pre post, ← partH_set hd i (by omega)]
    congr 1
    cases e2 : hd[orderAt i]? with
    | none => rfl
    | some a => have := h7 a (List.mem_of_getElem? e2); show ((a.toNat : Nat) : Int) = a; omega
theorem any_read (hd : List Int) (C : Nat) (h7 : ∀ a ∈ hd, 0 ≤ a ∧ a ≤ 7) (pre post : List Nat) (k : Nat) (hk : k < C) (hs : 0 < hd[orderAt k]?.getD 0) : ∀ i, i ≤ C → k < i → anyF (pre ++ (headBits hd C ++ post)) pre.length i = true
  | 0, _, h => by omega
  | i + 1, h, h2 => by
    rw [anyF, three_at hd C i (by omega) h7 pre post]
    by_cases c : k = i
    · subst c
      rw [Bool.or_eq_true]
      exact .inr (decide_eq_true (by omega))
    · rw [any_read hd C h7 pre post k hk hs i (by omega) (by omega), Bool.true_or]
/-! ### A dynamic block's codes -/
structure DynCodes (lit dist hd : List Int) (C : Nat) (lb : List Nat) : Prop where
  a1 : 257 ≤ lit.length
  a2 : lit.length ≤ 286
  b1 : 1 ≤ dist.length
  b2 : dist.length ≤ 30
  c1 : 4 ≤ C
  c2 : C ≤ 19
  h7 : ∀ a ∈ hd, 0 ≤ a ∧ a ≤ 7
  part : partH hd C = hd
  check : checkOf hd 7 = 0
  sum : sumOf hd ≤ 32768
  any : ∃ k, k < C ∧ 0 < hd[orderAt k]?.getD 0
  lens : LenBits hd [] lb (lit ++ dist)
  lit15 : checkOf lit 15 = 0
  dist15 : checkOf dist 15 = 0
  stop : lit[256]?.getD 0 ≠ 0
def dynBits (lit dist hd : List Int) (C : Nat) (lb : List Nat) : List Nat := bitsOf 5 (lit.length - 257) ++ (bitsOf 5 (dist.length - 1) ++ (bitsOf 4 (C - 4) ++ (headBits hd C ++ lb)))
theorem dyn_read {lit dist hd : List Int} {C : Nat} {lb : List Nat} (h : DynCodes lit dist hd C lb) (pre : List Nat) {post : List Nat} (hb : isBits post) :
    dynF (pre ++ (dynBits lit dist hd C lb ++ post)) pre.length = (0, pre.length + (dynBits lit dist hd C lb).length, lit, dist) := by
  have hlen : (dynBits lit dist hd C lb).length = 14 + (3 * C + lb.length) := by simp [dynBits, bitsOf_length, headBits_length]; omega
  have e0 : pre ++ (dynBits lit dist hd C lb ++ post) = pre ++ (bitsOf 5 (lit.length - 257) ++ (bitsOf 5 (dist.length - 1) ++ (bitsOf 4 (C - 4) ++ (headBits hd C ++ (lb ++ post))))) := by simp [dynBits]
  obtain ⟨all, hall⟩ : ∃ all, all = pre ++ (dynBits lit dist hd C lb ++ post) := ⟨_, rfl⟩
  rw [← hall]
  have hal : all.length = pre.length + (14 + (3 * C + lb.length)) + post.length := by rw [hall, List.length_append, List.length_append, hlen]; omega
  have ea : all = pre ++ (bitsOf 5 (lit.length - 257) ++ (bitsOf 5 (dist.length - 1) ++ (bitsOf 4 (C - 4) ++ (headBits hd C ++ (lb ++ post))))) := hall.trans e0
  have num : ∀ (p r : List Nat) (n v : Nat), all = p ++ (bitsOf n v ++ r) → v < 2 ^ n → numOf ((all.drop p.length).take n) = v := fun p r n v e hv => by
    rw [e, List.drop_left, List.take_left' (bitsOf_length n v), numOf_bitsOf, Nat.mod_eq_of_lt hv]
  have n1 := num pre _ 5 (lit.length - 257) ea (by have := h.a2; have := h.a1; omega)
  have n2 := num (pre ++ bitsOf 5 (lit.length - 257)) (bitsOf 4 (C - 4) ++ (headBits hd C ++ (lb ++ post))) 5 (dist.length - 1) (by rw [ea]; simp) (by have := h.b2; omega)
  have n3 := num (pre ++ bitsOf 5 (lit.length - 257) ++ bitsOf 5 (dist.length - 1)) (headBits hd C ++ (lb ++ post)) 4 (C - 4) (by rw [ea]; simp) (by have := h.c2; omega)
  simp only [List.length_append, bitsOf_length] at n2 n3
  obtain ⟨p4, hp4⟩ : ∃ p4, p4 = pre ++ bitsOf 5 (lit.length - 257) ++ bitsOf 5 (dist.length - 1) ++ bitsOf 4 (C - 4) := ⟨_, rfl⟩
  have hp4l : p4.length = pre.length + 14 := by rw [hp4]; simp [bitsOf_length]
  have e4 : all = p4 ++ (headBits hd C ++ (lb ++ post)) := by rw [ea, hp4]; simp
  have hh := head_read hd C h.c2 h.h7 p4 (lb ++ post) C (Nat.le_refl _)
  rw [← e4, hp4l, h.part] at hh
  obtain ⟨k, hk, hks⟩ := h.any
  have ha := any_read hd C h.h7 p4 (lb ++ post) k hk hks C (Nat.le_refl _) hk
  rw [← e4, hp4l] at ha
  have hgood : GoodCode hd := ⟨fun a hm => by have := h.h7 a hm; omega, h.sum⟩
  have e5 : all = (p4 ++ headBits hd C) ++ (lb ++ post) := by rw [e4]; simp
  have hl := len_read hgood hb h.lens (p4 ++ headBits hd C) (all.length + 1) (lit.length + dist.length) (by omega) (by rw [List.length_append])
  rw [← e5, List.length_append, headBits_length, hp4l] at hl
  have h1 := h.a1
  have h2 := h.b1
  have h3 := h.c1
  unfold dynF
  rw [if_neg (by omega), n1, n2, show pre.length + 10 = pre.length + 5 + 5 by omega, n3, show lit.length - 257 + 257 = lit.length by omega, show dist.length - 1 + 1 = dist.length by omega, show C - 4 + 4 = C by omega]
  unfold dynF.dynRun
  rw [if_neg (by have := h.a2; have := h.b2; omega), if_neg (by omega), hh, ha, if_neg (by rw [h.check]; simp), hl]
  unfold dynF.dynEnd
  have ht : (lit ++ dist).take lit.length = lit := by simp
  have hdp : (lit ++ dist).drop lit.length = dist := by simp
  have h256 : (lit ++ dist)[256]? = lit[256]? := List.getElem?_append_left (by omega)
  simp only
  rw [if_neg (fun h => h rfl), ht, hdp, h256, if_neg (by rw [h.lit15, h.dist15]; have := h.stop; simp [this]), hlen]
  simp only [Nat.add_assoc]
theorem good_of {l : List Int} (h : checkOf l 15 = 0) : GoodCode l := by
  obtain ⟨h1, _, h2⟩ := check_ok h
  exact ⟨h1, by omega⟩
/-! ### Blocks -/
inductive BlockBits (l : List Tok) (raw : List Nat) (a : Nat) : Nat → List Nat → Prop
  | stored : (∀ b ∈ raw, b < 256) → raw.length ≤ 65535 → BlockBits l raw a 0 (storedBits a raw)
  | fixed (bs : List Nat) : ToksBits fixLit fixDist l bs → BlockBits l raw a 1 bs
  | dynamic (lit dist hd : List Int) (C : Nat) (lb bs : List Nat) : DynCodes lit dist hd C lb → ToksBits lit dist l bs → BlockBits l raw a 2 (dynBits lit dist hd C lb ++ bs)
theorem fix_check : checkOf fixLit 15 = 0 ∧ checkOf fixDist 15 = 0 := by decide +kernel
theorem block_read {l : List Tok} {raw : List Nat} {kind : Nat} {bs : List Nat} (pre : List Nat) (h : BlockBits l raw pre.length kind bs) {post : List Nat} (hb : isBits post) (M : Nat) (out o : List Nat) (tk : List Tok) (he : expT out l = (0, o)) (ho : o.length ≤ M) (hr : out.length + raw.length ≤ M) :
    blockF (pre ++ (bs ++ post)) M kind pre.length out tk = (0, pre.length + bs.length, if kind = 0 then out ++ raw else o, if kind = 0 then tk else tk ++ l) := by
  cases h with
  | stored h1 h2 =>
    unfold blockF
    rw [if_pos rfl, stored_read pre post raw out M h1 h2 hr]; rfl
  | fixed bs h1 =>
    have hln := h1.len
    unfold blockF
    rw [if_neg (by decide), if_pos rfl, toks_read (good_of fix_check.1) (good_of fix_check.2) hb M h1 pre _ out o tk (by simp only [List.length_append]; omega) he ho]; rfl
  | dynamic lit dist hd C lb bs h1 h2 =>
    have hln := h2.len
    have hd1 := dyn_read h1 pre (post := bs ++ post) (isBits_append h2.isBits hb)
    have e0 : pre ++ (dynBits lit dist hd C lb ++ bs ++ post) = pre ++ (dynBits lit dist hd C lb ++ (bs ++ post)) := by simp
    have e1 : pre ++ (dynBits lit dist hd C lb ++ (bs ++ post)) = (pre ++ dynBits lit dist hd C lb) ++ (bs ++ post) := by simp
    have ht := toks_read (good_of h1.lit15) (good_of h1.dist15) hb M h2 (pre ++ dynBits lit dist hd C lb) ((pre ++ (dynBits lit dist hd C lb ++ (bs ++ post))).length + 1) out o tk (by simp only [List.length_append]; omega) he ho
    rw [← e1, show (pre ++ dynBits lit dist hd C lb).length = pre.length + (dynBits lit dist hd C lb).length by rw [List.length_append]] at ht
    unfold blockF
    rw [if_neg (by decide), if_neg (by decide), if_pos rfl, e0, hd1, if_neg (fun h => h rfl)]
    simp only
    rw [ht, List.length_append, Nat.add_assoc]; rfl
end Go.Proofs.YtmmfkppkmgjljaaDoor
