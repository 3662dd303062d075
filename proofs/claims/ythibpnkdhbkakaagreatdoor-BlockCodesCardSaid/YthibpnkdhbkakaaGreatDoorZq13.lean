/-
  What is written is read: a dynamic block's codes; a block of each kind. No program is named here.
-/
import Derived.Test.YthibpnkdhbkakaaGreatDoorZq12
namespace Go.Proofs.YthibpnkdhbkakaaGreatDoor
set_option maxRecDepth 5000

/-- the bits of lengths, as one list, by the third code: from some on -/
inductive LenBits (head : List Int) : List Int → List Nat → List Int → Prop
  | done (acc : List Int) : LenBits head acc [] acc
  | one (acc : List Int) (k : Nat) (bs : List Nat) (l : List Int) : k < 16 → HasSym head k → LenBits head (acc ++ [(k : Int)]) bs l → LenBits head acc (symBits head k ++ bs) l
  | same (acc : List Int) (v : Int) (more : Nat) (bs : List Nat) (l : List Int) : acc.getLast? = some v → more < 4 → HasSym head 16 → LenBits head (acc ++ List.replicate (3 + more) v) bs l → LenBits head acc (symBits head 16 ++ (bitsOf 2 more ++ bs)) l
  | zeros (acc : List Int) (more : Nat) (bs : List Nat) (l : List Int) : more < 8 → HasSym head 17 → LenBits head (acc ++ List.replicate (3 + more) 0) bs l → LenBits head acc (symBits head 17 ++ (bitsOf 3 more ++ bs)) l
  | many (acc : List Int) (more : Nat) (bs : List Nat) (l : List Int) : more < 128 → HasSym head 18 → LenBits head (acc ++ List.replicate (11 + more) 0) bs l → LenBits head acc (symBits head 18 ++ (bitsOf 7 more ++ bs)) l
theorem LenBits.le {head acc l : List Int} {bs : List Nat} (h : LenBits head acc bs l) : acc.length ≤ l.length := by
  induction h with
  | done => exact Nat.le_refl _
  | one acc k bs l _ _ _ ih => simp at ih; omega
  | same acc v more bs l _ _ _ _ ih => simp at ih; omega
  | zeros acc more bs l _ _ _ ih => simp at ih; omega
  | many acc more bs l _ _ _ ih => simp at ih; omega
theorem LenBits.isBits {head acc l : List Int} {bs : List Nat} (h : LenBits head acc bs l) : isBits bs := by
  induction h with
  | done => intro b hb; cases hb
  | one acc k bs l _ _ _ ih => exact isBits_append (symBits_isBits _ _) ih
  | same acc v more bs l _ _ _ _ ih => exact isBits_append (symBits_isBits _ _) (isBits_append (bitsOf_isBits _ _) ih)
  | zeros acc more bs l _ _ _ ih => exact isBits_append (symBits_isBits _ _) (isBits_append (bitsOf_isBits _ _) ih)
  | many acc more bs l _ _ _ ih => exact isBits_append (symBits_isBits _ _) (isBits_append (bitsOf_isBits _ _) ih)
theorem run_read {head acc l : List Int} {bs : List Nat} (hl : GoodCode head) {post : List Nat} (hb : isBits post) (k wd ba more : Nat) (v : Int) (hk : ¬ k < 16) (hw : wd = if k = 17 then 3 else if k = 18 then 7 else 2) (hba : ba = if k = 18 then 11 else 3) (hm : more < 2 ^ wd)
    (hv : v = if k = 16 then acc.getLast?.getD 0 else 0) (hne : ¬ (k = 16 ∧ acc = [])) (hs : HasSym head k) (h2 : LenBits head (acc ++ List.replicate (ba + more) v) bs l) (pre : List Nat) (N : Nat) (hN : N = l.length) :
    lenStep head (pre ++ (symBits head k ++ (bitsOf wd more ++ (bs ++ post)))) N pre.length acc = (false, 0, (pre ++ symBits head k ++ bitsOf wd more).length, acc ++ List.replicate (ba + more) v) := by
  have b1 : isBits (bitsOf wd more ++ (bs ++ post)) := isBits_append (bitsOf_isBits _ _) (isBits_append h2.isBits hb)
  have hsy := sym_at hl hs pre b1
  rw [len_run hsy]
  have e1 : pre ++ (symBits head k ++ (bitsOf wd more ++ (bs ++ post))) = (pre ++ symBits head k) ++ (bitsOf wd more ++ (bs ++ post)) := by simp
  have t1 := take_read (pre ++ symBits head k) (bs ++ post) wd more hm
  rw [← e1, List.length_append] at t1
  have hle := h2.le
  rw [List.length_append, List.length_replicate] at hle
  rw [run_more hk hne hw hba t1 (by omega), List.length_append, List.length_append, bitsOf_length, hv]
theorem len_read {head : List Int} (hl : GoodCode head) {post : List Nat} (hb : isBits post) {acc l : List Int} {bs : List Nat} (h : LenBits head acc bs l) : ∀ (pre : List Nat) (f N : Nat), bs.length < f → N = l.length →
    lenF head (pre ++ (bs ++ post)) N f pre.length acc = (0, pre.length + bs.length, l) := by
  induction h with
  | done acc =>
    intro pre f N hf hN
    obtain ⟨g, rfl⟩ : ∃ g, f = g + 1 := ⟨f - 1, by omega⟩
    rw [lenF_done (by omega)]; simp
  | one acc k bs l hk hs h2 ih =>
    intro pre f N hf hN
    have hsl := symBits_len hs
    rw [List.length_append] at hf
    obtain ⟨g, rfl⟩ : ∃ g, f = g + 1 := ⟨f - 1, by omega⟩
    have hle := h2.le
    rw [List.length_append, List.length_singleton] at hle
    have hsy := sym_at hl hs pre (isBits_append h2.isBits hb)
    have e0 : pre ++ (symBits head k ++ bs ++ post) = pre ++ (symBits head k ++ (bs ++ post)) := by simp
    have e1 : pre ++ (symBits head k ++ (bs ++ post)) = (pre ++ symBits head k) ++ (bs ++ post) := by simp
    have ih2 := ih (pre ++ symBits head k) g N (by omega) hN
    rw [← e1, List.length_append] at ih2
    rw [e0, lenF_on (by omega) (by rw [len_run hsy, run_one hk]), ih2, List.length_append]
    simp [Nat.add_assoc]
  | same acc v more bs l hv hm hs h2 ih =>
    intro pre f N hf hN
    have hsl := symBits_len hs
    rw [List.length_append, List.length_append] at hf
    obtain ⟨g, rfl⟩ : ∃ g, f = g + 1 := ⟨f - 1, by omega⟩
    have hle := h2.le
    rw [List.length_append, List.length_replicate] at hle
    have hst := run_read hl hb 16 2 3 more v (by omega) rfl rfl (by omega) (by rw [hv]; rfl) (fun h => by rw [h.2] at hv; cases hv) hs h2 pre N hN
    have e0 : pre ++ (symBits head 16 ++ (bitsOf 2 more ++ bs) ++ post) = pre ++ (symBits head 16 ++ (bitsOf 2 more ++ (bs ++ post))) := by simp
    have e1 : pre ++ (symBits head 16 ++ (bitsOf 2 more ++ (bs ++ post))) = (pre ++ symBits head 16 ++ bitsOf 2 more) ++ (bs ++ post) := by simp
    have ih2 := ih (pre ++ symBits head 16 ++ bitsOf 2 more) g N (by omega) hN
    rw [← e1] at ih2
    rw [e0, lenF_on (by omega) hst, ih2]
    simp [Nat.add_assoc]
  | zeros acc more bs l hm hs h2 ih =>
    intro pre f N hf hN
    have hsl := symBits_len hs
    rw [List.length_append, List.length_append] at hf
    obtain ⟨g, rfl⟩ : ∃ g, f = g + 1 := ⟨f - 1, by omega⟩
    have hle := h2.le
    rw [List.length_append, List.length_replicate] at hle
    have hst := run_read hl hb 17 3 3 more 0 (by omega) rfl rfl (by omega) rfl (fun h => by omega) hs h2 pre N hN
    have e0 : pre ++ (symBits head 17 ++ (bitsOf 3 more ++ bs) ++ post) = pre ++ (symBits head 17 ++ (bitsOf 3 more ++ (bs ++ post))) := by simp
    have e1 : pre ++ (symBits head 17 ++ (bitsOf 3 more ++ (bs ++ post))) = (pre ++ symBits head 17 ++ bitsOf 3 more) ++ (bs ++ post) := by simp
    have ih2 := ih (pre ++ symBits head 17 ++ bitsOf 3 more) g N (by omega) hN
    rw [← e1] at ih2
    rw [e0, lenF_on (by omega) hst, ih2]
    simp [Nat.add_assoc]
  | many acc more bs l hm hs h2 ih =>
    intro pre f N hf hN
    have hsl := symBits_len hs
    rw [List.length_append, List.length_append] at hf
    obtain ⟨g, rfl⟩ : ∃ g, f = g + 1 := ⟨f - 1, by omega⟩
    have hle := h2.le
    rw [List.length_append, List.length_replicate] at hle
    have hst := run_read hl hb 18 7 11 more 0 (by omega) rfl rfl (by omega) rfl (fun h => by omega) hs h2 pre N hN
    have e0 : pre ++ (symBits head 18 ++ (bitsOf 7 more ++ bs) ++ post) = pre ++ (symBits head 18 ++ (bitsOf 7 more ++ (bs ++ post))) := by simp
    have e1 : pre ++ (symBits head 18 ++ (bitsOf 7 more ++ (bs ++ post))) = (pre ++ symBits head 18 ++ bitsOf 7 more) ++ (bs ++ post) := by simp
    have ih2 := ih (pre ++ symBits head 18 ++ bitsOf 7 more) g N (by omega) hN
    rw [← e1] at ih2
    rw [e0, lenF_on (by omega) hst, ih2]
    simp [Nat.add_assoc]

/-! ### The lengths of the third code -/
def orderAt (i : Nat) : Nat := orderF[i]?.getD 0
def headBits (hd : List Int) : Nat → List Nat
  | 0 => []
  | i + 1 => headBits hd i ++ bitsOf 3 (hd[orderAt i]?.getD 0).toNat
def partH (hd : List Int) (i : Nat) : List Int := (List.range 19).map fun j => if j ∈ orderF.take i then hd[j]?.getD 0 else 0
theorem headBits_length (hd : List Int) : ∀ i, (headBits hd i).length = 3 * i
  | 0 => rfl
  | i + 1 => by rw [headBits, List.length_append, headBits_length hd i, bitsOf_length]; omega
theorem headBits_isBits (hd : List Int) : ∀ i, isBits (headBits hd i)
  | 0 => by intro b hb; cases hb
  | i + 1 => isBits_append (headBits_isBits hd i) (bitsOf_isBits _ _)
theorem headBits_split (hd : List Int) (i : Nat) : ∀ d, ∃ r, headBits hd (i + 1 + d) = headBits hd i ++ (bitsOf 3 (hd[orderAt i]?.getD 0).toNat ++ r)
  | 0 => ⟨[], by simp [headBits]⟩
  | d + 1 => by
    obtain ⟨r, hr⟩ := headBits_split hd i d
    exact ⟨r ++ bitsOf 3 (hd[orderAt (i + 1 + d)]?.getD 0).toNat, by rw [show i + 1 + (d + 1) = i + 1 + d + 1 by omega, headBits, hr]; simp⟩
theorem orderAt_lt : ∀ i, i < 19 → orderAt i < 19 := by decide
theorem partH_zero (hd : List Int) : partH hd 0 = List.replicate 19 0 := by
  unfold partH
  simp only [List.take_zero, List.not_mem_nil, if_false]
  rw [List.map_const']; simp
theorem partH_set (hd : List Int) (i : Nat) (hi : i < 19) : (partH hd i).set (orderAt i) (hd[orderAt i]?.getD 0) = partH hd (i + 1) := by
  have ho := orderAt_lt i hi
  have hoi : orderF[i]? = some (orderAt i) := by
    unfold orderAt
    have : i < orderF.length := hi
    rw [List.getElem?_eq_getElem this]; rfl
  refine List.ext_getElem? fun j => ?_
  rw [List.getElem?_set]
  by_cases hj : j < 19
  · have g : ∀ i, (partH hd i)[j]? = some (if j ∈ orderF.take i then hd[j]?.getD 0 else 0) := fun i => by
      unfold partH
      rw [List.getElem?_map, List.getElem?_range hj]; rfl
    rw [g, g, List.take_add_one, hoi]
    by_cases c : orderAt i = j
    · subst c
      have hl : (partH hd i).length = 19 := by simp [partH]
      rw [if_pos rfl, if_pos (by rw [hl]; exact hj), if_pos (by simp)]
    · rw [if_neg c]
      congr 1
      simp only [Option.toList_some, List.mem_append, List.mem_singleton]
      by_cases c2 : j ∈ orderF.take i
      · rw [if_pos c2, if_pos (.inl c2)]
      · rw [if_neg c2, if_neg (by rintro (h | h); exact c2 h; exact c h.symm)]
  · have hl : ∀ i, (partH hd i).length = 19 := fun i => by simp [partH]
    rw [if_neg (by omega), List.getElem?_eq_none (by rw [hl]; omega), List.getElem?_eq_none (by rw [hl]; omega)]
theorem three_at (hd : List Int) (C i : Nat) (hi : i < C) (h7 : ∀ a ∈ hd, 0 ≤ a ∧ a ≤ 7) (pre post : List Nat) : numOf (((pre ++ (headBits hd C ++ post)).drop (pre.length + 3 * i)).take 3) = (hd[orderAt i]?.getD 0).toNat := by
  obtain ⟨r, hr⟩ := headBits_split hd i (C - (i + 1))
  rw [show i + 1 + (C - (i + 1)) = C by omega] at hr
  have e : pre ++ (headBits hd C ++ post) = (pre ++ headBits hd i) ++ (bitsOf 3 (hd[orderAt i]?.getD 0).toNat ++ (r ++ post)) := by rw [hr]; simp
  have hlt : (hd[orderAt i]?.getD 0).toNat < 2 ^ 3 := by
    cases e2 : hd[orderAt i]? with
    | none => decide
    | some a => have := h7 a (List.mem_of_getElem? e2); show a.toNat < 8; omega
  rw [e, show pre.length + 3 * i = (pre ++ headBits hd i).length by rw [List.length_append, headBits_length], List.drop_left, List.take_left' (bitsOf_length _ _), numOf_bitsOf, Nat.mod_eq_of_lt hlt]
theorem head_read (hd : List Int) (C : Nat) (hC : C ≤ 19) (h7 : ∀ a ∈ hd, 0 ≤ a ∧ a ≤ 7) (pre post : List Nat) : ∀ i, i ≤ C → headF (pre ++ (headBits hd C ++ post)) pre.length i = partH hd i
  | 0, _ => (partH_zero hd).symm
  | i + 1, h => by
    rw [headF, head_read hd C hC h7 pre post i (by omega), three_at hd C i (by omega) h7 pre post, ← partH_set hd i (by omega)]
    congr 1
    cases e2 : hd[orderAt i]? with
    | none => rfl
    | some a => have := h7 a (List.mem_of_getElem? e2); show ((a.toNat : Nat) : Int) = a; omega
theorem any_read (hd : List Int) (C : Nat) (h7 : ∀ a ∈ hd, 0 ≤ a ∧ a ≤ 7) (pre post : List Nat) (k : Nat) (hk : k < C) (hs : 0 < hd[orderAt k]?.getD 0) : ∀ i, i ≤ C → k < i → anyF (pre ++ (headBits hd C ++ post)) pre.length i = true
  | 0, _, h => by omega
  | i + 1, h, h2 => by
    rw [anyF, three_at hd C i (by omega) h7 pre post]
    by_cases c : k = i
    · subst c
      rw [Bool.or_eq_true]
      exact .inr (decide_eq_true (by omega))
    · rw [any_read hd C h7 pre post k hk hs i (by omega) (by omega), Bool.true_or]

/-! ### A dynamic block's codes -/
structure DynCodes (lit dist hd : List Int) (C : Nat) (lb : List Nat) : Prop where
  a1 : 257 ≤ lit.length
  a2 : lit.length ≤ 286
  b1 : 1 ≤ dist.length
  b2 : dist.length ≤ 30
  c1 : 4 ≤ C
  c2 : C ≤ 19
  h7 : ∀ a ∈ hd, 0 ≤ a ∧ a ≤ 7
  part : partH hd C = hd
  check : checkOf hd 7 = 0
  sum : sumOf hd ≤ 32768
  any : ∃ k, k < C ∧ 0 < hd[orderAt k]?.getD 0
  lens : LenBits hd [] lb (lit ++ dist)
  lit15 : checkOf lit 15 = 0
  dist15 : checkOf dist 15 = 0
  stop : lit[256]?.getD 0 ≠ 0
def dynBits (lit dist hd : List Int) (C : Nat) (lb : List Nat) : List Nat := bitsOf 5 (lit.length - 257) ++ (bitsOf 5 (dist.length - 1) ++ (bitsOf 4 (C - 4) ++ (headBits hd C ++ lb)))
theorem dyn_read {lit dist hd : List Int} {C : Nat} {lb : List Nat} (h : DynCodes lit dist hd C lb) (pre : List Nat) {post : List Nat} (hb : isBits post) :
    dynF (pre ++ (dynBits lit dist hd C lb ++ post)) pre.length = (0, pre.length + (dynBits lit dist hd C lb).length, lit, dist) := by
  have hlen : (dynBits lit dist hd C lb).length = 14 + (3 * C + lb.length) := by simp [dynBits, bitsOf_length, headBits_length]; omega
  have e0 : pre ++ (dynBits lit dist hd C lb ++ post) = pre ++ (bitsOf 5 (lit.length - 257) ++ (bitsOf 5 (dist.length - 1) ++ (bitsOf 4 (C - 4) ++ (headBits hd C ++ (lb ++ post))))) := by simp [dynBits]
  obtain ⟨all, hall⟩ : ∃ all, all = pre ++ (dynBits lit dist hd C lb ++ post) := ⟨_, rfl⟩
  rw [← hall]
  have hal : all.length = pre.length + (14 + (3 * C + lb.length)) + post.length := by rw [hall, List.length_append, List.length_append, hlen]; omega
  have ea : all = pre ++ (bitsOf 5 (lit.length - 257) ++ (bitsOf 5 (dist.length - 1) ++ (bitsOf 4 (C - 4) ++ (headBits hd C ++ (lb ++ post))))) := hall.trans e0
  have num : ∀ (p r : List Nat) (n v : Nat), all = p ++ (bitsOf n v ++ r) → v < 2 ^ n → numOf ((all.drop p.length).take n) = v := fun p r n v e hv => by
    rw [e, List.drop_left, List.take_left' (bitsOf_length n v), numOf_bitsOf, Nat.mod_eq_of_lt hv]
  have n1 := num pre _ 5 (lit.length - 257) ea (by have := h.a2; have := h.a1; omega)
  have n2 := num (pre ++ bitsOf 5 (lit.length - 257)) (bitsOf 4 (C - 4) ++ (headBits hd C ++ (lb ++ post))) 5 (dist.length - 1) (by rw [ea]; simp) (by have := h.b2; omega)
  have n3 := num (pre ++ bitsOf 5 (lit.length - 257) ++ bitsOf 5 (dist.length - 1)) (headBits hd C ++ (lb ++ post)) 4 (C - 4) (by rw [ea]; simp) (by have := h.c2; omega)
  simp only [List.length_append, bitsOf_length] at n2 n3
  obtain ⟨p4, hp4⟩ : ∃ p4, p4 = pre ++ bitsOf 5 (lit.length - 257) ++ bitsOf 5 (dist.length - 1) ++ bitsOf 4 (C - 4) := ⟨_, rfl⟩
  have hp4l : p4.length = pre.length + 14 := by rw [hp4]; simp [bitsOf_length]
  have e4 : all = p4 ++ (headBits hd C ++ (lb ++ post)) := by rw [ea, hp4]; simp
  have hh := head_read hd C h.c2 h.h7 p4 (lb ++ post) C (Nat.le_refl _)
  rw [← e4, hp4l, h.part] at hh
  obtain ⟨k, hk, hks⟩ := h.any
  have ha := any_read hd C h.h7 p4 (lb ++ post) k hk hks C (Nat.le_refl _) hk
  rw [← e4, hp4l] at ha
  have hgood : GoodCode hd := ⟨fun a hm => by have := h.h7 a hm; omega, h.sum⟩
  have e5 : all = (p4 ++ headBits hd C) ++ (lb ++ post) := by rw [e4]; simp
  have hl := len_read hgood hb h.lens (p4 ++ headBits hd C) (all.length + 1) (lit.length + dist.length) (by omega) (by rw [List.length_append])
  rw [← e5, List.length_append, headBits_length, hp4l] at hl
  have h1 := h.a1
  have h2 := h.b1
  have h3 := h.c1
  unfold dynF
  rw [if_neg (by omega), n1, n2, show pre.length + 10 = pre.length + 5 + 5 by omega, n3, show lit.length - 257 + 257 = lit.length by omega, show dist.length - 1 + 1 = dist.length by omega, show C - 4 + 4 = C by omega]
  unfold dynF.dynRun
  rw [if_neg (by have := h.a2; have := h.b2; omega), if_neg (by omega), hh, ha, if_neg (by rw [h.check]; simp), hl]
  unfold dynF.dynEnd
  have ht : (lit ++ dist).take lit.length = lit := by simp
  have hdp : (lit ++ dist).drop lit.length = dist := by simp
  have h256 : (lit ++ dist)[256]? = lit[256]? := List.getElem?_append_left (by omega)
  simp only
  rw [if_neg (fun h => h rfl), ht, hdp, h256, if_neg (by rw [h.lit15, h.dist15]; have := h.stop; simp [this]), hlen]
  simp only [Nat.add_assoc]
theorem good_of {l : List Int} (h : checkOf l 15 = 0) : GoodCode l := by
  obtain ⟨h1, _, h2⟩ := check_ok h
  exact ⟨h1, by omega⟩

/-! ### Blocks -/
/-- the bits of a block behind its first three, at a place -/
inductive BlockBits (l : List Tok) (raw : List Nat) (a : Nat) : Nat → List Nat → Prop
  | stored : (∀ b ∈ raw, b < 256) → raw.length ≤ 65535 → BlockBits l raw a 0 (storedBits a raw)
  | fixed (bs : List Nat) : ToksBits fixLit fixDist l bs → BlockBits l raw a 1 bs
  | dynamic (lit dist hd : List Int) (C : Nat) (lb bs : List Nat) : DynCodes lit dist hd C lb → ToksBits lit dist l bs → BlockBits l raw a 2 (dynBits lit dist hd C lb ++ bs)
theorem fix_check : checkOf fixLit 15 = 0 ∧ checkOf fixDist 15 = 0 := by decide +kernel
theorem block_read {l : List Tok} {raw : List Nat} {kind : Nat} {bs : List Nat} (pre : List Nat) (h : BlockBits l raw pre.length kind bs) {post : List Nat} (hb : isBits post) (M : Nat) (out o : List Nat) (tk : List Tok) (he : expT out l = (0, o)) (ho : o.length ≤ M) (hr : out.length + raw.length ≤ M) :
    blockF (pre ++ (bs ++ post)) M kind pre.length out tk = (0, pre.length + bs.length, if kind = 0 then out ++ raw else o, if kind = 0 then tk else tk ++ l) := by
  cases h with
  | stored h1 h2 =>
    unfold blockF
    rw [if_pos rfl, stored_read pre post raw out M h1 h2 hr]; rfl
  | fixed bs h1 =>
    have hln := h1.len
    unfold blockF
    rw [if_neg (by decide), if_pos rfl, toks_read (good_of fix_check.1) (good_of fix_check.2) hb M h1 pre _ out o tk (by simp only [List.length_append]; omega) he ho]; rfl
  | dynamic lit dist hd C lb bs h1 h2 =>
    have hln := h2.len
    have hd1 := dyn_read h1 pre (post := bs ++ post) (isBits_append h2.isBits hb)
    have e0 : pre ++ (dynBits lit dist hd C lb ++ bs ++ post) = pre ++ (dynBits lit dist hd C lb ++ (bs ++ post)) := by simp
    have e1 : pre ++ (dynBits lit dist hd C lb ++ (bs ++ post)) = (pre ++ dynBits lit dist hd C lb) ++ (bs ++ post) := by simp
    have ht := toks_read (good_of h1.lit15) (good_of h1.dist15) hb M h2 (pre ++ dynBits lit dist hd C lb) ((pre ++ (dynBits lit dist hd C lb ++ (bs ++ post))).length + 1) out o tk (by simp only [List.length_append]; omega) he ho
    rw [← e1, show (pre ++ dynBits lit dist hd C lb).length = pre.length + (dynBits lit dist hd C lb).length by rw [List.length_append]] at ht
    unfold blockF
    rw [if_neg (by decide), if_neg (by decide), if_pos rfl, e0, hd1, if_neg (fun h => h rfl)]
    simp only
    rw [ht, List.length_append, Nat.add_assoc]; rfl
end Go.Proofs.YthibpnkdhbkakaaGreatDoor
/-
  What the program writes as a block, told as a function: the bits of tokens by two codes, how often symbols come, what they cost. No program is named here.
-/
namespace Go.Proofs.YthibpnkdhbkakaaGreatDoor
set_option maxRecDepth 5000

/-! ### The code of a length or a distance -/
def lcF (B : Nat → Nat) (v : Nat) : Nat → Nat
  | 0 => 0
  | m + 1 => if B m ≤ v then m else lcF B v m
theorem lcF_is {B : Nat → Nat} {v : Nat} (h0 : B 0 ≤ v) : ∀ m, 0 < m → CodeIs B m v (lcF B v m)
  | 0, h => by omega
  | m + 1, _ => by
    unfold lcF
    by_cases c : B m ≤ v
    · rw [if_pos c]; exact ⟨by omega, c, fun d h1 h2 => by omega⟩
    · rw [if_neg c]
      have hm : 0 < m := by
        cases m with
        | zero => exact absurd h0 c
        | succ m => omega
      obtain ⟨h1, h2, h3⟩ := lcF_is h0 m hm
      exact ⟨by omega, h2, fun d h4 h5 => if h6 : d = m then by subst h6; omega else h3 d h4 (by omega)⟩
def lenC (t : Tok) : Nat := lcF lB t.2.1.toNat 29
def dstC (t : Tok) : Nat := lcF dB t.2.2.toNat 30
section
variable {t : Tok}
theorem lenC_is (hs : soundB t = true) (h0 : t.2.1 ≠ 0) : CodeIs lB 29 t.2.1.toNat (lenC t) := by
  have h := sound_match hs h0
  exact lcF_is (by have : lB 0 = 3 := by decide
                   omega) 29 (by decide)
theorem dstC_is (hs : soundB t = true) (h0 : t.2.1 ≠ 0) : CodeIs dB 30 t.2.2.toNat (dstC t) := by
  have h := sound_match hs h0
  exact lcF_is (by have : dB 0 = 1 := by decide
                   omega) 30 (by decide)
end
/-- the symbol of a token in the first code -/
def symOf (t : Tok) : Nat := if t.2.1 = 0 then t.1.toNat else 257 + lenC t
/-- its extra bits -/
def xtra (t : Tok) : Nat := if t.2.1 = 0 then 0 else lX (lenC t) + dX (dstC t)
theorem symOf_lt {t : Tok} (hs : soundB t = true) (hb : 0 ≤ t.1 ∧ t.1 ≤ 255) : symOf t < 286 := by
  unfold symOf
  split
  · omega
  · rename_i h
    have := (lenC_is hs h).1
    omega
def tokB (lit dist : List Int) (t : Tok) : List Nat :=
  if t.2.1 = 0 then symBits lit t.1.toNat
  else symBits lit (257 + lenC t) ++ (bitsOf (lX (lenC t)) (t.2.1.toNat - lB (lenC t)) ++ (symBits dist (dstC t) ++ bitsOf (dX (dstC t)) (t.2.2.toNat - dB (dstC t))))
def toksB (lit dist : List Int) (l : List Tok) : List Nat := l.flatMap (tokB lit dist) ++ symBits lit 256
theorem toksB_cons (lit dist : List Int) (t : Tok) (l : List Tok) : toksB lit dist (t :: l) = tokB lit dist t ++ toksB lit dist l := by simp [toksB]
/-- each symbol that comes has a code -/
def Covers (lit dist : List Int) (l : List Tok) : Prop := HasSym lit 256 ∧ ∀ t ∈ l, HasSym lit (symOf t) ∧ (t.2.1 ≠ 0 → HasSym dist (dstC t))
theorem tokB_is {lit dist : List Int} {t : Tok} (hs : soundB t = true) (hb : 0 ≤ t.1 ∧ t.1 ≤ 255) (h1 : HasSym lit (symOf t)) (h2 : t.2.1 ≠ 0 → HasSym dist (dstC t)) : TokBits lit dist t (tokB lit dist t) := by
  obtain ⟨a, n, d⟩ := t
  unfold tokB
  by_cases h0 : n = 0
  · have hd := sound_lit hs h0
    have hd2 : d = 0 := hd
    subst h0
    subst hd2
    rw [if_pos rfl]
    unfold symOf at h1
    rw [if_pos rfl] at h1
    have h3 := TokBits.lit (lit := lit) (dist := dist) a.toNat (by show a.toNat < 256; have : a ≤ 255 := hb.2; omega) h1
    have e : ((a.toNat : Nat) : Int) = a := by have : 0 ≤ a := hb.1; omega
    rw [e] at h3
    exact h3
  · rw [if_neg h0]
    obtain ⟨ha, ⟨hn1, hn2⟩, hd1, hd2⟩ := sound_match hs h0
    have hn1 : 3 ≤ n := hn1
    have hn2 : n ≤ 258 := hn2
    have hd1 : 1 ≤ d := hd1
    have hd2 : d ≤ 32768 := hd2
    have ha : a = 0 := ha
    subst ha
    unfold symOf at h1
    rw [if_neg h0] at h1
    have h3 := TokBits.ref (lit := lit) (dist := dist) n.toNat d.toNat (lenC (0, n, d)) (dstC (0, n, d)) (lenC_is hs h0) (by omega) (by omega) (dstC_is hs h0) (by omega) (by omega) h1 (h2 h0)
    have e1 : ((n.toNat : Nat) : Int) = n := by omega
    have e2 : ((d.toNat : Nat) : Int) = d := by omega
    rw [e1, e2] at h3
    exact h3
theorem toksB_is {lit dist : List Int} : ∀ {l : List Tok}, (∀ t ∈ l, soundB t = true) → byteOK l → Covers lit dist l → ToksBits lit dist l (toksB lit dist l)
  | [], _, _, hc => by
    show ToksBits lit dist [] (symBits lit 256)
    exact .nil hc.1
  | t :: l, hs, hb, hc => by
    rw [toksB_cons]
    have h1 := hc.2 t (List.mem_cons_self ..)
    exact .cons _ _ _ _ (tokB_is (hs t (List.mem_cons_self ..)) (hb t (List.mem_cons_self ..)) h1.1 h1.2)
      (toksB_is (fun s h => hs s (List.mem_cons_of_mem _ h)) (fun s h => hb s (List.mem_cons_of_mem _ h)) ⟨hc.1, fun s h => hc.2 s (List.mem_cons_of_mem _ h)⟩)

/-! ### How often symbols come -/
def litN (l : List Tok) (k : Nat) : Nat := l.countP fun t => decide (symOf t = k)
def dstN (l : List Tok) (k : Nat) : Nat := l.countP fun t => decide (t.2.1 ≠ 0 ∧ dstC t = k)
def extN (l : List Tok) : Nat := (l.map xtra).sum
/-- with the end of the block -/
def litE (l : List Tok) (k : Nat) : Nat := litN l k + (if 256 = k then 1 else 0)
def litF (l : List Tok) : List Nat := (List.range 286).map (litE l)
def dstF (l : List Tok) : List Nat := (List.range 30).map (dstN l)
theorem litN_le (l : List Tok) (k : Nat) : litN l k ≤ l.length := List.countP_le_length
theorem dstN_le (l : List Tok) (k : Nat) : dstN l k ≤ l.length := List.countP_le_length
theorem litE_le (l : List Tok) (k : Nat) : litE l k ≤ l.length + 1 := by have := litN_le l k; unfold litE; split <;> omega
theorem litF_le {l : List Tok} (h : l.length < 1048576) : ∀ a ∈ litF l, a ≤ 1048576 := fun a ha => by
  obtain ⟨k, _, rfl⟩ := List.mem_map.1 ha
  have := litE_le l k; omega
theorem dstF_le {l : List Tok} (h : l.length < 1048576) : ∀ a ∈ dstF l, a ≤ 1048576 := fun a ha => by
  obtain ⟨k, _, rfl⟩ := List.mem_map.1 ha
  have := dstN_le l k; omega
theorem litF_length (l : List Tok) : (litF l).length = 286 := by simp [litF]
theorem dstF_length (l : List Tok) : (dstF l).length = 30 := by simp [dstF]
theorem litF_get (l : List Tok) {k : Nat} (h : k < 286) : (litF l)[k]? = some (litE l k) := by simp [litF, h]
theorem dstF_get (l : List Tok) {k : Nat} (h : k < 30) : (dstF l)[k]? = some (dstN l k) := by simp [dstF, h]
theorem litE_end (l : List Tok) : 0 < litE l 256 := by unfold litE; rw [if_pos rfl]; omega
theorem litE_pos {l : List Tok} {t : Tok} (h : t ∈ l) : 0 < litE l (symOf t) := by
  have : 0 < litN l (symOf t) := List.countP_pos_iff.2 ⟨t, h, by simp⟩
  unfold litE; omega
theorem dstN_pos {l : List Tok} {t : Tok} (h : t ∈ l) (h0 : t.2.1 ≠ 0) : 0 < dstN l (dstC t) := List.countP_pos_iff.2 ⟨t, h, by simp [h0]⟩
theorem litN_snoc (l : List Tok) (t : Tok) (k : Nat) : litN (l ++ [t]) k = litN l k + (if symOf t = k then 1 else 0) := by
  simp only [litN, List.countP_append, List.countP_cons, List.countP_nil, decide_eq_true_eq]; omega
theorem dstN_snoc (l : List Tok) (t : Tok) (k : Nat) : dstN (l ++ [t]) k = dstN l k + (if t.2.1 ≠ 0 ∧ dstC t = k then 1 else 0) := by
  simp only [dstN, List.countP_append, List.countP_cons, List.countP_nil, decide_eq_true_eq]; omega
theorem extN_snoc (l : List Tok) (t : Tok) : extN (l ++ [t]) = extN l + xtra t := by simp [extN]

/-! ### What they cost -/
def lenAt (l : List Int) (k : Nat) : Nat := (l[k]?.getD 0).toNat
def csum (l : List Int) (g : Nat → Nat) : Nat → Nat
  | 0 => 0
  | n + 1 => csum l g n + lenAt l n * g n
theorem csum_add (l : List Int) (g h : Nat → Nat) : ∀ n, csum l (fun k => g k + h k) n = csum l g n + csum l h n
  | 0 => rfl
  | n + 1 => by rw [csum, csum, csum, csum_add l g h n, Nat.mul_add]; omega
theorem csum_zero (l : List Int) (g : Nat → Nat) : ∀ n, (∀ k, k < n → g k = 0) → csum l g n = 0
  | 0, _ => rfl
  | n + 1, h => by rw [csum, csum_zero l g n (fun k hk => h k (by omega)), h n (by omega)]; rfl
theorem csum_one (l : List Int) (s : Nat) : ∀ n, s < n → csum l (fun k => if s = k then 1 else 0) n = lenAt l s
  | 0, h => by omega
  | n + 1, h => by
    rw [csum]
    by_cases c : s = n
    · subst c
      rw [csum_zero l _ s (fun k hk => if_neg (by omega)), if_pos rfl]; omega
    · rw [csum_one l s n (by omega), if_neg c]; omega
theorem csum_ext (l m : List Int) (g h : Nat → Nat) : ∀ n, (∀ k, k < n → lenAt l k = lenAt m k ∧ g k = h k) → csum l g n = csum m h n
  | 0, _ => rfl
  | n + 1, hh => by rw [csum, csum, csum_ext l m g h n (fun k hk => hh k (by omega)), (hh n (by omega)).1, (hh n (by omega)).2]
theorem symBits_length (l : List Int) (k : Nat) : (symBits l k).length = lenAt l k := by unfold symBits lenAt; rw [hiBits_length]
theorem tokB_length (lit dist : List Int) (t : Tok) : (tokB lit dist t).length = lenAt lit (symOf t) + (if t.2.1 ≠ 0 then lenAt dist (dstC t) else 0) + xtra t := by
  unfold tokB symOf xtra
  by_cases h : t.2.1 = 0
  · rw [if_pos h, if_pos h, if_pos h, if_neg (fun c => c h), symBits_length]; omega
  · rw [if_neg h, if_neg h, if_neg h, if_pos h]
    simp only [List.length_append, symBits_length, bitsOf_length]; omega
theorem toksB_length {lit dist : List Int} : ∀ {l : List Tok}, (∀ t ∈ l, soundB t = true) → byteOK l → (toksB lit dist l).length = csum lit (litE l) 286 + csum dist (dstN l) 30 + extN l
  | [], _, _ => by
    rw [toksB, List.flatMap_nil, List.nil_append, symBits_length]
    have e : litE [] = fun k => if 256 = k then 1 else 0 := by funext k; simp [litE, litN]
    rw [e, csum_one _ _ _ (by decide), csum_zero dist (dstN []) 30 (fun k _ => rfl)]; rfl
  | t :: l, hs, hb => by
    have hs1 := hs t (List.mem_cons_self ..)
    have hb1 := hb t (List.mem_cons_self ..)
    rw [toksB_cons, List.length_append, toksB_length (fun s h => hs s (List.mem_cons_of_mem _ h)) (fun s h => hb s (List.mem_cons_of_mem _ h)), tokB_length]
    have e1 : litE (t :: l) = fun k => litE l k + (if symOf t = k then 1 else 0) := by
      funext k
      simp only [litE, litN, List.countP_cons, decide_eq_true_eq]; omega
    have e2 : dstN (t :: l) = fun k => dstN l k + (if t.2.1 ≠ 0 ∧ dstC t = k then 1 else 0) := by
      funext k
      simp only [dstN, List.countP_cons, decide_eq_true_eq]
    have e3 : extN (t :: l) = xtra t + extN l := by simp [extN]
    rw [e1, e2, e3, csum_add, csum_add, csum_one _ _ _ (symOf_lt hs1 hb1)]
    by_cases h0 : t.2.1 = 0
    · rw [csum_zero dist (fun k => if t.2.1 ≠ 0 ∧ dstC t = k then 1 else 0) 30 (fun k _ => if_neg fun h => h.1 h0), if_neg (fun h => h h0)]; omega
    · have e4 : (fun k => if t.2.1 ≠ 0 ∧ dstC t = k then 1 else 0) = fun k => if dstC t = k then 1 else 0 := by funext k; simp [h0]
      rw [e4, csum_one _ _ _ (dstC_is hs1 h0).1, if_pos h0]; omega
/-- what the program's Cost counts -/
theorem costTo_csum {l : List Int} {g : Nat → Nat} {N : Nat} (hl : ∀ a ∈ l, 0 ≤ a ∧ a ≤ 15) (hg : ∀ k, k < N → g k ≤ 1048576) : ∀ k, k ≤ N → k ≤ l.length → costTo l (((List.range N).map g).map fun (n : Nat) => (n : Int)) k = csum l g k
  | 0, _, _ => rfl
  | k + 1, h1, h2 => by
    rw [costTo, csum, costTo_csum hl hg k (by omega) (by omega)]
    have e1 : l.getD k 0 = l[k]?.getD 0 := by simp [List.getD]
    have e2 : (((List.range N).map g).map fun (n : Nat) => (n : Int)).getD k 0 = ((g k : Nat) : Int) := by
      have hk : k < N := by omega
      simp [List.getD, hk]
    have e3 := hl _ (List.mem_of_getElem? (List.getElem?_eq_getElem (show k < l.length by omega)))
    rw [e1, e2, List.getElem?_eq_getElem (show k < l.length by omega)]
    unfold valOf lenAt
    rw [List.getElem?_eq_getElem (show k < l.length by omega)]
    simp only [Option.getD_some]
    have := hg k (by omega)
    rw [if_pos ⟨e3.1, by omega⟩, if_pos ⟨Int.natCast_nonneg _, by omega⟩, Int.toNat_natCast]
theorem csum_past {l : List Int} {g : Nat → Nat} {n : Nat} (h : l.length ≤ n) : ∀ d, csum l g (n + d) = csum l g n
  | 0 => rfl
  | d + 1 => by
    rw [← Nat.add_assoc, csum, csum_past h d]
    have : lenAt l (n + d) = 0 := by unfold lenAt; rw [List.getElem?_eq_none (by omega)]; rfl
    rw [this, Nat.zero_mul, Nat.add_zero]
theorem cost_csum {l : List Int} {g : Nat → Nat} {N : Nat} (hl : ∀ a ∈ l, 0 ≤ a ∧ a ≤ 15) (hg : ∀ k, k < N → g k ≤ 1048576) : costTo l (((List.range N).map g).map fun (n : Nat) => (n : Int)) (min l.length (((List.range N).map g).map fun (n : Nat) => (n : Int)).length) = csum l g N := by
  have hlen : (((List.range N).map g).map fun (n : Nat) => (n : Int)).length = N := by simp
  rw [hlen]
  by_cases h : l.length ≤ N
  · rw [Nat.min_eq_left h, costTo_csum hl hg _ h (Nat.le_refl _)]
    have := csum_past (g := g) (Nat.le_refl l.length) (N - l.length)
    rw [show l.length + (N - l.length) = N by omega] at this
    exact this.symm
  · rw [Nat.min_eq_right (by omega), costTo_csum hl hg _ (Nat.le_refl _) (by omega)]
theorem lenAt_le {l : List Int} {m : Nat} (h : ∀ a ∈ l, 0 ≤ a ∧ a ≤ (m : Int)) (k : Nat) : lenAt l k ≤ m := by
  unfold lenAt
  cases e : l[k]? with
  | none => exact Nat.zero_le _
  | some a => have := h a (List.mem_of_getElem? e); show a.toNat ≤ m; omega
theorem xtra_le {t : Tok} (hs : soundB t = true) : xtra t ≤ 18 := by
  unfold xtra
  split
  · omega
  · rename_i h
    have h1 := lX_le _ (lenC_is hs h).1
    have h2 := dX_le _ (dstC_is hs h).1
    omega
theorem toksB_short {lit dist : List Int} (hl : ∀ a ∈ lit, 0 ≤ a ∧ a ≤ 15) (hd : ∀ a ∈ dist, 0 ≤ a ∧ a ≤ 15) : ∀ {l : List Tok}, (∀ t ∈ l, soundB t = true) → (toksB lit dist l).length ≤ 48 * l.length + 15
  | [], _ => by
    rw [toksB, List.flatMap_nil, List.nil_append, symBits_length]
    have := lenAt_le (m := 15) hl 256
    simpa using this
  | t :: l, hs => by
    have ih := toksB_short hl hd (l := l) fun s h => hs s (List.mem_cons_of_mem _ h)
    have h1 := lenAt_le (m := 15) hl (symOf t)
    have h2 := lenAt_le (m := 15) hd (dstC t)
    have h3 := xtra_le (hs t (List.mem_cons_self ..))
    rw [toksB_cons, List.length_append, tokB_length, List.length_cons]
    split <;> omega
end Go.Proofs.YthibpnkdhbkakaaGreatDoor
