/-
  The machine that reads streams: more bits behind change no step that is whole; a smaller limit changes none before it. No walk is in here.
-/
import Derived.Test.YtmmfkppkmgjljaaDoorZE10
import Derived.Test.YtmmfkppkmgjljaaDoorZE09
namespace Go.Proofs.YtmmfkppkmgjljaaDoor
set_option maxRecDepth 5000
def MStep.more (X : List Nat) : MStep → MStep
  | .go p l o => .go p (l ++ X) o
  | .done l => .done (l ++ X)
  | .err e => .err e
theorem drop_more {l : List Nat} {n : Nat} (h : n ≤ l.length) (X : List Nat) : (l ++ X).drop n = l.drop n ++ X := List.drop_append_of_le_length h
theorem take_more {l : List Nat} {n : Nat} (h : n ≤ l.length) (X : List Nat) : (l ++ X).take n = l.take n := List.take_append_of_le_length h
theorem dt_more {l : List Nat} {a n : Nat} (h : a + n ≤ l.length) (X : List Nat) : ((l ++ X).drop a).take n = (l.drop a).take n := by
  rw [drop_more (by omega), take_more (by rw [List.length_drop]; omega)]
theorem takeM_more {l : List Nat} {a n v : Nat} (h : takeM l a n = some v) (X : List Nat) : takeM (l ++ X) a n = some v := by
  obtain ⟨h1, h2⟩ := take_some h
  unfold takeM
  rw [if_pos (by rw [List.length_append]; omega), dt_more h1, h2]
theorem symF_more {l : List Int} {r X : List Nat} (hl : ∀ a ∈ l, 0 ≤ a ∧ a ≤ 15) (hb : isBits (r ++ X)) (h : (symF l r).2.2 ≠ 5) : symF l (r ++ X) = symF l r := by
  rw [symF_of hb hl ((symF_is l r).part h)]
theorem headF_more {l : List Nat} (X : List Nat) : ∀ C, 3 * C ≤ l.length → headF (l ++ X) 0 C = headF l 0 C
  | 0, _ => rfl
  | C + 1, h => by rw [headF, headF, headF_more X C (by omega), dt_more (by omega)]
theorem anyF_more {l : List Nat} (X : List Nat) : ∀ C, 3 * C ≤ l.length → anyF (l ++ X) 0 C = anyF l 0 C
  | 0, _ => rfl
  | C + 1, h => by rw [anyF, anyF, anyF_more X C (by omega), dt_more (by omega)]
theorem lenStep_more {head : List Int} {l X : List Nat} {N : Nat} {ls : List Int} (hl : ∀ a ∈ head, 0 ≤ a ∧ a ≤ 15) (hb : isBits (l ++ X)) {b : Bool} {e a' : Nat} {ls' : List Int}
    (h : lenStep head l N 0 ls = (b, e, a', ls')) (he : e ≠ 5) : lenStep head (l ++ X) N 0 ls = (b, e, a', ls') := by
  obtain ⟨k, n, e0, hs⟩ : ∃ k n e0, symF head (l.drop 0) = (k, n, e0) := ⟨_, _, _, rfl⟩
  have hs2 : e0 ≠ 5 → symF head ((l ++ X).drop 0) = (k, n, e0) := fun h5 => by
    rw [List.drop_zero] at hs ⊢
    rw [symF_more hl hb (by rw [hs]; exact h5), hs]
  by_cases h0 : e0 = 0
  · subst h0
    rw [len_run hs] at h
    rw [len_run (hs2 (by decide))]
    unfold lenStep.lenRun at h ⊢
    generalize (if k = 17 then 3 else if k = 18 then 7 else 2) = wd at h ⊢
    generalize (if k = 18 then 11 else 3) = ba at h ⊢
    generalize (if k = 16 then ls.getLast?.getD 0 else 0) = y at h ⊢
    split
    · rename_i h1; rw [if_pos h1] at h; exact h
    · rename_i h1
      rw [if_neg h1] at h
      split
      · rename_i h2; rw [if_pos h2] at h; exact h
      · rename_i h2
        rw [if_neg h2] at h
        cases ht : takeM l (0 + n) wd with
        | none => rw [ht] at h; cases h; exact absurd rfl he
        | some v => rw [ht] at h; rw [takeM_more ht X]; exact h
  · rw [len_err hs h0] at h
    obtain ⟨rfl, rfl, rfl, rfl⟩ : true = b ∧ e0 = e ∧ 0 = a' ∧ ls = ls' := by simpa using h
    exact len_err (hs2 he) h0
section
variable {M : Nat} {l X out : List Nat} {b : Bool}
theorem endM_more : endM b (l ++ X) out = (endM b l out).more X := by
  unfold endM
  split <;> rfl
theorem hd_more (hn : hdM l out ≠ .err 5) : hdM (l ++ X) out = (hdM l out).more X := by
  unfold hdM at hn ⊢
  cases ht : takeL l 3 with
  | none => rw [ht] at hn; exact absurd rfl hn
  | some v =>
    rw [takeL_more ht X]
    have h3 := (takeL_some ht).1
    simp only [drop_more h3]
    split
    · rfl
    · split
      · rfl
      · split <;> rfl
theorem sz_more (h8 : X.length % 8 = 0) (hn : szM b l out ≠ .err 5) : szM b (l ++ X) out = (szM b l out).more X := by
  unfold szM at hn ⊢
  rw [show (l ++ X).length % 8 = l.length % 8 by rw [List.length_append]; omega, drop_more (by omega)]
  generalize l.drop (l.length % 8) = l1 at hn ⊢
  unfold szR at hn ⊢
  by_cases h : l1.length < 32
  · rw [if_pos h] at hn; exact absurd rfl hn
  · rw [if_neg h, if_neg (by rw [List.length_append]; omega), take_more (by omega), drop_more (by omega), take_more (by rw [List.length_drop]; omega), drop_more (by omega)]
    split <;> rfl
theorem sto_more {n : Nat} (hn : stoM M b n l out ≠ .err 5) : stoM M b n (l ++ X) out = (stoM M b n l out).more X := by
  unfold stoM at hn ⊢
  by_cases h0 : n = 0
  · rw [if_pos h0, if_pos h0]; exact endM_more
  · rw [if_neg h0] at hn
    rw [if_neg h0, if_neg h0]
    by_cases h : l.length < 8
    · rw [if_pos h] at hn; exact absurd rfl hn
    · rw [if_neg h, if_neg (by rw [List.length_append]; omega), take_more (by omega), drop_more (by omega)]
      split <;> rfl
theorem cnt_more (hn : cntM b l out ≠ .err 5) : cntM b (l ++ X) out = (cntM b l out).more X := by
  unfold cntM at hn ⊢
  by_cases h : l.length < 14
  · rw [if_pos h] at hn; exact absurd rfl hn
  · rw [if_neg h, if_neg (by rw [List.length_append]; omega), take_more (by omega), dt_more (by omega), dt_more (by omega), drop_more (by omega)]
    split <;> rfl
theorem thd_more {A B C : Nat} (hn : thdM b A B C l out ≠ .err 5) : thdM b A B C (l ++ X) out = (thdM b A B C l out).more X := by
  unfold thdM at hn ⊢
  by_cases h : l.length < 3 * C
  · rw [if_pos h] at hn; exact absurd rfl hn
  · rw [if_neg h, if_neg (by rw [List.length_append]; omega), headF_more X C (by omega), anyF_more X C (by omega), drop_more (by omega)]
    split <;> rfl
theorem len_more {A B : Nat} {head ls : List Int} (hl : ∀ a ∈ head, 0 ≤ a ∧ a ≤ 15) (hb : isBits (l ++ X)) (hn : lenM b A B head ls l out ≠ .err 5) : lenM b A B head ls (l ++ X) out = (lenM b A B head ls l out).more X := by
  unfold lenM at hn ⊢
  by_cases h : A + B ≤ ls.length
  · rw [if_pos h, if_pos h]
    split <;> rfl
  · rw [if_neg h] at hn
    rw [if_neg h, if_neg h]
    obtain ⟨b2, e2, a2, l2, hs⟩ : ∃ b2 e2 a2 l2, lenStep head l (A + B) 0 ls = (b2, e2, a2, l2) := ⟨_, _, _, _, rfl⟩
    rw [hs] at hn ⊢
    have he : e2 ≠ 5 := by
      rintro rfl
      cases b2 with
      | true => exact hn rfl
      | false => have := lenStep_on hs; cases this
    rw [lenStep_more hl hb hs he]
    unfold lenR
    cases b2 with
    | true => rfl
    | false =>
      have h0 := lenStep_on hs
      simp only at h0
      subst h0
      have h2 := (lenStep_grow hs h (Nat.zero_le _)).2.1
      show MStep.go _ ((l ++ X).drop a2) out = .go _ (l.drop a2 ++ X) out
      rw [drop_more h2]
theorem far_more {lit dist : List Int} {n q : Nat} (hn : farM b lit dist n q l out ≠ .err 5) : farM b lit dist n q (l ++ X) out = (farM b lit dist n q l out).more X := by
  unfold farM at hn ⊢
  by_cases h : 29 < q
  · rw [if_pos h, if_pos h]; rfl
  · rw [if_neg h] at hn
    rw [if_neg h, if_neg h]
    cases ht : takeL l (dX q) with
    | none => rw [ht] at hn; exact absurd rfl hn
    | some v =>
      rw [takeL_more ht X]
      simp only [drop_more (takeL_some ht).1]
      split <;> rfl
theorem mat_more {lit dist : List Int} {c : Nat} (hd : ∀ a ∈ dist, 0 ≤ a ∧ a ≤ 15) (hb : isBits (l ++ X)) (hn : matM b lit dist c l out ≠ .err 5) : matM b lit dist c (l ++ X) out = (matM b lit dist c l out).more X := by
  unfold matM at hn ⊢
  cases ht : takeL l (lX c) with
  | none => rw [ht] at hn; exact absurd rfl hn
  | some v =>
    rw [ht] at hn
    have h1 := (takeL_some ht).1
    rw [takeL_more ht X]
    simp only [drop_more h1] at hn ⊢
    obtain ⟨k, n, e, hs⟩ : ∃ k n e, symF dist (l.drop (lX c)) = (k, n, e) := ⟨_, _, _, rfl⟩
    have hb2 : isBits (l.drop (lX c) ++ X) := by rw [← drop_more h1]; exact isBits_drop hb _
    rw [hs] at hn ⊢
    have he : e ≠ 5 := by
      rintro rfl
      exact hn rfl
    rw [symF_more hd hb2 (by rw [hs]; exact he), hs]
    unfold matR at hn ⊢
    by_cases h0 : e = 0
    · subst h0
      have h2 := (sym_facts hs).2.2
      simp only [ne_eq, not_true_eq_false, if_false] at hn ⊢
      rw [drop_more h2]
      exact far_more hn
    · simp only [ne_eq, h0, not_false_eq_true, if_true]
      rfl
theorem tok_more {lit dist : List Int} (hl : ∀ a ∈ lit, 0 ≤ a ∧ a ≤ 15) (hd : ∀ a ∈ dist, 0 ≤ a ∧ a ≤ 15) (hb : isBits (l ++ X)) (hn : tokR M b lit dist l out (symF lit l) ≠ .err 5) :
    tokR M b lit dist (l ++ X) out (symF lit (l ++ X)) = (tokR M b lit dist l out (symF lit l)).more X := by
  obtain ⟨k, n, e, hs⟩ : ∃ k n e, symF lit l = (k, n, e) := ⟨_, _, _, rfl⟩
  rw [hs] at hn ⊢
  have he : e ≠ 5 := by
    rintro rfl
    exact hn rfl
  rw [symF_more hl hb (by rw [hs]; exact he), hs]
  unfold tokR at hn ⊢
  by_cases h0 : e = 0
  · subst h0
    have h2 := (sym_facts hs).2.2
    simp only [ne_eq, not_true_eq_false, if_false] at hn ⊢
    rw [drop_more h2]
    split
    · exact endM_more
    · rename_i h3
      rw [if_neg h3] at hn
      split
      · split <;> rfl
      · rename_i h4
        rw [if_neg h4] at hn
        split
        · rfl
        · rename_i h5
          rw [if_neg h5] at hn
          have hb2 : isBits (l.drop n ++ X) := by rw [← drop_more h2]; exact isBits_drop hb _
          exact mat_more hd hb2 hn
  · simp only [ne_eq, h0, not_false_eq_true, if_true]
    rfl
end
theorem stepM_more {M : Nat} {p : Ph} {l out : List Nat} (X : List Nat) (hX : isBits X) (h8 : X.length % 8 = 0) (h : MOk p l out) (hn : stepM M l out p ≠ .err 5) : stepM M (l ++ X) out p = (stepM M l out p).more X := by
  have hb := isBits_append h.bits hX
  cases p with
  | hd => exact hd_more hn
  | sz b => exact sz_more h8 hn
  | sto b n => exact sto_more hn
  | cnt b => exact cnt_more hn
  | thd b A B C => exact thd_more hn
  | len b A B head ls => exact len_more (fun a ha => by have := checkOf_in h.ph.2.2.2.2.1 a ha; omega) hb hn
  | tok b lit dist => exact tok_more (checkOf_in h.ph.1) (checkOf_in h.ph.2.1) hb hn
  | cop b lit dist n d =>
    show copM M b lit dist n d (l ++ X) out = (copM M b lit dist n d l out).more X
    unfold copM
    split
    · rfl
    · split <;> rfl
theorem Reach.more {M : Nat} {p p' : Ph} {l out l' out' X : List Nat} (hX : isBits X) (h8 : X.length % 8 = 0) (h : MOk p l out) (hr : Reach M p l out p' l' out') : Reach M p (l ++ X) out p' (l' ++ X) out' := by
  induction hr with
  | refl => exact .refl
  | step hs _ ih => exact .step (by rw [stepM_more X hX h8 h (by rw [hs]; intro h; cases h), hs]; rfl) (ih (h.step hs).1)
theorem lenStep_errs {head : List Int} {bs : List Nat} {N a e a' : Nat} {l l' : List Int} (h : lenStep head bs N a l = (true, e, a', l')) : e = 2 ∨ e = 3 ∨ e = 5 := by
  unfold lenStep at h
  split at h
  · rename_i h0
    cases h
    rcases (symF_is head (bs.drop a)).errs with h1 | h1 | h1
    · exact absurd h1 h0
    · exact .inr (.inl h1)
    · exact .inr (.inr h1)
  · unfold lenStep.lenRun at h
    generalize (symF head (bs.drop a)).1 = k at h
    generalize (if k = 17 then 3 else if k = 18 then 7 else 2) = wd at h
    generalize (if k = 18 then 11 else 3) = ba at h
    generalize (if k = 16 then l.getLast?.getD 0 else 0) = y at h
    split at h
    · cases h
    · split at h
      · cases h; exact .inl rfl
      · split at h
        · cases h; exact .inr (.inr rfl)
        · split at h
          · cases h; exact .inl rfl
          · cases h
theorem endM_err {b : Bool} {l out : List Nat} {e : Nat} (h : endM b l out = .err e) : False := by
  unfold endM at h
  split at h <;> cases h
theorem sym_errs {l : List Int} {r : List Nat} (h : (symF l r).2.2 ≠ 0) : (symF l r).2.2 = 3 ∨ (symF l r).2.2 = 5 := (symF_is l r).errs.resolve_left h
theorem stepM_err {M : Nat} {p : Ph} {l out : List Nat} {e : Nat} (h : stepM M l out p = .err e) : e = 2 ∨ e = 3 ∨ e = 5 ∨ e = 6 := by
  cases p with
  | hd =>
    have h' : hdM l out = .err e := h
    unfold hdM at h'
    split at h'
    · cases h'; decide
    · split at h'
      · cases h'
      · split at h'
        · cases h'
        · split at h'
          · cases h'
          · cases h'; decide
  | sz b =>
    have h' : szM b l out = .err e := h
    unfold szM szR at h'
    split at h'
    · cases h'; decide
    · split at h'
      · cases h'; decide
      · cases h'
  | sto b n =>
    have h' : stoM M b n l out = .err e := h
    unfold stoM at h'
    split at h'
    · exact (endM_err h').elim
    · split at h'
      · cases h'; decide
      · split at h'
        · cases h'; decide
        · cases h'
  | cnt b =>
    have h' : cntM b l out = .err e := h
    unfold cntM at h'
    split at h'
    · cases h'; decide
    · split at h'
      · cases h'; decide
      · cases h'
  | thd b A B C =>
    have h' : thdM b A B C l out = .err e := h
    unfold thdM at h'
    split at h'
    · cases h'; decide
    · split at h'
      · cases h'; decide
      · cases h'
  | len b A B head ls =>
    have h' : lenM b A B head ls l out = .err e := h
    unfold lenM at h'
    split at h'
    · split at h'
      · cases h'; decide
      · cases h'
    · obtain ⟨b2, e2, a2, l2, hs⟩ : ∃ b2 e2 a2 l2, lenStep head l (A + B) 0 ls = (b2, e2, a2, l2) := ⟨_, _, _, _, rfl⟩
      rw [hs] at h'
      cases b2 with
      | true =>
        unfold lenR at h'
        rw [if_pos rfl] at h'
        cases h'
        have := lenStep_errs hs
        simp only
        omega
      | false => cases h'
  | tok b lit dist =>
    have h' : tokR M b lit dist l out (symF lit l) = .err e := h
    unfold tokR at h'
    split at h'
    · rename_i h0
      cases h'
      have := sym_errs h0
      omega
    · split at h'
      · exact (endM_err h').elim
      · split at h'
        · split at h'
          · cases h'; decide
          · cases h'
        · split at h'
          · cases h'; decide
          · unfold matM at h'
            split at h'
            · cases h'; decide
            · unfold matR at h'
              split at h'
              · rename_i h0
                cases h'
                have := sym_errs h0
                omega
              · unfold farM at h'
                split at h'
                · cases h'; decide
                · split at h'
                  · cases h'; decide
                  · split at h'
                    · cases h'; decide
                    · cases h'
  | cop b lit dist n d =>
    have h' : copM M b lit dist n d l out = .err e := h
    unfold copM at h'
    split at h'
    · cases h'
    · split at h'
      · cases h'; decide
      · cases h'
theorem Ends.more {M : Nat} {p : Ph} {l out l' out' X : List Nat} {e : Nat} (hX : isBits X) (h8 : X.length % 8 = 0) (h : MOk p l out) (he : e ≠ 5) (hr : Ends M p l out e l' out') : Ends M p (l ++ X) out e (if e = 8 then l' ++ X else []) out' := by
  induction hr with
  | done hs => exact .done (by rw [stepM_more X hX h8 h (by rw [hs]; intro h; cases h), hs]; rfl)
  | err hs =>
    have hs2 := (stepM_more X hX h8 h (by rw [hs]; intro h; cases h; exact he rfl)).trans (by rw [hs])
    have := stepM_err hs
    rw [if_neg (by omega)]
    exact .err hs2
  | go hs _ ih =>
    have hs2 := (stepM_more X hX h8 h (by rw [hs]; intro h; cases h)).trans (by rw [hs])
    exact .go hs2 (ih (h.step hs).1 he)
/-! ### A smaller limit -/
section
variable {M k : Nat} {p p' : Ph} {l out l' o' : List Nat}
theorem stepM_cap (_hk : k ≤ M) (h : stepM M l out p = .go p' l' o') : (o'.length ≤ k → stepM k l out p = .go p' l' o') ∧ (k < o'.length → out.length ≤ k → stepM k l out p = .err 6) := by
  cases p with
  | hd =>
    refine ⟨fun _ => h, fun h3 h4 => ?_⟩
    have h' : hdM l out = .go p' l' o' := h
    unfold hdM at h'
    split at h'
    · cases h'
    · split at h'
      · cases h'; omega
      · split at h'
        · cases h'; omega
        · split at h'
          · cases h'; omega
          · cases h'
  | sz b =>
    refine ⟨fun _ => h, fun h3 h4 => ?_⟩
    have h' : szM b l out = .go p' l' o' := h
    unfold szM szR at h'
    split at h'
    · cases h'
    · split at h'
      · cases h'
      · cases h'; omega
  | sto b n =>
    show (o'.length ≤ k → stoM k b n l out = _) ∧ (_ → _ → stoM k b n l out = _)
    have h' : stoM M b n l out = .go p' l' o' := h
    unfold stoM at h' ⊢
    by_cases h0 : n = 0
    · rw [if_pos h0] at h' ⊢
      obtain ⟨_, _, h5⟩ := endM_go h'
      exact ⟨fun _ => h', fun h3 h4 => by rw [h5] at h3; omega⟩
    · rw [if_neg h0] at h' ⊢
      split at h'
      · cases h'
      · rename_i h1
        rw [if_neg h1]
        split at h'
        · cases h'
        · cases h'
          rw [List.length_append]
          simp only [List.length_cons, List.length_nil]
          exact ⟨fun h3 => if_neg (by omega), fun h3 h4 => if_pos (by omega)⟩
  | cnt b =>
    refine ⟨fun _ => h, fun h3 h4 => ?_⟩
    have h' : cntM b l out = .go p' l' o' := h
    unfold cntM at h'
    split at h'
    · cases h'
    · split at h'
      · cases h'
      · cases h'; omega
  | thd b A B C =>
    refine ⟨fun _ => h, fun h3 h4 => ?_⟩
    have h' : thdM b A B C l out = .go p' l' o' := h
    unfold thdM at h'
    split at h'
    · cases h'
    · split at h'
      · cases h'
      · cases h'; omega
  | len b A B head ls =>
    refine ⟨fun _ => h, fun h3 h4 => ?_⟩
    have h' : lenM b A B head ls l out = .go p' l' o' := h
    unfold lenM lenR at h'
    split at h'
    · split at h'
      · cases h'
      · cases h'; omega
    · split at h'
      · cases h'
      · cases h'; omega
  | tok b lit dist =>
    show (o'.length ≤ k → tokR k b lit dist l out (symF lit l) = _) ∧ (_ → _ → tokR k b lit dist l out (symF lit l) = _)
    have h' : tokR M b lit dist l out (symF lit l) = .go p' l' o' := h
    unfold tokR at h' ⊢
    split at h'
    · cases h'
    · rename_i h1
      rw [if_neg h1]
      split at h'
      · rename_i h2
        rw [if_pos h2]
        obtain ⟨_, _, h5⟩ := endM_go h'
        exact ⟨fun _ => h', fun h3 h4 => by rw [h5] at h3; omega⟩
      · rename_i h2
        rw [if_neg h2]
        split at h'
        · rename_i h3
          rw [if_pos h3]
          split at h'
          · cases h'
          · cases h'
            rw [List.length_append]
            simp only [List.length_cons, List.length_nil]
            exact ⟨fun h3 => if_neg (by omega), fun h3 h4 => if_pos (by omega)⟩
        · rename_i h3
          rw [if_neg h3]
          refine ⟨fun _ => h', fun h4 h5 => ?_⟩
          split at h'
          · cases h'
          · unfold matM at h'
            split at h'
            · cases h'
            · unfold matR at h'
              split at h'
              · cases h'
              · unfold farM at h'
                split at h'
                · cases h'
                · split at h'
                  · cases h'
                  · split at h'
                    · cases h'
                    · cases h'; omega
  | cop b lit dist n d =>
    show (o'.length ≤ k → copM k b lit dist n d l out = _) ∧ (_ → _ → copM k b lit dist n d l out = _)
    have h' : copM M b lit dist n d l out = .go p' l' o' := h
    unfold copM at h' ⊢
    by_cases h0 : n = 0
    · rw [if_pos h0] at h' ⊢
      cases h'
      exact ⟨fun _ => rfl, fun h3 h4 => by omega⟩
    · rw [if_neg h0] at h' ⊢
      split at h'
      · cases h'
      · cases h'
        rw [ext_length]
        exact ⟨fun h3 => if_neg (by omega), fun h3 h4 => if_pos (by omega)⟩
theorem stepM_done (h : stepM M l out p = .done l') : stepM k l out p = .done l' := by
  cases p with
  | hd => exact h
  | sz b => exact h
  | sto b n =>
    show stoM k b n l out = _
    have h' : stoM M b n l out = .done l' := h
    unfold stoM at h' ⊢
    by_cases h0 : n = 0
    · rw [if_pos h0] at h' ⊢; exact h'
    · rw [if_neg h0] at h'
      split at h'
      · cases h'
      · split at h' <;> cases h'
  | cnt b => exact h
  | thd b A B C => exact h
  | len b A B head ls => exact h
  | tok b lit dist =>
    show tokR k b lit dist l out (symF lit l) = _
    have h' : tokR M b lit dist l out (symF lit l) = .done l' := h
    unfold tokR at h' ⊢
    split at h'
    · cases h'
    · rename_i h1
      rw [if_neg h1]
      split at h'
      · rename_i h2
        rw [if_pos h2]; exact h'
      · rename_i h2
        rw [if_neg h2]
        split at h'
        · split at h' <;> cases h'
        · rename_i h3
          rw [if_neg h3]; exact h'
  | cop b lit dist n d =>
    have h' : copM M b lit dist n d l out = .done l' := h
    unfold copM at h'
    split at h'
    · cases h'
    · split at h' <;> cases h'
theorem Ends.cap (hk : k ≤ M) {e : Nat} (h : MOk p l out) (hr : Ends M p l out e l' o') (he : e = 8) (ho : out.length ≤ k) : (o'.length ≤ k → Ends k p l out 8 l' o') ∧ (k < o'.length → Ends k p l out 6 [] (o'.take k)) := by
  induction hr with
  | done hs => exact ⟨fun _ => .done (stepM_done hs), fun h3 => by omega⟩
  | err hs => have := stepM_err hs; omega
  | @go p p1 l l1 l' o o1 o2 e hs r ih =>
    obtain ⟨h1, h2⟩ := stepM_cap hk hs
    obtain ⟨h3, ⟨t, h4⟩, _⟩ := h.step hs
    obtain ⟨_, t2, h5⟩ := h3.ends r
    by_cases hc : o1.length ≤ k
    · obtain ⟨h6, h7⟩ := ih h3 he hc
      exact ⟨fun h8 => .go (h1 hc) (h6 h8), fun h8 => .go (h1 hc) (h7 h8)⟩
    · have hlen : o1.length ≤ o2.length := by rw [h5, List.length_append]; omega
      refine ⟨fun h8 => by omega, fun _ => ?_⟩
      have hs6 := h2 (by omega) ho
      obtain ⟨⟨_, _, u, h9, h10, _⟩, _⟩ := stepM_ok h.bits h.byt h.ph hs
      have e1 : o2.take k = o := by
        rw [h5, h9, List.append_assoc, List.take_append_of_le_length (by rw [h9, List.length_append] at hc; omega)]
        rw [List.take_of_length_le (by rw [h9, List.length_append] at hc; omega)]
      rw [e1]
      exact .err hs6
end
end Go.Proofs.YtmmfkppkmgjljaaDoor
/-
  The reference's reader of streams ends where the machine does. No walk is in here.
-/
namespace Go.Proofs.YtmmfkppkmgjljaaDoor
set_option maxRecDepth 5000
def EndK (M : Nat) (b : Bool) (l out : List Nat) (e : Nat) (l' o' : List Nat) : Prop := if b = true then e = 8 ∧ l' = l ∧ o' = out else Ends M .hd l out e l' o'
section
variable {M : Nat} {p p1 : Ph} {b : Bool} {l l0 l1 l2 l' out o1 o2 o' : List Nat} {e : Nat}
theorem ends_endM (h : stepM M l0 out p = endM b l out) (hk : EndK M b l out e l' o') : Ends M p l0 out e l' o' := by
  unfold endM at h
  unfold EndK at hk
  split at hk
  · rename_i hb
    rw [if_pos hb] at h
    obtain ⟨rfl, rfl, rfl⟩ := hk
    exact .done h
  · rename_i hb
    rw [if_neg hb] at h
    exact .go h hk
def Bad (e : Nat) : Prop := e = 2 ∨ e = 3 ∨ e = 5 ∨ e = 6
theorem Bad.ne {e : Nat} (h : Bad e) : e ≠ 0 ∧ e ≠ 8 := by unfold Bad at h; omega
def BEnds (M : Nat) (p : Ph) (l out : List Nat) (b : Bool) (e : Nat) (l1 out1 : List Nat) : Prop :=
  (Bad e ∧ Ends M p l out e [] out1) ∨ (e = 0 ∧ ∀ r l' o', EndK M b l1 out1 r l' o' → Ends M p l out r l' o')
theorem BEnds.reach (h : Reach M p l out p1 l1 o1) (h2 : BEnds M p1 l1 o1 b e l2 o2) : BEnds M p l out b e l2 o2 :=
  h2.imp (fun ⟨h3, h4⟩ => ⟨h3, h.ends h4⟩) (fun ⟨h3, h4⟩ => ⟨h3, fun r l' o' hk => h.ends (h4 r l' o' hk)⟩)
theorem BEnds.go (h : stepM M l out p = .go p1 l1 o1) (h2 : BEnds M p1 l1 o1 b e l2 o2) : BEnds M p l out b e l2 o2 := h2.reach (.one h)
theorem BEnds.err (h : stepM M l out p = .err e) : BEnds M p l out b e l1 out := .inl ⟨stepM_err h, .err h⟩
theorem BEnds.fin (h : stepM M l out p = endM b l1 out) : BEnds M p l out b 0 l1 out := .inr ⟨rfl, fun _ _ _ hk => ends_endM h hk⟩
end
section
variable {M : Nat} {b : Bool} {all : List Nat}
theorem copyF_ends : ∀ (n a : Nat) (out : List Nat), a ≤ all.length → BEnds M (.sto b n) (all.drop a) out b (copyF all M n a out).1 (all.drop (copyF all M n a out).2.1) (copyF all M n a out).2.2
  | 0, a, out, _ => BEnds.fin (by show stoM M b 0 _ _ = _; unfold stoM; rw [if_pos rfl]; rfl)
  | n + 1, a, out, ha => by
    have hst : stepM M (all.drop a) out (.sto b (n + 1)) = if all.length - a < 8 then .err 5 else if M ≤ out.length then .err 6 else .go (.sto b n) (all.drop (a + 8)) (out ++ [numOf ((all.drop a).take 8)]) := by
      show stoM M b (n + 1) _ _ = _
      unfold stoM
      rw [if_neg (Nat.succ_ne_zero n), List.length_drop, List.drop_drop]
      rfl
    cases ht : takeM all a 8 with
    | none =>
      have h1 : all.length - a < 8 := by
        unfold takeM at ht
        split at ht
        · cases ht
        · omega
      rw [if_pos h1] at hst
      rw [copyF, ht]
      exact .err hst
    | some c =>
      obtain ⟨h1, h2⟩ := take_some ht
      rw [if_neg (by omega)] at hst
      rw [copyF, ht]
      dsimp only
      by_cases hm : M ≤ out.length
      · rw [if_pos hm] at hst ⊢
        exact .err hst
      · rw [if_neg hm] at hst ⊢
        rw [← h2] at hst
        exact .go hst (copyF_ends n (a + 8) _ h1)
theorem storedF_ends {a : Nat} {out : List Nat} (h8 : all.length % 8 = 0) (ha : a ≤ all.length) : BEnds M (.sz b) (all.drop a) out b (storedF all M a out).1 (all.drop (storedF all M a out).2.1) (storedF all M a out).2.2 := by
  have hst : stepM M (all.drop a) out (.sz b) = szR b (all.drop (evenF a)) out := by
    show szM b (all.drop a) out = _
    unfold szM
    rw [List.length_drop, List.drop_drop, show a + (all.length - a) % 8 = evenF a by unfold evenF; omega]
  unfold szR at hst
  rw [List.length_drop] at hst
  unfold storedF
  dsimp only
  by_cases h1 : all.length < evenF a + 32
  · rw [if_pos h1]
    rw [if_pos (by omega)] at hst
    exact .err hst
  · rw [if_neg h1]
    rw [if_neg (by omega), List.drop_drop, List.drop_drop] at hst
    split
    · rename_i h2
      rw [if_pos h2] at hst
      exact .err hst
    · rename_i h2
      rw [if_neg h2] at hst
      exact .go hst (copyF_ends _ _ _ (by omega))
theorem ext_ext (o : List Nat) (d : Nat) : ∀ n, ext (ext o d 1) d n = ext o d (n + 1)
  | 0 => rfl
  | n + 1 => by
    have ih := ext_ext o d n
    show ext (ext o d 1) d n ++ [(ext (ext o d 1) d n)[(ext o d 1).length + n - d]?.getD 0] = ext o d (n + 1) ++ [(ext o d (n + 1))[o.length + (n + 1) - d]?.getD 0]
    rw [ih, ext_length, show o.length + 1 + n = o.length + (n + 1) by omega]
end
section
variable {M : Nat} {b : Bool} {all : List Nat} {lit dist : List Int}
theorem cop_runs {d : Nat} {l : List Nat} (m : Nat) : ∀ (n : Nat) (out : List Nat), out.length + n ≤ M → Reach M (.cop b lit dist (m + n) d) l out (.cop b lit dist m d) l (ext out d n)
  | 0, _, _ => .refl
  | n + 1, out, h => by
    have hst : stepM M l out (.cop b lit dist (m + (n + 1)) d) = .go (.cop b lit dist (m + n) d) l (ext out d 1) := by
      show copM M b lit dist (m + (n + 1)) d l out = _
      unfold copM
      rw [if_neg (by omega), if_neg (by omega)]
      rfl
    have ih := cop_runs (d := d) (l := l) m n (ext out d 1) (by rw [ext_length]; omega)
    rw [ext_ext] at ih
    exact .step hst ih
theorem tok_sym {l out : List Nat} {k n e : Nat} (h : symF lit l = (k, n, e)) : stepM M l out (.tok b lit dist) = tokR M b lit dist l out (k, n, e) := by
  show tokR M b lit dist l out (symF lit l) = _
  rw [h]
theorem far_is {a q L : Nat} {out : List Nat} (ha : a ≤ all.length) : farM b lit dist L q (all.drop a) out =
    if 29 < q then .err 3 else match takeM all a (dX q) with
      | none => .err 5
      | some far => if out.length < dB q + far then .err 3 else .go (.cop b lit dist L (dB q + far)) (all.drop (a + dX q)) out := by
  unfold farM
  rw [takeM_L ha, List.drop_drop]
  cases takeL (all.drop a) (dX q) <;> rfl
theorem tokF_ends (hb : isBits all) : ∀ (f a : Nat) (out : List Nat) (tk : List Tok), all.length < f + a → a ≤ all.length → out.length ≤ M →
    BEnds M (.tok b lit dist) (all.drop a) out b (tokF lit dist all M f a out tk).1 (all.drop (tokF lit dist all M f a out tk).2.1) (tokF lit dist all M f a out tk).2.2.1
  | 0, a, out, tk, hf, ha, _ => by omega
  | f + 1, a, out, tk, hf, ha, hM => by
    obtain ⟨k, n, e, hs⟩ : ∃ k n e, symF lit (all.drop a) = (k, n, e) := ⟨_, _, _, rfl⟩
    have hst := tok_sym (M := M) (b := b) (dist := dist) (out := out) hs
    unfold tokR at hst
    dsimp only at hst
    by_cases he : e = 0
    · subst he
      obtain ⟨_, s1, s2⟩ := sym_facts hs
      rw [List.length_drop] at s2
      rw [if_neg (fun h => h rfl)] at hst
      by_cases h256 : k = 256
      · subst h256
        rw [if_pos rfl, List.drop_drop] at hst
        rw [tokF_over (step_end hs)]
        exact .fin hst
      · rw [if_neg h256] at hst
        by_cases hlt : k < 256
        · rw [if_pos hlt, List.drop_drop] at hst
          by_cases hc : M ≤ out.length
          · rw [if_pos hc] at hst
            rw [tokF_over (step_litcap hs hlt hc)]
            exact .err hst
          · rw [if_neg hc] at hst
            rw [tokF_on (step_lit hs hlt hc)]
            exact .go hst (tokF_ends hb f (a + n) _ _ (by omega) (by omega) (by rw [List.length_append]; simp; omega))
        · rw [if_neg hlt] at hst
          by_cases hbad : 285 < k
          · rw [if_pos hbad] at hst
            rw [tokF_over (step_badlen hs hbad)]
            exact .err hst
          · rw [if_neg hbad, List.drop_drop] at hst
            have hsl := step_len (M := M) (dist := dist) (out := out) (tk := tk) hs (by omega) (by omega)
            have hc29 : k - 257 < 29 := by omega
            generalize k - 257 = c at hst hsl hc29
            unfold matM at hst
            rw [← takeM_L (by omega)] at hst
            cases ht : takeM all (a + n) (lX c) with
            | none =>
              rw [ht] at hst
              rw [match_end ht] at hsl
              rw [tokF_over hsl]
              exact .err hst
            | some more =>
              have t1 := (take_some ht).1
              rw [ht] at hst
              dsimp only at hst
              obtain ⟨q, n2, e2, hs2⟩ : ∃ q n2 e2, symF dist (all.drop (a + n + lX c)) = (q, n2, e2) := ⟨_, _, _, rfl⟩
              rw [List.drop_drop, hs2] at hst
              unfold matR at hst
              dsimp only at hst
              by_cases he2 : e2 = 0
              · subst he2
                obtain ⟨_, g1, g2⟩ := sym_facts hs2
                rw [List.length_drop] at g2
                rw [if_neg (fun h => h rfl), List.drop_drop, far_is (by omega)] at hst
                rw [match_far ht hs2] at hsl
                by_cases h29 : 29 < q
                · rw [if_pos h29] at hst
                  rw [far_bad h29] at hsl
                  rw [tokF_over hsl]
                  exact .err hst
                · rw [if_neg h29] at hst
                  cases ht2 : takeM all (a + n + lX c + n2) (dX q) with
                  | none =>
                    rw [ht2] at hst
                    rw [far_end h29 ht2] at hsl
                    rw [tokF_over hsl]
                    exact .err hst
                  | some far =>
                    have t2 := (take_some ht2).1
                    rw [ht2] at hst
                    dsimp only at hst
                    by_cases hd : out.length < dB q + far
                    · rw [if_pos hd] at hst
                      rw [far_far h29 ht2 hd] at hsl
                      rw [tokF_over hsl]
                      exact .err hst
                    · rw [if_neg hd] at hst
                      by_cases hcap : M < out.length + (lB c + more)
                      · rw [far_cap h29 ht2 hd hcap] at hsl
                        rw [tokF_over hsl]
                        obtain ⟨m, hm⟩ : ∃ m, lB c + more = m + 1 + (M - out.length) := ⟨lB c + more - (M - out.length) - 1, by omega⟩
                        rw [hm] at hst
                        refine .go hst (.reach (cop_runs (m + 1) (M - out.length) out (by omega)) (.err ?_))
                        show copM M b lit dist (m + 1) _ _ _ = _
                        unfold copM
                        rw [if_neg (Nat.succ_ne_zero m), if_pos (by rw [ext_length]; omega)]
                      · rw [far_ok h29 ht2 hd hcap] at hsl
                        rw [tokF_on hsl]
                        have hr := cop_runs (M := M) (b := b) (lit := lit) (dist := dist) (d := dB q + far) (l := all.drop (a + n + lX c + n2 + dX q)) 0 (lB c + more) out (by omega)
                        rw [Nat.zero_add] at hr
                        refine .go hst (.reach hr (.go (p1 := .tok b lit dist) ?_ (tokF_ends hb f (a + n + lX c + n2 + dX q) _ _ (by omega) t2 (by rw [ext_length]; omega))))
                        show copM M b lit dist 0 _ _ _ = _
                        unfold copM
                        rw [if_pos rfl]
              · rw [if_pos he2] at hst
                rw [match_err ht hs2 he2] at hsl
                rw [tokF_over hsl]
                exact .err hst
    · rw [if_pos he] at hst
      rw [tokF_over (step_err hs he)]
      exact .err hst
theorem lenStep_shift {head : List Int} {N a e a' : Nat} {l l' : List Int} {b : Bool} (ha : a ≤ all.length) (h : lenStep head all N a l = (b, e, a', l')) : ∃ a2, lenStep head (all.drop a) N 0 l = (b, e, a2, l') ∧ a' = a + a2 := by
  obtain ⟨k, n, e0, hs⟩ : ∃ k n e0, symF head (all.drop a) = (k, n, e0) := ⟨_, _, _, rfl⟩
  have hs2 : symF head ((all.drop a).drop 0) = (k, n, e0) := by rw [List.drop_zero, hs]
  by_cases h0 : e0 = 0
  · subst h0
    have hn := (sym_facts hs).2.2
    rw [List.length_drop] at hn
    rw [len_run hs] at h
    rw [len_run hs2, Nat.zero_add]
    unfold lenStep.lenRun at h ⊢
    generalize (if k = 17 then 3 else if k = 18 then 7 else 2) = wd at h ⊢
    generalize (if k = 18 then 11 else 3) = ba at h ⊢
    generalize (if k = 16 then l.getLast?.getD 0 else 0) = y at h ⊢
    have ht : takeM all (a + n) wd = takeM (all.drop a) n wd := by
      rw [takeM_L (by omega), takeM_L (by rw [List.length_drop]; omega), List.drop_drop]
    rw [ht] at h
    split
    · rename_i h1; rw [if_pos h1] at h; cases h; exact ⟨_, rfl, rfl⟩
    · rename_i h1
      rw [if_neg h1] at h
      split
      · rename_i h2; rw [if_pos h2] at h; cases h; exact ⟨_, rfl, rfl⟩
      · rename_i h2
        rw [if_neg h2] at h
        cases hv : takeM (all.drop a) n wd with
        | none => rw [hv] at h; cases h; exact ⟨_, rfl, rfl⟩
        | some v =>
          rw [hv] at h
          dsimp only at h ⊢
          split
          · rename_i h3; rw [if_pos h3] at h; cases h; exact ⟨_, rfl, by omega⟩
          · rename_i h3; rw [if_neg h3] at h; cases h; exact ⟨_, rfl, by omega⟩
  · rw [len_err hs h0] at h
    cases h
    exact ⟨0, len_err hs2 h0, rfl⟩
theorem lenF_ends {head : List Int} {A B : Nat} {out : List Nat} : ∀ (f a : Nat) (ls : List Int), all.length < f + a → a ≤ all.length →
    (Bad (lenF head all (A + B) f a ls).1 ∧ Ends M (.len b A B head ls) (all.drop a) out (lenF head all (A + B) f a ls).1 [] out) ∨
    ((lenF head all (A + B) f a ls).1 = 0 ∧ A + B ≤ (lenF head all (A + B) f a ls).2.2.length ∧ Reach M (.len b A B head ls) (all.drop a) out (.len b A B head (lenF head all (A + B) f a ls).2.2) (all.drop (lenF head all (A + B) f a ls).2.1) out)
  | 0, a, ls, hf, ha => by omega
  | f + 1, a, ls, hf, ha => by
    by_cases hn : A + B ≤ ls.length
    · rw [lenF_done hn]
      exact .inr ⟨rfl, hn, .refl⟩
    · obtain ⟨b2, e, a', l', hs⟩ : ∃ b2 e a' l', lenStep head all (A + B) a ls = (b2, e, a', l') := ⟨_, _, _, _, rfl⟩
      obtain ⟨a2, hs2, rfl⟩ := lenStep_shift ha hs
      have hst : stepM M (all.drop a) out (.len b A B head ls) = lenR b A B head (all.drop a) out (b2, e, a2, l') := by
        show lenM b A B head ls (all.drop a) out = _
        unfold lenM
        rw [if_neg hn, hs2]
      cases b2 with
      | true =>
        rw [lenF_over hn hs]
        exact .inl ⟨stepM_err hst, .err hst⟩
      | false =>
        have he := lenStep_on hs
        dsimp only at he
        subst he
        obtain ⟨g1, g2, g3⟩ := lenStep_grow hs hn ha
        rw [lenF_on hn hs]
        have hst2 : stepM M (all.drop a) out (.len b A B head ls) = .go (.len b A B head l') (all.drop (a + a2)) out := by
          rw [hst]
          unfold lenR
          rw [if_neg (by dsimp only; decide), List.drop_drop]
        rcases lenF_ends (head := head) (out := out) f (a + a2) l' (by omega) g2 with ⟨h1, h2⟩ | ⟨h1, h2, h3⟩
        · exact .inl ⟨h1, .go hst2 h2⟩
        · exact .inr ⟨h1, h2, .step hst2 h3⟩
theorem headF_shift (a : Nat) : ∀ C, headF (all.drop a) 0 C = headF all a C
  | 0 => rfl
  | C + 1 => by rw [headF, headF, headF_shift a C, List.drop_drop, Nat.zero_add]
theorem anyF_shift (a : Nat) : ∀ C, anyF (all.drop a) 0 C = anyF all a C
  | 0 => rfl
  | C + 1 => by rw [anyF, anyF, anyF_shift a C, List.drop_drop, Nat.zero_add]
theorem dynF_ends {a : Nat} {out : List Nat} (ha : a ≤ all.length) :
    (Bad (dynF all a).1 ∧ Ends M (.cnt b) (all.drop a) out (dynF all a).1 [] out) ∨
    ((dynF all a).1 = 0 ∧ Reach M (.cnt b) (all.drop a) out (.tok b (dynF all a).2.2.1 (dynF all a).2.2.2) (all.drop (dynF all a).2.1) out) := by
  have hst : stepM M (all.drop a) out (.cnt b) = if all.length - a < 14 then .err 5
      else if 286 < numOf ((all.drop a).take 5) + 257 ∨ 30 < numOf ((all.drop (a + 5)).take 5) + 1 then .err 2
      else .go (.thd b (numOf ((all.drop a).take 5) + 257) (numOf ((all.drop (a + 5)).take 5) + 1) (numOf ((all.drop (a + 10)).take 4) + 4)) (all.drop (a + 14)) out := by
    show cntM b (all.drop a) out = _
    unfold cntM
    rw [List.length_drop, List.drop_drop, List.drop_drop, List.drop_drop]
  unfold dynF
  by_cases h1 : all.length < a + 14
  · rw [if_pos h1]
    rw [if_pos (by omega)] at hst
    exact .inl ⟨stepM_err hst, .err hst⟩
  · rw [if_neg h1]
    rw [if_neg (by omega)] at hst
    generalize numOf ((all.drop a).take 5) + 257 = A at hst ⊢
    generalize numOf ((all.drop (a + 5)).take 5) + 1 = B at hst ⊢
    generalize numOf ((all.drop (a + 10)).take 4) + 4 = C at hst ⊢
    unfold dynF.dynRun
    by_cases h2 : 286 < A ∨ 30 < B
    · rw [if_pos h2] at hst ⊢
      exact .inl ⟨stepM_err hst, .err hst⟩
    · rw [if_neg h2] at hst ⊢
      have hst2 : stepM M (all.drop (a + 14)) out (.thd b A B C) = if all.length - (a + 14) < 3 * C then .err 5 else if checkOf (headF all (a + 14) C) 7 ≠ 0 ∨ anyF all (a + 14) C = false then .err 3 else .go (.len b A B (headF all (a + 14) C) []) (all.drop (a + 14 + 3 * C)) out := by
        show thdM b A B C (all.drop (a + 14)) out = _
        unfold thdM
        rw [List.length_drop, headF_shift, anyF_shift, List.drop_drop]
      by_cases h3 : all.length < a + 14 + 3 * C
      · rw [if_pos h3]
        rw [if_pos (by omega)] at hst2
        exact .inl ⟨stepM_err hst2, .go hst (.err hst2)⟩
      · rw [if_neg h3]
        rw [if_neg (by omega)] at hst2
        by_cases h4 : checkOf (headF all (a + 14) C) 7 ≠ 0 ∨ anyF all (a + 14) C = false
        · rw [if_pos h4] at hst2 ⊢
          exact .inl ⟨stepM_err hst2, .go hst (.err hst2)⟩
        · rw [if_neg h4] at hst2 ⊢
          unfold dynF.dynEnd
          rcases lenF_ends (M := M) (b := b) (all := all) (head := headF all (a + 14) C) (A := A) (B := B) (out := out) (all.length + 1) (a + 14 + 3 * C) [] (by omega) (by omega) with ⟨g1, g2⟩ | ⟨g1, g2, g3⟩
          · rw [if_pos g1.ne.1]
            exact .inl ⟨g1, .go hst (.go hst2 g2)⟩
          · rw [if_neg (not_not_intro g1)]
            generalize lenF (headF all (a + 14) C) all (A + B) (all.length + 1) (a + 14 + 3 * C) [] = q at g1 g2 g3 ⊢
            have hst3 : stepM M (all.drop q.2.1) out (.len b A B (headF all (a + 14) C) q.2.2) = if checkOf (q.2.2.take A) 15 ≠ 0 ∨ checkOf (q.2.2.drop A) 15 ≠ 0 ∨ q.2.2[256]?.getD 0 = 0 then .err 3 else .go (.tok b (q.2.2.take A) (q.2.2.drop A)) (all.drop q.2.1) out := by
              show lenM b A B _ q.2.2 _ out = _
              unfold lenM
              rw [if_pos g2]
            by_cases h5 : checkOf (q.2.2.take A) 15 ≠ 0 ∨ checkOf (q.2.2.drop A) 15 ≠ 0 ∨ q.2.2[256]?.getD 0 = 0
            · rw [if_pos h5] at hst3 ⊢
              exact .inl ⟨stepM_err hst3, .go hst (.go hst2 (g3.ends (.err hst3)))⟩
            · rw [if_neg h5] at hst3 ⊢
              exact .inr ⟨rfl, .step hst (.step hst2 (g3.trans (.one hst3)))⟩
def phOf (kind : Nat) (b : Bool) : Ph := if kind = 0 then .sz b else if kind = 1 then .tok b fixLit fixDist else .cnt b
theorem blockF_ends {kind a : Nat} {out : List Nat} {tk : List Tok} (hb : isBits all) (h8 : all.length % 8 = 0) (ha : a ≤ all.length) (hM : out.length ≤ M) (hk : kind < 3) :
    BEnds M (phOf kind b) (all.drop a) out b (blockF all M kind a out tk).1 (all.drop (blockF all M kind a out tk).2.1) (blockF all M kind a out tk).2.2.1 := by
  unfold blockF phOf
  by_cases h0 : kind = 0
  · rw [if_pos h0, if_pos h0]
    exact storedF_ends h8 ha
  · rw [if_neg h0, if_neg h0]
    by_cases h1 : kind = 1
    · rw [if_pos h1, if_pos h1]
      exact tokF_ends hb _ _ _ _ (by omega) ha hM
    · rw [if_neg h1, if_neg h1, if_pos (by omega)]
      rcases dynF_ends (M := M) (b := b) (out := out) ha with ⟨g1, g2⟩ | ⟨g1, g2⟩
      · rw [if_pos g1.ne.1]
        exact .inl ⟨g1, g2⟩
      · rw [if_neg (not_not_intro g1)]
        exact .reach g2 (tokF_ends hb _ _ _ _ (by omega) (dynF_grow g1).2.1 hM)
theorem hd_is {a v : Nat} {out : List Nat} (ha : a ≤ all.length) (h : takeM all a 3 = some v) : stepM M (all.drop a) out .hd = if v / 2 < 3 then .go (phOf (v / 2) (lastB v)) (all.drop (a + 3)) out else .err 2 := by
  show hdM (all.drop a) out = _
  unfold hdM phOf
  rw [takeM_L ha] at h
  rw [h]
  dsimp only
  rw [List.drop_drop]
  by_cases h0 : v / 2 = 0
  · rw [if_pos h0, if_pos (by omega), if_pos h0]
  · rw [if_neg h0]
    by_cases h1 : v / 2 = 1
    · rw [if_pos h1, if_pos (by omega), if_neg h0, if_pos h1]
    · rw [if_neg h1]
      by_cases h2 : v / 2 = 2
      · rw [if_pos h2, if_pos (by omega), if_neg h0, if_neg h1]
      · rw [if_neg h2, if_neg (by omega)]
theorem inflF_ends (hb : isBits all) (h8 : all.length % 8 = 0) : ∀ (f a : Nat) (out : List Nat) (tk : List Tok) (ks ss : List Nat), all.length < f + a → a ≤ all.length → out.length ≤ M →
    (Bad (inflF all M f a out tk ks ss).e ∧ Ends M .hd (all.drop a) out (inflF all M f a out tk ks ss).e [] (inflF all M f a out tk ks ss).out) ∨
    ((inflF all M f a out tk ks ss).e = 0 ∧ (inflF all M f a out tk ks ss).a ≤ all.length ∧ (inflF all M f a out tk ks ss).rest = ((inflF all M f a out tk ks ss).a + 7) / 8 ∧ (inflF all M f a out tk ks ss).out.length ≤ M ∧
      0 < (inflF all M f a out tk ks ss).a ∧ Ends M .hd (all.drop a) out 8 (all.drop (inflF all M f a out tk ks ss).a) (inflF all M f a out tk ks ss).out)
  | 0, a, out, tk, ks, ss, hf, ha, _ => by omega
  | f + 1, a, out, tk, ks, ss, hf, ha, hM => by
    cases ht : takeM all a 3 with
    | none =>
      rw [inflF_over (round_end ht)]
      have hst : stepM M (all.drop a) out .hd = .err 5 := by
        show hdM (all.drop a) out = _
        unfold hdM
        rw [takeM_L ha] at ht
        rw [ht]
      exact .inl ⟨stepM_err hst, .err hst⟩
    | some v =>
      have t1 := (take_some ht).1
      have hst := hd_is (M := M) (out := out) ha ht
      obtain ⟨e, a', out', tk', hq⟩ : ∃ e a' out' tk', blockF all M (v / 2) (a + 3) out tk = (e, a', out', tk') := ⟨_, _, _, _, rfl⟩
      by_cases hk : v / 2 < 3
      · rw [if_pos hk] at hst
        have hB := blockF_ends (M := M) (b := lastB v) (tk := tk) hb h8 t1 hM hk
        rw [hq] at hB
        by_cases he : e = 0
        · subst he
          have hg := blockF_grow (tk := tk) hb t1 hM (by rw [hq])
          rw [hq] at hg
          dsimp only at hg
          have hB2 : ∀ r l' o', EndK M (lastB v) (all.drop a') out' r l' o' → Ends M (phOf (v / 2) (lastB v)) (all.drop (a + 3)) out r l' o' := by
            rcases hB with ⟨h1, _⟩ | ⟨_, h2⟩
            · exact absurd rfl h1.ne.1
            · exact h2
          by_cases hv : v % 2 = 1
          · rw [inflF_over (round_last ht hq hv)]
            refine .inr ⟨rfl, hg.2.1, rfl, hg.2.2.2.2, by dsimp only; omega, .go hst (hB2 _ _ _ ?_)⟩
            unfold EndK
            rw [if_pos (by unfold lastB; exact decide_eq_true hv)]
            exact ⟨rfl, rfl, rfl⟩
          · rw [inflF_on (round_more ht hq hv)]
            have hL : lastB v = false := by unfold lastB; exact decide_eq_false hv
            rcases inflF_ends hb h8 f a' out' tk' (ks ++ [v / 2]) (ss ++ [out'.length]) (by omega) hg.2.1 hg.2.2.2.2 with ⟨g1, g2⟩ | ⟨g1, g2, g3, g4, g5, g6⟩
            · refine .inl ⟨g1, .go hst (hB2 _ _ _ ?_)⟩
              unfold EndK
              rw [if_neg (by rw [hL]; decide)]
              exact g2
            · refine .inr ⟨g1, g2, g3, g4, g5, .go hst (hB2 _ _ _ ?_)⟩
              unfold EndK
              rw [if_neg (by rw [hL]; decide)]
              exact g6
        · rw [inflF_over (round_err ht hq he)]
          rcases hB with ⟨h1, h2⟩ | ⟨h1, _⟩
          · exact .inl ⟨h1, .go hst h2⟩
          · exact absurd h1 he
      · rw [if_neg hk] at hst
        have hq2 : blockF all M (v / 2) (a + 3) out tk = (2, a + 3, out, tk) := by
          unfold blockF
          rw [if_neg (by omega), if_neg (by omega), if_neg (by omega)]
        rw [inflF_over (round_err ht hq2 (by decide))]
        exact .inl ⟨stepM_err hst, .err hst⟩
end
end Go.Proofs.YtmmfkppkmgjljaaDoor
