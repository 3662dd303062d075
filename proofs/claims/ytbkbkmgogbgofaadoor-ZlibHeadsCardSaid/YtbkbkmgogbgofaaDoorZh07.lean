/-
  The machine that reads streams: more bits behind change no step that is whole; a smaller limit changes none before it. No walk is in here.
-/
import Derived.Test.YtbkbkmgogbgofaaDoorZh06
import Derived.Test.YtbkbkmgogbgofaaDoorZh03
import Derived.Test.YtbkbkmgogbgofaaDoorZh05
namespace Go.Proofs.YtbkbkmgogbgofaaDoor
set_option maxRecDepth 5000
section
variable {M : Nat} {l X out : List Nat} {b : Bool}
end
theorem lenStep_errs {head : List Int} {bs : List Nat} {N a e a' : Nat} {l l' : List Int} (h : lenStep head bs N a l = (true, e, a', l')) : e = 2 ∨ e = 3 ∨ e = 5 := by
  unfold lenStep at h
  split at h
  · rename_i h0
    cases h
    rcases (symF_is head (bs.drop a)).errs with h1 | h1 | h1
    · exact absurd h1 h0
    · exact .inr (.inl h1)
    · exact .inr (.inr h1)
  · unfold lenStep.lenRun at h
    generalize (symF head (bs.drop a)).1 = k at h
    generalize (if k = 17 then 3 else if k = 18 then 7 else 2) = wd at h
    generalize (if k = 18 then 11 else 3) = ba at h
    generalize (if k = 16 then l.getLast?.getD 0 else 0) = y at h
    split at h
    · cases h
    · split at h
      · cases h; exact .inl rfl
      · split at h
        · cases h; exact .inr (.inr rfl)
        · split at h
          · cases h; exact .inl rfl
          · cases h
theorem endM_err {b : Bool} {l out : List Nat} {e : Nat} (h : endM b l out = .err e) : False := by
  unfold endM at h
  split at h <;> cases h
theorem sym_errs {l : List Int} {r : List Nat} (h : (symF l r).2.2 ≠ 0) : (symF l r).2.2 = 3 ∨ (symF l r).2.2 = 5 := (symF_is l r).errs.resolve_left h
theorem stepM_err {M : Nat} {p : Ph} {l out : List Nat} {e : Nat} (h : stepM M l out p = .err e) : e = 2 ∨ e = 3 ∨ e = 5 ∨ e = 6 := by
  cases p with
  | hd =>
    have h' : hdM l out = .err e := h
    unfold hdM at h'
    split at h'
    · cases h'; decide
    · split at h'
      · cases h'
      · split at h'
        · cases h'
        · split at h'
          · cases h'
          · cases h'; decide
  | sz b =>
    have h' : szM b l out = .err e := h
    unfold szM szR at h'
    split at h'
    · cases h'; decide
    · split at h'
      · cases h'; decide
      · cases h'
  | sto b n =>
    have h' : stoM M b n l out = .err e := h
    unfold stoM at h'
    split at h'
    · exact (endM_err h').elim
    · split at h'
      · cases h'; decide
      · split at h'
        · cases h'; decide
        · cases h'
  | cnt b =>
    have h' : cntM b l out = .err e := h
    unfold cntM at h'
    split at h'
    · cases h'; decide
    · split at h'
      · cases h'; decide
      · cases h'
  | thd b A B C =>
    have h' : thdM b A B C l out = .err e := h
    unfold thdM at h'
    split at h'
    · cases h'; decide
    · split at h'
      · cases h'; decide
      · cases h'
  | len b A B head ls =>
    have h' : lenM b A B head ls l out = .err e := h
    unfold lenM at h'
    split at h'
    · split at h'
      · cases h'; decide
      · cases h'
    · obtain ⟨b2, e2, a2, l2, hs⟩ : ∃ b2 e2 a2 l2, lenStep head l (A + B) 0 ls = (b2, e2, a2, l2) := ⟨_, _, _, _, rfl⟩
      rw [hs] at h'
      cases b2 with
      | true =>
        unfold lenR at h'
        rw [if_pos rfl] at h'
        cases h'
        have := lenStep_errs hs
        simp only
        omega
      | false => cases h'
  | tok b lit dist =>
    have h' : tokR M b lit dist l out (symF lit l) = .err e := h
    unfold tokR at h'
    split at h'
    · rename_i h0
      cases h'
      have := sym_errs h0
      omega
    · split at h'
      · exact (endM_err h').elim
      · split at h'
        · split at h'
          · cases h'; decide
          · cases h'
        · split at h'
          · cases h'; decide
          · unfold matM at h'
            split at h'
            · cases h'; decide
            · unfold matR at h'
              split at h'
              · rename_i h0
                cases h'
                have := sym_errs h0
                omega
              · unfold farM at h'
                split at h'
                · cases h'; decide
                · split at h'
                  · cases h'; decide
                  · split at h'
                    · cases h'; decide
                    · cases h'
  | cop b lit dist n d =>
    have h' : copM M b lit dist n d l out = .err e := h
    unfold copM at h'
    split at h'
    · cases h'
    · split at h'
      · cases h'; decide
      · cases h'
/-! ### A smaller limit -/
section
variable {M k : Nat} {p p' : Ph} {l out l' o' : List Nat}
theorem stepM_cap (_hk : k ≤ M) (h : stepM M l out p = .go p' l' o') : (o'.length ≤ k → stepM k l out p = .go p' l' o') ∧ (k < o'.length → out.length ≤ k → stepM k l out p = .err 6) := by
  cases p with
  | hd =>
    refine ⟨fun _ => h, fun h3 h4 => ?_⟩
    have h' : hdM l out = .go p' l' o' := h
    unfold hdM at h'
    split at h'
    · cases h'
    · split at h'
      · cases h'; omega
      · split at h'
        · cases h'; omega
        · split at h'
          · cases h'; omega
          · cases h'
  | sz b =>
    refine ⟨fun _ => h, fun h3 h4 => ?_⟩
    have h' : szM b l out = .go p' l' o' := h
    unfold szM szR at h'
    split at h'
    · cases h'
    · split at h'
      · cases h'
      · cases h'; omega
  | sto b n =>
    show (o'.length ≤ k → stoM k b n l out = _) ∧ (_ → _ → stoM k b n l out = _)
    have h' : stoM M b n l out = .go p' l' o' := h
    unfold stoM at h' ⊢
    by_cases h0 : n = 0
    · rw [if_pos h0] at h' ⊢
      obtain ⟨_, _, h5⟩ := endM_go h'
      exact ⟨fun _ => h', fun h3 h4 => by rw [h5] at h3; omega⟩
    · rw [if_neg h0] at h' ⊢
      split at h'
      · cases h'
      · rename_i h1
        rw [if_neg h1]
        split at h'
        · cases h'
        · cases h'
          rw [List.length_append]
          simp only [List.length_cons, List.length_nil]
          exact ⟨fun h3 => if_neg (by omega), fun h3 h4 => if_pos (by omega)⟩
  | cnt b =>
    refine ⟨fun _ => h, fun h3 h4 => ?_⟩
    have h' : cntM b l out = .go p' l' o' := h
    unfold cntM at h'
    split at h'
    · cases h'
    · split at h'
      · cases h'
      · cases h'; omega
  | thd b A B C =>
    refine ⟨fun _ => h, fun h3 h4 => ?_⟩
    have h' : thdM b A B C l out = .go p' l' o' := h
    unfold thdM at h'
    split at h'
    · cases h'
    · split at h'
      · cases h'
      · cases h'; omega
  | len b A B head ls =>
    refine ⟨fun _ => h, fun h3 h4 => ?_⟩
    have h' : lenM b A B head ls l out = .go p' l' o' := h
    unfold lenM lenR at h'
    split at h'
    · split at h'
      · cases h'
      · cases h'; omega
    · split at h'
      · cases h'
      · cases h'; omega
  | tok b lit dist =>
    show (o'.length ≤ k → tokR k b lit dist l out (symF lit l) = _) ∧ (_ → _ → tokR k b lit dist l out (symF lit l) = _)
    have h' : tokR M b lit dist l out (symF lit l) = .go p' l' o' := h
    unfold tokR at h' ⊢
    split at h'
    · cases h'
    · rename_i h1
      rw [if_neg h1]
      split at h'
      · rename_i h2
        rw [if_pos h2]
        obtain ⟨_, _, h5⟩ := endM_go h'
        exact ⟨fun _ => h', fun h3 h4 => by rw [h5] at h3; omega⟩
      · rename_i h2
        rw [if_neg h2]
        split at h'
        · rename_i h3
          rw [if_pos h3]
          split at h'
          · cases h'
          · cases h'
            rw [List.length_append]
            simp only [List.length_cons, List.length_nil]
            exact ⟨fun h3 => if_neg (by omega), fun h3 h4 => if_pos (by omega)⟩
        · rename_i h3
          rw [if_neg h3]
          refine ⟨fun _ => h', fun h4 h5 => ?_⟩
          split at h'
          · cases h'
          · unfold matM at h'
            split at h'
            · cases h'
            · unfold matR at h'
              split at h'
              · cases h'
              · unfold farM at h'
                split at h'
                · cases h'
                · split at h'
                  · cases h'
                  · split at h'
                    · cases h'
                    · cases h'; omega
  | cop b lit dist n d =>
    show (o'.length ≤ k → copM k b lit dist n d l out = _) ∧ (_ → _ → copM k b lit dist n d l out = _)
    have h' : copM M b lit dist n d l out = .go p' l' o' := h
    unfold copM at h' ⊢
    by_cases h0 : n = 0
    · rw [if_pos h0] at h' ⊢
      cases h'
      exact ⟨fun _ => rfl, fun h3 h4 => by omega⟩
    · rw [if_neg h0] at h' ⊢
      split at h'
      · cases h'
      · cases h'
        rw [ext_length]
        exact ⟨fun h3 => if_neg (by omega), fun h3 h4 => if_pos (by omega)⟩
end
end Go.Proofs.YtbkbkmgogbgofaaDoor
/-
  The reference's reader of streams ends where the machine does. No walk is in here.
-/
namespace Go.Proofs.YtbkbkmgogbgofaaDoor
set_option maxRecDepth 5000
section
variable {M : Nat} {p p1 : Ph} {b : Bool} {l l0 l1 l2 l' out o1 o2 o' : List Nat} {e : Nat}
end
section
variable {M : Nat} {b : Bool} {all : List Nat}
theorem ext_ext (o : List Nat) (d : Nat) : ∀ n, ext (ext o d 1) d n = ext o d (n + 1)
  | 0 => rfl
  | n + 1 => by
    have ih := ext_ext o d n
    show ext (ext o d 1) d n ++ [(ext (ext o d 1) d n)[(ext o d 1).length + n - d]?.getD 0] = ext o d (n + 1) ++ [(ext o d (n + 1))[o.length + (n + 1) - d]?.getD 0]
    rw [ih, ext_length, show o.length + 1 + n = o.length + (n + 1) by omega]
end
section
variable {M : Nat} {b : Bool} {all : List Nat} {lit dist : List Int}
theorem cop_runs {d : Nat} {l : List Nat} (m : Nat) : ∀ (n : Nat) (out : List Nat), out.length + n ≤ M → Reach M (.cop b lit dist (m + n) d) l out (.cop b lit dist m d) l (ext out d n)
  | 0, _, _ => .refl
  | n + 1, out, h => by
    have hst : stepM M l out (.cop b lit dist (m + (n + 1)) d) = .go (.cop b lit dist (m + n) d) l (ext out d 1) := by
      show copM M b lit dist (m + (n + 1)) d l out = _
      unfold copM
      rw [if_neg (by omega), if_neg (by omega)]
      rfl
    have ih := cop_runs (d := d) (l := l) m n (ext out d 1) (by rw [ext_length]; omega)
    rw [ext_ext] at ih
    exact .step hst ih
theorem tok_sym {l out : List Nat} {k n e : Nat} (h : symF lit l = (k, n, e)) : stepM M l out (.tok b lit dist) = tokR M b lit dist l out (k, n, e) := by
  show tokR M b lit dist l out (symF lit l) = _
  rw [h]
end
end Go.Proofs.YtbkbkmgogbgofaaDoor
/-
  Symbols sorted by their codes, by counting; and how a code is read by counts, one bit after the other. No program is named here.
-/
namespace Go.Proofs.YtbkbkmgogbgofaaDoor
set_option maxRecDepth 5000
theorem fstC_succ (l : List Int) (z : Nat) (h : 1 ≤ z) : fstC l (z + 1) = 2 * (fstC l z + l.count (z : Int)) := by
  obtain ⟨n, rfl⟩ : ∃ n, z = n + 1 := ⟨z - 1, by omega⟩
  rfl
theorem count_here (l : List Int) (i z : Nat) (h : l[i]? = some (z : Int)) : (l.take i).count (z : Int) < l.count (z : Int) := by
  have h1 := count_take_succ l i (z : Int) (z : Int) h
  have h2 := count_take_le l (i + 1) (z : Int)
  rw [if_pos rfl] at h1; omega
/-! ### reading by counts -/
def Past (l : List Int) (bs : List Nat) (z : Nat) : Prop := ∀ i q, Hit l bs i q → z ≤ q
theorem Past.one (l : List Int) (bs : List Nat) : Past l bs 1 := fun _ _ h => h.2.1
theorem hit_code {l : List Int} {bs : List Nat} {i z : Nat} (h : Hit l bs i z) (hz : z ≤ 15) : hiN (bs.take z) = fstC l z + (l.take i).count (z : Int) ∧ hiN (bs.take z) < fstC l z + l.count (z : Int) := by
  have h1 := h.2.2.2
  have h2 := h.2.1
  rw [codeAt_len l i _ h.1 (by simp [isLen]; omega), Int.toNat_natCast] at h1
  have h3 := count_here l i z h.1
  exact ⟨h1, by omega⟩
theorem Past.next {l : List Int} {bs : List Nat} {z : Nat} (h : Past l bs z) (hz : z ≤ 15) (hv : fstC l z + l.count (z : Int) ≤ hiN (bs.take z)) : Past l bs (z + 1) := fun i q hh => by
  have h1 := h i q hh
  by_cases e : q = z
  · subst e; have := (hit_code hh hz).2; omega
  · omega
theorem over_next {l : List Int} {bs : List Nat} {z b : Nat} (hz : 1 ≤ z) (hv : fstC l z + l.count (z : Int) ≤ hiN (bs.take z)) (hb : bs[z]? = some b) : fstC l (z + 1) ≤ hiN (bs.take (z + 1)) := by
  rw [fstC_succ l z hz, hiN_take bs z b hb]; omega
theorem hit_at {l : List Int} {bs : List Nat} {z i : Nat} (hz : 1 ≤ z) (hzb : z ≤ bs.length) (hi : l[i]? = some (z : Int)) (hc : codeAt l i = hiN (bs.take z)) : Hit l bs i z := ⟨hi, hz, hzb, hc.symm⟩
theorem read_hit {l : List Int} {bs : List Nat} {i z : Nat} (h : Hit l bs i z) : ReadIs l bs i z 0 := .inl ⟨rfl, h⟩
theorem read_empty (l : List Int) : ReadIs l [] 0 0 5 :=
  .inr ⟨rfl, rfl, fun i q hh => by have h1 := hh.2.1; have h2 := hh.2.2.1; simp at h2; omega, by rw [if_pos (.inr rfl)]⟩
end Go.Proofs.YtbkbkmgogbgofaaDoor
/-
  The symbols of a code, a group for each number of bits. No program is named here.
-/
namespace Go.Proofs.YtbkbkmgogbgofaaDoor
set_option maxRecDepth 5000
open Go.RowKit
def grp (l : List Int) (k n : Nat) : List Nat := if n = 0 then [] else (List.range k).filter fun i => l[i]? == some (n : Int)
def grpF (l : List Int) (k n : Nat) : Nat := if grp l k n = [] then 0 else fstC l n
theorem grp_none (l : List Int) (n : Nat) : grp l 0 n = [] := by unfold grp; split <;> rfl
theorem grpF_none (l : List Int) (n : Nat) : grpF l 0 n = 0 := by unfold grpF; rw [if_pos (grp_none l n)]
theorem grp_in (l : List Int) (k z : Nat) (h : l[k]? = some (z : Int)) (hz : 1 ≤ z) : grp l (k + 1) z = grp l k z ++ [k] := by
  unfold grp
  rw [if_neg (by omega), if_neg (by omega), List.range_succ, List.filter_append]
  simp [h]
theorem grp_out (l : List Int) (k z n : Nat) (h : l[k]? = some (z : Int)) (hn : n ≠ z) : grp l (k + 1) n = grp l k n := by
  unfold grp
  by_cases h0 : n = 0
  · rw [if_pos h0, if_pos h0]
  · rw [if_neg h0, if_neg h0, List.range_succ, List.filter_append]
    have : ¬ z = n := fun e => hn e.symm
    simp [h]; omega
theorem grp_skip (l : List Int) (k n : Nat) (h : l[k]? = some 0) : grp l (k + 1) n = grp l k n := by
  by_cases h0 : n = 0
  · subst h0; unfold grp; rfl
  · exact grp_out l k 0 n h h0
theorem grp_spec (l : List Int) (n : Nat) : ∀ k, k ≤ l.length → ∀ r i : Nat, (grp l k n)[r]? = some i → l[i]? = some (n : Int) ∧ (l.take i).count (n : Int) = r ∧ i < k
  | 0, _, r, i, h => by rw [grp_none] at h; simp at h
  | k + 1, hk, r, i, h => by
    have ih := grp_spec l n k (by omega)
    by_cases h0 : n = 0
    · subst h0; simp [grp] at h
    obtain ⟨a, ha⟩ : ∃ a, l[k]? = some a := ⟨l[k]'(by omega), List.getElem?_eq_getElem _⟩
    by_cases e : a = (n : Int)
    · subst e
      rw [grp_in l k n ha (by omega), List.getElem?_append] at h
      split at h
      · obtain ⟨h1, h2, h3⟩ := ih r i h
        exact ⟨h1, h2, by omega⟩
      · rename_i hr
        have hr0 : r - (grp l k n).length = 0 := by
          by_cases hz : r - (grp l k n).length = 0
          · exact hz
          · rw [List.getElem?_eq_none (by simp; omega)] at h; cases h
        rw [hr0] at h
        simp only [List.getElem?_cons_zero, Option.some.injEq] at h
        subst h
        refine ⟨ha, ?_, by omega⟩
        have hlen : (grp l k n).length = (l.take k).count (n : Int) := by
          clear ih ha hr hr0
          have : ∀ m, m ≤ l.length → (grp l m n).length = (l.take m).count (n : Int) := by
            intro m
            induction m with
            | zero => intro _; rw [grp_none]; rfl
            | succ m ihm =>
              intro hm
              have hmm := ihm (by omega)
              obtain ⟨b, hb⟩ : ∃ b, l[m]? = some b := ⟨l[m]'(by omega), List.getElem?_eq_getElem _⟩
              rw [List.take_add_one, hb, List.count_append, ← hmm]
              by_cases eb : b = (n : Int)
              · subst eb
                rw [grp_in l m n hb (by omega)]; simp
              · have : grp l (m + 1) n = grp l m n := by
                  unfold grp
                  rw [if_neg h0, if_neg h0, List.range_succ, List.filter_append]
                  simp [hb, eb]
                rw [this]; simp [eb]
          exact this k (by omega)
        omega
    · have : grp l (k + 1) n = grp l k n := by
        unfold grp
        rw [if_neg h0, if_neg h0, List.range_succ, List.filter_append]
        simp [ha, e]
      rw [this] at h
      obtain ⟨h1, h2, h3⟩ := ih r i h
      exact ⟨h1, h2, by omega⟩
theorem grp_len (l : List Int) (n : Nat) (h0 : 1 ≤ n) : ∀ m, m ≤ l.length → (grp l m n).length = (l.take m).count (n : Int) := by
  intro m
  induction m with
  | zero => intro _; rw [grp_none]; rfl
  | succ m ihm =>
    intro hm
    have hmm := ihm (by omega)
    obtain ⟨b, hb⟩ : ∃ b, l[m]? = some b := ⟨l[m]'(by omega), List.getElem?_eq_getElem _⟩
    rw [List.take_add_one, hb, List.count_append, ← hmm]
    by_cases eb : b = (n : Int)
    · subst eb
      rw [grp_in l m n hb h0]; simp
    · have : grp l (m + 1) n = grp l m n := by
        unfold grp
        rw [if_neg (by omega), if_neg (by omega), List.range_succ, List.filter_append]
        simp [hb, eb]
      rw [this]; simp [eb]
theorem grp_all (l : List Int) (n : Nat) (h0 : 1 ≤ n) : (grp l l.length n).length = l.count (n : Int) := by
  rw [grp_len l n h0 _ (Nat.le_refl _), List.take_of_length_le (Nat.le_refl _)]
theorem grp_le (l : List Int) (k n : Nat) : (grp l k n).length ≤ k := by
  unfold grp
  split
  · exact Nat.zero_le _
  · have := List.length_filter_le (fun i => l[i]? == some (n : Int)) (List.range k)
    simpa using this
theorem grpF_in (l : List Int) (k z : Nat) (h : l[k]? = some (z : Int)) (hz : 1 ≤ z) (hz2 : z ≤ 15) : grpF l (k + 1) z = if (grp l k z).length = 0 then codeAt l k else grpF l k z := by
  have hk := (List.getElem?_eq_some_iff.1 h).1
  unfold grpF
  rw [grp_in l k z h hz, if_neg (by simp)]
  by_cases e : grp l k z = []
  · rw [if_pos (by rw [e]; rfl)]
    have := grp_len l z hz k (by omega)
    rw [e] at this
    rw [codeAt_len l k _ h (by simp [isLen]; omega), Int.toNat_natCast, ← this]; rfl
  · rw [if_neg (fun h => e (List.eq_nil_of_length_eq_zero h)), if_neg e]
theorem grpF_out (l : List Int) (k z n : Nat) (h : l[k]? = some (z : Int)) (hn : n ≠ z) : grpF l (k + 1) n = grpF l k n := by
  unfold grpF; rw [grp_out l k z n h hn]
theorem grpF_skip (l : List Int) (k n : Nat) (h : l[k]? = some 0) : grpF l (k + 1) n = grpF l k n := by
  unfold grpF; rw [grp_skip l k n h]
theorem grp_code (l : List Int) (n r i : Nat) (hn : 1 ≤ n) (hn2 : n ≤ 15) (h : (grp l l.length n)[r]? = some i) : l[i]? = some (n : Int) ∧ codeAt l i = fstC l n + r := by
  obtain ⟨h1, h2, _⟩ := grp_spec l n _ (Nat.le_refl _) r i h
  refine ⟨h1, ?_⟩
  rw [codeAt_len l i _ h1 (by simp [isLen]; omega), Int.toNat_natCast, h2]
theorem lng_small0 (l : List Int) (hl : ∀ a ∈ l, 0 ≤ a ∧ a ≤ 15) (h : sumOf l ≤ 16384 * l.count 1) : lng l ≤ 1 := by
  induction l with
  | nil => exact Nat.zero_le _
  | cons a l ihl =>
    have ha := hl a List.mem_cons_self
    have hl2 : ∀ b ∈ l, 0 ≤ b ∧ b ≤ 15 := fun b hb => hl b (List.mem_cons_of_mem _ hb)
    have hb := (sum_bounds l hl2).1
    have ihl := ihl hl2
    rw [sum_cons, List.count_cons] at h
    show max a.toNat (lng l) ≤ 1
    by_cases h1 : a = 1
    · subst h1
      have hw : wtTo 15 1 = 16384 := by decide
      rw [hw, if_pos (by decide)] at h
      have ih := ihl (by omega)
      have : (1 : Int).toNat = 1 := rfl
      omega
    · rw [if_neg (by simpa using h1)] at h
      by_cases h0 : a = 0
      · subst h0
        have ih := ihl (by omega)
        have : (0 : Int).toNat = 0 := rfl
        omega
      · exfalso
        have hw : 1 ≤ wtTo 15 a := by
          unfold wtTo
          rw [if_pos (by omega)]
          exact Nat.pos_of_ne_zero (by simp)
        omega
theorem lng_small (l : List Int) (hl : ∀ a ∈ l, 0 ≤ a ∧ a ≤ 15) (h : sumOf l = 0 ∨ sumOf l = 16384 ∧ l.count 1 = 1) : lng l ≤ 1 :=
  lng_small0 l hl (by rcases h with h | ⟨h, h2⟩ <;> omega)
end Go.Proofs.YtbkbkmgogbgofaaDoor
/-
  The program's Check.
-/
namespace Go.Proofs.YtbkbkmgogbgofaaDoor
set_option maxRecDepth 5000
open Go.RowKit
set_option maxHeartbeats 800000 in
theorem within_any (v : Value) (l : List Int) (most : Int) (w : World) (hv : Rd w 1 v l.length (ints l)) (hl : l.length < 1000000) :
    Calls Tryd.prog 86 #[v, .int .i64 most] w fun e w' => e = .returned (.bool (allIn l most)) ∧ w = w' := by
  obtain ⟨ao, cap, rfl, _, _⟩ := hv.form
  obtain ⟨n, hn⟩ : ∃ n, n = l.length := ⟨_, rfl⟩
  rw [← hn] at hv hl
  have HN := hid hn
  clear hn
  have HGO : Hid (Rd w 1 (.slice ao n cap) n (ints l)) := hv
  rw [show l.length = n from HN.out.symm]
  go_enter Tryd.func86, Tryd.ntmps86
  go_wp2
  go_loopg [9] (n + 1) (fun k t9 wr => ∃ (i : Nat), i ≤ n ∧ n - i < k ∧ t9 = .int .i64 (i : Int) ∧ Hid (allIn (l.take i) most = true) ∧ wr = w)
  case atStart => exact ⟨0, by omega, by omega, rfl, rfl, rfl⟩
  case round =>
    obtain ⟨i, hi, hk, rfl, HA, rfl⟩ := hrel
    by_cases hin : i < n
    · obtain ⟨g, off, rfl, hcell⟩ := hv.spot (by omega)
      obtain ⟨a, hai⟩ : ∃ a, l[i]? = some a := ⟨l[i]'(by have := HN.out; omega), List.getElem?_eq_getElem _⟩
      have hc1 := hcell i _ (by rw [ints_get, hai]; rfl)
      have hi0 : (0 : Int) ≤ (i : Int) := Int.natCast_nonneg _
      have hi1 : (i : Int) < (n : Int) := by omega
      have HT := hid (take_snoc3 l i a hai)
      have h3 : a < 0 ∨ 0 ≤ a ∧ most < a ∨ 0 ≤ a ∧ a ≤ most := by omega
      rcases h3 with h | ⟨h, h2⟩ | ⟨h, h2⟩
      · have HF : Hid (allIn l most = false) := by unfold Hid; refine allIn_take l (i + 1) most ?_; rw [HT.out, allIn_snoc, HA.out]; simp; omega
        clear hcell hai
        go_wp2
        go_ret
        exact ⟨by rw [HF.out]; rfl, rfl⟩
      · have HF : Hid (allIn l most = false) := by unfold Hid; refine allIn_take l (i + 1) most ?_; rw [HT.out, allIn_snoc, HA.out]; simp; omega
        clear hcell hai
        go_wp2
        go_ret
        exact ⟨by rw [HF.out]; rfl, rfl⟩
      · have HF : Hid (allIn (l.take (i + 1)) most = true) := by unfold Hid; rw [HT.out, allIn_snoc, HA.out]; simp; omega
        clear hcell hai
        go_wp2
        go_roundg (gk - 1)
        case measure => omega
        case rel => exact ⟨i + 1, by omega, by omega, by go_num, HF, rfl⟩
    · have hi1 : ¬ (i : Int) < (n : Int) := by omega
      have HF : Hid (allIn l most = true) := by unfold Hid; have h := HA.out; rwa [List.take_of_length_le (by have := HN.out; omega)] at h
      go_wp2
      go_ret
      exact ⟨by rw [HF.out]; rfl, rfl⟩
set_option maxRecDepth 20000 in
set_option maxHeartbeats 1600000 in
theorem check_any (v : Value) (l : List Int) (most : Int) (w : World) (hv : Rd w 1 v l.length (ints l)) (hl : l.length < 1000000) :
    Calls Tryd.prog 67 #[v, .int .i64 most] w fun e w' => e = .returned (.int .i64 ((checkOf l most : Nat) : Int)) ∧ Mod w w' (fun _ => False) := by
  obtain ⟨ao, cap, rfl, _, _⟩ := hv.form
  have HCC := hid (count_any _ l w hv hl)
  have HWI := hid (within_any _ l most w hv hl)
  have HLN := hid hl
  obtain ⟨n, hn⟩ : ∃ n, n = l.length := ⟨_, rfl⟩
  rw [← hn] at hv hl HCC HWI
  rw [← hn]
  have HN := hid hn
  clear hn hv
  have hn0 : (0 : Int) ≤ (n : Int) := Int.natCast_nonneg _
  have h4 : most < 1 ∨ 1 ≤ most ∧ 15 < most ∨ 1 ≤ most ∧ most ≤ 15 ∧ 288 < n ∨ 1 ≤ most ∧ most ≤ 15 ∧ n ≤ 288 := by omega
  rcases h4 with h | ⟨h, h2⟩ | ⟨h, h2, h3⟩ | ⟨h, h2, h3⟩
  · have HF : Hid (checkOf l most = 1) := by unfold Hid checkOf; rw [if_pos]; simp [argBad]; omega
    go_enter Tryd.func67, Tryd.ntmps67
    go_wp2
    go_ret
    exact ⟨by rw [HF.out]; rfl, Mod.refl _ _⟩
  · have HF : Hid (checkOf l most = 1) := by unfold Hid checkOf; rw [if_pos]; simp [argBad]; omega
    go_enter Tryd.func67, Tryd.ntmps67
    go_wp2
    go_ret
    exact ⟨by rw [HF.out]; rfl, Mod.refl _ _⟩
  · have HF : Hid (checkOf l most = 1) := by unfold Hid checkOf; rw [if_pos]; have := HN.out; simp [argBad]; omega
    have h3I : (288 : Int) < (n : Int) := by omega
    go_enter Tryd.func67, Tryd.ntmps67
    go_wp2
    go_ret
    exact ⟨by rw [HF.out]; rfl, Mod.refl _ _⟩
  · have h3I : ¬ (288 : Int) < (n : Int) := by omega
    have h15 : ¬ 15 < most := by omega
    have h1 : ¬ most < 1 := by omega
    have HA1 : Hid (argBad l most = !allIn l most) := by
      unfold Hid argBad
      have := HN.out
      rw [decide_eq_false (by omega)]; rfl
    cases hA : allIn l most with
    | false =>
      rw [hA] at HWI
      have HF : Hid (checkOf l most = 1) := by unfold Hid checkOf; rw [HA1.out, hA]; rfl
      clear hA
      go_enter Tryd.func67, Tryd.ntmps67
      go_wp2_with fail
      refine HWI.out.mono ?_
      rintro e w1 ⟨rfl, rfl⟩
      go_wp2
      go_ret
      exact ⟨by rw [HF.out]; rfl, Mod.refl _ _⟩
    | true =>
      rw [hA] at HWI
      have HF : Hid (checkOf l most = if sumOf l = 0 ∨ sumOf l = 32768 ∨ sumOf l = 16384 ∧ l.count 1 = 1 then 0 else 3) := by
        unfold Hid checkOf; rw [HA1.out, hA]; rfl
      clear hA
      have HL := hid (cnts_length l)
      have HL0 := hid (cnts_length [])
      go_enter Tryd.func67, Tryd.ntmps67
      go_wp2_with fail
      refine HWI.out.mono ?_
      rintro e w0 ⟨rfl, rfl⟩
      go_wp2_with fail
      refine HCC.out.mono ?_
      rintro e w1 ⟨rfl, hM1⟩
      have HH0 := hid (((Held.start w).same hM1).newObj (nums .i64 (cnts [])) 95)
      clear hM1
      go_wp2_with (first
        | refine wpList_alloc_arr rfl _ rfl .i64 _ infoCz ?_
        | (refine wpList_store_arr rfl _ _ _ rfl 16 infoCs _ .i64 (cnts []) (cnts l) _ rfl rfl HL0.out HL.out HH0.out.obj ?_; intro w3 hB3 hM3; have HB3 := hid hB3; have HM3 := hid hM3; clear hM3)
        | refine wpList_load_arr rfl _ _ rfl _ 16 (by rfl) rfl infoCs w1.heap.size .i64 (cnts l) _ rfl HL.out HB3.out ?_)
      refine (csum_any l w3 HLN.out).mono ?_
      rintro e w4 ⟨rfl, hM4⟩
      have HH := hid ((HH0.out.putObj HB3.out HM3.out).same hM4)
      have hcell := HH.out.obj.cell (i := 1) (v := .int .i64 ((l.count 1 : Nat) : Int)) (by rw [nums_get, cnts_get _ 1 (by omega) (by omega)]; rfl)
      clear hM4 hB3
      obtain ⟨s, hs⟩ : ∃ s, s = sumOf l := ⟨_, rfl⟩
      obtain ⟨c, hc⟩ : ∃ c, c = l.count 1 := ⟨_, rfl⟩
      rw [← hc] at HF hcell
      rw [← hs] at HF ⊢
      clear hs hc
      have h5 : s = 0 ∨ s = 32768 ∨ s = 16384 ∧ c = 1 ∨ s = 16384 ∧ c ≠ 1 ∨ s ≠ 0 ∧ s ≠ 32768 ∧ s ≠ 16384 := by omega
      rcases h5 with rfl | rfl | ⟨rfl, rfl⟩ | ⟨rfl, hc1⟩ | ⟨hs0, hs1, hs2⟩
      · go_wp2
        go_ret
        exact ⟨by rw [HF.out]; rfl, HH.out.mod⟩
      · go_wp2
        go_ret
        exact ⟨by rw [HF.out]; rfl, HH.out.mod⟩
      · go_wp2
        go_ret
        exact ⟨by rw [HF.out]; rfl, HH.out.mod⟩
      · have hcI : ¬ (c : Int) = 1 := by omega
        go_wp2
        go_ret
        exact ⟨by rw [HF.out, if_neg (by omega)]; rfl, HH.out.mod⟩
      · have hcI : ¬ (s : Int) = 0 := by omega
        have hcI2 : ¬ (s : Int) = 32768 := by omega
        have hcI3 : ¬ (s : Int) = 16384 := by omega
        go_wp2
        go_ret
        exact ⟨by rw [HF.out, if_neg (by omega)]; rfl, HH.out.mod⟩
end Go.Proofs.YtbkbkmgogbgofaaDoor
