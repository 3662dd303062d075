/-
  Things that a call holds, put together: two side by side as one ('andT'), one of a family ('exT'), a fact beside a thing ('factT'). No program is named here.
-/
import Derived.Test.YtmmfkppkmgjljaaDoorZE03
import Derived.WalkSpells
import Derived.Test.YtmmfkppkmgjljaaDoorZE02
import Derived.Test.YtmmfkppkmgjljaaDoorZE01
import Derived.Laws.CopyRow
import Derived.Laws.OwnMore
namespace Go.Proofs.YtmmfkppkmgjljaaDoor
set_option maxRecDepth 5000
open Go.RowKit
def andT (R1 R2 : Thing) : Thing where
  res := fun w F => ∃ F1 F2 : Nat → Prop, R1.res w F1 ∧ R2.res w F2 ∧ (∀ k, F1 k → ¬ F2 k) ∧ ∀ k, F k ↔ F1 k ∨ F2 k
  loc := fun w w' _ S ⟨F1, F2, h1, h2, hd, hF⟩ hm hS =>
    ⟨F1, F2, R1.loc w w' F1 S h1 hm fun k hk => hS k ((hF k).2 (.inl hk)), R2.loc w w' F2 S h2 hm fun k hk => hS k ((hF k).2 (.inr hk)), hd, hF⟩
def exT {α : Type} (R : α → Thing) : Thing where
  res := fun w F => ∃ a, (R a).res w F
  loc := fun w w' F S ⟨a, h⟩ hm hS => ⟨a, (R a).loc w w' F S h hm hS⟩
def factT (p : Prop) (R : Thing) : Thing where
  res := fun w F => p ∧ R.res w F
  loc := fun w w' F S ⟨hp, h⟩ hm hS => ⟨hp, R.loc w w' F S h hm hS⟩
theorem Held.unpair {w0 w : World} {R1 R2 : Thing} {Rs : List Thing} (h : Held w0 w (andT R1 R2 :: Rs)) : Held w0 w (R1 :: R2 :: Rs) := by
  obtain ⟨F, ⟨F1, F2, h1, h2, hd, hF⟩, h3, h4⟩ := h
  refine ⟨F1, h1, fun k hk => h3 k ((hF k).2 (.inl hk)), F2, h2, fun k hk => ⟨(h3 k ((hF k).2 (.inr hk))).1, (h3 k ((hF k).2 (.inr hk))).2.1, ?_⟩, h4.less fun k hk => ?_⟩
  · rintro (hu | hu)
    · exact hu
    · exact hd k hu hk
  · rcases hk with (hk | hk) | hk
    · exact .inl hk
    · exact .inr ((hF k).2 (.inl hk))
    · exact .inr ((hF k).2 (.inr hk))
theorem Held.pair {w0 w : World} {R1 R2 : Thing} {Rs : List Thing} (h : Held w0 w (R1 :: R2 :: Rs)) : Held w0 w (andT R1 R2 :: Rs) := by
  obtain ⟨F1, h1, h2, F2, h3, h4, h5⟩ := h
  refine ⟨fun k => F1 k ∨ F2 k, ⟨F1, F2, h1, h3, fun k hk hk2 => (h4 k hk2).2.2 (.inr hk), fun _ => Iff.rfl⟩, fun k hk => ?_, h5.less fun k hk => ?_⟩
  · rcases hk with hk | hk
    · exact h2 k hk
    · exact ⟨(h4 k hk).1, (h4 k hk).2.1, fun hu => hu⟩
  · rcases hk with hk | hk | hk
    · exact .inl (.inl hk)
    · exact .inl (.inr hk)
    · exact .inr hk
theorem Held.ex {w0 w : World} {α : Type} {R : α → Thing} {Rs : List Thing} (h : Held w0 w (exT R :: Rs)) : ∃ a, Held w0 w (R a :: Rs) := by
  obtain ⟨F, ⟨a, h1⟩, h2, h3⟩ := h
  exact ⟨a, F, h1, h2, h3⟩
theorem Held.mk {w0 w : World} {α : Type} {R : α → Thing} {Rs : List Thing} (a : α) (h : Held w0 w (R a :: Rs)) : Held w0 w (exT R :: Rs) := by
  obtain ⟨F, h1, h2, h3⟩ := h
  exact ⟨F, ⟨a, h1⟩, h2, h3⟩
theorem Held.fact {w0 w : World} {p : Prop} {R : Thing} {Rs : List Thing} (h : Held w0 w (factT p R :: Rs)) : p ∧ Held w0 w (R :: Rs) := by
  obtain ⟨F, ⟨hp, h1⟩, h2, h3⟩ := h
  exact ⟨hp, F, h1, h2, h3⟩
theorem Held.mkFact {w0 w : World} {p : Prop} {R : Thing} {Rs : List Thing} (hp : p) (h : Held w0 w (R :: Rs)) : Held w0 w (factT p R :: Rs) := by
  obtain ⟨F, h1, h2, h3⟩ := h
  exact ⟨F, ⟨hp, h1⟩, h2, h3⟩
theorem Held.apart {w0 w : World} {B : Nat} {cs : List Value} {T e : TypeId} {size n : Nat} {v : Value} {xs : List Value} {Rs : List Thing} (h : Held w0 w (objT B cs T :: ownT e size v n xs :: Rs)) : v.ownBlock ≠ some B := by
  obtain ⟨F, ⟨_, h1⟩, h2, F2, ⟨_, h3⟩, h4, _⟩ := h
  intro e
  exact (h4 B ((h3 B).2 e)).2.2 (.inr ((h1 B).2 rfl))
end Go.Proofs.YtmmfkppkmgjljaaDoor
/-
  Which tokens are sound: the program's and the reference's.
-/
namespace Go.Proofs.YtmmfkppkmgjljaaDoor
set_option maxRecDepth 5000
open Go.RowKit
abbrev Tok := Int × Int × Int
def soundB (t : Tok) : Bool := decide (t.2.1 = 0 ∧ t.2.2 = 0) || decide (t.1 = 0 ∧ (3 ≤ t.2.1 ∧ t.2.1 ≤ 258) ∧ (1 ≤ t.2.2 ∧ t.2.2 ≤ 32768))
end Go.Proofs.YtmmfkppkmgjljaaDoor
/-
  Copies of earlier bytes. No program is named here.
-/
namespace Go.Proofs.YtmmfkppkmgjljaaDoor
set_option maxRecDepth 5000
def ext (l : List Nat) (d : Nat) : Nat → List Nat
  | 0 => l
  | n + 1 => ext l d n ++ [(ext l d n)[l.length + n - d]?.getD 0]
theorem ext_length (l : List Nat) (d : Nat) : ∀ n, (ext l d n).length = l.length + n
  | 0 => rfl
  | n + 1 => by rw [ext, List.length_append, ext_length l d n]; rfl
def out (l : List Nat) (d n : Nat) : List Nat := (ext l d n).drop l.length
theorem out_length (l : List Nat) (d n : Nat) : (out l d n).length = n := by rw [out, List.length_drop, ext_length]; omega
theorem ext_out (l : List Nat) (d : Nat) : ∀ n, ext l d n = l ++ out l d n
  | 0 => by simp [ext, out]
  | n + 1 => by
    have ih := ext_out l d n
    rw [out, ext, List.drop_append_of_le_length (by rw [ext_length]; omega)]
    show ext l d n ++ _ = l ++ (out l d n ++ _)
    rw [← List.append_assoc, ← ih]
theorem ext_lt (l : List Nat) (d : Nat) (h : ∀ b ∈ l, b < 256) : ∀ n, ∀ b ∈ ext l d n, b < 256
  | 0 => h
  | n + 1 => fun b hb => by
    have ih := ext_lt l d h n
    rcases List.mem_append.1 hb with hb | hb
    · exact ih b hb
    · rw [List.mem_singleton.1 hb]
      cases e : (ext l d n)[l.length + n - d]? with
      | none => decide
      | some x => exact ih x (List.mem_of_getElem? e)
end Go.Proofs.YtmmfkppkmgjljaaDoor
/-
  Lists of tokens in memory, and what they expand to.
-/
namespace Go.Proofs.YtmmfkppkmgjljaaDoor
set_option maxRecDepth 5000
open Go.RowKit
def toksV (l : List Tok) : List Value := l.flatMap fun t => [.int .u8 t.1, .int .i64 t.2.1, .int .i64 t.2.2]
theorem toksV_cons (x : Tok) (l : List Tok) : toksV (x :: l) = .int .u8 x.1 :: .int .i64 x.2.1 :: .int .i64 x.2.2 :: toksV l := by simp [toksV]
theorem toksV_app (l m : List Tok) : toksV (l ++ m) = toksV l ++ toksV m := by simp [toksV]
theorem toksV_length (l : List Tok) : (toksV l).length = l.length * 3 := by
  induction l with
  | nil => rfl
  | cons x l ih => rw [toksV_cons]; simp [ih]; omega
theorem toksV_one (l : List Tok) : ∀ u ∈ toksV l, u.oneCell' = true := by
  intro u hu
  obtain ⟨x, _, hx⟩ := List.mem_flatMap.1 hu
  simp only [List.mem_cons, List.not_mem_nil, or_false] at hx
  rcases hx with rfl | rfl | rfl <;> rfl
/-! ### What they expand to -/
def most : Nat := 16777216
def stepT (acc : List Nat) (t : Tok) : Nat × List Nat :=
  if soundB t = false then (1, [])
  else if t.2.1 = 0 then (if most ≤ acc.length then (6, []) else (0, acc ++ [t.1.toNat]))
  else if most < acc.length + t.2.1.toNat then (6, [])
  else if acc.length < t.2.2.toNat then (3, []) else (0, ext acc t.2.2.toNat t.2.1.toNat)
def expT : List Nat → List Tok → Nat × List Nat
  | acc, [] => (0, acc)
  | acc, t :: r => if (stepT acc t).1 = 0 then expT (stepT acc t).2 r else ((stepT acc t).1, [])
theorem expT_cons (acc : List Nat) (t : Tok) (r : List Tok) : expT acc (t :: r) = if (stepT acc t).1 = 0 then expT (stepT acc t).2 r else ((stepT acc t).1, []) := rfl
theorem stepT_matchCap {acc : List Nat} {t : Tok} (h : soundB t = true) (h0 : t.2.1 ≠ 0) (hc : most < acc.length + t.2.1.toNat) : stepT acc t = (6, []) := by
  unfold stepT; rw [if_neg (by rw [h]; simp), if_neg h0, if_pos hc]
theorem stepT_far {acc : List Nat} {t : Tok} (h : soundB t = true) (h0 : t.2.1 ≠ 0) (hc : ¬ most < acc.length + t.2.1.toNat) (hd : acc.length < t.2.2.toNat) : stepT acc t = (3, []) := by
  unfold stepT; rw [if_neg (by rw [h]; simp), if_neg h0, if_neg hc, if_pos hd]
theorem stepT_match {acc : List Nat} {t : Tok} (h : soundB t = true) (h0 : t.2.1 ≠ 0) (hc : ¬ most < acc.length + t.2.1.toNat) (hd : ¬ acc.length < t.2.2.toNat) : stepT acc t = (0, ext acc t.2.2.toNat t.2.1.toNat) := by
  unfold stepT; rw [if_neg (by rw [h]; simp), if_neg h0, if_neg hc, if_neg hd]
theorem stepT_le (acc : List Nat) (t : Tok) (h : (stepT acc t).1 = 0) : (stepT acc t).2.length ≤ most ∧ acc <+: (stepT acc t).2 := by
  unfold stepT at h ⊢
  split <;> rename_i c1
  · rw [if_pos c1] at h; simp at h
  · rw [if_neg c1] at h
    split <;> rename_i c2
    · rw [if_pos c2] at h
      split <;> rename_i c3
      · rw [if_pos c3] at h; simp at h
      · exact ⟨by simp; omega, ⟨_, rfl⟩⟩
    · rw [if_neg c2] at h
      split <;> rename_i c3
      · rw [if_pos c3] at h; simp at h
      · rw [if_neg c3] at h
        split <;> rename_i c4
        · rw [if_pos c4] at h; simp at h
        · refine ⟨by simp only [ext_length]; omega, ?_⟩
          simp only
          rw [ext_out]; exact ⟨_, rfl⟩
theorem expT_pre : ∀ (l : List Tok) (acc : List Nat), (expT acc l).1 = 0 → acc <+: (expT acc l).2
  | [], acc, _ => ⟨[], by simp [expT]⟩
  | t :: r, acc, h => by
    rw [expT_cons] at h ⊢
    by_cases h1 : (stepT acc t).1 = 0
    · rw [if_pos h1] at h ⊢
      exact (stepT_le acc t h1).2.trans (expT_pre r _ h)
    · rw [if_neg h1] at h; exact absurd h h1
end Go.Proofs.YtmmfkppkmgjljaaDoor
/-
  What bytes mean as a stream: a model of reading, on bits. No program is named here.
-/
namespace Go.Proofs.YtmmfkppkmgjljaaDoor
set_option maxRecDepth 5000
def takeM (bs : List Nat) (a n : Nat) : Option Nat := if a + n ≤ bs.length then some (numOf ((bs.drop a).take n)) else none
noncomputable def symF (l : List Int) (r : List Nat) : Nat × Nat × Nat :=
  haveI := Classical.propDecidable (∃ p : Nat × Nat, Hit l r p.1 p.2)
  if h : ∃ p : Nat × Nat, Hit l r p.1 p.2 then ((Classical.choose h).1, (Classical.choose h).2, 0) else (0, 0, if r.length < lng l ∨ r = [] then 5 else 3)
theorem symF_is (l : List Int) (r : List Nat) : ReadIs l r (symF l r).1 (symF l r).2.1 (symF l r).2.2 := by
  unfold symF
  by_cases h : ∃ p : Nat × Nat, Hit l r p.1 p.2
  · rw [dif_pos h]
    exact .inl ⟨rfl, Classical.choose_spec h⟩
  · rw [dif_neg h]
    exact .inr ⟨rfl, rfl, fun i m hh => h ⟨(i, m), hh⟩, rfl⟩
theorem symF_of {l : List Int} {r : List Nat} {k n e : Nat} (hb : isBits r) (hl : ∀ a ∈ l, 0 ≤ a ∧ a ≤ 15) (h : ReadIs l r k n e) : symF l r = (k, n, e) := by
  obtain ⟨h1, h2, h3⟩ := (symF_is l r).one hb hl h
  rw [← h1, ← h2, ← h3]
theorem symF_hit {l : List Int} {r : List Nat} (h : (symF l r).2.2 = 0) : Hit l r (symF l r).1 (symF l r).2.1 := by
  rcases symF_is l r with ⟨_, hh⟩ | ⟨_, _, _, he⟩
  · exact hh
  · rw [h] at he
    split at he <;> cases he
noncomputable def stepF (lit dist : List Int) (bs : List Nat) (M a : Nat) (out : List Nat) (tk : List Tok) : Bool × Nat × Nat × List Nat × List Tok :=
  if (symF lit (bs.drop a)).2.2 ≠ 0 then (true, (symF lit (bs.drop a)).2.2, a, out, tk)
  else if (symF lit (bs.drop a)).1 = 256 then (true, 0, a + (symF lit (bs.drop a)).2.1, out, tk)
  else if (symF lit (bs.drop a)).1 < 256 then
    if M ≤ out.length then (true, 6, a + (symF lit (bs.drop a)).2.1, out, tk ++ [(((symF lit (bs.drop a)).1 : Int), 0, 0)])
    else (false, 0, a + (symF lit (bs.drop a)).2.1, out ++ [(symF lit (bs.drop a)).1], tk ++ [(((symF lit (bs.drop a)).1 : Int), 0, 0)])
  else if 285 < (symF lit (bs.drop a)).1 then (true, 3, a + (symF lit (bs.drop a)).2.1, out, tk)
  else matchF dist bs M (a + (symF lit (bs.drop a)).2.1) ((symF lit (bs.drop a)).1 - 257) out tk
where
  matchF (dist : List Int) (bs : List Nat) (M a1 c : Nat) (out : List Nat) (tk : List Tok) : Bool × Nat × Nat × List Nat × List Tok :=
    match takeM bs a1 (lX c) with
    | none => (true, 5, a1, out, tk)
    | some more =>
      if (symF dist (bs.drop (a1 + lX c))).2.2 ≠ 0 then (true, (symF dist (bs.drop (a1 + lX c))).2.2, a1 + lX c, out, tk)
      else farF bs M (a1 + lX c + (symF dist (bs.drop (a1 + lX c))).2.1) (symF dist (bs.drop (a1 + lX c))).1 (lB c + more) out tk
  farF (bs : List Nat) (M a3 q n : Nat) (out : List Nat) (tk : List Tok) : Bool × Nat × Nat × List Nat × List Tok :=
    if 29 < q then (true, 3, a3, out, tk)
    else match takeM bs a3 (dX q) with
      | none => (true, 5, a3, out, tk)
      | some far =>
        if out.length < dB q + far then (true, 3, a3 + dX q, out, tk)
        else if M < out.length + n then (true, 6, a3 + dX q, ext out (dB q + far) (M - out.length), tk ++ [(0, (n : Int), ((dB q + far : Nat) : Int))])
        else (false, 0, a3 + dX q, ext out (dB q + far) n, tk ++ [(0, (n : Int), ((dB q + far : Nat) : Int))])
noncomputable def tokF (lit dist : List Int) (bs : List Nat) (M : Nat) : Nat → Nat → List Nat → List Tok → Nat × Nat × List Nat × List Tok
  | 0, a, out, tk => (5, a, out, tk)
  | f + 1, a, out, tk =>
    if (stepF lit dist bs M a out tk).1 = true then (stepF lit dist bs M a out tk).2
    else tokF lit dist bs M f (stepF lit dist bs M a out tk).2.2.1 (stepF lit dist bs M a out tk).2.2.2.1 (stepF lit dist bs M a out tk).2.2.2.2
theorem tokF_over {lit dist : List Int} {bs : List Nat} {M f a e a' : Nat} {out out' : List Nat} {tk tk' : List Tok} (h : stepF lit dist bs M a out tk = (true, e, a', out', tk')) : tokF lit dist bs M (f + 1) a out tk = (e, a', out', tk') := by
  rw [tokF, h]; rfl
theorem tokF_on {lit dist : List Int} {bs : List Nat} {M f a e a' : Nat} {out out' : List Nat} {tk tk' : List Tok} (h : stepF lit dist bs M a out tk = (false, e, a', out', tk')) : tokF lit dist bs M (f + 1) a out tk = tokF lit dist bs M f a' out' tk' := by
  rw [tokF, h]; rfl
def copyF (bs : List Nat) (M : Nat) : Nat → Nat → List Nat → Nat × Nat × List Nat
  | 0, a, out => (0, a, out)
  | n + 1, a, out => match takeM bs a 8 with
    | none => (5, a, out)
    | some c => if M ≤ out.length then (6, a + 8, out) else copyF bs M n (a + 8) (out ++ [c])
def evenF (a : Nat) : Nat := (a + 7) / 8 * 8
def storedF (bs : List Nat) (M a : Nat) (out : List Nat) : Nat × Nat × List Nat :=
  let a1 := evenF a
  if bs.length < a1 + 32 then (5, a1, out)
  else
    let n := numOf ((bs.drop a1).take 16)
    if n + numOf ((bs.drop (a1 + 16)).take 16) ≠ 65535 then (2, a1 + 32, out) else copyF bs M n (a1 + 32) out
end Go.Proofs.YtmmfkppkmgjljaaDoor
/-
  Builtins over slices that the call owns: a cut at the front, clear, copy, make. No program is named here.
-/
namespace Go.Proofs.YtmmfkppkmgjljaaDoor
set_option maxRecDepth 5000
open Go.RowKit
/-! ### The first cells of an own slice, stored anew -/
theorem Own.splice {w w' : World} {e : TypeId} {size n cap g off : Nat} {xs vs : List Value} {cur : Array Value} (hl : xs.length = n * size) (hg : w.heap[g]? = some (.cells cur e (0, 0))) (hn : n ≤ cap) (hc : cap ≤ maxLen) (hs : off + cap * size ≤ cur.size)
    (hx : ∀ j u, xs[j]? = some u → cur[off + j]? = some u) (hv : vs.length ≤ n * size)
    (h' : w' = w.setRow g (cur.toList.take off ++ vs ++ cur.toList.drop (off + vs.length)).toArray) :
    Own w' e size (.slice (some ⟨g, off, none⟩) n cap) n (vs ++ xs.drop vs.length) ∧ Mod w w' (fun k => k = g) := by
  subst h'
  have hns : n * size ≤ cap * size := Nat.mul_le_mul_right _ hn
  refine ⟨⟨by rw [List.length_append, List.length_drop, hl]; omega, .inr ⟨g, off, cap, _, rfl, setRow_heap w g cur _ e _ hg, hn, hc, ?_, fun j u hu => ?_⟩⟩, ⟨rfl, rfl, rfl, by simp [World.setRow], fun k _ hk => setRow_other w g k _ hk⟩⟩
  · simp; omega
  · have ht : (cur.toList.take off).length = off := by simp; omega
    simp only [List.getElem?_toArray]
    rw [List.append_assoc, List.getElem?_append_right (by omega), ht, Nat.add_sub_cancel_left]
    by_cases hj : j < vs.length
    · rw [List.getElem?_append_left hj] at hu ⊢
      exact hu
    · rw [List.getElem?_append_right (by omega)] at hu ⊢
      rw [List.getElem?_drop] at hu ⊢
      rw [Array.getElem?_toList, show off + vs.length + (j - vs.length) = off + (vs.length + (j - vs.length)) by omega]
      exact hx _ u hu
section
variable {P : Program} {w : World}
/-! ### Cut at the front -/
theorem sliced_front (a : Option Addr) (H cap size : Nat) (ha : ∀ x, a = some x → x.spot = none) : sliced a 0 H cap size = .slice a H cap := by
  unfold sliced
  cases a with
  | none => simp
  | some x =>
    obtain ⟨b, o, s⟩ := x
    obtain rfl : s = none := ha _ rfl
    simp [Addr.add]
theorem Own.spotless {e : TypeId} {size n n' cap : Nat} {a : Option Addr} {xs : List Value} (h : Own w e size (.slice a n cap) n' xs) : ∀ x, a = some x → x.spot = none := by
  rintro x rfl
  rcases h.2 with ⟨hv, _⟩ | ⟨g, off, cap', cur, hv, _⟩
  · simp at hv
  · simp only [Value.slice.injEq, Option.some.injEq] at hv
    rw [hv.1]
theorem Rd.front {size n cap H : Nat} {a : Option Addr} {xs : List Value} (h : Rd w size (.slice a n cap) n xs) (hH : H ≤ n) : Rd w size (.slice a H cap) H (xs.take (H * size)) := by
  obtain ⟨h1, ao, cap', hv, h2, h3, h4, h5⟩ := h
  simp only [Value.slice.injEq, true_and] at hv
  obtain ⟨rfl, rfl⟩ := hv
  have hle : H * size ≤ n * size := Nat.mul_le_mul_right _ hH
  refine ⟨by rw [List.length_take, h1]; omega, a, cap, rfl, by omega, h3, h4, ?_⟩
  rcases h5 with h5 | ⟨b, off, ha, hc⟩
  · exact .inl (by omega)
  · refine .inr ⟨b, off, ha, fun j u hu => ?_⟩
    rw [List.getElem?_take] at hu
    split at hu
    · exact hc j u hu
    · cases hu
theorem Own.le {e : TypeId} {size n cap : Nat} {a : Option Addr} {xs : List Value} (h : Own w e size (.slice a n cap) n xs) : n ≤ cap := by
  obtain ⟨ao, cap', hv, hn, _⟩ := h.form
  simp only [Value.slice.injEq, true_and] at hv
  rw [hv.2]; exact hn
/-! ### clear -/
/-! ### copy -/
theorem run_copy_own (dT sT ty e : TypeId) (i : TypeInfo) (size : Nat) (ht : P.underlying dT = some (.slice e)) (hi : P.info? e = some i) (hs : i.size = size)
    (v : Value) (n m : Nat) (xs ys : List Value) (hown : Own w e size v n xs) (s : Value) (hsrc : Rd w size s m ys) (h1 : ∀ u ∈ ys, u.oneCell' = true) :
    ∃ w', (Builtin.copy_ #[dT, sT] ty #[v, s]).run P w = .ok (goInt ((min m n : Nat) : Int)) w' ∧ Own w' e size v n (ys.take (min m n * size) ++ xs.drop (min m n * size)) ∧ Mod w w' (fun k => v.ownBlock = some k) := by
  obtain ⟨hyl, sa, scap, rfl, hmc, hsm, hs0, hsrd⟩ := hsrc
  obtain ⟨da, cap, rfl, hnc, hcm⟩ := hown.form
  by_cases h0 : min m n = 0
  · refine ⟨w, ?_, by rw [h0]; simpa using hown, Mod.refl _ _⟩
    have hl : ∀ (x : Addr), (loadCells x 0).run P w = .ok #[] w := fun x => by simpa using run_loadCells_list (P := P) w x [] (by simp)
    have h0' : Nat.min m n = 0 := h0
    rw [h0]
    cases da <;> cases sa <;> simp [Builtin.copy_, run_underlying ht, Builtin.lenOf, Builtin.firstCells, sizeOf, typeInfo, hi, h0', storeCells, hl]
  · rcases hown.2 with ⟨hv, hn0⟩ | ⟨g, off, cap', cur, hv, hg, _, _, hcs, hx⟩
    · omega
    simp only [Value.slice.injEq, true_and] at hv
    obtain ⟨rfl, rfl⟩ := hv
    rcases hsrd with hm0 | ⟨b, so, rfl, hc⟩
    · omega
    have hle : min m n * size ≤ m * size := Nat.mul_le_mul_right _ (Nat.min_le_left _ _)
    have hle2 : min m n * size ≤ n * size := Nat.mul_le_mul_right _ (Nat.min_le_right _ _)
    have hns : n * size ≤ cap * size := Nat.mul_le_mul_right _ hnc
    have hcl : (ys.take (min m n * size)).length = min m n * size := by rw [List.length_take, hyl]; omega
    have hl := run_loadCells_list (P := P) w ⟨b, so, none⟩ (ys.take (min m n * size)) (fun j u hu => by
      rw [Addr.add_lit]
      refine hc j u ?_
      rw [List.getElem?_take] at hu
      split at hu
      · exact hu
      · cases hu)
    rw [hcl] at hl
    have hst := run_storeCells_at P g off e (ys.take (min m n * size)) 0 cur w hg (by rw [hcl]; omega) (fun u hu => h1 u (List.mem_of_mem_take hu))
    obtain ⟨H1, H2⟩ := Own.splice (w' := w.setRow g (cur.toList.take off ++ ys.take (min m n * size) ++ cur.toList.drop (off + (ys.take (min m n * size)).length)).toArray) hown.1 hg hnc hcm hcs hx (by rw [hcl]; omega) rfl
    rw [hcl] at H1
    rw [hcl] at H2
    refine ⟨_, ?_, H1, H2.mono (fun k _ hk => by subst hk; rfl)⟩
    have hmin : Nat.min m n = min m n := rfl
    rw [hcl, Nat.add_zero] at hst
    simp [Builtin.copy_, run_underlying ht, Builtin.lenOf, Builtin.firstCells, sizeOf, typeInfo, hi, hs, hmin, hl, hst]
theorem wpList_copy_own' {ops : Array Oper} {rest : List Oper} {o : Oper} {ac : Act} {Q : Exit → Act → World → Prop} (hgd : o.guard = none) (d s : Operand) (dT sT : TypeId)
    (ho : o.op = .call { callee := .builtin .copy, args := #[d, s], argTypes := #[dT, sT] }) (e : TypeId) (i : TypeInfo) (size : Nat) (ht : P.underlying dT = some (.slice e)) (hi : P.info? e = some i) (hs : i.size = size)
    (v y : Value) (n m : Nat) (xs ys : List Value) (hd : ac.eval d = v) (hy : ac.eval s = y) (hown : Own w e size v n xs) (hsrc : Rd w size y m ys) (h1 : ∀ u ∈ ys, u.oneCell' = true)
    (h : ∀ w', Own w' e size v n (ys.take (min m n * size) ++ xs.drop (min m n * size)) → Mod w w' (fun k => v.ownBlock = some k) → wpList P ops Q rest (ac.put o.dst (goInt ((min m n : Nat) : Int))) w') :
    wpList P ops Q (o :: rest) ac w := by
  refine wpList_plain hgd fun K hK => ?_
  obtain ⟨w', hr, H1, H2⟩ := run_copy_own (P := P) dT sT o.type e i size ht hi hs v n m xs ys hown y hsrc h1
  unfold Oper.wp execOp
  simp only [ho, resolve, invoke, builtin, Sem.run_bind, Sem.run_pure, Result.andThen_ok, List.map_toArray, List.map_cons, List.map_nil, hd, hy, hr]
  exact hK _ _ (h w' H1 H2)
/-! ### make -/
theorem wpList_make_own {ops : Array Oper} {rest : List Oper} {o : Oper} {ac : Act} {Q : Exit → Act → World → Prop} (hgd : o.guard = none) (t : TypeId) (x y : Operand)
    (ho : o.op = .makeSlice t x y) (e : TypeId) (i : TypeInfo) (z : Value) (size : Nat) (ht : P.underlying t = some (.slice e)) (hi : P.info? e = some i) (hz : i.zero = some z) (hs : i.size = size)
    (k : IntKind) (n : Nat) (hx : ac.eval x = .int k (n : Int)) (hy : ac.eval y = .int k (n : Int)) (hb : i.bytes * n ≤ 281474976710656) (hn : n ≤ maxLen)
    (h : ∀ v w' zs, Own w' e size v n zs → Mod w w' (fun _ => False) → (∀ k, v.ownBlock = some k → w.heap.size ≤ k) → v = .slice (some ⟨w.heap.size, 0, none⟩) n n → zs = (madeCells z.cells (n * size)).toList → wpList P ops Q rest (ac.put o.dst v) w') :
    wpList P ops Q (o :: rest) ac w := by
  refine wpList_plain hgd fun K hK => ?_
  obtain ⟨w', hr, H1, H2⟩ := run_make_full (P := P) w w.heap.size t e i z size ht hi hz hs k k n hb hn (Nat.le_refl _)
  unfold Oper.wp execOp
  simp only [ho, hx, hy, Sem.run_bind, Sem.run_pure, hr, Result.andThen_ok]
  exact hK _ _ (h _ w' _ (Own.of_row H1) ((Mod.refl w _).grown H2 (fun k hk => by cases hk)) (fun k hk => by simp [Value.ownBlock] at hk; omega) rfl rfl)
end
end Go.Proofs.YtmmfkppkmgjljaaDoor
/-
  A store into a slice that the call has made. No program is named here.
-/
namespace Go.Proofs.YtmmfkppkmgjljaaDoor
set_option maxRecDepth 5000
open Go.RowKit
theorem Own.site {w : World} {e : TypeId} {ao : Option Addr} {cap n : Nat} {xs : List Value} (h : Own w e 1 (.slice ao n cap) n xs) (hn : 0 < n) :
    ∃ g off, ao = some ⟨g, off, none⟩ ∧ (∀ j u, xs[j]? = some u → w.cell? ⟨g, off + j, none⟩ = some u) ∧ (∀ j, w.frozen? ⟨g, off + j, none⟩ = false) ∧
      ∀ j u, j < n → Own (w.setCell ⟨g, off + j, none⟩ u) e 1 (.slice ao n cap) n (xs.set j u) := by
  rcases h.2 with ⟨hv, h0⟩ | ⟨g, off, cap', cur, hv, hg, hnc, hc, hsz, hcur⟩
  · omega
  · simp only [Value.slice.injEq, true_and] at hv
    obtain ⟨rfl, rfl⟩ := hv
    refine ⟨g, off, rfl, fun j u hu => by rw [cell_of_row w g _ cur e (0, 0) hg]; exact hcur j u hu, fun j => frozen_of_row w g _ cur e hg, fun j u hj => ?_⟩
    refine ⟨by rw [List.length_set]; exact h.1, .inr ⟨g, off, cap, cur.setIfInBounds (off + j) u, rfl, heap_setCell_same w g (off + j) cur e u hg, hnc, hc, by simpa using hsz, fun i v hv => ?_⟩⟩
    have hl := h.1
    rw [Array.getElem?_setIfInBounds]
    by_cases hij : j = i
    · subst hij
      rw [List.getElem?_set_self (by omega)] at hv
      rw [if_pos rfl, if_pos (by omega)]
      exact hv
    · rw [List.getElem?_set_ne hij] at hv
      rw [if_neg (by omega)]
      exact hcur i v hv
theorem Held.putOwn {w0 w w' : World} {e : TypeId} {size : Nat} {g off n cap : Nat} {xs xs' : List Value} {Rs : List Thing} (h : Held w0 w (ownT e size (.slice (some ⟨g, off, none⟩) n cap) n xs :: Rs))
    (hown : Own w' e size (.slice (some ⟨g, off, none⟩) n cap) n xs') (hm : Mod w w' (fun k => k = g)) : Held w0 w' (ownT e size (.slice (some ⟨g, off, none⟩) n cap) n xs' :: Rs) := by
  obtain ⟨F, h1, h2, back⟩ := h.take
  refine back w' _ F ⟨hown, h1.2⟩ (hm.mono fun k _ hk => (h1.2 k).2 (by subst hk; rfl)) (fun k hk => .inl hk) (fun k hk => Nat.lt_of_lt_of_le (h2 k hk).2 hm.size)
theorem Mod.set (w : World) (g j : Nat) (u : Value) : Mod w (w.setCell ⟨g, j, none⟩ u) (fun k => k = g) :=
  Mod.setCell (S := fun k => k = g) (Mod.refl w _) (p := ⟨g, j, none⟩) (.inr rfl) u
end Go.Proofs.YtmmfkppkmgjljaaDoor
/-
  Whole numbers as the elements of a slice, and small laws of lists and sums. No program is named here.
-/
namespace Go.Proofs.YtmmfkppkmgjljaaDoor
set_option maxRecDepth 5000
open Go.RowKit
theorem ret_int {k : IntKind} {a b : Int} (h : a = b) : Ending.returned (.int k a) = .returned (.int k b) := by rw [h]
def ints (l : List Int) : List Value := l.map fun n => Value.int .i64 n
theorem ints_length (l : List Int) : (ints l).length = l.length := by simp [ints]
theorem ints_get (l : List Int) (j : Nat) : (ints l)[j]? = (l[j]?).map fun n => Value.int .i64 n := by simp [ints]
theorem ints_one (l : List Int) : ∀ u ∈ ints l, u.oneCell' = true := by
  intro u hu
  obtain ⟨_, _, rfl⟩ := List.mem_map.1 hu
  rfl
theorem ints_append (l m : List Int) : ints (l ++ m) = ints l ++ ints m := by simp [ints]
theorem take_snoc3 (l : List Int) (i : Nat) (a : Int) (h : l[i]? = some a) : l.take (i + 1) = l.take i ++ [a] := by rw [List.take_add_one, h]; rfl
theorem two_pow_int (c : Nat) : ((2 : Int) ^ c) = ((2 ^ c : Nat) : Int) := by simp
theorem allIn_snoc (l : List Int) (a most : Int) : allIn (l ++ [a]) most = (allIn l most && decide (0 ≤ a ∧ a ≤ most)) := by simp [allIn]
theorem allIn_take (l : List Int) (i : Nat) (most : Int) (h : allIn (l.take i) most = false) : allIn l most = false := by
  rw [← List.take_append_drop i l]
  unfold allIn at *
  rw [List.all_append, h]; rfl
theorem coded_snoc (l : List Int) (a : Int) : coded (l ++ [a]) = coded l + (if 0 < a then 1 else 0) := by
  unfold coded
  rw [List.countP_append, List.countP_singleton]
  by_cases h : 0 < a
  · rw [if_pos h]; simp [h]
  · rw [if_neg h]; simp [h]
theorem count1_snoc (l : List Int) (a : Int) : (l ++ [a]).count 1 = l.count 1 + (if a = 1 then 1 else 0) := by
  rw [List.count_append, List.count_singleton]
  by_cases h : a = 1
  · subst h; rfl
  · rw [if_neg h]; simp [h]
theorem check_bad {l : List Int} {most : Int} (h : allIn l most = false) : checkOf l most = 1 := by
  unfold checkOf argBad
  rw [h, if_pos (by simp)]
theorem wrapEq (x : Int) : IntKind.i64.wrap x = wrap64 x := by rw [IntKind.wrap_i64]; unfold wrap64; rfl
theorem wrap_nat (z : Nat) (h : z < 9223372036854775808) : IntKind.i64.wrap (z : Int) = (z : Int) := by rw [wrapEq]; unfold wrap64; omega
end Go.Proofs.YtmmfkppkmgjljaaDoor
