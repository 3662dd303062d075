/-
  Which tokens are sound: the program's and the reference's.
-/
import Derived.Test.YthibpnkdhbkakaaGreatDoorZq05
import Derived.Test.YthibpnkdhbkakaaGreatDoorZq02
import Derived.WalkSpells
import Derived.Test.YthibpnkdhbkakaaGreatDoorZq03
import Derived.Test.YthibpnkdhbkakaaGreatDoorZq01
namespace Go.Proofs.YthibpnkdhbkakaaGreatDoor
set_option maxRecDepth 5000
open Go.RowKit

/-- a token: its byte, its length, its distance -/
abbrev Tok := Int × Int × Int
def tokV (t : Tok) : Value := .agg #[.int .u8 t.1, .int .i64 t.2.1, .int .i64 t.2.2]
def soundB (t : Tok) : Bool := decide (t.2.1 = 0 ∧ t.2.2 = 0) || decide (t.1 = 0 ∧ (3 ≤ t.2.1 ∧ t.2.1 ≤ 258) ∧ (1 ≤ t.2.2 ∧ t.2.2 ≤ 32768))
theorem isLiteral_any (a l d : Int) (w : World) :
    Calls Tryz.prog 61 #[.agg #[.int .u8 a, .int .i64 l, .int .i64 d]] w fun e w' => e = .returned (.bool (decide (l = 0 ∧ d = 0))) ∧ Mod w w' (fun _ => False) := by
  rcases (by omega : (l = 0 ∧ d = 0) ∨ (l = 0 ∧ ¬ d = 0) ∨ ¬ l = 0) with ⟨rfl, rfl⟩ | ⟨rfl, h⟩ | h
  · go_enter Tryz.func61, Tryz.ntmps61
    go_wp2
    go_ret
    exact ⟨rfl, ((Mod.refl w _).alloc _)⟩
  · have e : decide ((0 : Int) = 0 ∧ d = 0) = false := decide_eq_false (by omega)
    rw [e]
    clear e
    go_enter Tryz.func61, Tryz.ntmps61
    go_wp2
    go_ret
    exact ⟨rfl, ((Mod.refl w _).alloc _)⟩
  · have e : decide (l = 0 ∧ d = 0) = false := decide_eq_false (by omega)
    rw [e]
    clear e
    go_enter Tryz.func61, Tryz.ntmps61
    go_wp2
    go_ret
    exact ⟨rfl, ((Mod.refl w _).alloc _)⟩
theorem isMatch_any (a l d : Int) (w : World) :
    Calls Tryz.prog 62 #[.agg #[.int .u8 a, .int .i64 l, .int .i64 d]] w fun e w' => e = .returned (.bool (decide (a = 0 ∧ (3 ≤ l ∧ l ≤ 258) ∧ (1 ≤ d ∧ d ≤ 32768)))) ∧ Mod w w' (fun _ => False) := by
  have HL := hid (isLength_any l)
  have HD := hid (isDistance_any d)
  have HM := hid (fun w : World => Mod.refl w (fun _ => False))
  by_cases ha : a = 0
  · subst ha
    by_cases hl : 3 ≤ l ∧ l ≤ 258
    · have e1 : decide (3 ≤ l ∧ l ≤ 258) = true := decide_eq_true hl
      rw [e1] at HL
      have e : decide ((0 : Int) = 0 ∧ (3 ≤ l ∧ l ≤ 258) ∧ (1 ≤ d ∧ d ≤ 32768)) = decide (1 ≤ d ∧ d ≤ 32768) := by rw [Bool.eq_iff_iff]; simp [hl]
      rw [e]
      generalize decide (1 ≤ d ∧ d ≤ 32768) = bd at *
      clear e e1 hl
      go_enter Tryz.func62, Tryz.ntmps62
      go_wp2_with fail
      refine (HL.out _).mono ?_
      rintro e w1 ⟨rfl, rfl⟩
      go_wp2_with fail
      refine (HD.out _).mono ?_
      rintro e w1 ⟨rfl, rfl⟩
      go_wp2
      go_ret
      exact ⟨rfl, ((HM.out w).alloc _)⟩
    · have e1 : decide (3 ≤ l ∧ l ≤ 258) = false := decide_eq_false hl
      rw [e1] at HL
      have e : decide ((0 : Int) = 0 ∧ (3 ≤ l ∧ l ≤ 258) ∧ (1 ≤ d ∧ d ≤ 32768)) = false := decide_eq_false (by omega)
      rw [e]
      clear e e1 hl
      go_enter Tryz.func62, Tryz.ntmps62
      go_wp2_with fail
      refine (HL.out _).mono ?_
      rintro e w1 ⟨rfl, rfl⟩
      go_wp2
      go_ret
      exact ⟨rfl, ((HM.out w).alloc _)⟩
  · have e : decide (a = 0 ∧ (3 ≤ l ∧ l ≤ 258) ∧ (1 ≤ d ∧ d ≤ 32768)) = false := decide_eq_false (by omega)
    rw [e]
    clear e
    go_enter Tryz.func62, Tryz.ntmps62
    go_wp2
    go_ret
    exact ⟨rfl, ((HM.out w).alloc _)⟩
theorem sound_any (t : Tok) (w : World) :
    Calls Tryz.prog 49 #[tokV t] w fun e w' => e = .returned (.bool (soundB t)) ∧ Mod w w' (fun _ => False) := by
  obtain ⟨a, l, d⟩ := t
  unfold tokV soundB
  simp only
  have HL := hid (isLiteral_any a l d)
  have HD := hid (isMatch_any a l d)
  have HM := hid (fun w : World => Mod.refl w (fun _ => False))
  by_cases h : l = 0 ∧ d = 0
  · have e1 : decide (l = 0 ∧ d = 0) = true := decide_eq_true h
    rw [e1] at HL ⊢
    rw [Bool.true_or]
    clear e1 h HD
    go_enter Tryz.func49, Tryz.ntmps49
    go_wp2_with fail
    refine (HL.out _).mono ?_
    rintro e w1 ⟨rfl, hm⟩
    have H1 := hid (((HM.out w).alloc _).trans hm (fun _ _ h => h))
    clear hm
    go_wp2
    go_ret
    exact ⟨rfl, H1.out⟩
  · have e1 : decide (l = 0 ∧ d = 0) = false := decide_eq_false h
    rw [e1] at HL ⊢
    rw [Bool.false_or]
    generalize decide (a = 0 ∧ (3 ≤ l ∧ l ≤ 258) ∧ (1 ≤ d ∧ d ≤ 32768)) = b at *
    clear e1 h
    go_enter Tryz.func49, Tryz.ntmps49
    go_wp2_with fail
    refine (HL.out _).mono ?_
    rintro e w1 ⟨rfl, hm⟩
    have hh := ((Held.start w).newObj [.int .u8 a, .int .i64 l, .int .i64 d] 47).same hm
    have c0 := hh.obj.cell (i := 0) rfl
    have c1 := hh.obj.cell (i := 1) rfl
    have c2 := hh.obj.cell (i := 2) rfl
    have H1 := hid hh.mod
    clear hm hh
    go_wp2_with fail
    refine (HD.out _).mono ?_
    rintro e w2 ⟨rfl, hm⟩
    have H2 := hid (H1.out.trans hm (fun _ _ h => h))
    clear hm
    go_wp2
    go_ret
    exact ⟨rfl, H2.out⟩
theorem refSound_any (t : Tok) (w : World) :
    Calls Tryz.prog 33 #[tokV t] w fun e w' => e = .returned (.bool (soundB t)) ∧ Mod w w' (fun _ => False) := by
  obtain ⟨a, l, d⟩ := t
  unfold tokV
  have HM := hid (fun w : World => Mod.refl w (fun _ => False))
  have hs : soundB (a, l, d) = if l = 0 then decide (d = 0) else decide (a = 0) && decide (3 ≤ l) && decide (l ≤ 258) && decide (1 ≤ d) && decide (d ≤ 32768) := by
    unfold soundB
    simp only
    by_cases h : l = 0
    · subst h; simp
    · rw [Bool.eq_iff_iff]; simp [h]; omega
  rw [hs]
  simp only
  by_cases h : l = 0
  · subst h
    rw [if_pos rfl]
    clear hs
    go_enter Tryz.func33, Tryz.ntmps33
    go_wp2
    go_ret
    exact ⟨rfl, (HM.out w).alloc _⟩
  · rw [if_neg h]
    have hl0 : (l == 0) = false := by simp; exact h
    clear hs h
    by_cases h1 : a = 0
    · subst h1
      by_cases h2 : 3 ≤ l
      · have b2 : decide (3 ≤ l) = true := decide_eq_true h2
        by_cases h3 : l ≤ 258
        · have b3 : decide (l ≤ 258) = true := decide_eq_true h3
          by_cases h4 : 1 ≤ d
          · have b4 : decide (1 ≤ d) = true := decide_eq_true h4
            rw [b2, b3, b4]
            generalize hb : decide (d ≤ 32768) = b at *
            go_enter Tryz.func33, Tryz.ntmps33
            go_wp2
            go_ret
            exact ⟨rfl, (HM.out w).alloc _⟩
          · have b4 : decide (1 ≤ d) = false := decide_eq_false h4
            rw [b4, Bool.and_false, Bool.false_and]
            go_enter Tryz.func33, Tryz.ntmps33
            go_wp2
            go_ret
            exact ⟨rfl, (HM.out w).alloc _⟩
        · have b3 : decide (l ≤ 258) = false := decide_eq_false h3
          rw [b3, Bool.and_false, Bool.false_and, Bool.false_and]
          go_enter Tryz.func33, Tryz.ntmps33
          go_wp2
          go_ret
          exact ⟨rfl, (HM.out w).alloc _⟩
      · have b2 : decide (3 ≤ l) = false := decide_eq_false h2
        rw [b2, Bool.and_false, Bool.false_and, Bool.false_and, Bool.false_and]
        go_enter Tryz.func33, Tryz.ntmps33
        go_wp2
        go_ret
        exact ⟨rfl, (HM.out w).alloc _⟩
    · have b1 : decide (a = 0) = false := decide_eq_false h1
      rw [b1, Bool.false_and, Bool.false_and, Bool.false_and, Bool.false_and]
      have ha0 : (a == 0) = false := by simp; exact h1
      go_enter Tryz.func33, Tryz.ntmps33
      go_wp2
      go_ret
      exact ⟨rfl, (HM.out w).alloc _⟩
end Go.Proofs.YthibpnkdhbkakaaGreatDoor
/-
  Copies of earlier bytes. No program is named here.
-/
namespace Go.Proofs.YthibpnkdhbkakaaGreatDoor
set_option maxRecDepth 5000

/-- n bytes more, each the one that is d places before it -/
def ext (l : List Nat) (d : Nat) : Nat → List Nat
  | 0 => l
  | n + 1 => ext l d n ++ [(ext l d n)[l.length + n - d]?.getD 0]
theorem ext_length (l : List Nat) (d : Nat) : ∀ n, (ext l d n).length = l.length + n
  | 0 => rfl
  | n + 1 => by rw [ext, List.length_append, ext_length l d n]; rfl
/-- the bytes that are copied -/
def out (l : List Nat) (d n : Nat) : List Nat := (ext l d n).drop l.length
theorem out_length (l : List Nat) (d n : Nat) : (out l d n).length = n := by rw [out, List.length_drop, ext_length]; omega
theorem ext_out (l : List Nat) (d : Nat) : ∀ n, ext l d n = l ++ out l d n
  | 0 => by simp [ext, out]
  | n + 1 => by
    have ih := ext_out l d n
    rw [out, ext, List.drop_append_of_le_length (by rw [ext_length]; omega)]
    show ext l d n ++ _ = l ++ (out l d n ++ _)
    rw [← List.append_assoc, ← ih]
theorem out_succ (l : List Nat) (d n : Nat) : out l d (n + 1) = out l d n ++ [(ext l d n)[l.length + n - d]?.getD 0] := by
  rw [out, ext, List.drop_append_of_le_length (by rw [ext_length]; omega)]; rfl
theorem ext_lt (l : List Nat) (d : Nat) (h : ∀ b ∈ l, b < 256) : ∀ n, ∀ b ∈ ext l d n, b < 256
  | 0 => h
  | n + 1 => fun b hb => by
    have ih := ext_lt l d h n
    rcases List.mem_append.1 hb with hb | hb
    · exact ih b hb
    · rw [List.mem_singleton.1 hb]
      cases e : (ext l d n)[l.length + n - d]? with
      | none => decide
      | some x => exact ih x (List.mem_of_getElem? e)
theorem ext_take (l : List Nat) (d : Nat) (m : Nat) : ∀ k, (ext l d (m + k)).take (l.length + m) = ext l d m
  | 0 => by rw [Nat.add_zero, List.take_of_length_le (by rw [ext_length]; exact Nat.le_refl _)]
  | k + 1 => by
    rw [← Nat.add_assoc, ext, List.take_append_of_le_length (by rw [ext_length]; omega), ext_take l d m k]
/-- A copied byte is the one that is d places before it. -/
theorem ext_get (l : List Nat) (d n i : Nat) (hi : i < n) (h1 : 1 ≤ d) (h2 : d ≤ l.length) : (ext l d n)[l.length + i]? = (ext l d n)[l.length + i - d]? := by
  have ht := ext_take l d (i + 1) (n - (i + 1))
  rw [show i + 1 + (n - (i + 1)) = n by omega] at ht
  have e1 : (ext l d n)[l.length + i]? = (ext l d (i + 1))[l.length + i]? := by rw [← ht, List.getElem?_take_of_lt (by omega)]
  have e2 : (ext l d n)[l.length + i - d]? = (ext l d (i + 1))[l.length + i - d]? := by rw [← ht, List.getElem?_take_of_lt (by omega)]
  have hL := ext_length l d i
  obtain ⟨x, hx⟩ : ∃ x, (ext l d i)[l.length + i - d]? = some x := ⟨(ext l d i)[l.length + i - d]'(by omega), List.getElem?_eq_getElem _⟩
  have hE : ext l d (i + 1) = ext l d i ++ [x] := by rw [ext, hx]; rfl
  have a1 : (ext l d i ++ [x])[l.length + i]? = some x := by rw [List.getElem?_append_right (by omega), hL]; simp
  have a2 : (ext l d i ++ [x])[l.length + i - d]? = some x := by rw [List.getElem?_append_left (by omega)]; exact hx
  rw [e1, e2, hE, a1, a2]
/-- They are the last d bytes, over and over. -/
theorem ext_mod (l : List Nat) (d n : Nat) (h1 : 1 ≤ d) (h2 : d ≤ l.length) (i : Nat) (hi : i < n) : (ext l d n)[l.length + i]? = l[l.length - d + i % d]? := by
  induction i using Nat.strongRecOn with
  | _ i ih =>
    rw [ext_get l d n i hi h1 h2]
    by_cases h : i < d
    · rw [ext_out, List.getElem?_append_left (by omega), Nat.mod_eq_of_lt h]
      congr 1; omega
    · have := ih (i - d) (by omega) (by omega)
      rw [show l.length + i - d = l.length + (i - d) by omega, this]
      congr 2
      exact (Nat.mod_eq_sub_mod (by omega)).symm
theorem out_get (l : List Nat) (d n i : Nat) (hi : i < n) (h1 : 1 ≤ d) (h2 : d ≤ l.length) : (out l d n)[i]? = l[l.length - d + i % d]? := by
  rw [← ext_mod l d n h1 h2 i hi, out, List.getElem?_drop]
theorem out_lt (l : List Nat) (d n : Nat) (h : ∀ b ∈ l, b < 256) : ∀ b ∈ out l d n, b < 256 := fun b hb => ext_lt l d h n b (List.mem_of_mem_drop hb)
end Go.Proofs.YthibpnkdhbkakaaGreatDoor
/-
  Lists of tokens in memory, and what they expand to.
-/
namespace Go.Proofs.YthibpnkdhbkakaaGreatDoor
set_option maxRecDepth 5000
open Go.RowKit

def toksV (l : List Tok) : List Value := l.flatMap fun t => [.int .u8 t.1, .int .i64 t.2.1, .int .i64 t.2.2]
theorem toksV_cons (x : Tok) (l : List Tok) : toksV (x :: l) = .int .u8 x.1 :: .int .i64 x.2.1 :: .int .i64 x.2.2 :: toksV l := by simp [toksV]
theorem toksV_app (l m : List Tok) : toksV (l ++ m) = toksV l ++ toksV m := by simp [toksV]
theorem toksV_length (l : List Tok) : (toksV l).length = l.length * 3 := by
  induction l with
  | nil => rfl
  | cons x l ih => rw [toksV_cons]; simp [ih]; omega
theorem toksV_get : ∀ (l : List Tok) (j : Nat) (x : Tok), l[j]? = some x → (toksV l)[j * 3]? = some (.int .u8 x.1) ∧ (toksV l)[j * 3 + 1]? = some (.int .i64 x.2.1) ∧ (toksV l)[j * 3 + 2]? = some (.int .i64 x.2.2)
  | [], _, _, h => by simp at h
  | y :: l, 0, x, h => by
    obtain rfl : y = x := by simpa using h
    rw [toksV_cons]; simp
  | y :: l, j + 1, x, h => by
    have := toksV_get l j x (by simpa using h)
    rw [toksV_cons, show (j + 1) * 3 = j * 3 + 1 + 1 + 1 by omega, show j * 3 + 1 + 1 + 1 + 1 = (j * 3 + 1) + 1 + 1 + 1 by omega, show j * 3 + 1 + 1 + 1 + 2 = (j * 3 + 2) + 1 + 1 + 1 by omega]
    simpa using this
theorem toksV_one (l : List Tok) : ∀ u ∈ toksV l, u.oneCell' = true := by
  intro u hu
  obtain ⟨x, _, hx⟩ := List.mem_flatMap.1 hu
  simp only [List.mem_cons, List.not_mem_nil, or_false] at hx
  rcases hx with rfl | rfl | rfl <;> rfl
/-- where a token lies -/
theorem Rd.tok {w : World} {ao : Option Addr} {n cap : Nat} {l : List Tok} (h : Rd w 3 (.slice ao n cap) n (toksV l)) {i : Nat} {t : Tok} (hi : l[i]? = some t) :
    ∃ g off, ao = some ⟨g, off, none⟩ ∧ w.cell? ⟨g, off + i * 3, none⟩ = some (.int .u8 t.1) ∧ w.cell? ⟨g, off + i * 3 + 1, none⟩ = some (.int .i64 t.2.1) ∧ w.cell? ⟨g, off + i * 3 + 2, none⟩ = some (.int .i64 t.2.2) := by
  have hl := h.1
  rw [toksV_length] at hl
  have hil := (List.getElem?_eq_some_iff.1 hi).1
  obtain ⟨g, off, rfl, hc⟩ := h.spot (by omega)
  obtain ⟨h1, h2, h3⟩ := toksV_get l i t hi
  exact ⟨g, off, rfl, hc _ _ h1, hc _ _ h2, hc _ _ h3⟩
theorem Rd.toks_len {w : World} {v : Value} {n : Nat} {l : List Tok} (h : Rd w 3 v n (toksV l)) : n = l.length := by
  have := h.1
  rw [toksV_length] at this; omega

/-! ### What they expand to -/
def most : Nat := 16777216
def stepT (acc : List Nat) (t : Tok) : Nat × List Nat :=
  if soundB t = false then (1, [])
  else if t.2.1 = 0 then (if most ≤ acc.length then (6, []) else (0, acc ++ [t.1.toNat]))
  else if most < acc.length + t.2.1.toNat then (6, [])
  else if acc.length < t.2.2.toNat then (3, []) else (0, ext acc t.2.2.toNat t.2.1.toNat)
def expT : List Nat → List Tok → Nat × List Nat
  | acc, [] => (0, acc)
  | acc, t :: r => if (stepT acc t).1 = 0 then expT (stepT acc t).2 r else ((stepT acc t).1, [])
def byteOK (l : List Tok) : Prop := ∀ t ∈ l, 0 ≤ t.1 ∧ t.1 ≤ 255
theorem expT_cons (acc : List Nat) (t : Tok) (r : List Tok) : expT acc (t :: r) = if (stepT acc t).1 = 0 then expT (stepT acc t).2 r else ((stepT acc t).1, []) := rfl
theorem expT_drop (acc : List Nat) (l : List Tok) (i : Nat) (t : Tok) (h : l[i]? = some t) : expT acc (l.drop i) = if (stepT acc t).1 = 0 then expT (stepT acc t).2 (l.drop (i + 1)) else ((stepT acc t).1, []) := by
  have hi := (List.getElem?_eq_some_iff.1 h).1
  have hb := (List.getElem?_eq_some_iff.1 h).2
  rw [List.drop_eq_getElem_cons hi, hb, expT_cons]
theorem sound_lit {t : Tok} (h : soundB t = true) (h0 : t.2.1 = 0) : t.2.2 = 0 := by
  unfold soundB at h
  rw [Bool.or_eq_true, decide_eq_true_eq, decide_eq_true_eq] at h
  omega
theorem sound_match {t : Tok} (h : soundB t = true) (h0 : t.2.1 ≠ 0) : t.1 = 0 ∧ (3 ≤ t.2.1 ∧ t.2.1 ≤ 258) ∧ (1 ≤ t.2.2 ∧ t.2.2 ≤ 32768) := by
  unfold soundB at h
  rw [Bool.or_eq_true, decide_eq_true_eq, decide_eq_true_eq] at h
  omega
theorem stepT_bad {acc : List Nat} {t : Tok} (h : soundB t = false) : stepT acc t = (1, []) := if_pos h
theorem stepT_litCap {acc : List Nat} {t : Tok} (h : soundB t = true) (h0 : t.2.1 = 0) (hc : most ≤ acc.length) : stepT acc t = (6, []) := by
  unfold stepT; rw [if_neg (by rw [h]; simp), if_pos h0, if_pos hc]
theorem stepT_lit {acc : List Nat} {t : Tok} (h : soundB t = true) (h0 : t.2.1 = 0) (hc : ¬ most ≤ acc.length) : stepT acc t = (0, acc ++ [t.1.toNat]) := by
  unfold stepT; rw [if_neg (by rw [h]; simp), if_pos h0, if_neg hc]
theorem stepT_matchCap {acc : List Nat} {t : Tok} (h : soundB t = true) (h0 : t.2.1 ≠ 0) (hc : most < acc.length + t.2.1.toNat) : stepT acc t = (6, []) := by
  unfold stepT; rw [if_neg (by rw [h]; simp), if_neg h0, if_pos hc]
theorem stepT_far {acc : List Nat} {t : Tok} (h : soundB t = true) (h0 : t.2.1 ≠ 0) (hc : ¬ most < acc.length + t.2.1.toNat) (hd : acc.length < t.2.2.toNat) : stepT acc t = (3, []) := by
  unfold stepT; rw [if_neg (by rw [h]; simp), if_neg h0, if_neg hc, if_pos hd]
theorem stepT_match {acc : List Nat} {t : Tok} (h : soundB t = true) (h0 : t.2.1 ≠ 0) (hc : ¬ most < acc.length + t.2.1.toNat) (hd : ¬ acc.length < t.2.2.toNat) : stepT acc t = (0, ext acc t.2.2.toNat t.2.1.toNat) := by
  unfold stepT; rw [if_neg (by rw [h]; simp), if_neg h0, if_neg hc, if_neg hd]
theorem stepT_le (acc : List Nat) (t : Tok) (h : (stepT acc t).1 = 0) : (stepT acc t).2.length ≤ most ∧ acc <+: (stepT acc t).2 := by
  unfold stepT at h ⊢
  split <;> rename_i c1
  · rw [if_pos c1] at h; simp at h
  · rw [if_neg c1] at h
    split <;> rename_i c2
    · rw [if_pos c2] at h
      split <;> rename_i c3
      · rw [if_pos c3] at h; simp at h
      · exact ⟨by simp; omega, ⟨_, rfl⟩⟩
    · rw [if_neg c2] at h
      split <;> rename_i c3
      · rw [if_pos c3] at h; simp at h
      · rw [if_neg c3] at h
        split <;> rename_i c4
        · rw [if_pos c4] at h; simp at h
        · refine ⟨by simp only [ext_length]; omega, ?_⟩
          simp only
          rw [ext_out]; exact ⟨_, rfl⟩
theorem stepT_bytes (acc : List Nat) (t : Tok) (ha : ∀ b ∈ acc, b < 256) (ht : 0 ≤ t.1 ∧ t.1 ≤ 255) : ∀ b ∈ (stepT acc t).2, b < 256 := by
  unfold stepT
  split
  · simp
  · split
    · split
      · simp
      · intro b hb
        rcases List.mem_append.1 hb with hb | hb
        · exact ha b hb
        · rw [List.mem_singleton.1 hb]; omega
    · split
      · simp
      · split
        · simp
        · exact ext_lt _ _ ha _
theorem expT_app : ∀ (l m : List Tok) (acc : List Nat), expT acc (l ++ m) = if (expT acc l).1 = 0 then expT (expT acc l).2 m else expT acc l
  | [], m, acc => by simp [expT]
  | t :: r, m, acc => by
    rw [List.cons_append, expT_cons, expT_cons]
    by_cases h : (stepT acc t).1 = 0
    · rw [if_pos h, if_pos h]; exact expT_app r m _
    · rw [if_neg h, if_neg h, if_neg h]
theorem expT_err : ∀ (l : List Tok) (acc : List Nat), (expT acc l).1 ≠ 0 → (expT acc l).2 = []
  | [], acc, h => by simp [expT] at h
  | t :: r, acc, h => by
    rw [expT_cons] at h ⊢
    by_cases h1 : (stepT acc t).1 = 0
    · rw [if_pos h1] at h ⊢; exact expT_err r _ h
    · rw [if_neg h1]
theorem expT_pre : ∀ (l : List Tok) (acc : List Nat), (expT acc l).1 = 0 → acc <+: (expT acc l).2
  | [], acc, _ => ⟨[], by simp [expT]⟩
  | t :: r, acc, h => by
    rw [expT_cons] at h ⊢
    by_cases h1 : (stepT acc t).1 = 0
    · rw [if_pos h1] at h ⊢
      exact (stepT_le acc t h1).2.trans (expT_pre r _ h)
    · rw [if_neg h1] at h; exact absurd h h1
theorem expT_le : ∀ (l : List Tok) (acc : List Nat), acc.length ≤ most → (expT acc l).2.length ≤ most
  | [], _, h => h
  | t :: r, acc, h => by
    rw [expT_cons]
    by_cases h1 : (stepT acc t).1 = 0
    · rw [if_pos h1]; exact expT_le r _ (stepT_le acc t h1).1
    · rw [if_neg h1]; exact Nat.zero_le _
end Go.Proofs.YthibpnkdhbkakaaGreatDoor
/-
  What bytes mean as a stream: a model of reading, on bits. No program is named here.
-/
namespace Go.Proofs.YthibpnkdhbkakaaGreatDoor
set_option maxRecDepth 5000

def takeM (bs : List Nat) (a n : Nat) : Option Nat := if a + n ≤ bs.length then some (numOf ((bs.drop a).take n)) else none
/-- the symbol that stands there: its number, its number of bits, or an error -/
noncomputable def symF (l : List Int) (r : List Nat) : Nat × Nat × Nat :=
  haveI := Classical.propDecidable (∃ p : Nat × Nat, Hit l r p.1 p.2)
  if h : ∃ p : Nat × Nat, Hit l r p.1 p.2 then ((Classical.choose h).1, (Classical.choose h).2, 0) else (0, 0, if r.length < lng l ∨ r = [] then 5 else 3)
theorem symF_is (l : List Int) (r : List Nat) : ReadIs l r (symF l r).1 (symF l r).2.1 (symF l r).2.2 := by
  unfold symF
  by_cases h : ∃ p : Nat × Nat, Hit l r p.1 p.2
  · rw [dif_pos h]
    exact .inl ⟨rfl, Classical.choose_spec h⟩
  · rw [dif_neg h]
    exact .inr ⟨rfl, rfl, fun i m hh => h ⟨(i, m), hh⟩, rfl⟩
theorem symF_of {l : List Int} {r : List Nat} {k n e : Nat} (hb : isBits r) (hl : ∀ a ∈ l, 0 ≤ a ∧ a ≤ 15) (h : ReadIs l r k n e) : symF l r = (k, n, e) := by
  obtain ⟨h1, h2, h3⟩ := (symF_is l r).one hb hl h
  rw [← h1, ← h2, ← h3]
theorem symF_hit {l : List Int} {r : List Nat} (h : (symF l r).2.2 = 0) : Hit l r (symF l r).1 (symF l r).2.1 := by
  rcases symF_is l r with ⟨_, hh⟩ | ⟨_, _, _, he⟩
  · exact hh
  · rw [h] at he
    split at he <;> cases he
/-- one step of a block's tokens: is it over, the error (0: none), where it stands, what came out, the tokens -/
noncomputable def stepF (lit dist : List Int) (bs : List Nat) (M a : Nat) (out : List Nat) (tk : List Tok) : Bool × Nat × Nat × List Nat × List Tok :=
  if (symF lit (bs.drop a)).2.2 ≠ 0 then (true, (symF lit (bs.drop a)).2.2, a, out, tk)
  else if (symF lit (bs.drop a)).1 = 256 then (true, 0, a + (symF lit (bs.drop a)).2.1, out, tk)
  else if (symF lit (bs.drop a)).1 < 256 then
    if M ≤ out.length then (true, 6, a + (symF lit (bs.drop a)).2.1, out, tk ++ [(((symF lit (bs.drop a)).1 : Int), 0, 0)])
    else (false, 0, a + (symF lit (bs.drop a)).2.1, out ++ [(symF lit (bs.drop a)).1], tk ++ [(((symF lit (bs.drop a)).1 : Int), 0, 0)])
  else if 285 < (symF lit (bs.drop a)).1 then (true, 3, a + (symF lit (bs.drop a)).2.1, out, tk)
  else matchF dist bs M (a + (symF lit (bs.drop a)).2.1) ((symF lit (bs.drop a)).1 - 257) out tk
where
  matchF (dist : List Int) (bs : List Nat) (M a1 c : Nat) (out : List Nat) (tk : List Tok) : Bool × Nat × Nat × List Nat × List Tok :=
    match takeM bs a1 (lX c) with
    | none => (true, 5, a1, out, tk)
    | some more =>
      if (symF dist (bs.drop (a1 + lX c))).2.2 ≠ 0 then (true, (symF dist (bs.drop (a1 + lX c))).2.2, a1 + lX c, out, tk)
      else farF bs M (a1 + lX c + (symF dist (bs.drop (a1 + lX c))).2.1) (symF dist (bs.drop (a1 + lX c))).1 (lB c + more) out tk
  farF (bs : List Nat) (M a3 q n : Nat) (out : List Nat) (tk : List Tok) : Bool × Nat × Nat × List Nat × List Tok :=
    if 29 < q then (true, 3, a3, out, tk)
    else match takeM bs a3 (dX q) with
      | none => (true, 5, a3, out, tk)
      | some far =>
        if out.length < dB q + far then (true, 3, a3 + dX q, out, tk)
        else if M < out.length + n then (true, 6, a3 + dX q, ext out (dB q + far) (M - out.length), tk ++ [(0, (n : Int), ((dB q + far : Nat) : Int))])
        else (false, 0, a3 + dX q, ext out (dB q + far) n, tk ++ [(0, (n : Int), ((dB q + far : Nat) : Int))])
/-- the tokens of a block: the error (0: none), where it stands, what came out, the tokens -/
noncomputable def tokF (lit dist : List Int) (bs : List Nat) (M : Nat) : Nat → Nat → List Nat → List Tok → Nat × Nat × List Nat × List Tok
  | 0, a, out, tk => (5, a, out, tk)
  | f + 1, a, out, tk =>
    if (stepF lit dist bs M a out tk).1 = true then (stepF lit dist bs M a out tk).2
    else tokF lit dist bs M f (stepF lit dist bs M a out tk).2.2.1 (stepF lit dist bs M a out tk).2.2.2.1 (stepF lit dist bs M a out tk).2.2.2.2
theorem tokF_over {lit dist : List Int} {bs : List Nat} {M f a e a' : Nat} {out out' : List Nat} {tk tk' : List Tok} (h : stepF lit dist bs M a out tk = (true, e, a', out', tk')) : tokF lit dist bs M (f + 1) a out tk = (e, a', out', tk') := by
  rw [tokF, h]; rfl
theorem tokF_on {lit dist : List Int} {bs : List Nat} {M f a e a' : Nat} {out out' : List Nat} {tk tk' : List Tok} (h : stepF lit dist bs M a out tk = (false, e, a', out', tk')) : tokF lit dist bs M (f + 1) a out tk = tokF lit dist bs M f a' out' tk' := by
  rw [tokF, h]; rfl
/-- bytes that are copied: the error, where it stands, what came out -/
def copyF (bs : List Nat) (M : Nat) : Nat → Nat → List Nat → Nat × Nat × List Nat
  | 0, a, out => (0, a, out)
  | n + 1, a, out => match takeM bs a 8 with
    | none => (5, a, out)
    | some c => if M ≤ out.length then (6, a + 8, out) else copyF bs M n (a + 8) (out ++ [c])
def evenF (a : Nat) : Nat := (a + 7) / 8 * 8
def storedF (bs : List Nat) (M a : Nat) (out : List Nat) : Nat × Nat × List Nat :=
  let a1 := evenF a
  if bs.length < a1 + 32 then (5, a1, out)
  else
    let n := numOf ((bs.drop a1).take 16)
    if n + numOf ((bs.drop (a1 + 16)).take 16) ≠ 65535 then (2, a1 + 32, out) else copyF bs M n (a1 + 32) out
theorem copyF_len (bs : List Nat) (M : Nat) : ∀ n a out, (copyF bs M n a out).2.2.length ≤ out.length + n
  | 0, a, out => Nat.le_refl _
  | n + 1, a, out => by
    unfold copyF
    split
    · simp
    · split
      · simp
      · have := copyF_len bs M n (a + 8) (out ++ [‹Nat›])
        simp at this ⊢; omega
end Go.Proofs.YthibpnkdhbkakaaGreatDoor
/-
  The model of tokens, case by case. No program is named here.
-/
namespace Go.Proofs.YthibpnkdhbkakaaGreatDoor
set_option maxRecDepth 5000

section
variable {lit dist : List Int} {bs : List Nat} {M a k n e : Nat} {out : List Nat} {tk : List Tok}
theorem step_err (h : symF lit (bs.drop a) = (k, n, e)) (he : e ≠ 0) : stepF lit dist bs M a out tk = (true, e, a, out, tk) := by
  unfold stepF; rw [h]; exact if_pos he
theorem step_end (h : symF lit (bs.drop a) = (256, n, 0)) : stepF lit dist bs M a out tk = (true, 0, a + n, out, tk) := by
  unfold stepF; rw [h]; rfl
theorem step_litcap (h : symF lit (bs.drop a) = (k, n, 0)) (hk : k < 256) (hM : M ≤ out.length) : stepF lit dist bs M a out tk = (true, 6, a + n, out, tk ++ [((k : Int), 0, 0)]) := by
  unfold stepF; rw [h]
  dsimp only
  rw [if_neg (fun h => h rfl), if_neg (by omega), if_pos hk, if_pos hM]
theorem step_lit (h : symF lit (bs.drop a) = (k, n, 0)) (hk : k < 256) (hM : ¬ M ≤ out.length) : stepF lit dist bs M a out tk = (false, 0, a + n, out ++ [k], tk ++ [((k : Int), 0, 0)]) := by
  unfold stepF; rw [h]
  dsimp only
  rw [if_neg (fun h => h rfl), if_neg (by omega), if_pos hk, if_neg hM]
theorem step_badlen (h : symF lit (bs.drop a) = (k, n, 0)) (hk : 285 < k) : stepF lit dist bs M a out tk = (true, 3, a + n, out, tk) := by
  unfold stepF; rw [h]
  dsimp only
  rw [if_neg (fun h => h rfl), if_neg (by omega), if_neg (by omega), if_pos hk]
theorem step_len (h : symF lit (bs.drop a) = (k, n, 0)) (hk : 256 < k) (hk2 : k ≤ 285) : stepF lit dist bs M a out tk = stepF.matchF dist bs M (a + n) (k - 257) out tk := by
  unfold stepF; rw [h]
  dsimp only
  rw [if_neg (fun h => h rfl), if_neg (by omega), if_neg (by omega), if_neg (by omega)]
variable {a1 c more k2 n2 e2 : Nat}
theorem match_end (ht : takeM bs a1 (lX c) = none) : stepF.matchF dist bs M a1 c out tk = (true, 5, a1, out, tk) := by
  unfold stepF.matchF; rw [ht]
theorem match_err (ht : takeM bs a1 (lX c) = some more) (h2 : symF dist (bs.drop (a1 + lX c)) = (k2, n2, e2)) (he : e2 ≠ 0) : stepF.matchF dist bs M a1 c out tk = (true, e2, a1 + lX c, out, tk) := by
  unfold stepF.matchF; rw [ht, h2]; exact if_pos he
theorem match_far (ht : takeM bs a1 (lX c) = some more) (h2 : symF dist (bs.drop (a1 + lX c)) = (k2, n2, 0)) : stepF.matchF dist bs M a1 c out tk = stepF.farF bs M (a1 + lX c + n2) k2 (lB c + more) out tk := by
  unfold stepF.matchF; rw [ht, h2]; exact if_neg (fun h => h rfl)
variable {a3 q L far : Nat}
theorem far_bad (h : 29 < q) : stepF.farF bs M a3 q L out tk = (true, 3, a3, out, tk) := by
  unfold stepF.farF; exact if_pos h
theorem far_end (h : ¬ 29 < q) (ht : takeM bs a3 (dX q) = none) : stepF.farF bs M a3 q L out tk = (true, 5, a3, out, tk) := by
  unfold stepF.farF; rw [if_neg h, ht]
theorem far_far (h : ¬ 29 < q) (ht : takeM bs a3 (dX q) = some far) (hd : out.length < dB q + far) : stepF.farF bs M a3 q L out tk = (true, 3, a3 + dX q, out, tk) := by
  unfold stepF.farF; rw [if_neg h, ht]; exact if_pos hd
theorem far_cap (h : ¬ 29 < q) (ht : takeM bs a3 (dX q) = some far) (hd : ¬ out.length < dB q + far) (hM : M < out.length + L) : stepF.farF bs M a3 q L out tk = (true, 6, a3 + dX q, ext out (dB q + far) (M - out.length), tk ++ [(0, (L : Int), ((dB q + far : Nat) : Int))]) := by
  unfold stepF.farF; rw [if_neg h, ht]
  dsimp only
  rw [if_neg hd, if_pos hM]
theorem far_ok (h : ¬ 29 < q) (ht : takeM bs a3 (dX q) = some far) (hd : ¬ out.length < dB q + far) (hM : ¬ M < out.length + L) : stepF.farF bs M a3 q L out tk = (false, 0, a3 + dX q, ext out (dB q + far) L, tk ++ [(0, (L : Int), ((dB q + far : Nat) : Int))]) := by
  unfold stepF.farF; rw [if_neg h, ht]
  dsimp only
  rw [if_neg hd, if_neg hM]
end
end Go.Proofs.YthibpnkdhbkakaaGreatDoor
