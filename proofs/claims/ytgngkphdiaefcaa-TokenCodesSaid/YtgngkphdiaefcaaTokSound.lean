/-
  Which tokens are sound: the program's and the reference's.
-/
import Derived.Test.YtgngkphdiaefcaaTokCodes
import Derived.Test.YtgngkphdiaefcaaSep
import Derived.WalkSpells
namespace Go.Proofs.Ytgngkphdiaefcaa
open Go.RowKit

/-- a token: its byte, its length, its distance -/
abbrev Tok := Int × Int × Int
def tokV (t : Tok) : Value := .agg #[.int .u8 t.1, .int .i64 t.2.1, .int .i64 t.2.2]
def soundB (t : Tok) : Bool := decide (t.2.1 = 0 ∧ t.2.2 = 0) || decide (t.1 = 0 ∧ (3 ≤ t.2.1 ∧ t.2.1 ≤ 258) ∧ (1 ≤ t.2.2 ∧ t.2.2 ≤ 32768))
theorem isLiteral_any (a l d : Int) (w : World) :
    Calls Try.prog 27 #[.agg #[.int .u8 a, .int .i64 l, .int .i64 d]] w fun e w' => e = .returned (.bool (decide (l = 0 ∧ d = 0))) ∧ Mod w w' (fun _ => False) := by
  rcases (by omega : (l = 0 ∧ d = 0) ∨ (l = 0 ∧ ¬ d = 0) ∨ ¬ l = 0) with ⟨rfl, rfl⟩ | ⟨rfl, h⟩ | h
  · go_enter Try.func27, Try.ntmps27
    go_wp2
    go_ret
    exact ⟨rfl, ((Mod.refl w _).alloc _)⟩
  · have e : decide ((0 : Int) = 0 ∧ d = 0) = false := decide_eq_false (by omega)
    rw [e]
    clear e
    go_enter Try.func27, Try.ntmps27
    go_wp2
    go_ret
    exact ⟨rfl, ((Mod.refl w _).alloc _)⟩
  · have e : decide (l = 0 ∧ d = 0) = false := decide_eq_false (by omega)
    rw [e]
    clear e
    go_enter Try.func27, Try.ntmps27
    go_wp2
    go_ret
    exact ⟨rfl, ((Mod.refl w _).alloc _)⟩
theorem isMatch_any (a l d : Int) (w : World) :
    Calls Try.prog 28 #[.agg #[.int .u8 a, .int .i64 l, .int .i64 d]] w fun e w' => e = .returned (.bool (decide (a = 0 ∧ (3 ≤ l ∧ l ≤ 258) ∧ (1 ≤ d ∧ d ≤ 32768)))) ∧ Mod w w' (fun _ => False) := by
  have HL := hid (isLength_any l)
  have HD := hid (isDistance_any d)
  have HM := hid (fun w : World => Mod.refl w (fun _ => False))
  by_cases ha : a = 0
  · subst ha
    by_cases hl : 3 ≤ l ∧ l ≤ 258
    · have e1 : decide (3 ≤ l ∧ l ≤ 258) = true := decide_eq_true hl
      rw [e1] at HL
      have e : decide ((0 : Int) = 0 ∧ (3 ≤ l ∧ l ≤ 258) ∧ (1 ≤ d ∧ d ≤ 32768)) = decide (1 ≤ d ∧ d ≤ 32768) := by rw [Bool.eq_iff_iff]; simp [hl]
      rw [e]
      generalize decide (1 ≤ d ∧ d ≤ 32768) = bd at *
      clear e e1 hl
      go_enter Try.func28, Try.ntmps28
      go_wp2_with fail
      refine (HL.out _).mono ?_
      rintro e w1 ⟨rfl, rfl⟩
      go_wp2_with fail
      refine (HD.out _).mono ?_
      rintro e w1 ⟨rfl, rfl⟩
      go_wp2
      go_ret
      exact ⟨rfl, ((HM.out w).alloc _)⟩
    · have e1 : decide (3 ≤ l ∧ l ≤ 258) = false := decide_eq_false hl
      rw [e1] at HL
      have e : decide ((0 : Int) = 0 ∧ (3 ≤ l ∧ l ≤ 258) ∧ (1 ≤ d ∧ d ≤ 32768)) = false := decide_eq_false (by omega)
      rw [e]
      clear e e1 hl
      go_enter Try.func28, Try.ntmps28
      go_wp2_with fail
      refine (HL.out _).mono ?_
      rintro e w1 ⟨rfl, rfl⟩
      go_wp2
      go_ret
      exact ⟨rfl, ((HM.out w).alloc _)⟩
  · have e : decide (a = 0 ∧ (3 ≤ l ∧ l ≤ 258) ∧ (1 ≤ d ∧ d ≤ 32768)) = false := decide_eq_false (by omega)
    rw [e]
    clear e
    go_enter Try.func28, Try.ntmps28
    go_wp2
    go_ret
    exact ⟨rfl, ((HM.out w).alloc _)⟩
theorem sound_any (t : Tok) (w : World) :
    Calls Try.prog 18 #[tokV t] w fun e w' => e = .returned (.bool (soundB t)) ∧ Mod w w' (fun _ => False) := by
  obtain ⟨a, l, d⟩ := t
  unfold tokV soundB
  simp only
  have HL := hid (isLiteral_any a l d)
  have HD := hid (isMatch_any a l d)
  have HM := hid (fun w : World => Mod.refl w (fun _ => False))
  by_cases h : l = 0 ∧ d = 0
  · have e1 : decide (l = 0 ∧ d = 0) = true := decide_eq_true h
    rw [e1] at HL ⊢
    rw [Bool.true_or]
    clear e1 h HD
    go_enter Try.func18, Try.ntmps18
    go_wp2_with fail
    refine (HL.out _).mono ?_
    rintro e w1 ⟨rfl, hm⟩
    have H1 := hid (((HM.out w).alloc _).trans hm (fun _ _ h => h))
    clear hm
    go_wp2
    go_ret
    exact ⟨rfl, H1.out⟩
  · have e1 : decide (l = 0 ∧ d = 0) = false := decide_eq_false h
    rw [e1] at HL ⊢
    rw [Bool.false_or]
    generalize decide (a = 0 ∧ (3 ≤ l ∧ l ≤ 258) ∧ (1 ≤ d ∧ d ≤ 32768)) = b at *
    clear e1 h
    go_enter Try.func18, Try.ntmps18
    go_wp2_with fail
    refine (HL.out _).mono ?_
    rintro e w1 ⟨rfl, hm⟩
    have hh := ((Held.start w).newObj [.int .u8 a, .int .i64 l, .int .i64 d] 38).same hm
    have c0 := hh.obj.cell (i := 0) rfl
    have c1 := hh.obj.cell (i := 1) rfl
    have c2 := hh.obj.cell (i := 2) rfl
    have H1 := hid hh.mod
    clear hm hh
    go_wp2_with fail
    refine (HD.out _).mono ?_
    rintro e w2 ⟨rfl, hm⟩
    have H2 := hid (H1.out.trans hm (fun _ _ h => h))
    clear hm
    go_wp2
    go_ret
    exact ⟨rfl, H2.out⟩
theorem refSound_any (t : Tok) (w : World) :
    Calls Try.prog 19 #[tokV t] w fun e w' => e = .returned (.bool (soundB t)) ∧ Mod w w' (fun _ => False) := by
  obtain ⟨a, l, d⟩ := t
  unfold tokV
  have HM := hid (fun w : World => Mod.refl w (fun _ => False))
  have hs : soundB (a, l, d) = if l = 0 then decide (d = 0) else decide (a = 0) && decide (3 ≤ l) && decide (l ≤ 258) && decide (1 ≤ d) && decide (d ≤ 32768) := by
    unfold soundB
    simp only
    by_cases h : l = 0
    · subst h; simp
    · rw [Bool.eq_iff_iff]; simp [h]; omega
  rw [hs]
  simp only
  by_cases h : l = 0
  · subst h
    rw [if_pos rfl]
    clear hs
    go_enter Try.func19, Try.ntmps19
    go_wp2
    go_ret
    exact ⟨rfl, (HM.out w).alloc _⟩
  · rw [if_neg h]
    have hl0 : (l == 0) = false := by simp; exact h
    clear hs h
    by_cases h1 : a = 0
    · subst h1
      by_cases h2 : 3 ≤ l
      · have b2 : decide (3 ≤ l) = true := decide_eq_true h2
        by_cases h3 : l ≤ 258
        · have b3 : decide (l ≤ 258) = true := decide_eq_true h3
          by_cases h4 : 1 ≤ d
          · have b4 : decide (1 ≤ d) = true := decide_eq_true h4
            rw [b2, b3, b4]
            generalize hb : decide (d ≤ 32768) = b at *
            go_enter Try.func19, Try.ntmps19
            go_wp2
            go_ret
            exact ⟨rfl, (HM.out w).alloc _⟩
          · have b4 : decide (1 ≤ d) = false := decide_eq_false h4
            rw [b4, Bool.and_false, Bool.false_and]
            go_enter Try.func19, Try.ntmps19
            go_wp2
            go_ret
            exact ⟨rfl, (HM.out w).alloc _⟩
        · have b3 : decide (l ≤ 258) = false := decide_eq_false h3
          rw [b3, Bool.and_false, Bool.false_and, Bool.false_and]
          go_enter Try.func19, Try.ntmps19
          go_wp2
          go_ret
          exact ⟨rfl, (HM.out w).alloc _⟩
      · have b2 : decide (3 ≤ l) = false := decide_eq_false h2
        rw [b2, Bool.and_false, Bool.false_and, Bool.false_and, Bool.false_and]
        go_enter Try.func19, Try.ntmps19
        go_wp2
        go_ret
        exact ⟨rfl, (HM.out w).alloc _⟩
    · have b1 : decide (a = 0) = false := decide_eq_false h1
      rw [b1, Bool.false_and, Bool.false_and, Bool.false_and, Bool.false_and]
      have ha0 : (a == 0) = false := by simp; exact h1
      go_enter Try.func19, Try.ntmps19
      go_wp2
      go_ret
      exact ⟨rfl, (HM.out w).alloc _⟩
end Go.Proofs.Ytgngkphdiaefcaa
