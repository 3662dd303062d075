/-
  Which tokens are sound: the program's and the reference's.
-/
import Derived.Test.YtjmdgcppllnkdaaDoorTokCodes
import Derived.Test.YtjmdgcppllnkdaaDoorSep
import Derived.WalkSpells
namespace Go.Proofs.YtjmdgcppllnkdaaDoor
open Go.RowKit

/-- a token: its byte, its length, its distance -/
abbrev Tok := Int × Int × Int
def tokV (t : Tok) : Value := .agg #[.int .u8 t.1, .int .i64 t.2.1, .int .i64 t.2.2]
def soundB (t : Tok) : Bool := decide (t.2.1 = 0 ∧ t.2.2 = 0) || decide (t.1 = 0 ∧ (3 ≤ t.2.1 ∧ t.2.1 ≤ 258) ∧ (1 ≤ t.2.2 ∧ t.2.2 ≤ 32768))
theorem refSound_any (t : Tok) (w : World) :
    Calls Tryd.prog 18 #[tokV t] w fun e w' => e = .returned (.bool (soundB t)) ∧ Mod w w' (fun _ => False) := by
  obtain ⟨a, l, d⟩ := t
  unfold tokV
  have HM := hid (fun w : World => Mod.refl w (fun _ => False))
  have hs : soundB (a, l, d) = if l = 0 then decide (d = 0) else decide (a = 0) && decide (3 ≤ l) && decide (l ≤ 258) && decide (1 ≤ d) && decide (d ≤ 32768) := by
    unfold soundB
    simp only
    by_cases h : l = 0
    · subst h; simp
    · rw [Bool.eq_iff_iff]; simp [h]; omega
  rw [hs]
  simp only
  by_cases h : l = 0
  · subst h
    rw [if_pos rfl]
    clear hs
    go_enter Tryd.func18, Tryd.ntmps18
    go_wp2
    go_ret
    exact ⟨rfl, (HM.out w).alloc _⟩
  · rw [if_neg h]
    have hl0 : (l == 0) = false := by simp; exact h
    clear hs h
    by_cases h1 : a = 0
    · subst h1
      by_cases h2 : 3 ≤ l
      · have b2 : decide (3 ≤ l) = true := decide_eq_true h2
        by_cases h3 : l ≤ 258
        · have b3 : decide (l ≤ 258) = true := decide_eq_true h3
          by_cases h4 : 1 ≤ d
          · have b4 : decide (1 ≤ d) = true := decide_eq_true h4
            rw [b2, b3, b4]
            generalize hb : decide (d ≤ 32768) = b at *
            go_enter Tryd.func18, Tryd.ntmps18
            go_wp2
            go_ret
            exact ⟨rfl, (HM.out w).alloc _⟩
          · have b4 : decide (1 ≤ d) = false := decide_eq_false h4
            rw [b4, Bool.and_false, Bool.false_and]
            go_enter Tryd.func18, Tryd.ntmps18
            go_wp2
            go_ret
            exact ⟨rfl, (HM.out w).alloc _⟩
        · have b3 : decide (l ≤ 258) = false := decide_eq_false h3
          rw [b3, Bool.and_false, Bool.false_and, Bool.false_and]
          go_enter Tryd.func18, Tryd.ntmps18
          go_wp2
          go_ret
          exact ⟨rfl, (HM.out w).alloc _⟩
      · have b2 : decide (3 ≤ l) = false := decide_eq_false h2
        rw [b2, Bool.and_false, Bool.false_and, Bool.false_and, Bool.false_and]
        go_enter Tryd.func18, Tryd.ntmps18
        go_wp2
        go_ret
        exact ⟨rfl, (HM.out w).alloc _⟩
    · have b1 : decide (a = 0) = false := decide_eq_false h1
      rw [b1, Bool.false_and, Bool.false_and, Bool.false_and, Bool.false_and]
      have ha0 : (a == 0) = false := by simp; exact h1
      go_enter Tryd.func18, Tryd.ntmps18
      go_wp2
      go_ret
      exact ⟨rfl, (HM.out w).alloc _⟩
end Go.Proofs.YtjmdgcppllnkdaaDoor
