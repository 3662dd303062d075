/-
  The landed PrintHeader: what may be printed, the flags, numbers, and all of a header.
-/
import Derived.Test.YtkdmdbojcdonpaaGreatDoorHdrP2
import Derived.Test.YtkdmdbojcdonpaaGreatDoorHdrP3
import Derived.Laws.Closers25
namespace Go.Proofs.YtkdmdbojcdonpaaGreatDoor
set_option maxRecDepth 5000
open Go.RowKit

section
variable {w0 w : World} {Rs : List Thing} {S : Thing}
/-! ### What may be printed -/
def goodTextB (x : List Nat) (has : Bool) : Bool := decide (x.length ≤ 4096) && (has || decide (x = [])) && decide (∀ b ∈ x, b ≠ 0)
theorem goodTextB_iff {x : List Nat} {has : Bool} : goodTextB x has = true ↔ goodText x has := by
  unfold goodTextB goodText
  rw [Bool.and_eq_true, Bool.and_eq_true, Bool.or_eq_true, decide_eq_true_iff, decide_eq_true_iff, decide_eq_true_iff]
  exact ⟨fun ⟨⟨a, b⟩, c⟩ => ⟨a, b, c⟩, fun ⟨a, b, c⟩ => ⟨⟨a, b⟩, c⟩⟩
def goodExtraB (h : Hdr) : Bool := decide (h.extra.length ≤ 65535) && (h.hasExtra || decide (h.extra = []))
def goodB (h : Hdr) : Bool := goodExtraB h && goodTextB h.name h.hasName && goodTextB h.note h.hasNote
theorem goodB_iff {h : Hdr} : goodB h = true ↔ GoodH h := by
  unfold goodB goodExtraB
  rw [Bool.and_eq_true, Bool.and_eq_true, Bool.and_eq_true, Bool.or_eq_true, decide_eq_true_iff, decide_eq_true_iff, goodTextB_iff, goodTextB_iff]
  exact ⟨fun ⟨⟨a, b⟩, c⟩ => ⟨a, b, c⟩, fun ⟨a, b, c⟩ => ⟨⟨a, b⟩, c⟩⟩
theorem strB_empty (x : List Nat) : strB x = ⟨#[]⟩ ↔ x = [] := by
  constructor
  · intro h
    have := congrArg ByteArray.size h
    rw [strB_size] at this
    exact List.eq_nil_of_length_eq_zero this
  · rintro rfl; rfl
set_option maxHeartbeats 1600000 in
theorem goodText_any (x : List Nat) (has : Bool) (w : World) (hx : ∀ b ∈ x, b < 256) (hl : x.length < 4294967281) :
    Calls Tryz.prog 37 #[strV x, .bool has] w fun e w' => e = .returned (.bool (goodTextB x has)) ∧ w' = w := by
  have HI := hid (idxStr_any x hx w)
  have hsz := strB_size x
  have hem := strB_empty x
  unfold goodTextB
  obtain ⟨n, hn⟩ : ∃ n, n = x.length := ⟨_, rfl⟩
  rw [← hn] at hsz hl ⊢
  have hz0 : zeroI x < 0 ↔ ∀ b ∈ x, b ≠ 0 := by
    rw [← zeroAt_none]
    unfold zeroI
    cases zeroAt x with
    | none => exact ⟨fun _ => rfl, fun _ => by decide⟩
    | some i => exact ⟨fun h => absurd h (by show ¬ (i : Int) < 0; omega), fun h => by cases h⟩
  obtain ⟨z, hz⟩ : ∃ z, z = zeroI x := ⟨_, rfl⟩
  rw [← hz] at hz0 HI
  have hn0 : (0 : Int) ≤ (n : Int) := Int.natCast_nonneg _
  have HZ := hid hz0
  have HE := hid hem
  clear hz hz0 hem hn
  unfold strV at HI ⊢
  generalize strB x = s at HI hsz HE ⊢
  obtain ⟨q, hq⟩ : ∃ q : Bool, q = decide (∀ b ∈ x, b ≠ 0) := ⟨_, rfl⟩
  have hzq : decide (z < 0) = q := by rw [hq]; exact decide_eq_decide.2 HZ.out
  rw [← hq]
  clear hq
  by_cases h1 : n ≤ 4096
  · have h1I : (n : Int) ≤ 4096 := by omega
    rw [decide_eq_true h1, Bool.true_and]
    cases has with
    | true =>
      rw [Bool.true_or, Bool.true_and]
      have HQ := hid hzq
      clear hzq h1
      go_enter Tryz.func37, Tryz.ntmps37
      go_wp2_with fail
      with_reducible refine HI.out.mono ?_
      rintro e w2 ⟨rfl, rfl⟩
      go_wp2
      go_ret
      exact ⟨by rw [← HQ.out]; rfl, rfl⟩
    | false =>
      rw [Bool.false_or]
      by_cases h2 : x = []
      · rw [decide_eq_true h2, Bool.true_and]
        have hs := HE.out.2 h2
        subst hs
        have HQ := hid hzq
        clear hzq h1 h2
        go_enter Tryz.func37, Tryz.ntmps37
        go_wp2_with fail
        with_reducible refine HI.out.mono ?_
        rintro e w2 ⟨rfl, rfl⟩
        go_wp2
        go_ret
        exact ⟨by rw [← HQ.out]; rfl, rfl⟩
      · rw [decide_eq_false h2, Bool.false_and]
        have hs : s.toList.isEmpty = false := by
          cases he : s.toList.isEmpty with
          | false => rfl
          | true =>
            rw [← decide_eq_emptyBytes, decide_eq_true_iff] at he
            exact absurd (HE.out.1 he) h2
        clear hzq h1 h2 HI
        go_enter Tryz.func37, Tryz.ntmps37
        go_wp2
        go_ret
        exact ⟨rfl, rfl⟩
  · have h1I : ¬ (n : Int) ≤ 4096 := by omega
    rw [decide_eq_false h1, Bool.false_and, Bool.false_and]
    clear hzq h1 HI
    go_enter Tryz.func37, Tryz.ntmps37
    go_wp2
    go_ret
    exact ⟨rfl, rfl⟩
set_option maxHeartbeats 1600000 in
theorem goodExtra_any (x : Hdr) (ao : Option Addr) (cap : Nat) (w : World) (hl : x.extra.length < 4294967281) :
    Calls Tryz.prog 36 #[hdrV x (.slice ao x.extra.length cap)] w fun e w' => e = .returned (.bool (goodExtraB x)) ∧ Mod w w' (fun _ => False) := by
  obtain ⟨a, b, t, fl, sy, ex, c, nm, nt, d, g⟩ := x
  unfold goodExtraB hdrV hdrC strV
  dsimp only at hl ⊢
  have hex : ex = [] ↔ ex.length = 0 := ⟨fun h => by rw [h]; rfl, List.eq_nil_of_length_eq_zero⟩
  have hd : decide (ex = []) = decide (ex.length = 0) := decide_eq_decide.2 hex
  rw [hd]
  clear hd
  obtain ⟨n, hn⟩ : ∃ n, n = ex.length := ⟨_, rfl⟩
  rw [← hn] at hl
  simp only [← hn]
  clear hn
  have hM : ∀ o, Mod w (w.alloc o) (fun _ => False) := fun o => (Mod.refl w _).alloc o
  have HM := hid hM
  have hn0 : (0 : Int) ≤ (n : Int) := Int.natCast_nonneg _
  clear hM hex
  by_cases h1 : n ≤ 65535
  · have h1I : (n : Int) ≤ 65535 := by omega
    rw [decide_eq_true h1, Bool.true_and]
    clear h1
    cases c with
    | true =>
      rw [Bool.true_or]
      go_enter Tryz.func36, Tryz.ntmps36
      go_wp2
      go_ret
      exact ⟨rfl, HM.out _⟩
    | false =>
      rw [Bool.false_or]
      by_cases h0 : n = 0
      · subst h0
        rw [decide_eq_true rfl]
        go_enter Tryz.func36, Tryz.ntmps36
        go_wp2
        go_ret
        exact ⟨rfl, HM.out _⟩
      · have h0I : ¬ (n : Int) = 0 := by omega
        have h0B : ((n : Int) == 0) = false := by simp; omega
        rw [decide_eq_false h0]
        clear h0
        go_enter Tryz.func36, Tryz.ntmps36
        go_wp2
        go_ret
        exact ⟨rfl, HM.out _⟩
  · have h1I : ¬ (n : Int) ≤ 65535 := by omega
    rw [decide_eq_false h1, Bool.false_and]
    clear h1
    go_enter Tryz.func36, Tryz.ntmps36
    go_wp2
    go_ret
    exact ⟨rfl, HM.out _⟩
end
end Go.Proofs.YtkdmdbojcdonpaaGreatDoor
