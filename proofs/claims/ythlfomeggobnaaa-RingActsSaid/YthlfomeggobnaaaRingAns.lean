/-
  The law's own small functions: 'answers', 'bound'.
-/
import Derived.Test.YthlfomeggobnaaaRingInt
import Derived.Test.YthlfomeggobnaaaSame
namespace Go.Proofs.Ythlfomeggobnaaa
open Go.RowKit

theorem bound_any (m : Int) (w : World) :
    Calls Try.prog 8 #[.int .i64 m] w fun e w' => e = .returned (.int .i64 (lim m : Int)) ∧ w = w' := by
  have h : m < 0 ∨ (0 ≤ m ∧ 65536 < m) ∨ (0 ≤ m ∧ m ≤ 65536) := by omega
  rcases h with h | ⟨h, h2⟩ | ⟨h, h2⟩
  all_goals
    go_enter Try.func8, Try.ntmps8
    go_wp2
    go_ret
    exact ⟨ret_int (by unfold lim; omega), rfl⟩

set_option maxHeartbeats 800000 in
theorem answers_any (w0 w : World) (Rs : List Thing) (h : Held w0 w Rs) :
    Calls Try.prog 7 #[] w fun e w' => e = .returned (.bool true) ∧ Held w0 w' Rs := by
  have HH := hid h
  clear h
  go_enter Try.func7, Try.ntmps7
  go_wp2_with fail
  refine (newInt 2 w0 w Rs HH.out).mono ?_
  rintro e w1 ⟨B, rfl, h1⟩
  have HH1 : Hid (Held w0 w1 (ringTInt B 2 0 [] :: Rs)) := h1
  clear h1
  have HL : Hid (Held w0 (w1.alloc (.cells #[.int .i64 7, .int .i64 8, .int .i64 9] 3)) (ownT 3 1 (.slice (some ⟨w1.heap.size, 0, none⟩) 3 3) 3 [.int .i64 7, .int .i64 8, .int .i64 9] :: ringTInt B 2 0 [] :: Rs)) := HH1.out.lit 3 1 [.int .i64 7, .int .i64 8, .int .i64 9] 3 (by decide) rfl
  have HP := hid (pushInt B 2 0 3 [] [.int .i64 7, .int .i64 8, .int .i64 9] _ w0 _ _ HL.out.swap (by decide) (by decide) HL.out.own.rd (by simp [Value.oneCell']))
  go_wp2_with fail
  refine HP.out.mono ?_
  rintro e w2 ⟨he, h2⟩
  obtain rfl : e = .returned (.int .i64 2) := he
  have HH2 : Hid (Held w0 w2 (ringTInt B 2 2 [.int .i64 7, .int .i64 8] :: ownT 3 1 (.slice (some ⟨w1.heap.size, 0, none⟩) 3 3) 3 [.int .i64 7, .int .i64 8, .int .i64 9] :: Rs)) := h2
  clear h2
  have HQ := hid (peekInt B 2 2 5 _ w0 w2 _ HH2.out (by decide) (by simp [Value.oneCell']))
  go_wp2_with fail
  refine HQ.out.mono ?_
  rintro e w3 ⟨v, rfl, h3'⟩
  have h3 : Held w0 w3 (ownT 3 1 v 2 [.int .i64 7, .int .i64 8] :: _ :: _ :: Rs) := h3'
  obtain ⟨vo, vc, rfl, _, _⟩ := h3.own.form
  obtain ⟨g, off, rfl, hc⟩ := h3.own.rd.spot (by decide)
  have hc1 : w3.cell? ⟨g, off + 1, none⟩ = some (.int .i64 8) := hc 1 _ rfl
  have HH3 := hid h3.drop.drop.drop
  clear h3 hc h3'
  go_wp2
  go_ret
  exact ⟨rfl, HH3.out⟩
end Go.Proofs.Ythlfomeggobnaaa
