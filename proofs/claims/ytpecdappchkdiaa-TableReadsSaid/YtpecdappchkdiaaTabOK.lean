/-
  What Build, Next and Write are to do, as a statement that the program's own text must show ('TableOK', for some thing that a table is); the laws' own example.
-/
import Derived.Test.YtpecdappchkdiaaTabRef
import Derived.Test.YtpecdappchkdiaaCodeRef
import Derived.Test.YtpecdappchkdiaaBitsH2
namespace Go.Proofs.Ytpecdappchkdiaa
open Go.RowKit

/-- lengths that Check takes -/
def Fine (l : List Int) : Prop := (∀ a ∈ l, 0 ≤ a ∧ a ≤ 15) ∧ l.length ≤ 288 ∧ (sumOf l = 0 ∨ sumOf l = 32768 ∨ sumOf l = 16384 ∧ l.count 1 = 1)
theorem fine_of {l : List Int} {m : Int} (h : checkOf l m = 0) : Fine l := by
  unfold checkOf at h
  split at h
  · cases h
  · rename_i hb
    split at h
    · rename_i hs
      simp only [argBad, Bool.or_eq_true, decide_eq_true_eq, Bool.not_eq_true', not_or, Bool.not_eq_false] at hb
      have h1 := (allIn_iff l m).1 hb.2
      exact ⟨fun a ha => ⟨(h1 a ha).1, by have := (h1 a ha).2; omega⟩, by omega, hs⟩
    · cases h
theorem Fine.sum {l : List Int} (h : Fine l) : sumOf l ≤ 32768 := by have := h.2.2; omega
structure TableOK (T : List Int → Nat → Thing) : Prop where
  build : ∀ (v : Value) (n : Nat) (l : List Int) (most : Int) (w0 w : World) (Rs : List Thing), Held w0 w Rs → Rd w 1 v n (ints l) → n ≤ 1000 →
    Calls Try.prog 8 #[v, .int .i64 most] w fun e w' =>
      (checkOf l most ≠ 0 ∧ e = .returned (.tuple #[.pointer none, .int .i64 ((checkOf l most : Nat) : Int)]) ∧ Held w0 w' Rs) ∨
      (checkOf l most = 0 ∧ ∃ B, e = .returned (.tuple #[.pointer (some ⟨B, 0, none⟩), .int .i64 0]) ∧ Held w0 w' (T l B :: Rs))
  next : ∀ (l : List Int) (B Br : Nat) (bs : List Nat) (w0 w : World) (Rs : List Thing), Held w0 w (rdrT Br bs :: T l B :: Rs) → Fine l → isBits bs → bs.length < 1000000 →
    Calls Try.prog 14 #[.pointer (some ⟨B, 0, none⟩), .pointer (some ⟨Br, 0, none⟩)] w fun e w' =>
      ∃ k q er : Nat, e = .returned (.tuple #[.int .i64 (k : Int), .int .i64 (er : Int)]) ∧ Held w0 w' (rdrT Br (bs.drop q) :: T l B :: Rs) ∧ Hid (ReadIs l bs k q er)
  write : ∀ (l : List Int) (B Bw : Nat) (bs : List Nat) (s : Int) (w0 w : World) (Rs : List Thing), Held w0 w (wrT Bw bs :: T l B :: Rs) → Fine l → bs.length < 1000000 →
    Calls Try.prog 18 #[.pointer (some ⟨B, 0, none⟩), .pointer (some ⟨Bw, 0, none⟩), .int .i64 s] w fun e w' =>
      (∃ i p : Nat, s = (i : Int) ∧ l[i]? = some (p : Int) ∧ 0 < p ∧ e = .returned (.bool true) ∧ Held w0 w' (wrT Bw (bs ++ hiBits p (codeAt l i)) :: T l B :: Rs)) ∨
      ((∀ i p : Nat, s = (i : Int) → l[i]? = some (p : Int) → p = 0) ∧ e = .returned (.bool false) ∧ Held w0 w' (wrT Bw bs :: T l B :: Rs))
  nextNil : ∀ (Br : Nat) (bs : List Nat) (w0 w : World) (Rs : List Thing), Held w0 w (rdrT Br bs :: Rs) →
    Calls Try.prog 14 #[.pointer none, .pointer (some ⟨Br, 0, none⟩)] w fun e w' => ∃ k : Int, e = .returned (.tuple #[.int .i64 k, .int .i64 3]) ∧ Held w0 w' (rdrT Br bs :: Rs)
  writeNil : ∀ (Bw : Nat) (bs : List Nat) (s : Int) (w0 w : World) (Rs : List Thing), Held w0 w (wrT Bw bs :: Rs) →
    Calls Try.prog 18 #[.pointer none, .pointer (some ⟨Bw, 0, none⟩), .int .i64 s] w fun e w' => e = .returned (.bool false) ∧ Held w0 w' (wrT Bw bs :: Rs)
section
variable {w0 w : World} {Rs : List Thing}
theorem h_refread (h : Held w0 w Rs) (v u x : Value) (l : List Int) (all : List Nat) (a n m : Nat) (hv : Rd w 1 v n (ints l)) (hu : Rd w 1 u n (nums .u32 (codesOf l))) (hx : Rd w 1 x m (u8s all)) (hn : n = l.length) (hm : m = all.length)
    (hl : ∀ y ∈ l, 0 ≤ y ∧ y ≤ 15) (hn2 : n ≤ 288) (hb : isBits all) (ha : a ≤ m) (hm2 : m < 1000000) :
    Calls Try.prog 13 #[v, u, x, .int .i64 (a : Int)] w fun e w' => ∃ k q er : Nat, e = .returned (.tuple #[.int .i64 (k : Int), .int .i64 (q : Int), .int .i64 (er : Int)]) ∧ Held w0 w' Rs ∧ Hid (ReadIs l (all.drop a) k q er) :=
  (refread_any v u x l all a n m w hv hu hx hn hm hl hn2 hb ha hm2).mono fun _ _ ⟨k, q, er, h1, h2, h3⟩ => ⟨k, q, er, h1, h.same h2, h3⟩
theorem h_refbits4 (h : Held w0 w Rs) (v : Value) (l : List Int) (i p n : Nat) (hv : Rd w 1 v n (ints l)) (hn : n = l.length) (hn2 : n ≤ 288) (hi : l[i]? = some (p : Int)) (hp : p ≤ 15) :
    Calls Try.prog 19 #[v, .int .i64 (i : Int)] w fun e w' => ∃ v', e = .returned v' ∧ Held w0 w' (ownT 5 1 v' p (u8s (hiBits p (codeAt l i))) :: Rs) :=
  (refbits4_any v l i p n w hv hn hn2 hi hp).mono fun _ _ ⟨v', h1, h2⟩ => ⟨v', h1, by have := h.built h2; rw [hiBits_length] at this; exact this⟩
theorem h_refcodes6 (h : Held w0 w Rs) (v : Value) (l : List Int) (n : Nat) (hv : Rd w 1 v n (ints l)) (hn : n = l.length) (hn2 : n ≤ 288) :
    Calls Try.prog 10 #[v] w fun e w' => ∃ v', e = .returned v' ∧ Held w0 w' (ownT 53 1 v' n (nums .u32 (codesOf l)) :: Rs) := by
  subst hn
  exact (refcodes_any v l w hv hn2).mono fun _ _ ⟨v', h1, h2, h3, h4⟩ => ⟨v', h1, h.pushOwn h2 h4 h3⟩
theorem eg_check : checkOf [2, 1, 3, 3] 15 = 0 := by decide
theorem eg_read : ReadIs [2, 1, 3, 3] (bits8 [6]) 1 1 0 := .inl ⟨rfl, rfl, by decide, by decide, by decide⟩
set_option maxHeartbeats 1600000 in
theorem h_answers6 {T : List Int → Nat → Thing} (HT : TableOK T) (h : Held w0 w Rs) :
    Calls Try.prog 7 #[] w fun e w' => e = .returned (.bool true) ∧ Held w0 w' Rs := by
  have h1 := h.lit 3 1 (ints [2, 1, 3, 3]) 4 (by decide) rfl
  have HB := hid (HT.build _ 4 [2, 1, 3, 3] 15 w0 _ _ h1 h1.own.rd (by decide))
  clear h h1
  rw [eg_check] at HB
  go_enter Try.func7, Try.ntmps7
  go_wp2_with fail
  refine HB.out.mono ?_
  rintro e w1 (⟨h0, _⟩ | ⟨_, B, rfl, hh⟩)
  · exact absurd rfl h0
  have HH := hid hh
  clear hh HB
  go_wp2_with fail
  refine (h_newR HH.out).mono ?_
  rintro e w2 ⟨Br, rfl, hh⟩
  have HH2 := hid hh
  clear hh HH
  have h3 := (HH2.out.lit 5 1 (u8s [6]) 1 (by decide) rfl)
  have HF := hid (h_feed h3.swap _ 1 [6] h3.own.rd (by decide) (by decide) (by decide))
  clear h3 HH2
  go_wp2_with fail
  refine HF.out.mono ?_
  rintro e w3 ⟨rfl, hh⟩
  have hh2 : Held w0 w3 (rdrT Br (bits8 [6]) :: T [2, 1, 3, 3] B :: ownT 3 1 (.slice (some ⟨w.heap.size, 0, none⟩) 4 4) 4 (ints [2, 1, 3, 3]) :: Rs) := hh.swap.drop
  have HN := hid (HT.next [2, 1, 3, 3] B Br (bits8 [6]) w0 w3 _ hh2 (fine_of eg_check) (bits8_isBits _) (by decide))
  clear hh hh2 HF
  go_wp2_with fail
  refine HN.out.mono ?_
  rintro e w4 ⟨k, q, er, rfl, hh, HR⟩
  obtain ⟨rfl, rfl, rfl⟩ := HR.out.one (bits8_isBits _) (fine_of eg_check).1 eg_read
  have HE := hid hh.drop.drop.drop
  clear hh HR HN
  go_wp2
  go_ret
  exact ⟨rfl, HE⟩
end
end Go.Proofs.Ytpecdappchkdiaa
