/-
  The contracts of the writer, the reader and the reference's functions, over the things that a call holds.
-/
import Derived.Test.YtpecdappchkdiaaBitsH
namespace Go.Proofs.Ytpecdappchkdiaa
open Go.RowKit

section
variable {w0 w : World} {B : Nat} {l : List Nat} {Rs : List Thing}
theorem h_newW (h : Held w0 w Rs) : Calls Try.prog 17 #[] w fun e w' => ∃ B, e = .returned (.pointer (some ⟨B, 0, none⟩)) ∧ Held w0 w' (wrT B [] :: Rs) :=
  (new_writer w).mono fun _ _ ⟨h1, h2⟩ => ⟨_, h1, by rw [h2]; exact h.newWr⟩
theorem h_newR (h : Held w0 w Rs) : Calls Try.prog 12 #[] w fun e w' => ∃ B, e = .returned (.pointer (some ⟨B, 0, none⟩)) ∧ Held w0 w' (rdrT B [] :: Rs) :=
  (new_reader w).mono fun _ _ ⟨h1, h2⟩ => ⟨_, h1, by rw [h2]; exact h.newRr⟩
theorem h_put (h : Held w0 w (wrT B l :: Rs)) (v n : Nat) (hv : v < 4294967296) (hn : n ≤ 32) (hl : l.length < 1099511600000) :
    Calls Try.prog 35 #[.pointer (some ⟨B, 0, none⟩), .int .u32 (v : Int), .int .i64 (n : Int)] w fun e w' => e = .returned (.tuple #[]) ∧ Held w0 w' (wrT B (l ++ bitsOf n v) :: Rs) := by
  obtain ⟨d, hW, _, back⟩ := h.wr
  exact (put_any B d l v n w hW hv hn (by omega)).mono fun _ _ ⟨h1, h2⟩ => ⟨h1, back _ _ h2⟩
theorem h_walign (h : Held w0 w (wrT B l :: Rs)) (hl : l.length < 1099511600000) :
    Calls Try.prog 21 #[.pointer (some ⟨B, 0, none⟩)] w fun e w' => e = .returned (.tuple #[]) ∧ Held w0 w' (wrT B (evened l) :: Rs) := by
  obtain ⟨d, hW, _, back⟩ := h.wr
  exact (walign_any B d l w hW (by omega)).mono fun _ _ ⟨h1, h2⟩ => ⟨h1, back _ _ h2⟩
theorem h_take (h : Held w0 w (wrT B l :: Rs)) :
    Calls Try.prog 22 #[.pointer (some ⟨B, 0, none⟩)] w fun e w' => ∃ d, e = .returned d ∧ Held w0 w' (ownT 5 1 d (bytesOf l).length (u8s (bytesOf l)) :: wrT B (l.drop (8 * (bytesOf l).length)) :: Rs) := by
  obtain ⟨d, hW, back⟩ := h.took
  exact (take_any B d l w hW).mono fun _ _ ⟨h1, h2, h3, h4⟩ => ⟨d, h1, back _ _ _ _ h2 h3 h4⟩
theorem h_wbits (h : Held w0 w (wrT B l :: Rs)) (hl : l.length < 1099511600000) :
    Calls Try.prog 20 #[.pointer (some ⟨B, 0, none⟩)] w fun e w' => e = .returned (.int .i64 (l.length : Int)) ∧ Held w0 w' (wrT B l :: Rs) := by
  obtain ⟨d, hW, _, _⟩ := h.wr
  exact (wbits_any B d l w hW (by omega)).mono fun _ _ ⟨h1, n, h2⟩ => ⟨h1, by rw [h2]; exact h.drewN n⟩
theorem h_feed (h : Held w0 w (rdrT B l :: Rs)) (v : Value) (n : Nat) (news : List Nat) (hv : Rd w 1 v n (u8s news)) (hn256 : ∀ b ∈ news, b < 256) (hnl : n < 1099511627776) (hl : l.length < 1099511600000) :
    Calls Try.prog 15 #[.pointer (some ⟨B, 0, none⟩), v] w fun e w' => e = .returned (.tuple #[]) ∧ Held w0 w' (rdrT B (l ++ bits8 news) :: Rs) := by
  obtain ⟨d, hW, _, back⟩ := h.rr
  exact (feed_any B d v l news n w hW hl hv hn256 hnl).mono fun _ _ ⟨h1, h2⟩ => ⟨h1, back _ _ h2⟩
theorem h_left (h : Held w0 w (rdrT B l :: Rs)) (hl : l.length < 1099511600000) :
    Calls Try.prog 16 #[.pointer (some ⟨B, 0, none⟩)] w fun e w' => e = .returned (.int .i64 (l.length : Int)) ∧ Held w0 w' (rdrT B l :: Rs) := by
  obtain ⟨d, hW, _, _⟩ := h.rr
  exact (left_any B d l w hW (by omega)).mono fun _ _ ⟨h1, n, h2⟩ => ⟨h1, by rw [h2]; exact h.drewN n⟩
theorem h_peek_bad (h : Held w0 w (rdrT B l :: Rs)) (n : Int) (hn : n < 0 ∨ 32 < n) :
    Calls Try.prog 31 #[.pointer (some ⟨B, 0, none⟩), .int .i64 n] w fun e w' => e = .returned (.tuple #[.int .u32 0, .bool false]) ∧ Held w0 w' (rdrT B l :: Rs) :=
  (peek_bad B n w hn).mono fun _ _ ⟨h1, h2⟩ => ⟨h1, h2 ▸ h⟩
theorem h_peek_few (h : Held w0 w (rdrT B l :: Rs)) (n : Nat) (hn : n ≤ 32) (hnl : l.length < n) :
    Calls Try.prog 31 #[.pointer (some ⟨B, 0, none⟩), .int .i64 (n : Int)] w fun e w' => e = .returned (.tuple #[.int .u32 0, .bool false]) ∧ Held w0 w' (rdrT B l :: Rs) := by
  obtain ⟨d, hW, _, _⟩ := h.rr
  exact (peek_few B d l n w hW hn hnl).mono fun _ _ ⟨h1, k, h2⟩ => ⟨h1, by rw [h2]; exact h.drewN k⟩
theorem h_peek (h : Held w0 w (rdrT B l :: Rs)) (n : Nat) (hn : n ≤ 32) (hnl : n ≤ l.length) (hl : l.length < 1099511600000) :
    Calls Try.prog 31 #[.pointer (some ⟨B, 0, none⟩), .int .i64 (n : Int)] w fun e w' => e = .returned (.tuple #[.int .u32 ((numOf (l.take n) : Nat) : Int), .bool true]) ∧ Held w0 w' (rdrT B l :: Rs) := by
  obtain ⟨d, hW, back⟩ := h.fi
  exact (peek_any B d l n w hW hn hnl (by omega)).mono fun _ _ ⟨h1, h2⟩ => ⟨h1, back _ _ h2⟩
theorem h_get_bad (h : Held w0 w (rdrT B l :: Rs)) (n : Int) (hn : n < 0 ∨ 32 < n) :
    Calls Try.prog 34 #[.pointer (some ⟨B, 0, none⟩), .int .i64 n] w fun e w' => e = .returned (.tuple #[.int .u32 0, .bool false]) ∧ Held w0 w' (rdrT B l :: Rs) :=
  (get_bad B n w hn).mono fun _ _ ⟨h1, h2⟩ => ⟨h1, h2 ▸ h⟩
theorem h_get_few (h : Held w0 w (rdrT B l :: Rs)) (n : Nat) (hn : n ≤ 32) (hnl : l.length < n) :
    Calls Try.prog 34 #[.pointer (some ⟨B, 0, none⟩), .int .i64 (n : Int)] w fun e w' => e = .returned (.tuple #[.int .u32 0, .bool false]) ∧ Held w0 w' (rdrT B l :: Rs) := by
  obtain ⟨d, hW, _, _⟩ := h.rr
  exact (get_few B d l n w hW hn hnl).mono fun _ _ ⟨h1, k, h2⟩ => ⟨h1, by rw [h2]; exact h.drewN k⟩
theorem h_get (h : Held w0 w (rdrT B l :: Rs)) (n : Nat) (hn : n ≤ 32) (hnl : n ≤ l.length) (hl : l.length < 1099511600000) :
    Calls Try.prog 34 #[.pointer (some ⟨B, 0, none⟩), .int .i64 (n : Int)] w fun e w' => e = .returned (.tuple #[.int .u32 ((numOf (l.take n) : Nat) : Int), .bool true]) ∧ Held w0 w' (rdrT B (l.drop n) :: Rs) := by
  obtain ⟨d, hW, _, back⟩ := h.rr
  exact (get_any B d l n w hW hn hnl (by omega)).mono fun _ _ ⟨h1, h2⟩ => ⟨h1, back _ _ h2⟩
theorem h_same (h : Held w0 w Rs) (v u : Value) (a b : List Nat) (hv : Rd w 1 v a.length (u8s a)) (hu : Rd w 1 u b.length (u8s b)) (hal : a.length < 8000000000) :
    Calls Try.prog 23 #[v, u] w fun e w' => e = .returned (.bool (decide (a = b))) ∧ Held w0 w' Rs :=
  (same_any v u a b w hv hu hal).mono fun _ _ ⟨h1, n, h2⟩ => ⟨h1, by rw [h2]; exact h.drewN n⟩
theorem h_same_yes (h : Held w0 w Rs) (v u : Value) (a : List Nat) (n : Nat) (hv : Rd w 1 v n (u8s a)) (hu : Rd w 1 u n (u8s a)) (hal : n < 8000000000) :
    Calls Try.prog 23 #[v, u] w fun e w' => e = .returned (.bool true) ∧ Held w0 w' Rs := by
  have hn : n = a.length := by have := hv.1; rw [u8s_length] at this; omega
  subst hn
  exact (h_same h v u a a hv hu hal).mono fun _ _ ⟨h1, h2⟩ => ⟨by rw [h1]; simp, h2⟩
theorem h_bits (h : Held w0 w Rs) (v : Value) (l : List Nat) (hv : Rd w 1 v l.length (u8s l)) (hb : ∀ b ∈ l, b < 256) (hl : l.length < 1000000000) :
    Calls Try.prog 11 #[v] w fun e w' => ∃ v', e = .returned v' ∧ Held w0 w' (ownT 5 1 v' (8 * l.length) (u8s (bits8 l)) :: Rs) :=
  (bits_any v l w hv hb hl).mono fun _ _ ⟨v', h1, h2⟩ => ⟨v', h1, by have := h.built h2; rwa [bits8_length] at this⟩
theorem h_bytes (h : Held w0 w Rs) (v : Value) (l : List Nat) (hv : Rd w 1 v l.length (u8s l)) (hb : isBits l) (hl : l.length < 8000000000) :
    Calls Try.prog 24 #[v] w fun e w' => ∃ v', e = .returned v' ∧ Held w0 w' (ownT 5 1 v' (bytesOf l).length (u8s (bytesOf l)) :: Rs) :=
  (bytes_any v l w hv hb hl).mono fun _ _ ⟨v', h1, h2⟩ => ⟨v', h1, h.built h2⟩
theorem h_even (h : Held w0 w Rs) (v : Value) (l : List Nat) (hv : Rd w 1 v l.length (u8s l)) (hl : l.length < 8000000000) :
    Calls Try.prog 25 #[v] w fun e w' => ∃ v', e = .returned v' ∧ Held w0 w' (ownT 5 1 v' (evened l).length (u8s (evened l)) :: Rs) :=
  (even_any v l w hv hl).mono fun _ _ ⟨v', h1, h2⟩ => ⟨v', h1, h.built h2⟩
end
end Go.Proofs.Ytpecdappchkdiaa
