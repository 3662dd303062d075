/-
  The contracts of the writer, the reader and the reference's functions, over the things that a call holds.
-/
import Derived.Test.YtmkbifkmdmeklaaBitsH
namespace Go.Proofs.Ytmkbifkmdmeklaa
open Go.RowKit

section
variable {w0 w : World} {B : Nat} {l : List Nat} {Rs : List Thing}
theorem h_newW (h : Held w0 w Rs) : Calls Try.prog 8 #[] w fun e w' => ∃ B, e = .returned (.pointer (some ⟨B, 0, none⟩)) ∧ Held w0 w' (wrT B [] :: Rs) :=
  (new_writer w).mono fun _ _ ⟨h1, h2⟩ => ⟨_, h1, by rw [h2]; exact h.newWr⟩
theorem h_newR (h : Held w0 w Rs) : Calls Try.prog 20 #[] w fun e w' => ∃ B, e = .returned (.pointer (some ⟨B, 0, none⟩)) ∧ Held w0 w' (rdrT B [] :: Rs) :=
  (new_reader w).mono fun _ _ ⟨h1, h2⟩ => ⟨_, h1, by rw [h2]; exact h.newRr⟩
theorem h_put (h : Held w0 w (wrT B l :: Rs)) (v n : Nat) (hv : v < 4294967296) (hn : n ≤ 32) (hl : l.length < 1099511600000) :
    Calls Try.prog 10 #[.pointer (some ⟨B, 0, none⟩), .int .u32 (v : Int), .int .i64 (n : Int)] w fun e w' => e = .returned (.tuple #[]) ∧ Held w0 w' (wrT B (l ++ bitsOf n v) :: Rs) := by
  obtain ⟨d, hW, _, back⟩ := h.wr
  exact (put_any B d l v n w hW hv hn (by omega)).mono fun _ _ ⟨h1, h2⟩ => ⟨h1, back _ _ h2⟩
theorem h_walign (h : Held w0 w (wrT B l :: Rs)) (hl : l.length < 1099511600000) :
    Calls Try.prog 12 #[.pointer (some ⟨B, 0, none⟩)] w fun e w' => e = .returned (.tuple #[]) ∧ Held w0 w' (wrT B (evened l) :: Rs) := by
  obtain ⟨d, hW, _, back⟩ := h.wr
  exact (walign_any B d l w hW (by omega)).mono fun _ _ ⟨h1, h2⟩ => ⟨h1, back _ _ h2⟩
theorem h_write_old (h : Held w0 w (wrT B l :: Rs)) (v : Value) (n : Nat) (news : List Nat) (hv : Rd w0 1 v n (u8s news)) (hn256 : ∀ b ∈ news, b < 256) (hnl : n < 1099511627776) (hl : l.length < 1099511600000) :
    Calls Try.prog 14 #[.pointer (some ⟨B, 0, none⟩), v] w fun e w' => e = .returned (.tuple #[]) ∧ Held w0 w' (wrT B (evened l ++ bits8 news) :: Rs) := by
  obtain ⟨d, hW, hab, back⟩ := h.wr
  exact (write_any B d v l news n w hW hl (h.old hv) (fun hn k hk hs => by have h1 := hv.lt (by decide) hn k hk; have h2 := hab k hs; omega) hn256 hnl).mono fun _ _ ⟨h1, h2⟩ => ⟨h1, back _ _ h2⟩
theorem h_write_own {v : Value} {n : Nat} {news : List Nat} (h : Held w0 w (wrT B l :: ownT 5 1 v n (u8s news) :: Rs)) (hn256 : ∀ b ∈ news, b < 256) (hnl : n < 1099511627776) (hl : l.length < 1099511600000) :
    Calls Try.prog 14 #[.pointer (some ⟨B, 0, none⟩), v] w fun e w' => e = .returned (.tuple #[]) ∧ Held w0 w' (wrT B (evened l ++ bits8 news) :: ownT 5 1 v n (u8s news) :: Rs) := by
  obtain ⟨d, hW, ho, hdis, back⟩ := h.wr_own
  exact (write_any B d v l news n w hW hl ho.rd (fun _ => hdis) hn256 hnl).mono fun _ _ ⟨h1, h2⟩ => ⟨h1, back _ _ h2⟩
theorem h_take (h : Held w0 w (wrT B l :: Rs)) :
    Calls Try.prog 16 #[.pointer (some ⟨B, 0, none⟩)] w fun e w' => ∃ d, e = .returned d ∧ Held w0 w' (ownT 5 1 d (bytesOf l).length (u8s (bytesOf l)) :: wrT B (l.drop (8 * (bytesOf l).length)) :: Rs) := by
  obtain ⟨d, hW, back⟩ := h.took
  exact (take_any B d l w hW).mono fun _ _ ⟨h1, h2, h3, h4⟩ => ⟨d, h1, back _ _ _ _ h2 h3 h4⟩
theorem h_wbits (h : Held w0 w (wrT B l :: Rs)) (hl : l.length < 1099511600000) :
    Calls Try.prog 19 #[.pointer (some ⟨B, 0, none⟩)] w fun e w' => e = .returned (.int .i64 (l.length : Int)) ∧ Held w0 w' (wrT B l :: Rs) := by
  obtain ⟨d, hW, _, _⟩ := h.wr
  exact (wbits_any B d l w hW (by omega)).mono fun _ _ ⟨h1, n, h2⟩ => ⟨h1, by rw [h2]; exact h.drewN n⟩
theorem h_feed (h : Held w0 w (rdrT B l :: Rs)) (v : Value) (n : Nat) (news : List Nat) (hv : Rd w 1 v n (u8s news)) (hn256 : ∀ b ∈ news, b < 256) (hnl : n < 1099511627776) (hl : l.length < 1099511600000) :
    Calls Try.prog 21 #[.pointer (some ⟨B, 0, none⟩), v] w fun e w' => e = .returned (.tuple #[]) ∧ Held w0 w' (rdrT B (l ++ bits8 news) :: Rs) := by
  obtain ⟨d, hW, _, back⟩ := h.rr
  exact (feed_any B d v l news n w hW hl hv hn256 hnl).mono fun _ _ ⟨h1, h2⟩ => ⟨h1, back _ _ h2⟩
theorem h_left (h : Held w0 w (rdrT B l :: Rs)) (hl : l.length < 1099511600000) :
    Calls Try.prog 27 #[.pointer (some ⟨B, 0, none⟩)] w fun e w' => e = .returned (.int .i64 (l.length : Int)) ∧ Held w0 w' (rdrT B l :: Rs) := by
  obtain ⟨d, hW, _, _⟩ := h.rr
  exact (left_any B d l w hW (by omega)).mono fun _ _ ⟨h1, n, h2⟩ => ⟨h1, by rw [h2]; exact h.drewN n⟩
theorem h_ralign (h : Held w0 w (rdrT B l :: Rs)) :
    Calls Try.prog 25 #[.pointer (some ⟨B, 0, none⟩)] w fun e w' => e = .returned (.tuple #[]) ∧ Held w0 w' (rdrT B (l.drop (l.length % 8)) :: Rs) := by
  obtain ⟨d, hW, _, back⟩ := h.rr
  exact (ralign_any B d l w hW).mono fun _ _ ⟨h1, h2⟩ => ⟨h1, back _ _ h2.step⟩
theorem h_peek_bad (h : Held w0 w (rdrT B l :: Rs)) (n : Int) (hn : n < 0 ∨ 32 < n) :
    Calls Try.prog 22 #[.pointer (some ⟨B, 0, none⟩), .int .i64 n] w fun e w' => e = .returned (.tuple #[.int .u32 0, .bool false]) ∧ Held w0 w' (rdrT B l :: Rs) :=
  (peek_bad B n w hn).mono fun _ _ ⟨h1, h2⟩ => ⟨h1, h2 ▸ h⟩
theorem h_peek_few (h : Held w0 w (rdrT B l :: Rs)) (n : Nat) (hn : n ≤ 32) (hnl : l.length < n) :
    Calls Try.prog 22 #[.pointer (some ⟨B, 0, none⟩), .int .i64 (n : Int)] w fun e w' => e = .returned (.tuple #[.int .u32 0, .bool false]) ∧ Held w0 w' (rdrT B l :: Rs) := by
  obtain ⟨d, hW, _, _⟩ := h.rr
  exact (peek_few B d l n w hW hn hnl).mono fun _ _ ⟨h1, k, h2⟩ => ⟨h1, by rw [h2]; exact h.drewN k⟩
theorem h_peek (h : Held w0 w (rdrT B l :: Rs)) (n : Nat) (hn : n ≤ 32) (hnl : n ≤ l.length) (hl : l.length < 1099511600000) :
    Calls Try.prog 22 #[.pointer (some ⟨B, 0, none⟩), .int .i64 (n : Int)] w fun e w' => e = .returned (.tuple #[.int .u32 ((numOf (l.take n) : Nat) : Int), .bool true]) ∧ Held w0 w' (rdrT B l :: Rs) := by
  obtain ⟨d, hW, back⟩ := h.fi
  exact (peek_any B d l n w hW hn hnl (by omega)).mono fun _ _ ⟨h1, h2⟩ => ⟨h1, back _ _ h2⟩
theorem h_get_bad (h : Held w0 w (rdrT B l :: Rs)) (n : Int) (hn : n < 0 ∨ 32 < n) :
    Calls Try.prog 23 #[.pointer (some ⟨B, 0, none⟩), .int .i64 n] w fun e w' => e = .returned (.tuple #[.int .u32 0, .bool false]) ∧ Held w0 w' (rdrT B l :: Rs) :=
  (get_bad B n w hn).mono fun _ _ ⟨h1, h2⟩ => ⟨h1, h2 ▸ h⟩
theorem h_get_few (h : Held w0 w (rdrT B l :: Rs)) (n : Nat) (hn : n ≤ 32) (hnl : l.length < n) :
    Calls Try.prog 23 #[.pointer (some ⟨B, 0, none⟩), .int .i64 (n : Int)] w fun e w' => e = .returned (.tuple #[.int .u32 0, .bool false]) ∧ Held w0 w' (rdrT B l :: Rs) := by
  obtain ⟨d, hW, _, _⟩ := h.rr
  exact (get_few B d l n w hW hn hnl).mono fun _ _ ⟨h1, k, h2⟩ => ⟨h1, by rw [h2]; exact h.drewN k⟩
theorem h_get (h : Held w0 w (rdrT B l :: Rs)) (n : Nat) (hn : n ≤ 32) (hnl : n ≤ l.length) (hl : l.length < 1099511600000) :
    Calls Try.prog 23 #[.pointer (some ⟨B, 0, none⟩), .int .i64 (n : Int)] w fun e w' => e = .returned (.tuple #[.int .u32 ((numOf (l.take n) : Nat) : Int), .bool true]) ∧ Held w0 w' (rdrT B (l.drop n) :: Rs) := by
  obtain ⟨d, hW, _, back⟩ := h.rr
  exact (get_any B d l n w hW hn hnl (by omega)).mono fun _ _ ⟨h1, h2⟩ => ⟨h1, back _ _ h2⟩
theorem h_read (h : Held w0 w (rdrT B l :: Rs)) (n : Int) (hl : l.length < 1099511600000) :
    Calls Try.prog 26 #[.pointer (some ⟨B, 0, none⟩), .int .i64 n] w fun e w' => ∃ v, e = .returned v ∧
      Held w0 w' (ownT 5 1 v (readN l n) (u8s ((bytesOf (l.drop (l.length % 8))).take (readN l n))) :: rdrT B ((l.drop (l.length % 8)).drop (8 * readN l n)) :: Rs) := by
  obtain ⟨F, ⟨d, hW, h2⟩, hF, hr⟩ := h
  have hF' : ∀ k, F k → w0.heap.size ≤ k ∧ k < w.heap.size := fun k hk => ⟨(hF k hk).1, (hF k hk).2.1⟩
  by_cases h0 : readN l n = 0
  · refine (read_zero B d l n w hW hl h0).mono fun _ _ ⟨h1, h3⟩ => ⟨_, h1, ?_⟩
    rw [h0]
    exact Held.rr_own hr hF' h2 h3.step (Own.nil _ _ _) (fun k hk => by simp [Value.ownBlock] at hk) (fun _ _ _ k hk => by simp [Value.ownBlock] at hk)
  · refine (read_some B d l n _ w hW hl rfl (by omega)).mono fun _ w' ⟨v, h1, h3, ⟨d', h4, h5, h6⟩, h7⟩ => ⟨v, h1, ?_⟩
    refine ⟨fun k => v.ownBlock = some k, ⟨h3, fun _ => Iff.rfl⟩, fun k hk => ⟨Nat.le_trans (HeldU.mod hr).size (h7 k hk), h3.lt k hk, fun h => h⟩, fun k => WSet B d' k, ⟨d', h4, fun _ => Iff.rfl⟩, fun k hk => ?_, ?_⟩
    · have hFk : F k := by
        rcases hk with rfl | hk
        · exact (h2 _).2 (.inl rfl)
        · rcases h6 with h6 | h6
          · exact (h2 k).2 (.inr (h6 ▸ hk))
          · rw [h6] at hk; cases hk
      refine ⟨(hF k hFk).1, h4.lt k hk, ?_⟩
      rintro (hu | hu)
      · exact hu
      · have := h7 k hu; have := (hF k hFk).2.1; omega
    · have h8 := (hr.more (V := fun k => (False ∨ F k) ∨ v.ownBlock = some k) fun k hk => hk.imp id (h7 k)).step (h5.mono (T := F) fun k _ e => (h2 k).2 (.inl e)) (fun k hk _ => (hF k hk).1) (fun k hk _ => .inl (.inr hk))
      exact h8.less fun k hk => by
        rcases hk with (hk | hk) | hk
        · exact hk.elim
        · exact .inr hk
        · rcases hk with rfl | hk
          · exact .inl (.inr ((h2 _).2 (.inl rfl)))
          · rcases h6 with h6 | h6
            · exact .inl (.inr ((h2 k).2 (.inr (h6 ▸ hk))))
            · rw [h6] at hk; cases hk
theorem h_read8 {bs : List Nat} (h : Held w0 w (rdrT B (bits8 bs) :: Rs)) (hb : ∀ b ∈ bs, b < 256) (n : Int) (k : Nat) (hk : k = min n.toNat bs.length) (hl : bs.length < 100000000000) :
    Calls Try.prog 26 #[.pointer (some ⟨B, 0, none⟩), .int .i64 n] w fun e w' => ∃ v, e = .returned v ∧ Held w0 w' (ownT 5 1 v k (u8s (bs.take k)) :: rdrT B (bits8 (bs.drop k)) :: Rs) := by
  have h1 : (bits8 bs).drop ((bits8 bs).length % 8) = bits8 bs := by rw [bits8_length, show 8 * bs.length % 8 = 0 by omega]; rfl
  have h2 : readN (bits8 bs) n = k := by rw [readN, h1, bits8_length, hk, show 8 * bs.length / 8 = bs.length by omega]
  have h3 : bytesOf (bits8 bs) = bs := by have := bytesOf_bits8 bs [] hb (by decide); rwa [List.append_nil] at this
  have := h_read h n (by rw [bits8_length]; omega)
  rw [h1, h2, h3, bits8_drop] at this
  exact this
theorem h_answers (h : Held w0 w Rs) : Calls Try.prog 9 #[] w fun e w' => e = .returned (.bool true) ∧ Held w0 w' Rs :=
  (answers_any w).mono fun _ _ ⟨h1, h2⟩ => ⟨h1, h.same h2⟩
theorem h_same (h : Held w0 w Rs) (v u : Value) (a b : List Nat) (hv : Rd w 1 v a.length (u8s a)) (hu : Rd w 1 u b.length (u8s b)) (hal : a.length < 8000000000) :
    Calls Try.prog 17 #[v, u] w fun e w' => e = .returned (.bool (decide (a = b))) ∧ Held w0 w' Rs :=
  (same_any v u a b w hv hu hal).mono fun _ _ ⟨h1, n, h2⟩ => ⟨h1, by rw [h2]; exact h.drewN n⟩
theorem h_same_yes (h : Held w0 w Rs) (v u : Value) (a : List Nat) (n : Nat) (hv : Rd w 1 v n (u8s a)) (hu : Rd w 1 u n (u8s a)) (hal : n < 8000000000) :
    Calls Try.prog 17 #[v, u] w fun e w' => e = .returned (.bool true) ∧ Held w0 w' Rs := by
  have hn : n = a.length := by have := hv.1; rw [u8s_length] at this; omega
  subst hn
  exact (h_same h v u a a hv hu hal).mono fun _ _ ⟨h1, h2⟩ => ⟨by rw [h1]; simp, h2⟩
theorem h_of (h : Held w0 w Rs) (V n : Nat) (hv : V < 4294967296) (hn : n < 1099511627776) :
    Calls Try.prog 11 #[.int .u32 (V : Int), .int .i64 (n : Int)] w fun e w' => ∃ v, e = .returned v ∧ Held w0 w' (ownT 5 1 v n (u8s (bitsOf n V)) :: Rs) :=
  (of_any V n w hv hn).mono fun _ _ ⟨v, h1, h2⟩ => ⟨v, h1, by have := h.built h2; rwa [bitsOf_length] at this⟩
theorem h_bits (h : Held w0 w Rs) (v : Value) (l : List Nat) (hv : Rd w 1 v l.length (u8s l)) (hb : ∀ b ∈ l, b < 256) (hl : l.length < 1000000000) :
    Calls Try.prog 15 #[v] w fun e w' => ∃ v', e = .returned v' ∧ Held w0 w' (ownT 5 1 v' (8 * l.length) (u8s (bits8 l)) :: Rs) :=
  (bits_any v l w hv hb hl).mono fun _ _ ⟨v', h1, h2⟩ => ⟨v', h1, by have := h.built h2; rwa [bits8_length] at this⟩
theorem h_bytes (h : Held w0 w Rs) (v : Value) (l : List Nat) (hv : Rd w 1 v l.length (u8s l)) (hb : isBits l) (hl : l.length < 8000000000) :
    Calls Try.prog 18 #[v] w fun e w' => ∃ v', e = .returned v' ∧ Held w0 w' (ownT 5 1 v' (bytesOf l).length (u8s (bytesOf l)) :: Rs) :=
  (bytes_any v l w hv hb hl).mono fun _ _ ⟨v', h1, h2⟩ => ⟨v', h1, h.built h2⟩
theorem h_even (h : Held w0 w Rs) (v : Value) (l : List Nat) (hv : Rd w 1 v l.length (u8s l)) (hl : l.length < 8000000000) :
    Calls Try.prog 13 #[v] w fun e w' => ∃ v', e = .returned v' ∧ Held w0 w' (ownT 5 1 v' (evened l).length (u8s (evened l)) :: Rs) :=
  (even_any v l w hv hl).mono fun _ _ ⟨v', h1, h2⟩ => ⟨v', h1, h.built h2⟩
end
end Go.Proofs.Ytmkbifkmdmeklaa
