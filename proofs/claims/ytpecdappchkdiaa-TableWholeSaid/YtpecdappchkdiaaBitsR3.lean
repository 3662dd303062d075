/-
  The contracts of the bit reader's methods: Peek, Get, Read.
-/
import Derived.Test.YtpecdappchkdiaaBitsR2
namespace Go.Proofs.Ytpecdappchkdiaa
open Go.RowKit

theorem numOf_take {c s n : Nat} {t : List Nat} (h : n ≤ c) : numOf ((bitsOf c s ++ t).take n) = s % 2 ^ n := by
  rw [List.take_append_of_le_length (by rw [bitsOf_length]; exact h)]
  have h1 := bitsOf_add n (c - n) s
  rw [show n + (c - n) = c by omega] at h1
  rw [h1, List.take_append_of_le_length (by rw [bitsOf_length]; omega), List.take_of_length_le (by rw [bitsOf_length]; omega), numOf_bitsOf]

theorem peek_bad (B : Nat) (n : Int) (w : World) (hn : n < 0 ∨ 32 < n) :
    Calls Try.prog 31 #[.pointer (some ⟨B, 0, none⟩), .int .i64 n] w fun e w' => e = .returned (.tuple #[.int .u32 0, .bool false]) ∧ w = w' := by
  go_enter Try.func31, Try.ntmps31
  go_wp2_with (go_at_call 43; refine (fits_no _ _ hn).mono ?_; rintro e w' ⟨rfl, rfl⟩)
  go_ret2
  exact ⟨rfl, rfl⟩
theorem peek_few (B : Nat) (d : Value) (l : List Nat) (n : Nat) (w : World) (h : Rr w B d l) (hn : n ≤ 32) (hnl : l.length < n) :
    Calls Try.prog 31 #[.pointer (some ⟨B, 0, none⟩), .int .i64 (n : Int)] w fun e w' => e = .returned (.tuple #[.int .u32 0, .bool false]) ∧ ∃ k, w' = w.drewN k := by
  have h1 : (l.length : Int) < (n : Int) := by omega
  go_enter Try.func31, Try.ntmps31
  go_wp2_with (first | (go_at_call 43; refine (fits_yes _ _ ⟨by omega, by omega⟩).mono ?_; rintro e w' ⟨rfl, rfl⟩) | (go_at_call 16; refine (left_any B d l w h (by omega)).mono ?_; rintro e w' ⟨rfl, k, rfl⟩))
  go_ret2
  exact ⟨rfl, _, rfl⟩
theorem peek_any (B : Nat) (d : Value) (l : List Nat) (n : Nat) (w : World) (h : Rr w B d l) (hn : n ≤ 32) (hnl : n ≤ l.length) (hl : l.length < 1099511627000) :
    Calls Try.prog 31 #[.pointer (some ⟨B, 0, none⟩), .int .i64 (n : Int)] w fun e w' => e = .returned (.tuple #[.int .u32 ((numOf (l.take n) : Nat) : Int), .bool true]) ∧ FiRel w B d l n 0 w' := by
  have hd : decide ((l.length : Int) < (n : Int)) = false := by simp; omega
  have hlt := hid h.lt
  have hbits := hid h.isBits
  go_enter Try.func31, Try.ntmps31
  go_wp2_with (first | (go_at_call 43; refine (fits_yes _ _ ⟨by omega, by omega⟩).mono ?_; rintro e w' ⟨rfl, rfl⟩) | (go_at_call 16; refine (left_any B d l w h (by omega)).mono ?_; rintro e w' ⟨rfl, k, rfl⟩) | fail)
  have h2 : Rr (w.drewN k) B d l := h.kept (S := fun _ => False) ((Mod.refl w _).drewN k) (fun _ _ h => h)
  refine (fill_any B d l n (w.drewN k) h2 hn hnl hl).mono ?_
  rintro e w2 ⟨rfl, d', bs, s, c, hR, hL, hc, hck, hM, hO⟩
  have hs := hid hR.2.2.2.1
  have hR' := hid hR
  have c1 := hR.1.cell (i := 1) rfl
  have HL := hid hL
  have h39 : s < 18446744073709551616 := Nat.lt_of_lt_of_le hR.2.2.2.1 (Nat.le_trans (Nat.pow_le_pow_right (by decide) (show c ≤ 64 by omega)) (by decide))
  obtain ⟨m, hm⟩ : ∃ m, m = s % 2 ^ n := ⟨_, rfl⟩
  have hm32 : m < 4294967296 := by
    rw [hm]; exact Nat.lt_of_lt_of_le (Nat.mod_lt _ (Nat.two_pow_pos n)) (Nat.pow_le_pow_right (by decide) hn)
  have HMm : Hid (numOf (l.take n) = m) := by
    show numOf (l.take n) = m
    rw [← hL, numOf_take (by omega), hm]
  have hm0 := hid hm
  clear hR hL hm
  go_wp2_with (go_at_call 45; refine (lowest_of s n m _ h39 hn hm0.out).mono ?_; rintro e w3 ⟨rfl, rfl⟩)
  go_ret2
  rw [HMm.out]
  refine ⟨rfl, d', bs, s, c, hR'.out, HL.out, hc, hck, ?_, hO⟩
  exact (((Mod.refl w (WSet B d)).drewN k).trans hM fun _ _ h => h)

theorem get_bad (B : Nat) (n : Int) (w : World) (hn : n < 0 ∨ 32 < n) :
    Calls Try.prog 34 #[.pointer (some ⟨B, 0, none⟩), .int .i64 n] w fun e w' => e = .returned (.tuple #[.int .u32 0, .bool false]) ∧ w = w' := by
  go_enter Try.func34, Try.ntmps34
  go_wp2_with (go_at_call 31; refine (peek_bad B n _ hn).mono ?_; rintro e w' ⟨rfl, rfl⟩)
  go_ret2
  exact ⟨rfl, rfl⟩
theorem get_few (B : Nat) (d : Value) (l : List Nat) (n : Nat) (w : World) (h : Rr w B d l) (hn : n ≤ 32) (hnl : l.length < n) :
    Calls Try.prog 34 #[.pointer (some ⟨B, 0, none⟩), .int .i64 (n : Int)] w fun e w' => e = .returned (.tuple #[.int .u32 0, .bool false]) ∧ ∃ k, w' = w.drewN k := by
  go_enter Try.func34, Try.ntmps34
  go_wp2_with (go_at_call 31; refine (peek_few B d l n w h hn hnl).mono ?_; rintro e w' ⟨rfl, k, rfl⟩)
  go_ret2
  exact ⟨rfl, _, rfl⟩
theorem get_any (B : Nat) (d : Value) (l : List Nat) (n : Nat) (w : World) (h : Rr w B d l) (hn : n ≤ 32) (hnl : n ≤ l.length) (hl : l.length < 1099511627000) :
    Calls Try.prog 34 #[.pointer (some ⟨B, 0, none⟩), .int .i64 (n : Int)] w fun e w' => e = .returned (.tuple #[.int .u32 ((numOf (l.take n) : Nat) : Int), .bool true]) ∧ RStep w w' B d (l.drop n) := by
  have hlt := hid h.lt
  go_enter Try.func34, Try.ntmps34
  go_wp2_with fail
  refine (peek_any B d l n w h hn hnl hl).mono ?_
  rintro e w1 ⟨rfl, d', bs, s, c, hR, hL, hc, hck, hM, hO⟩
  have HL := hid hL
  clear hL
  obtain ⟨m, hm⟩ : ∃ m, m = numOf (l.take n) := ⟨_, rfl⟩
  rw [← hm]
  go_wp2_with fail
  refine (drop_any B d' bs s c n w1 hR (by omega) hc).mono ?_
  rintro e w2 ⟨rfl, hR2, hM2⟩
  go_wp2
  go_ret2
  refine ⟨rfl, d', ⟨bs, _, _, hR2, by omega, ?_⟩, wset_next hlt.out hM hO (hM2.mono fun k _ e => .inl e), hO⟩
  rw [← HL.out, List.drop_append_of_le_length (by rw [bitsOf_length]; omega)]
  have h1 := bitsOf_add n (c - n) s
  rw [show n + (c - n) = c by omega] at h1
  rw [h1, List.drop_append, bitsOf_length, Nat.sub_self, List.drop_eq_nil_of_le (by rw [bitsOf_length]; omega)]
  rfl
end Go.Proofs.Ytpecdappchkdiaa
