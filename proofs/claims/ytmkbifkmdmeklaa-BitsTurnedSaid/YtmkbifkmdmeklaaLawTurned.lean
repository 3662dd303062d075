/-
  The walk of the law BitsTurned.
-/
import Derived.Test.YtmkbifkmdmeklaaAns
import Derived.Test.YtmkbifkmdmeklaaBitsR3
namespace Go.Proofs.Ytmkbifkmdmeklaa
open Go.RowKit

set_option maxHeartbeats 1600000 in
theorem turned_good (v n : Nat) (ao : Option Addr) (len cap : Nat) (w : World) (hv : v < 4294967296) (hn : n ≤ 32) :
    Calls Try.prog 6 #[.int .u32 (v : Int), .int .i64 (n : Int), .slice ao len cap] w fun e w' => e = .returned (.bool true) ∧ Mod w w' (fun _ => False) := by
  obtain ⟨x, hx⟩ : ∃ x, x = revN v n := ⟨_, rfl⟩
  have HX := hid hx
  have hxn : x < 2 ^ n := by rw [hx]; exact revN_lt v n hn
  have hp32 : (2 : Nat) ^ n ≤ 4294967296 := Nat.pow_le_pow_right (n := 2) (by decide) hn
  have hx32 : x < 4294967296 := by omega
  have HXN := hid hxn
  have hd1 : decide ((32 : Int) < (n : Int)) = false := by simp; omega
  clear hx hxn hp32
  go_enter Try.func6, Try.ntmps6
  go_wp2_with (first
    | (go_at_call 28; refine (reverse_any v n _ hv hn).mono ?_; rw [← HX.out]; rintro e w' ⟨rfl, rfl⟩)
    | (go_at_call 10; refine (put_nil _ _ _).mono ?_; rintro e w' ⟨rfl, rfl⟩)
    | (go_at_call 12; refine (walign_nil _).mono ?_; rintro e w' ⟨rfl, rfl⟩)
    | (go_at_call 14; refine (write_nil _ _).mono ?_; rintro e w' ⟨rfl, rfl⟩)
    | (go_at_call 21; refine (feed_nil _ _).mono ?_; rintro e w' ⟨rfl, rfl⟩)
    | (go_at_call 25; refine (ralign_nil _).mono ?_; rintro e w' ⟨rfl, rfl⟩)
    | (go_at_call 22; refine (peek_nil _ _).mono ?_; rintro e w' ⟨rfl, rfl⟩)
    | (go_at_call 23; refine (get_nil _ _).mono ?_; rintro e w' ⟨rfl, rfl⟩)
    | (go_at_call 9; refine (answers_any _).mono ?_; rintro e w1 ⟨rfl, hM1⟩)
    | (go_at_call 19; refine (wbits_nil _).mono ?_; rintro e w' ⟨rfl, rfl⟩)
    | (go_at_call 16; refine (take_nil _).mono ?_; rintro e w' ⟨rfl, rfl⟩)
    | (go_at_call 27; refine (left_nil _).mono ?_; rintro e w' ⟨rfl, rfl⟩)
    | (go_at_call 26; refine (read_nil _ _).mono ?_; rintro e w' ⟨rfl, rfl⟩)
    | (go_at_call 11; refine (of_any v n _ hv (by omega)).mono ?_; rintro e w2 ⟨lv, rfl, hB⟩; obtain ⟨lo, lc, hlv⟩ := hB.form; rw [bitsOf_length] at hlv; subst hlv))
  have hrd := hB.1.rd
  rw [bitsOf_length] at hrd
  go_loop [15] (fun t => ∃ k : Nat, k ≤ n ∧ t = .int .i64 (k : Int)) (fun t => n - (intOf t).toNat)
  case atStart => exact ⟨0, Nat.zero_le _, rfl⟩
  case round =>
    obtain ⟨k, hk, rfl⟩ := hrel
    by_cases hkn : k < n
    · obtain ⟨g, off, rfl, hcell⟩ := hrd.spot (by omega)
      obtain ⟨b, hb⟩ : ∃ b, b = v / 2 ^ k % 2 := ⟨_, rfl⟩
      have hc : w2.cell? ⟨g, off + k, none⟩ = some (.int .u8 (b : Int)) := hcell k _ (by rw [u8s_get, bitsOf_get _ _ _ hkn, hb]; rfl)
      have hk0 : (0 : Int) ≤ (k : Int) := Int.natCast_nonneg _
      have hk1 : (k : Int) < (n : Int) := by omega
      have ht : (((x : Int) / 2 ^ (n - 1 - k)).tmod 2 % 256 != (b : Int)) = false := by
        rw [bit_val x (n - 1 - k), HX.out, revN_bit v n k hn hkn, ← hb]
        have : b ≤ 1 := by omega
        simp; omega
      clear hb hcell
      go_wp2
      go_round
      case rel => exact ⟨k + 1, by omega, by go_num⟩
      case measure => simp [intOf]; omega
    · obtain ⟨m, hm⟩ : ∃ m, m = v % 2 ^ n := ⟨_, rfl⟩
      have hlt : (x : Int) < IntKind.u64.wrap (2 ^ n) := by
        have h1 := HXN.out
        have h2 : (2 : Nat) ^ n ≤ 2 ^ 32 := Nat.pow_le_pow_right (n := 2) (by decide) hn
        rw [two_pow_int, IntWalk.u64_in _ (by omega)]; omega
      have hmb : m < 4294967296 := by
        rw [hm]; exact Nat.lt_of_lt_of_le (Nat.mod_lt _ (Nat.two_pow_pos n)) (Nat.pow_le_pow_right (n := 2) (by decide) hn)
      have h1 : m = revN x n := by rw [HX.out, revN_twice v n hn, hm]
      have h2 : m = numOf (bitsOf n v) := by rw [numOf_bitsOf, hm]
      have H1 := hid h1
      have H2 := hid h2
      have hmm : ((m : Int) == (m : Int)) = true := by simp
      clear hm h1 h2
      go_wp2_with (first
        | (go_at_call 28; refine (reverse_any x n _ hx32 hn).mono ?_; rw [← H1.out]; rintro e w' ⟨rfl, rfl⟩)
        | (go_at_call 24; refine (number_of _ n m _ (bitsOf n v) w2 hrd rfl (bitsOf_isBits _ _) (by omega) H2.out).mono ?_; rintro e w' ⟨rfl, rfl⟩))
      go_ret
      exact ⟨rfl, hM1.same (hB.2.1.mono fun _ _ h => h)⟩

set_option maxHeartbeats 1600000 in
theorem turned_bad (v n : Int) (ao : Option Addr) (len cap : Nat) (w : World) (hn : n < 0 ∨ 32 < n) :
    Calls Try.prog 6 #[.int .u32 v, .int .i64 n, .slice ao len cap] w fun e w' => e = .returned (.bool true) ∧ Mod w w' (fun _ => False) := by
  by_cases h0 : n < 0
  · go_enter Try.func6, Try.ntmps6
    go_wp2_with (first
      | (go_at_call 28; refine (reverse_bad v n _ hn).mono ?_; rintro e w' ⟨rfl, rfl⟩)
      | (go_at_call 10; refine (put_nil _ _ _).mono ?_; rintro e w' ⟨rfl, rfl⟩)
      | (go_at_call 12; refine (walign_nil _).mono ?_; rintro e w' ⟨rfl, rfl⟩)
      | (go_at_call 14; refine (write_nil _ _).mono ?_; rintro e w' ⟨rfl, rfl⟩)
      | (go_at_call 21; refine (feed_nil _ _).mono ?_; rintro e w' ⟨rfl, rfl⟩)
      | (go_at_call 25; refine (ralign_nil _).mono ?_; rintro e w' ⟨rfl, rfl⟩)
      | (go_at_call 22; refine (peek_nil _ _).mono ?_; rintro e w' ⟨rfl, rfl⟩)
      | (go_at_call 23; refine (get_nil _ _).mono ?_; rintro e w' ⟨rfl, rfl⟩)
      | (go_at_call 9; refine (answers_any _).mono ?_; rintro e w1 ⟨rfl, hM1⟩)
      | (go_at_call 19; refine (wbits_nil _).mono ?_; rintro e w' ⟨rfl, rfl⟩)
      | (go_at_call 16; refine (take_nil _).mono ?_; rintro e w' ⟨rfl, rfl⟩)
      | (go_at_call 27; refine (left_nil _).mono ?_; rintro e w' ⟨rfl, rfl⟩)
      | (go_at_call 26; refine (read_nil _ _).mono ?_; rintro e w' ⟨rfl, rfl⟩))
    go_ret
    exact ⟨rfl, hM1⟩
  · have h32 : 32 < n := by omega
    have h0' : 0 ≤ n := by omega
    clear h0
    go_enter Try.func6, Try.ntmps6
    go_wp2_with (first
      | (go_at_call 28; refine (reverse_bad v n _ hn).mono ?_; rintro e w' ⟨rfl, rfl⟩)
      | (go_at_call 10; refine (put_nil _ _ _).mono ?_; rintro e w' ⟨rfl, rfl⟩)
      | (go_at_call 12; refine (walign_nil _).mono ?_; rintro e w' ⟨rfl, rfl⟩)
      | (go_at_call 14; refine (write_nil _ _).mono ?_; rintro e w' ⟨rfl, rfl⟩)
      | (go_at_call 21; refine (feed_nil _ _).mono ?_; rintro e w' ⟨rfl, rfl⟩)
      | (go_at_call 25; refine (ralign_nil _).mono ?_; rintro e w' ⟨rfl, rfl⟩)
      | (go_at_call 22; refine (peek_nil _ _).mono ?_; rintro e w' ⟨rfl, rfl⟩)
      | (go_at_call 23; refine (get_nil _ _).mono ?_; rintro e w' ⟨rfl, rfl⟩)
      | (go_at_call 9; refine (answers_any _).mono ?_; rintro e w1 ⟨rfl, hM1⟩)
      | (go_at_call 19; refine (wbits_nil _).mono ?_; rintro e w' ⟨rfl, rfl⟩)
      | (go_at_call 16; refine (take_nil _).mono ?_; rintro e w' ⟨rfl, rfl⟩)
      | (go_at_call 27; refine (left_nil _).mono ?_; rintro e w' ⟨rfl, rfl⟩)
      | (go_at_call 26; refine (read_nil _ _).mono ?_; rintro e w' ⟨rfl, rfl⟩))
    go_ret
    exact ⟨rfl, hM1⟩
theorem turned_walk (v : Nat) (n : Int) (ao : Option Addr) (len cap : Nat) (w : World) (hv : v < 4294967296) :
    Calls Try.prog 6 #[.int .u32 (v : Int), .int .i64 n, .slice ao len cap] w fun e w' => e = .returned (.bool true) ∧ Below w.heap.size w w' := by
  by_cases h : 0 ≤ n ∧ n ≤ 32
  · obtain ⟨k, rfl⟩ := Int.eq_ofNat_of_zero_le h.1
    exact (turned_good v k ao len cap w hv (by omega)).mono fun e w' ⟨h1, h2⟩ => ⟨h1, h2.toBelow⟩
  · exact (turned_bad v n ao len cap w (by omega)).mono fun e w' ⟨h1, h2⟩ => ⟨h1, h2.toBelow⟩
end Go.Proofs.Ytmkbifkmdmeklaa
