/-
  The reference's Dec: a number in digits. Only that it is a function of the number is told.
-/
import Derived.Test.YthlfomeggobnaaaLim
import Derived.Test.YthlfomeggobnaaaSep
import Derived.Laws.BytesArg
namespace Go.Proofs.Ythlfomeggobnaaa
open Go.RowKit

/-- a digit before a text -/
def digit (n : Nat) (s : ByteArray) : ByteArray := ⟨#[48 + UInt8.ofNat (n % 10)]⟩ ++ s
theorem digit_size (n : Nat) (s : ByteArray) : (digit n s).size = s.size + 1 := by
  unfold digit; rw [ByteArray.size_append, Nat.add_comm]; rfl
def udec : Nat → Nat → ByteArray → ByteArray
  | 0, _, s => s
  | k + 1, n, s => if n / 10 = 0 then digit n s else udec k (n / 10) (digit n s)
def decS (n : Nat) : ByteArray := udec 20 n ⟨#[]⟩

theorem conv_one (W : World) (z : Int) : (convert 27 9 (.slice (some ⟨W.heap.size, 0, none⟩) 1 1)).run Try.prog (W.alloc (.cells #[.int .u8 z] 5)) = .ok (.string ⟨#[UInt8.ofNat z.toNat]⟩) (W.alloc (.cells #[.int .u8 z] 5)) := by
  have h := run_convert_bytes_arg (P := Try.prog) (W.alloc (.cells #[.int .u8 z] 5)) 27 5 Try.underlying27 Try.underlying5 W.heap.size 0 1 1 [z] rfl (fun i hi => by
    obtain rfl : i = 0 := by omega
    exact (Blk.new W [.int .u8 z] 5).cell (i := 0) rfl) 9 Try.underlying9
  rw [h]; rfl

set_option maxHeartbeats 800000 in
theorem udec_any (n : Nat) (w : World) (hn : n < 18446744073709551616) :
    Calls Try.prog 37 #[.int .u64 (n : Int)] w fun e w' => e = .returned (.string (decS n)) ∧ Below w.heap.size w w' := by
  go_enter Try.func37, Try.ntmps37
  go_wp2
  go_loopg [0, 3] 20 (fun kk t0 t3 wr => ∃ (m : Nat) (s : ByteArray), t0 = .int .u64 (m : Int) ∧ t3 = .string s ∧ 0 < kk ∧ m < 10 ^ kk ∧ s.size + kk ≤ 20 ∧ m < 18446744073709551616 ∧ Hid (udec kk m s = decS n) ∧ Hid (Below w.heap.size w wr))
  case atStart => exact ⟨n, _, rfl, rfl, by omega, by omega, by decide, hn, rfl, Below.refl _ _⟩
  case round =>
    obtain ⟨m, s, rfl, rfl, hk0, hm, hs, hm2, HU, HB⟩ := hrel
    have hm0 : (0 : Int) ≤ (m : Int) := Int.natCast_nonneg _
    have hcv := conv_one wr
    obtain ⟨k, rfl⟩ : ∃ k, gk = k + 1 := ⟨gk - 1, by omega⟩
    obtain ⟨d, hd⟩ : ∃ d, d = m / 10 := ⟨_, rfl⟩
    have hdI : (m : Int) / 10 = (d : Int) := by omega
    have HE := hid (HB.out.alloc HB.out.size (.cells #[.int .u8 (48 + (m : Int) % 10)] 5))
    by_cases h0 : d = 0
    · have h0I : ((d : Int) == 0) = true := by simp [h0]
      have HR : Hid (digit m s = decS n) := by
        have h := HU.out
        unfold udec at h
        rw [if_pos (by omega)] at h
        exact h
      have hdd := hid hd
      clear hd h0 hm
      go_wp2
      go_ret
      exact ⟨by rw [← HR.out]; rfl, HE.out⟩
    · have h0I : ((d : Int) == 0) = false := by simp [h0]
      have HR : Hid (udec k d (digit m s) = decS n) := by
        have h := HU.out
        unfold udec at h
        rw [if_neg (by omega), ← hd] at h
        exact h
      have hk : 0 < k := by
        rcases Nat.eq_zero_or_pos k with h | h
        · subst h; simp at hm; omega
        · exact h
      have hdk : d < 10 ^ k := by rw [Nat.pow_succ] at hm; omega
      have hdm : d < 18446744073709551616 := by omega
      clear hd h0 hm
      go_wp2
      go_roundg k
      case measure => omega
      case rel => exact ⟨d, digit m s, rfl, rfl, hk, hdk, by rw [digit_size]; omega, hdm, HR, HE⟩
theorem dec_any (n : Nat) (w : World) (hn : n < 9223372036854775808) :
    Calls Try.prog 17 #[.int .i64 (n : Int)] w fun e w' => e = .returned (.string (decS n)) ∧ Below w.heap.size w w' := by
  have h0 : ¬ (n : Int) < 0 := by omega
  have hw : IntKind.u64.wrap (n : Int) = (n : Int) := IntWalk.u64_in _ (by omega)
  have HU := hid (udec_any n w (by omega))
  go_enter Try.func17, Try.ntmps17
  go_wp2_with fail
  refine HU.out.mono ?_
  rintro e w' ⟨rfl, hb⟩
  have HB := hid hb
  clear hb
  go_wp2
  go_ret
  exact ⟨rfl, HB.out⟩
theorem h_dec {w0 w : World} {Rs : List Thing} (h : Held w0 w Rs) (n : Nat) (hn : n < 9223372036854775808) :
    Calls Try.prog 17 #[.int .i64 (n : Int)] w fun e w' => e = .returned (.string (decS n)) ∧ Held w0 w' Rs :=
  (dec_any n w hn).mono fun _ _ ⟨h1, h2⟩ => ⟨h1, h.same ((Mod.of_below h2).mono fun k hk hs => by omega)⟩
end Go.Proofs.Ythlfomeggobnaaa
