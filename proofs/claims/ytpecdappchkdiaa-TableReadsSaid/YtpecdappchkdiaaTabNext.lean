/-
  Next: the symbol whose code is next, or an error.
-/
import Derived.Test.YtpecdappchkdiaaTabFind
namespace Go.Proofs.Ytpecdappchkdiaa
open Go.RowKit

theorem hit_same {l : List Int} {bs cs : List Nat} {L i q : Nat} (ht : cs.take L = bs.take L) (hq : q ≤ L) (h1 : L ≤ bs.length) (h : Hit l cs i q) : Hit l bs i q := by
  refine ⟨h.1, h.2.1, by omega, ?_⟩
  have h3 := h.2.2.2
  have e : cs.take q = bs.take q := by
    have := congrArg (List.take q) ht
    rwa [List.take_take, List.take_take, Nat.min_eq_left hq] at this
  rw [e] at h3; exact h3
theorem ahead_bits (bs : List Nat) (hb : isBits bs) (L : Nat) (hL : L ≤ bs.length) (h15 : L ≤ 15) : (hiBits 15 (revN (numOf (bs.take L)) 15)).take L = bs.take L := by
  rw [← bitsOf_hiBits _ 15 (by decide)]
  have hl : (bs.take L).length = L := by rw [List.length_take]; omega
  have h := bitsOf_numOf (bs.take L) (isBits_take hb L)
  rw [hl] at h
  refine Eq.trans ?_ h
  refine List.ext_getElem? fun k => ?_
  by_cases hk : k < L
  · rw [List.getElem?_take_of_lt hk, bitsOf_get _ _ _ (by omega), bitsOf_get _ _ _ hk]
  · rw [List.getElem?_eq_none (by rw [List.length_take]; omega), List.getElem?_eq_none (by rw [bitsOf_length]; omega)]
theorem next_far {l : List Int} {bs cs : List Nat} {L k n : Nat} (hl : ∀ a ∈ l, 0 ≤ a ∧ a ≤ 15) (hc : isBits cs) (h15 : cs.length = 15) (ht : cs.take L = bs.take L) (hL : L = min bs.length 15) (hh : Hit l cs k n) (hn : L < n) : ReadIs l bs 0 0 5 := by
  have hlng := hh.long
  have hn15 := hh.2.2.1
  refine .inr ⟨rfl, rfl, fun i m h => ?_, ?_⟩
  · have hm : m ≤ 15 := by have := hl _ (List.mem_of_getElem? h.1); omega
    have hmb := h.2.2.1
    have h2 := hit_same (bs := cs) ht.symm (by omega) (by omega) h
    have := (Hit.one hc hl hh h2).2
    omega
  · rw [if_pos (.inl (by omega))]
theorem next_none {l : List Int} {bs cs : List Nat} {L : Nat} (hF : Fine l) (hc : isBits cs) (h15 : cs.length = 15) (ht : cs.take L = bs.take L) (hL : L = min bs.length 15) (h0 : 0 < L) (hh : ∀ i m, ¬ Hit l cs i m) : ReadIs l bs 0 0 3 := by
  have hlng : lng l ≤ 15 := lng_top l 15 fun a ha => by have := hF.1 a ha; omega
  refine .inr ⟨rfl, rfl, fun i m h => ?_, ?_⟩
  · have hm : m ≤ 15 := by have := hF.1 _ (List.mem_of_getElem? h.1); omega
    have hmb := h.2.2.1
    exact hh i m (hit_same (bs := cs) ht.symm (by omega) (by omega) h)
  · rw [if_neg]
    rintro (h | h)
    · rcases hF.2.2 with h2 | h2 | h2
      · have := lng_small l hF.1 (.inl h2); omega
      · obtain ⟨i, m, h3⟩ := Hit.whole hF.1 h2 hc (by omega)
        exact hh i m h3
      · have := lng_small l hF.1 (.inr h2); omega
    · subst h; simp at hL; omega
section
variable {w0 w : World} {Rs : List Thing}
set_option maxRecDepth 20000 in
set_option maxHeartbeats 1600000 in
theorem next_any (l : List Int) (B Br : Nat) (bs : List Nat) (h : Held w0 w (rdrT Br bs :: tabT l B :: Rs)) (hF : Fine l) (hb : isBits bs) (hlen : bs.length < 1000000) :
    Calls Try.prog 14 #[.pointer (some ⟨B, 0, none⟩), .pointer (some ⟨Br, 0, none⟩)] w fun e w' =>
      ∃ k q er : Nat, e = .returned (.tuple #[.int .i64 (k : Int), .int .i64 (er : Int)]) ∧ Held w0 w' (rdrT Br (bs.drop q) :: tabT l B :: Rs) ∧ Hid (ReadIs l bs k q er) := by
  have HL := hid (h_left h (by omega))
  obtain ⟨L, hL⟩ : ∃ L, L = min bs.length 15 := ⟨_, rfl⟩
  obtain ⟨N, hN⟩ : ∃ N, N = bs.length := ⟨_, rfl⟩
  rw [← hN] at HL
  have HB := hid hb
  have HF := hid hF
  have HN := hid hN
  have HLI := hid hL
  obtain ⟨cs, hcs⟩ : ∃ cs, cs = hiBits 15 (revN (numOf (bs.take L)) 15) := ⟨_, rfl⟩
  have HT : Hid (cs.take L = bs.take L) := by rw [hcs]; exact ahead_bits bs hb L (by omega) (by omega)
  have HC : Hid (isBits cs) := by rw [hcs]; exact hiBits_isBits _ _
  have HC2 : Hid (cs.length = 15) := by rw [hcs]; exact hiBits_length _ _
  obtain ⟨a, ha⟩ : ∃ a, a = numOf (bs.take L) := ⟨_, rfl⟩
  have ha32 : a < 4294967296 := by
    rw [ha]
    have h1 := numOf_lt (bs.take L) (isBits_take hb L)
    have h2 : 2 ^ (bs.take L).length ≤ 2 ^ 15 := Nat.pow_le_pow_right (by decide) (by rw [List.length_take]; omega)
    exact Nat.lt_of_lt_of_le h1 (Nat.le_trans h2 (by decide))
  rw [← ha] at hcs
  obtain ⟨x, hx⟩ : ∃ x, x = revN a 15 := ⟨_, rfl⟩
  have hx2 : x < 32768 := by rw [hx]; exact revN_lt _ _ (by decide)
  rw [← hx] at hcs
  have HX := hid hx
  have HA := hid ha
  have HCS := hid hcs
  have hN0 : (0 : Int) ≤ (N : Int) := Int.natCast_nonneg _
  have hL15 : L ≤ 15 := by omega
  have hLN : L ≤ N := by omega
  have hcase : N ≤ 15 ∧ L = N ∨ 15 < N ∧ L = 15 := by omega
  have hNl : N < 1000000 := by omega
  clear h hL hN hb hF hcs hx ha hlen
  rcases hcase with ⟨hNc, hNL⟩ | ⟨hNc, hNL⟩
  · obtain rfl : N = L := hNL.symm
    have hNI : (N : Int) ≤ 15 := by omega
    go_enter Try.func14, Try.ntmps14
    go_wp2_with fail
    refine HL.out.mono ?_
    rintro e w1 ⟨rfl, hh⟩
    have H1 := hid hh
    clear hh
    go_wp2_with fail
    refine (h_peek H1.out N (by omega) (by have := HN.out; omega) (by have := HN.out; omega)).mono ?_
    rw [← HA.out]
    rintro e w2 ⟨rfl, hh⟩
    have H2 := hid hh
    clear hh H1
    go_wp2_with fail
    refine (reverse_any a 15 w2 ha32 (by decide)).mono ?_
    rw [← HX.out]
    rintro e w3 ⟨rfl, rfl⟩
    go_wp2_with fail
    refine (find_any l B x H2.out.swap HF.out hx2).mono ?_
    rw [← HCS.out]
    rintro e w4 ⟨k, n, rfl, hh, HR⟩
    have H4 := hid hh.swap
    clear hh H2
    have hk0 : (0 : Int) ≤ (k : Int) := Int.natCast_nonneg _
    have hn0 : (0 : Int) ≤ (n : Int) := Int.natCast_nonneg _
    by_cases h0 : N = 0
    · have hB0 : ((N : Int) == 0) = true := by simp; omega
      have HE : Hid (bs = []) := List.eq_nil_of_length_eq_zero (by have := HN.out; omega)
      clear h0
      go_wp2
      go_ret2
      refine ⟨0, 0, 5, rfl, H4.out, ?_⟩
      rw [HE.out]; exact read_empty l
    have hB0 : ((N : Int) == 0) = false := by simp; omega
    have HL0 : Hid (0 < N) := by unfold Hid; omega
    clear h0
    have h3 : N < n ∨ n = 0 ∨ 1 ≤ n ∧ n ≤ N := by omega
    rcases h3 with h3 | h3 | ⟨h3, h4⟩
    · have hB1 : decide (((N : Nat) : Int) < (n : Int)) = true := by simp; omega
      have hI1 : ((N : Nat) : Int) < (n : Int) := by omega
      have HH : Hid (ReadIs l bs 0 0 5) := by
        rcases HR.out with h | ⟨_, h, _⟩
        · exact next_far HF.out.1 HC.out HC2.out HT.out HLI.out h h3
        · omega
      clear h3
      go_wp2
      go_ret2
      exact ⟨0, 0, 5, rfl, H4.out, HH⟩
    · subst h3
      have HH : Hid (ReadIs l bs 0 0 3) := by
        rcases HR.out with h | ⟨_, _, h⟩
        · exact absurd h.2.1 (by decide)
        · exact next_none HF.out HC.out HC2.out HT.out HLI.out HL0.out h
      have hB1 : decide (((N : Nat) : Int) < 0) = false := by simp
      have hI1 : ¬ ((N : Nat) : Int) < 0 := by omega
      go_wp2
      go_ret2
      exact ⟨0, 0, 3, rfl, H4.out, HH⟩
    · have hB1 : decide (((N : Nat) : Int) < (n : Int)) = false := by simp; omega
      have hI1 : ¬ ((N : Nat) : Int) < (n : Int) := by omega
      have hB2 : ((n : Int) == 0) = false := by simp; omega
      have HH : Hid (ReadIs l bs k n 0) := by
        rcases HR.out with h | ⟨_, h, _⟩
        · exact read_hit (hit_same HT.out h4 (by have := HLI.out; omega) h)
        · omega
      have HG := hid (h_get H4.out n (by omega) (by have := HLI.out; omega) (by have := HN.out; omega))
      clear h3 h4
      go_wp2_with fail
      refine HG.out.mono ?_
      rintro e w5 ⟨rfl, hh⟩
      have H5 := hid hh
      clear hh H4 HG
      go_wp2
      go_ret2
      exact ⟨k, n, 0, rfl, H5.out, HH⟩
  · subst hNL
    have hNI : ¬ (N : Int) ≤ 15 := by omega
    have hNI2 : (15 : Int) < (N : Int) := by omega
    go_enter Try.func14, Try.ntmps14
    go_wp2_with fail
    refine HL.out.mono ?_
    rintro e w1 ⟨rfl, hh⟩
    have H1 := hid hh
    clear hh
    go_wp2_with fail
    refine (h_peek H1.out 15 (by omega) (by have := HN.out; omega) (by have := HN.out; omega)).mono ?_
    rw [← HA.out]
    rintro e w2 ⟨rfl, hh⟩
    have H2 := hid hh
    clear hh H1
    go_wp2_with fail
    refine (reverse_any a 15 w2 ha32 (by decide)).mono ?_
    rw [← HX.out]
    rintro e w3 ⟨rfl, rfl⟩
    go_wp2_with fail
    refine (find_any l B x H2.out.swap HF.out hx2).mono ?_
    rw [← HCS.out]
    rintro e w4 ⟨k, n, rfl, hh, HR⟩
    have H4 := hid hh.swap
    clear hh H2
    have hk0 : (0 : Int) ≤ (k : Int) := Int.natCast_nonneg _
    have hn0 : (0 : Int) ≤ (n : Int) := Int.natCast_nonneg _
    have HL0 : Hid (0 < 15) := by unfold Hid; omega
    have h3 : 15 < n ∨ n = 0 ∨ 1 ≤ n ∧ n ≤ 15 := by omega
    rcases h3 with h3 | h3 | ⟨h3, h4⟩
    · have hB1 : decide (((15 : Nat) : Int) < (n : Int)) = true := by simp; omega
      have hI1 : ((15 : Nat) : Int) < (n : Int) := by omega
      have HH : Hid (ReadIs l bs 0 0 5) := by
        rcases HR.out with h | ⟨_, h, _⟩
        · exact next_far HF.out.1 HC.out HC2.out HT.out HLI.out h h3
        · omega
      clear h3
      go_wp2
      go_ret2
      exact ⟨0, 0, 5, rfl, H4.out, HH⟩
    · subst h3
      have HH : Hid (ReadIs l bs 0 0 3) := by
        rcases HR.out with h | ⟨_, _, h⟩
        · exact absurd h.2.1 (by decide)
        · exact next_none HF.out HC.out HC2.out HT.out HLI.out HL0.out h
      have hB1 : decide (((15 : Nat) : Int) < 0) = false := by simp
      have hI1 : ¬ ((15 : Nat) : Int) < 0 := by omega
      go_wp2
      go_ret2
      exact ⟨0, 0, 3, rfl, H4.out, HH⟩
    · have hB1 : decide (((15 : Nat) : Int) < (n : Int)) = false := by simp; omega
      have hI1 : ¬ ((15 : Nat) : Int) < (n : Int) := by omega
      have hB2 : ((n : Int) == 0) = false := by simp; omega
      have HH : Hid (ReadIs l bs k n 0) := by
        rcases HR.out with h | ⟨_, h, _⟩
        · exact read_hit (hit_same HT.out h4 (by have := HLI.out; omega) h)
        · omega
      have HG := hid (h_get H4.out n (by omega) (by have := HLI.out; omega) (by have := HN.out; omega))
      clear h3 h4
      go_wp2_with fail
      refine HG.out.mono ?_
      rintro e w5 ⟨rfl, hh⟩
      have H5 := hid hh
      clear hh H4 HG
      go_wp2
      go_ret2
      exact ⟨k, n, 0, rfl, H5.out, HH⟩
end
end Go.Proofs.Ytpecdappchkdiaa
