/-
  The law TableNone, of TableOK.
-/
import Derived.Test.YtpecdappchkdiaaLawTab0
namespace Go.Proofs.Ytpecdappchkdiaa
open Go.RowKit

theorem none_check : checkOf [0, 0] 15 = 0 := by decide
theorem none_read {bs : List Nat} {k q er : Nat} (h : ReadIs [0, 0] bs k q er) : k = 0 ∧ q = 0 ∧ er = if bs = [] then 5 else 3 := by
  have hno : ∀ i m, ¬ Hit [0, 0] bs i m := fun i m hh => by
    have h1 := List.mem_of_getElem? hh.1
    have h2 := hh.2.1
    simp at h1
    omega
  rcases h with ⟨_, h⟩ | ⟨rfl, rfl, _, rfl⟩
  · exact absurd h (hno _ _)
  · refine ⟨rfl, rfl, ?_⟩
    have : lng [0, 0] = 0 := by decide
    rw [this]
    by_cases e : bs = []
    · rw [if_pos e, if_pos (.inr e)]
    · rw [if_neg e, if_neg]
      rintro (h | h)
      · omega
      · exact e h
set_option maxRecDepth 100000 in
set_option maxHeartbeats 3200000 in
theorem tableNone_from {T : List Int → Nat → Thing} (HT : TableOK T) (v : Value) (b : List Int) (s : Int) (w : World) (hb : shBytes.good w [v] b) (_ : (Lit.int .i64 s).wf = true) :
    Calls Try.prog 5 #[v, .int .i64 s] w fun e w' => e = .returned (.bool true) ∧ Below w.heap.size w w' := by
  obtain ⟨bs, _, hb256, hv⟩ := bytes_of hb
  clear hb
  obtain ⟨N, hN⟩ : ∃ N, N = bs.length := ⟨_, rfl⟩
  rw [← hN] at hv
  have HN := hid hN
  clear hN
  obtain ⟨ao, cap, rfl, _, _⟩ := hv.form
  have HV := hid hv
  have hN0 : (0 : Int) ≤ (N : Int) := Int.natCast_nonneg _
  clear hv
  by_cases hbig : 1000 < N
  · have hI : (1000 : Int) < (N : Int) := by omega
    go_enter Try.func5, Try.ntmps5
    go_wp2_with fail
    refine (h_answers6 HT (Held.start w)).mono ?_
    rintro e w1 ⟨rfl, hM⟩
    have HB := hid hM.below
    clear hM
    go_wp2
    go_ret
    exact ⟨rfl, HB.out⟩
  have hI : ¬ (1000 : Int) < (N : Int) := by omega
  go_enter Try.func5, Try.ntmps5
  go_wp2_with fail
  refine (h_newR (Held.start w)).mono ?_
  rintro e w1 ⟨Br, rfl, hh⟩
  have H1 := hid hh
  clear hh
  go_wp2_with fail
  refine (h_newW H1.out).mono ?_
  rintro e w2 ⟨Bw, rfl, hh⟩
  have H2 := hid hh.swap
  clear hh H1
  go_wp2_with fail
  refine (h_feed H2.out _ N bs (H2.out.old HV.out) hb256 (by omega) (by decide)).mono ?_
  rintro e w3 ⟨rfl, hh⟩
  rw [List.nil_append] at hh
  have H3 := hid hh
  clear hh H2
  go_wp2_with fail
  refine (HT.nextNil Br _ w _ _ H3.out).mono ?_
  rintro e w4 ⟨k0, rfl, hh⟩
  have h5 := hh.lit 3 1 (ints [0, 0]) 2 (by decide) rfl
  have HB := hid (HT.build _ 2 [0, 0] 15 w _ _ h5 h5.own.rd (by decide))
  clear hh H3 h5
  rw [none_check] at HB
  go_wp2_with fail
  refine HB.out.mono ?_
  rintro e w5 (⟨h0, _⟩ | ⟨_, B, rfl, hh⟩)
  · exact absurd rfl h0
  have H5 := hid hh.third
  clear hh HB
  have hbl : (bits8 bs).length = 8 * N := by rw [bits8_length, HN.out]
  go_wp2_with fail
  refine (HT.next [0, 0] B Br _ w _ _ H5.out (fine_of none_check) (bits8_isBits _) (by omega)).mono ?_
  rintro e w6 ⟨k, q, er, rfl, hh, HR⟩
  obtain ⟨rfl, rfl, her⟩ := none_read HR.out
  rw [List.drop_zero] at hh
  have H6 := hid hh
  have hcase : (N = 0 ∧ er = 5) ∨ (0 < N ∧ er = 3) := by
    by_cases hN0 : N = 0
    · left
      have : bits8 bs = [] := List.eq_nil_of_length_eq_zero (by omega)
      rw [if_pos this] at her
      exact ⟨hN0, her⟩
    · right
      have : bits8 bs ≠ [] := fun e => by rw [e] at hbl; simp at hbl; omega
      rw [if_neg this] at her
      exact ⟨by omega, her⟩
  have HBL := hid hbl
  clear hh HR H5 her hbl
  rcases hcase with ⟨h0, rfl⟩ | ⟨h0, rfl⟩
  all_goals
    have hz : ((N : Int) == 0) = decide (N = 0) := by rw [Bool.eq_iff_iff]; simp
    first | (have hzz : decide (N = 0) = true := by simp [h0]) | (have hzz : decide (N = 0) = false := by simp; omega)
    rw [hzz] at hz
    go_wp2_with fail
    refine (h_answers6 HT H6.out).mono ?_
    rintro e w7 ⟨rfl, hh⟩
    have H7 := hid hh.fourth
    clear hh H6
    go_wp2_with fail
    refine (HT.writeNil Bw _ s w _ _ H7.out).mono ?_
    rintro e w8 ⟨rfl, hh⟩
    have H8 := hid hh.third.swap
    clear hh H7
    go_wp2_with fail
    refine (HT.write [0, 0] B Bw [] s w _ _ H8.out (fine_of none_check) (by decide)).mono ?_
    rintro e w9 (⟨i, p, _, hp, hp0, _⟩ | ⟨_, rfl, hh⟩)
    · exfalso
      have h1 := List.mem_of_getElem? hp
      simp at h1
      omega
    have H9 := hid hh.third
    have HL := hid (h_left H9.out (by have := HBL.out; omega))
    rw [HBL.out] at HL
    clear hh H8 H9
    have e8 : ((8 * N : Nat) : Int) = 8 * (N : Int) := by omega
    rw [e8] at HL
    go_wp2_with fail
    refine HL.out.mono ?_
    rintro e w10 ⟨rfl, hh⟩
    have H10 := hid hh.swap
    clear hh HL e8
    go_wp2_with fail
    refine (h_wbits H10.out (by decide)).mono ?_
    rintro e w11 ⟨rfl, hh⟩
    have HF := hid hh.below
    clear hh H10
    go_wp2
    go_ret
    exact ⟨by simp, HF.out⟩
end Go.Proofs.Ytpecdappchkdiaa
