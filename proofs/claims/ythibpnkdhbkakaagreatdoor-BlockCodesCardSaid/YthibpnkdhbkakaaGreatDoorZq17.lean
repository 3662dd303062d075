/-
  The reference's Sum and Check.
-/
import Derived.Test.YthibpnkdhbkakaaGreatDoorProg
import Derived.Test.YthibpnkdhbkakaaGreatDoorZq04
import Derived.StillTailTactics
import Derived.Test.YthibpnkdhbkakaaGreatDoorZq01
import Derived.Test.YthibpnkdhbkakaaGreatDoorZq03
namespace Go.Proofs.YthibpnkdhbkakaaGreatDoor
set_option maxRecDepth 5000
open Go.RowKit

set_option maxHeartbeats 1600000 in
theorem refsum_any (v : Value) (l : List Int) (w : World) (hv : Rd w 1 v l.length (ints l)) (hl : l.length < 1000000) :
    Calls Tryz.prog 38 #[v] w fun e w' => e = .returned (.int .i64 ((sumOf l : Nat) : Int)) ∧ w = w' := by
  obtain ⟨ao, cap, rfl, _, _⟩ := hv.form
  obtain ⟨n, hn⟩ : ∃ n, n = l.length := ⟨_, rfl⟩
  rw [← hn] at hv hl ⊢
  have HN := hid hn
  clear hn
  go_enter Tryz.func38, Tryz.ntmps38
  go_wp2
  go_loopg [3, 4] (n + 1) (fun k t3 t4 wr => ∃ (i s : Nat), i ≤ n ∧ n - i < k ∧ t4 = .int .i64 (i : Int) ∧ t3 = .int .i64 (s : Int) ∧ Hid (s = sumOf (l.take i)) ∧ s ≤ 16384 * i ∧ wr = w)
  case atStart => exact ⟨0, 0, by omega, by omega, rfl, rfl, by simp [Hid, sumOf, tot_nil], by omega, rfl⟩
  case round =>
    obtain ⟨i, s, hi, hk, rfl, rfl, HS, hs, rfl⟩ := hrel
    obtain ⟨gx, rfl⟩ : ∃ g, g = gk := ⟨gk, rfl⟩
    by_cases hin : i < n
    · obtain ⟨g, off, rfl, hcell⟩ := hv.spot (by omega)
      obtain ⟨a, hai⟩ : ∃ a, l[i]? = some a := ⟨l[i]'(by have := HN.out; omega), List.getElem?_eq_getElem _⟩
      have hc1 := hcell i _ (by rw [ints_get, hai]; rfl)
      have hi0 : (0 : Int) ≤ (i : Int) := Int.natCast_nonneg _
      have hi1 : (i : Int) < (n : Int) := by omega
      have HT := hid (sum_take_snoc l i a hai)
      clear hcell hai
      have h3 : a < 1 ∨ 1 ≤ a ∧ 15 < a ∨ 1 ≤ a ∧ a ≤ 15 := by omega
      rcases h3 with h | ⟨h, h2⟩ | ⟨h, h2⟩
      · have HW : Hid (wtTo 15 a = 0) := by unfold Hid wtTo; rw [if_neg (by omega)]
        go_wp2
        go_roundg (gx - 1)
        case measure => omega
        case rel => exact ⟨i + 1, s, by omega, by omega, by go_num, rfl, by unfold Hid; rw [HT.out, HW.out]; exact HS.out, by omega, rfl⟩
      · have HW : Hid (wtTo 15 a = 0) := by unfold Hid wtTo; rw [if_neg (by omega)]
        go_wp2
        go_roundg (gx - 1)
        case measure => omega
        case rel => exact ⟨i + 1, s, by omega, by omega, by go_num, rfl, by unfold Hid; rw [HT.out, HW.out]; exact HS.out, by omega, rfl⟩
      · obtain ⟨m, rfl⟩ := Int.eq_ofNat_of_zero_le (show 0 ≤ a by omega)
        have HW : Hid (wtTo 15 (m : Int) = 2 ^ (15 - m)) := by unfold Hid wtTo; rw [if_pos (by omega)]; rfl
        have hm15 : m ≤ 15 := by omega
        have hm1 : 1 ≤ m := by omega
        go_wp2
        go_loopg [5, 6] (m + 1) (fun k t5 t6 wq => ∃ (j p : Nat), j ≤ m ∧ m - j < k ∧ t6 = .int .i64 (j : Int) ∧ t5 = .int .i64 (p : Int) ∧ Hid (p = 2 ^ (15 - j)) ∧ p ≤ 32768 ∧ wq = wr)
        case atStart => exact ⟨0, 32768, by omega, by omega, rfl, rfl, rfl, by omega, rfl⟩
        case round =>
          obtain ⟨j, p, hj, hk2, rfl, rfl, HP, hp, rfl⟩ := hrel
          by_cases hjm : j < m
          · have hjI : (j : Int) < (m : Int) := by omega
            obtain ⟨q, hq⟩ : ∃ q, q = 2 ^ (15 - (j + 1)) := ⟨_, rfl⟩
            have hpq : p = 2 * q := by rw [HP.out, hq, show 15 - j = (15 - (j + 1)) + 1 by omega, Nat.pow_succ, Nat.mul_comm]
            have hqI : (p : Int) / 2 = (q : Int) := by omega
            have HQ := hid hq
            clear hq hpq
            go_wp2
            go_roundg (gk - 1)
            case measure => omega
            case rel => exact ⟨j + 1, q, by omega, by omega, by go_num, rfl, HQ, by omega, rfl⟩
          · obtain rfl : j = m := by omega
            have hjI : ¬ (j : Int) < (j : Int) := by omega
            have hsp : p ≤ 16384 := by rw [HP.out]; have h14 : 15 - j ≤ 14 := by omega
                                       exact Nat.pow_le_pow_right (n := 2) (by decide) h14
            go_wp2
            go_roundg (gx - 1)
            case measure => omega
            case rel => exact ⟨i + 1, s + p, by omega, by omega, by go_num, by go_num, by unfold Hid; rw [HT.out, HW.out, HP.out, HS.out], by omega, rfl⟩
    · have hi1 : ¬ (i : Int) < (n : Int) := by omega
      go_wp2
      go_ret
      exact ⟨ret_int (by rw [HS.out, List.take_of_length_le (by have := HN.out; omega)]), rfl⟩

set_option maxRecDepth 100000 in
set_option maxHeartbeats 1600000 in
theorem refcheck_any (v : Value) (l : List Int) (most : Int) (w : World) (hv : Rd w 1 v l.length (ints l)) (hl : l.length < 1000000) :
    Calls Tryz.prog 23 #[v, .int .i64 most] w fun e w' => e = .returned (.int .i64 ((checkOf l most : Nat) : Int)) ∧ w = w' := by
  obtain ⟨ao, cap, rfl, _, _⟩ := hv.form
  have HRS := hid (refsum_any _ l w hv hl)
  obtain ⟨n, hn⟩ : ∃ n, n = l.length := ⟨_, rfl⟩
  rw [← hn] at hv hl HRS
  rw [← hn]
  have HN := hid hn
  clear hn
  have hn0 : (0 : Int) ≤ (n : Int) := Int.natCast_nonneg _
  have h4 : most < 1 ∨ 1 ≤ most ∧ 15 < most ∨ 1 ≤ most ∧ most ≤ 15 ∧ 288 < n ∨ 1 ≤ most ∧ most ≤ 15 ∧ n ≤ 288 := by omega
  rcases h4 with h | ⟨h, h2⟩ | ⟨h, h2, h3⟩ | ⟨h, h2, h3⟩
  · have HF : Hid (checkOf l most = 1) := by unfold Hid checkOf; rw [if_pos]; simp [argBad]; omega
    clear hv
    go_enter Tryz.func23, Tryz.ntmps23
    go_wp2
    go_ret
    exact ⟨by rw [HF.out]; rfl, rfl⟩
  · have HF : Hid (checkOf l most = 1) := by unfold Hid checkOf; rw [if_pos]; simp [argBad]; omega
    clear hv
    go_enter Tryz.func23, Tryz.ntmps23
    go_wp2
    go_ret
    exact ⟨by rw [HF.out]; rfl, rfl⟩
  · have HF : Hid (checkOf l most = 1) := by unfold Hid checkOf; rw [if_pos]; have := HN.out; simp [argBad]; omega
    have h3I : (288 : Int) < (n : Int) := by omega
    clear hv
    go_enter Tryz.func23, Tryz.ntmps23
    go_wp2
    go_ret
    exact ⟨by rw [HF.out]; rfl, rfl⟩
  · have h3I : ¬ (288 : Int) < (n : Int) := by omega
    have h15 : ¬ 15 < most := by omega
    have h1 : ¬ most < 1 := by omega
    have HA1 : Hid (argBad l most = !allIn l most) := by
      unfold Hid argBad
      have := HN.out
      rw [decide_eq_false (by omega)]; rfl
    go_enter Tryz.func23, Tryz.ntmps23
    go_wp2
    go_loopg [5, 6, 7] (n + 1) (fun k t5 t6 t7 wr => ∃ (i c o : Nat), i ≤ n ∧ n - i < k ∧ t7 = .int .i64 (i : Int) ∧ t5 = .int .i64 (c : Int) ∧ t6 = .int .i64 (o : Int) ∧ c ≤ i ∧ o ≤ i ∧ Hid (allIn (l.take i) most = true) ∧ Hid (c = coded (l.take i)) ∧ Hid (o = (l.take i).count 1) ∧ wr = w)
    case atStart => exact ⟨0, 0, 0, by omega, by omega, rfl, rfl, rfl, by omega, by omega, rfl, rfl, rfl, rfl⟩
    case round =>
      obtain ⟨i, c, o, hi, hk, rfl, rfl, rfl, hc, ho, HA, HC, HO, rfl⟩ := hrel
      by_cases hin : i < n
      · obtain ⟨g, off, rfl, hcell⟩ := hv.spot (by omega)
        obtain ⟨a, hai⟩ : ∃ a, l[i]? = some a := ⟨l[i]'(by have := HN.out; omega), List.getElem?_eq_getElem _⟩
        have hc1 := hcell i _ (by rw [ints_get, hai]; rfl)
        have hi0 : (0 : Int) ≤ (i : Int) := Int.natCast_nonneg _
        have hi1 : (i : Int) < (n : Int) := by omega
        have HT := hid (take_snoc3 l i a hai)
        clear hcell hai
        have h5 : a < 0 ∨ 0 ≤ a ∧ most < a ∨ 0 ≤ a ∧ a ≤ most := by omega
        rcases h5 with h5 | ⟨h5, h6⟩ | ⟨h5, h6⟩
        · have HF : Hid (checkOf l most = 1) := by unfold Hid; refine check_bad (allIn_take l (i + 1) most ?_); rw [HT.out, allIn_snoc, HA.out]; simp; omega
          go_wp2
          go_ret
          exact ⟨by rw [HF.out]; rfl, rfl⟩
        · have HF : Hid (checkOf l most = 1) := by unfold Hid; refine check_bad (allIn_take l (i + 1) most ?_); rw [HT.out, allIn_snoc, HA.out]; simp; omega
          go_wp2
          go_ret
          exact ⟨by rw [HF.out]; rfl, rfl⟩
        · have HF : Hid (allIn (l.take (i + 1)) most = true) := by unfold Hid; rw [HT.out, allIn_snoc, HA.out]; simp; omega
          have h7 : a = 0 ∨ a = 1 ∨ 1 < a := by omega
          rcases h7 with rfl | rfl | h7
          · have HC2 : Hid (c = coded (l.take (i + 1))) := by unfold Hid; rw [HT.out, coded_snoc, ← HC.out]; rfl
            have HO2 : Hid (o = (l.take (i + 1)).count 1) := by unfold Hid; rw [HT.out, count1_snoc, ← HO.out]; rfl
            go_wp2
            go_roundg (gk - 1)
            case measure => omega
            case rel => exact ⟨i + 1, c, o, by omega, by omega, by go_num, rfl, rfl, by omega, by omega, HF, HC2, HO2, rfl⟩
          · have HC2 : Hid (c + 1 = coded (l.take (i + 1))) := by unfold Hid; rw [HT.out, coded_snoc, ← HC.out]; rfl
            have HO2 : Hid (o + 1 = (l.take (i + 1)).count 1) := by unfold Hid; rw [HT.out, count1_snoc, ← HO.out]; rfl
            go_wp2
            go_roundg (gk - 1)
            case measure => omega
            case rel => exact ⟨i + 1, c + 1, o + 1, by omega, by omega, by go_num, by go_num, by go_num, by omega, by omega, HF, HC2, HO2, rfl⟩
          · have HC2 : Hid (c + 1 = coded (l.take (i + 1))) := by unfold Hid; rw [HT.out, coded_snoc, ← HC.out, if_pos (by omega)]
            have HO2 : Hid (o = (l.take (i + 1)).count 1) := by unfold Hid; rw [HT.out, count1_snoc, ← HO.out, if_neg (by omega)]; rfl
            go_wp2
            go_roundg (gk - 1)
            case measure => omega
            case rel => exact ⟨i + 1, c + 1, o, by omega, by omega, by go_num, by go_num, rfl, by omega, by omega, HF, HC2, HO2, rfl⟩
      · have hi1 : ¬ (i : Int) < (n : Int) := by omega
        have HE : Hid (l.take i = l) := by unfold Hid; exact List.take_of_length_le (by have := HN.out; omega)
        rw [HE.out] at HA HC HO
        have HB : Hid (argBad l most = false) := by unfold Hid; rw [HA1.out, HA.out]; rfl
        have HR := hid (check_ref l most HB.out)
        have HF : Hid (checkOf l most = if sumOf l = 0 ∨ sumOf l = 32768 ∨ sumOf l = 16384 ∧ l.count 1 = 1 then 0 else 3) := by
          unfold Hid checkOf; rw [HB.out]; rfl
        rw [← HC.out, ← HO.out] at HR
        rw [← HO.out] at HF
        go_wp2_with fail
        refine HRS.out.mono ?_
        rintro e w1 ⟨rfl, rfl⟩
        obtain ⟨s, hs⟩ : ∃ s, s = sumOf l := ⟨_, rfl⟩
        rw [← hs] at HF HR ⊢
        clear hs
        have h5 : 32768 < s ∨ s = 32768 ∨ s < 32768 ∧ c = 0 ∨ s < 32768 ∧ c = 1 ∧ o = 1 ∨ s < 32768 ∧ c = 1 ∧ o ≠ 1 ∨ s < 32768 ∧ c ≠ 1 ∧ c ≠ 0 := by omega
        rcases h5 with h5 | h5 | ⟨h5, h6⟩ | ⟨h5, h6, h7⟩ | ⟨h5, h7, h6⟩ | ⟨h5, h6, h7⟩
        · have HZ : Hid (checkOf l most = 3) := by unfold Hid; rw [HF.out, if_neg (HR.out.1 (by omega))]
          have hb0 : decide ((32768 : Int) < (s : Int)) = true := by simp; omega
          go_wp2
          go_ret
          exact ⟨by rw [HZ.out]; rfl, rfl⟩
        · have HZ : Hid (checkOf l most = 0) := by unfold Hid; rw [HF.out, if_pos (by have := HR.out; omega)]
          have hb0 : decide ((32768 : Int) < (s : Int)) = false := by simp; omega
          have hb1 : decide ((s : Int) < 32768) = false := by simp; omega
          go_wp2
          go_ret
          exact ⟨by rw [HZ.out]; rfl, rfl⟩
        · have HZ : Hid (checkOf l most = 0) := by unfold Hid; rw [HF.out, if_pos (by have := HR.out; omega)]
          have hb0 : decide ((32768 : Int) < (s : Int)) = false := by simp; omega
          have hb1 : decide ((s : Int) < 32768) = true := by simp; omega
          have hb2 : (((c : Nat) : Int) == 0) = true := by simp; omega
          go_wp2
          go_ret
          exact ⟨by rw [HZ.out]; rfl, rfl⟩
        · have HZ : Hid (checkOf l most = 0) := by unfold Hid; rw [HF.out, if_pos (by have := HR.out; omega)]
          have hb0 : decide ((32768 : Int) < (s : Int)) = false := by simp; omega
          have hb1 : decide ((s : Int) < 32768) = true := by simp; omega
          have hb2 : (((c : Nat) : Int) == 0) = false := by simp; omega
          have hb3 : (((c : Nat) : Int) == 1) = true := by simp; omega
          have hb4 : (((o : Nat) : Int) == 1) = true := by simp; omega
          go_wp2
          go_ret
          exact ⟨by rw [HZ.out]; rfl, rfl⟩
        · have HZ : Hid (checkOf l most = 3) := by unfold Hid; rw [HF.out, if_neg (HR.out.1 (by omega))]
          have hb0 : decide ((32768 : Int) < (s : Int)) = false := by simp; omega
          have hb1 : decide ((s : Int) < 32768) = true := by simp; omega
          have hb2 : (((c : Nat) : Int) == 0) = false := by simp; omega
          have hb3 : (((c : Nat) : Int) == 1) = true := by simp; omega
          have hb4 : (((o : Nat) : Int) == 1) = false := by simp; omega
          go_wp2
          go_ret
          exact ⟨by rw [HZ.out]; rfl, rfl⟩
        · have HZ : Hid (checkOf l most = 3) := by unfold Hid; rw [HF.out, if_neg (HR.out.1 (by omega))]
          have hb0 : decide ((32768 : Int) < (s : Int)) = false := by simp; omega
          have hb1 : decide ((s : Int) < 32768) = true := by simp; omega
          have hb2 : (((c : Nat) : Int) == 0) = false := by simp; omega
          have hb3 : (((c : Nat) : Int) == 1) = false := by simp; omega
          go_wp2
          go_ret
          exact ⟨by rw [HZ.out]; rfl, rfl⟩
end Go.Proofs.YthibpnkdhbkakaaGreatDoor
/-
  The contracts of the bit writer's functions: a writer holds a list of bits ('Wr'); each method turns that list as its text says, and leaves all other memory as it was.
-/
namespace Go.Proofs.YthibpnkdhbkakaaGreatDoor
set_option maxRecDepth 5000
open Go.RowKit


theorem fits_yes (n : Int) (w : World) (h : 0 ≤ n ∧ n ≤ 32) :
    Calls Tryz.prog 56 #[.int .i64 n] w fun e w' => e = .returned (.bool true) ∧ w = w' := by
  obtain ⟨h1, h2⟩ := h
  go_enter Tryz.func56, Tryz.ntmps56
  go_wp2
  go_ret
  exact ⟨rfl, rfl⟩
theorem fits_no (n : Int) (w : World) (h : n < 0 ∨ 32 < n) :
    Calls Tryz.prog 56 #[.int .i64 n] w fun e w' => e = .returned (.bool false) ∧ w = w' := by
  by_cases h0 : 0 ≤ n
  · have hd : decide (n ≤ 32) = false := by simp; omega
    go_enter Tryz.func56, Tryz.ntmps56
    go_wp2
    go_ret
    exact ⟨rfl, rfl⟩
  · go_enter Tryz.func56, Tryz.ntmps56
    go_wp2
    go_ret
    exact ⟨rfl, rfl⟩

theorem low_val (v k : Nat) (hv : v < 18446744073709551616) (hk : k ≤ 32) :
    bits .and .u64 (v : Int) (IntKind.u64.wrap (IntKind.u64.wrap (2 ^ k) - 1)) = ((v % 2 ^ k : Nat) : Int) := by
  have h1 : (2 : Nat) ^ k ≤ 2 ^ 32 := Nat.pow_le_pow_right (by decide) hk
  have h2 : 0 < (2 : Nat) ^ k := Nat.two_pow_pos k
  have e1 : IntKind.u64.wrap (2 ^ k) = ((2 ^ k : Nat) : Int) := by
    rw [IntWalk.u64_in]
    · simp
    · rw [two_pow_int]; omega
  rw [e1]
  have e2 : IntKind.u64.wrap (((2 ^ k : Nat) : Int) - 1) = ((2 ^ k - 1 : Nat) : Int) := by
    rw [IntWalk.u64_in _ (by omega)]; omega
  rw [e2, bits_and_u64_nat v (2 ^ k - 1) hv (by omega), Nat.and_two_pow_sub_one_eq_mod]
theorem lowest_any (v k : Nat) (w : World) (hv : v < 18446744073709551616) (hk : k ≤ 32) :
    Calls Tryz.prog 57 #[.int .u64 (v : Int), .int .i64 (k : Int)] w fun e w' => e = .returned (.int .u64 ((v % 2 ^ k : Nat) : Int)) ∧ w' = w := by
  go_enter Tryz.func57, Tryz.ntmps57
  go_wp2
  go_ret
  exact ⟨ret_int (low_val v k hv hk), rfl⟩

/-! ### The writer -/
/-- The writer's three cells: the done bytes, the spare bits, their number. -/
def WIs (w : World) (B : Nat) (d : Value) (bs : List Nat) (s c : Nat) : Prop :=
  Blk w B [d, .int .u64 (s : Int), .int .i64 (c : Int)] 56 ∧ Own w 5 1 d bs.length (u8s bs) ∧ d.ownBlock ≠ some B ∧ s < 2 ^ c ∧ (∀ b ∈ bs, b < 256)
/-- A writer that holds the bits l. -/
def Wr (w : World) (B : Nat) (d : Value) (l : List Nat) : Prop := ∃ bs s c, WIs w B d bs s c ∧ c < 8 ∧ l = bits8 bs ++ bitsOf c s
/-- What the writer d alone may have turned. -/
def WSet (B : Nat) (d : Value) (k : Nat) : Prop := k = B ∨ d.ownBlock = some k
/-- The slice's row is the old one's, or new. -/
def Moved (w : World) (d d' : Value) : Prop := d'.ownBlock = d.ownBlock ∨ ∀ k, d'.ownBlock = some k → w.heap.size ≤ k
def WStep (w w' : World) (B : Nat) (d : Value) (l' : List Nat) : Prop := ∃ d', Wr w' B d' l' ∧ Mod w w' (WSet B d) ∧ Moved w d d'

theorem WIs.kept {w w' : World} {B : Nat} {d : Value} {bs : List Nat} {s c : Nat} (h : WIs w B d bs s c) {S : Nat → Prop} (hm : Mod w w' S) (hS : ∀ k, WSet B d k → ¬ S k) : WIs w' B d bs s c :=
  ⟨h.1.kept hm (hS B (.inl rfl)), h.2.1.kept hm (fun k hk => hS k (.inr hk)), h.2.2⟩
theorem Wr.kept {w w' : World} {B : Nat} {d : Value} {l : List Nat} (h : Wr w B d l) {S : Nat → Prop} (hm : Mod w w' S) (hS : ∀ k, WSet B d k → ¬ S k) : Wr w' B d l := by
  obtain ⟨bs, s, c, hW, r⟩ := h
  exact ⟨bs, s, c, hW.kept hm hS, r⟩
theorem Wr.lt {w : World} {B : Nat} {d : Value} {l : List Nat} (h : Wr w B d l) : ∀ k, WSet B d k → k < w.heap.size := by
  obtain ⟨bs, s, c, hW, _⟩ := h
  rintro k (rfl | hk)
  · exact hW.1.lt
  · exact hW.2.1.lt k hk
theorem Wr.isBits {w : World} {B : Nat} {d : Value} {l : List Nat} (h : Wr w B d l) : isBits l := by
  obtain ⟨bs, s, c, _, _, rfl⟩ := h
  exact isBits_append (bits8_isBits _) (bitsOf_isBits _ _)
theorem Wr.ne {w : World} {B : Nat} {d : Value} {l : List Nat} (h : Wr w B d l) : d.ownBlock ≠ some B := by
  obtain ⟨bs, s, c, hW, _⟩ := h
  exact hW.2.2.1
/-- Two steps of one writer are one. -/
theorem WStep.next {w w1 w2 : World} {B : Nat} {d d1 : Value} {l2 : List Nat} (hlt : ∀ k, WSet B d k → k < w.heap.size) (hm : Mod w w1 (WSet B d)) (hv : Moved w d d1) (h2 : WStep w1 w2 B d1 l2) : WStep w w2 B d l2 := by
  obtain ⟨d2, hW, hm2, hv2⟩ := h2
  refine ⟨d2, hW, hm.trans hm2 ?_, ?_⟩
  · rintro k hk (rfl | hk2)
    · exact .inl rfl
    · rcases hv with hv | hv
      · exact .inr (hv ▸ hk2)
      · exact absurd (hv k hk2) (by omega)
  · rcases hv2 with hv2 | hv2
    · rcases hv with hv | hv
      · exact .inl (hv2.trans hv)
      · exact .inr fun k hk => hv k (hv2 ▸ hk)
    · exact .inr fun k hk => Nat.le_trans hm.size (hv2 k hk)
theorem WStep.stay {w : World} {B : Nat} {d : Value} {l : List Nat} (h : Wr w B d l) : WStep w w B d l := ⟨d, h, Mod.refl _ _, .inl rfl⟩

theorem Tryz.infoByte : (Tryz.prog.info? 5).map (fun i => (i.zero, i.size, i.bytes)) = some (some (.int .u8 0), 1, 1) := by kernel_rfl

/-! ### flush -/
def FlRel (w : World) (B : Nat) (d : Value) (L : List Nat) (k : Nat) (wr : World) : Prop :=
  ∃ ao cap bs s c, WIs wr B (.slice ao bs.length cap) bs s c ∧ bits8 bs ++ bitsOf c s = L ∧ c ≤ k ∧ Mod w wr (WSet B d) ∧ Moved w d (.slice ao bs.length cap)

theorem flush_round {w wr w1 : World} {B : Nat} {d : Value} {L : List Nat} {ao ao1 : Option Addr} {cap cap1 : Nat} {bs : List Nat} {s c k : Nat} {o : Obj}
    (hb : Blk wr B [.slice ao bs.length cap, .int .u64 (s : Int), .int .i64 (c : Int)] 56) (hne : Value.ownBlock (.slice ao bs.length cap) ≠ some B) (hs : s < 2 ^ c) (hb256 : ∀ b ∈ bs, b < 256)
    (hL : bits8 bs ++ bitsOf c s = L) (h8 : 8 ≤ c) (hk : c - 8 ≤ k) (hM : Mod w wr (WSet B d)) (hO : Moved w d (.slice ao bs.length cap)) (hBd : B < w.heap.size)
    (hown1 : Own w1 5 1 (.slice ao1 (bs.length + 1) cap1) (bs.length + 1) (u8s bs ++ [.int .u8 (IntKind.u8.wrap s)])) (hgrow : (wr.alloc o).drew.grownBy w1 (Value.ownBlock (.slice ao bs.length cap)))
    (hat : Value.ownBlock (.slice ao1 (bs.length + 1) cap1) = Value.ownBlock (.slice ao bs.length cap) ∨ Value.ownBlock (.slice ao1 (bs.length + 1) cap1) = some (wr.alloc o).drew.heap.size)
    (hb1 : Blk w1 B [.slice ao bs.length cap, .int .u64 (s : Int), .int .i64 (c : Int)] 56) :
    FlRel w B d L k (((w1.setCell ⟨B, 0, none⟩ (.slice ao1 (bs.length + 1) cap1)).setCell ⟨B, 1, none⟩ (.int .u64 ((s : Int) / 256))).setCell ⟨B, 2, none⟩ (.int .i64 ((c : Int) - 8))) := by
  have hlen : (bs ++ [s % 256]).length = bs.length + 1 := by simp
  have hsz : (wr.alloc o).drew.heap.size = wr.heap.size + 1 := by show (wr.heap.push o).size = _; simp
  have hMsz := hM.size
  have hne1 : Value.ownBlock (.slice ao1 (bs.length + 1) cap1) ≠ some B := by
    rcases hat with h | h
    · rw [h]; exact hne
    · rw [h, hsz]; intro e; injection e with e; have := hb.lt; omega
  have hM1 : Mod w w1 (WSet B d) := by
    refine ((hM.alloc o).drew).grown hgrow fun k hk => ?_
    rcases hO with hO | hO
    · exact .inr (.inr (hO ▸ hk))
    · exact .inl (hO k hk)
  have hset : ∀ (w0 : World) (i : Nat) (u : Value), Mod w w0 (WSet B d) → Mod w (w0.setCell ⟨B, i, none⟩ u) (WSet B d) := fun w0 i u h => h.setCell (.inr (.inl rfl)) u
  have hokept : ∀ (w0 : World) (i : Nat) (u : Value), Own w0 5 1 (.slice ao1 (bs.length + 1) cap1) (bs.length + 1) (u8s (bs ++ [s % 256])) → Own (w0.setCell ⟨B, i, none⟩ u) 5 1 (.slice ao1 (bs.length + 1) cap1) (bs.length + 1) (u8s (bs ++ [s % 256])) := fun w0 i u h =>
    h.kept (S := fun k => k = B) ((Mod.refl w0 (fun k => k = B)).setCell (p := ⟨B, i, none⟩) (.inr rfl) u) (fun k hk e => hne1 (by rw [hk, e]))
  refine ⟨ao1, cap1, bs ++ [s % 256], s / 256, c - 8, ⟨?_, ?_, by rw [hlen]; exact hne1, ?_, ?_⟩, ?_, hk, hset _ _ _ (hset _ _ _ (hset _ _ _ hM1)), ?_⟩
  · have := ((hb1.set 0 (.slice ao1 (bs.length + 1) cap1)).set 1 (.int .u64 ((s : Int) / 256))).set 2 (.int .i64 ((c : Int) - 8))
    simp only [List.set_cons_zero, List.set_cons_succ] at this
    rw [hlen, show ((s / 256 : Nat) : Int) = (s : Int) / 256 by omega, show ((c - 8 : Nat) : Int) = (c : Int) - 8 by omega]
    exact this
  · rw [hlen]
    refine hokept _ _ _ (hokept _ _ _ (hokept _ _ _ ?_))
    have e : u8s bs ++ [Value.int .u8 (IntKind.u8.wrap s)] = u8s (bs ++ [s % 256]) := by
      rw [u8s_append, IntKind.wrap_u8]; simp [u8s]
    rw [← e]; exact hown1
  · have : 2 ^ c = 2 ^ (c - 8) * 256 := by rw [show (256 : Nat) = 2 ^ 8 from rfl, ← Nat.pow_add]; congr 1; omega
    omega
  · intro b hb'
    rcases List.mem_append.1 hb' with h | h
    · exact hb256 b h
    · simp at h; omega
  · rw [← hL, bits8_append, bits8_cons, bits8_nil, List.append_nil, List.append_assoc]
    congr 1
    have h1 := bitsOf_add 8 (c - 8) s
    rw [show 8 + (c - 8) = c by omega] at h1
    rw [h1, show s % 256 = s % 2 ^ 8 from rfl, bitsOf_mod]
  · rw [hlen]
    rcases hat with h | h
    · rcases hO with hO | hO
      · exact .inl (h.trans hO)
      · exact .inr fun k hk => hO k (h ▸ hk)
    · exact .inr fun k hk => by rw [h, hsz] at hk; injection hk with hk; omega

set_option maxHeartbeats 800000 in
theorem flush_any (B : Nat) (d : Value) (bs : List Nat) (s c : Nat) (w : World) (h : WIs w B d bs s c) (hc : c < 64) (hbs : (bits8 bs ++ bitsOf c s).length < 1099511627776) :
    Calls Tryz.prog 26 #[.pointer (some ⟨B, 0, none⟩)] w fun e w' => e = .returned (.tuple #[]) ∧ WStep w w' B d (bits8 bs ++ bitsOf c s) := by
  obtain ⟨i, hi, hz0, hz1, hz2⟩ := info_parts Tryz.infoByte
  have hrel0 : FlRel w B d (bits8 bs ++ bitsOf c s) c w := by
    obtain ⟨ao, cap, rfl, _, _⟩ := h.2.1.form
    exact ⟨ao, cap, bs, s, c, h, rfl, Nat.le_refl _, Mod.refl _ _, .inl rfl⟩
  have hBw := h.1.lt
  go_enter Tryz.func26, Tryz.ntmps26
  go_wp2
  go_loopg [] c (fun k wr => FlRel w B d (bits8 bs ++ bitsOf c s) k wr ∧ k < 64)
  case atStart => exact ⟨hrel0, hc⟩
  case round =>
    obtain ⟨⟨ao, cap, bs', s', c', hW, hL, hck, hM, hO⟩, hgk⟩ := hrel
    have hW' := hW
    obtain ⟨hb, hown, hne, hs, hb256⟩ := hW
    have c0 := hb.cell (i := 0) rfl
    have c1 := hb.cell (i := 1) rfl
    have c2 := hb.cell (i := 2) rfl
    have f0 := hb.frozen 0
    have f1 := hb.frozen 1
    have f2 := hb.frozen 2
    have hlen : bs'.length < 1099511627776 := by have := congrArg List.length hL; simp only [List.length_append, bits8_length] at this hbs; omega
    have HL := hid hL
    clear hL
    have fa : ∀ o, (wr.alloc o).frozen? ⟨B, 0, none⟩ = false := fun o => (hb.alloc o).frozen 0
    have ca0 : ∀ o, (wr.alloc o).cell? ⟨B, 0, none⟩ = some (.slice ao bs'.length cap) := fun o => (hb.alloc o).cell (i := 0) rfl
    by_cases h8 : 8 ≤ c'
    · go_wp2
      go_region_law
        ((refine step_app _ (by rfl) (.tmp 11) (.tmp 17) 23 (by rfl) 5 i (.int .u8 0) 1 1 Tryz.underlying23 hi hz0 hz1 hz2 (by rfl) (by decide) (.slice ao bs'.length cap) bs'.length (u8s bs') (by rfl) (by exact (hown.alloc _).drew) (.slice (some ⟨wr.heap.size, 0, none⟩) 1 1) 1 [.int .u8 (IntKind.u8.wrap s')] (by rfl) (by exact (Rd.lit _ [_] _ 1 1 (by decide) rfl).drew) (by simp [Value.oneCell']) (by unfold maxLen; omega) (by omega) ?_; intro ao1 cap1 w1 hown1 hgrow hat; have hb1 := (hb.alloc _).drew.grown hgrow hne; have e0 := hb1.cell (i := 0) rfl; have e1 := hb1.cell (i := 1) rfl; have e2 := hb1.cell (i := 2) rfl; have g0 := hb1.frozen 0; have g1 := hb1.frozen 1; have g2 := hb1.frozen 2))
      all_goals
        go_wp2
        go_roundg (c' - 8)
        case measure => omega
        case rel => exact ⟨flush_round hb hne hs hb256 HL.out h8 (Nat.le_refl _) hM hO hBw hown1 hgrow hat hb1, by omega⟩
    · go_wp2
      go_end0
      exact ⟨rfl, _, ⟨bs', s', c', hW', by omega, HL.out.symm⟩, hM, hO⟩
end Go.Proofs.YthibpnkdhbkakaaGreatDoor
/-
  The contracts of the bit writer's methods over 'flush': Put, Align, Write, Take, Bits, NewWriter.
-/
namespace Go.Proofs.YthibpnkdhbkakaaGreatDoor
set_option maxRecDepth 5000
open Go.RowKit

theorem new_writer (w : World) :
    Calls Tryz.prog 8 #[] w fun e w' => e = .returned (.pointer (some ⟨w.heap.size, 0, none⟩)) ∧ w' = w.alloc (.cells #[.slice none 0 0, .int .u64 0, .int .i64 0] 56) := by
  go_enter Tryz.func8, Tryz.ntmps8
  go_wp2
  go_ret
  exact ⟨rfl, rfl⟩
theorem wr_new (w : World) : Wr (w.alloc (.cells #[.slice none 0 0, .int .u64 0, .int .i64 0] 56)) w.heap.size (.slice none 0 0) [] :=
  ⟨[], 0, 0, ⟨Blk.new w _ _, Own.nil _ _ _, by simp [Value.ownBlock], by simp, by simp⟩, by omega, by simp [bits8, bitsOf]⟩

/-- the spare bits with a number's bits above them -/
theorem or_shift (s v c : Nat) (hs : s < 2 ^ c) (hc : c < 8) (hv : v < 4294967296) :
    bits .or .u64 (s : Int) (IntKind.u64.wrap ((v : Int) * 2 ^ c)) = ((s + 2 ^ c * v : Nat) : Int) := by
  have h1 : (2 : Nat) ^ c ≤ 2 ^ 7 := Nat.pow_le_pow_right (by decide) (by omega)
  have h2 : 2 ^ c * v < 2 ^ 7 * 4294967296 := Nat.lt_of_le_of_lt (Nat.mul_le_mul_right _ h1) (by omega)
  have e1 : IntKind.u64.wrap ((v : Int) * 2 ^ c) = ((2 ^ c * v : Nat) : Int) := by
    have : ((v : Int) * 2 ^ c) = ((2 ^ c * v : Nat) : Int) := by rw [two_pow_int, Nat.mul_comm]; simp
    rw [this, IntWalk.u64_in _ (by omega)]
  rw [e1, bits_or_u64_nat s _ (by omega) (by omega), Nat.or_comm, ← Nat.two_pow_add_eq_or_of_lt hs, Nat.add_comm]

theorem wsize {bs : List Nat} {s c : Nat} : (bits8 bs ++ bitsOf c s).length = 8 * bs.length + c := by rw [List.length_append, bits8_length, bitsOf_length]

theorem lowest_of (v k m : Nat) (w : World) (hv : v < 18446744073709551616) (hk : k ≤ 32) (hm : m = v % 2 ^ k) :
    Calls Tryz.prog 57 #[.int .u64 (v : Int), .int .i64 (k : Int)] w fun e w' => e = .returned (.int .u64 (m : Int)) ∧ w' = w := by
  rw [hm]; exact lowest_any v k w hv hk

theorem put_mid {w : World} {B : Nat} {d : Value} {bs : List Nat} {s c n m q : Nat} (hb : Blk w B [d, .int .u64 (s : Int), .int .i64 (c : Int)] 56) (hown : Own w 5 1 d bs.length (u8s bs)) (hne : d.ownBlock ≠ some B)
    (hs : s < 2 ^ c) (hb256 : ∀ b ∈ bs, b < 256) (hm : m < 2 ^ n) (hq : q = s + 2 ^ c * m) :
    WIs ((w.setCell ⟨B, 1, none⟩ (.int .u64 (q : Int))).setCell ⟨B, 2, none⟩ (.int .i64 ((c : Int) + (n : Int)))).drew B d bs q (c + n) ∧
      Mod w ((w.setCell ⟨B, 1, none⟩ (.int .u64 (q : Int))).setCell ⟨B, 2, none⟩ (.int .i64 ((c : Int) + (n : Int)))).drew (WSet B d) := by
  have hM : Mod w ((w.setCell ⟨B, 1, none⟩ (.int .u64 (q : Int))).setCell ⟨B, 2, none⟩ (.int .i64 ((c : Int) + (n : Int)))).drew (fun k => k = B) :=
    ((((Mod.refl w (fun k => k = B)).setCell (p := ⟨B, 1, none⟩) (.inr rfl) _).setCell (p := ⟨B, 2, none⟩) (.inr rfl) _)).drew
  refine ⟨⟨?_, hown.kept hM (fun k hk e => hne (by rw [hk, e])), hne, ?_, hb256⟩, hM.mono fun k _ e => .inl e⟩
  · have := (hb.set 1 (.int .u64 (q : Int))).set 2 (.int .i64 ((c : Int) + (n : Int)))
    simp only [List.set_cons_zero, List.set_cons_succ] at this
    exact this
  · rw [hq, Nat.pow_add]
    have h1 : 2 ^ c * m + 2 ^ c ≤ 2 ^ c * 2 ^ n := by
      rw [← Nat.mul_succ]; exact Nat.mul_le_mul_left _ hm
    omega

set_option maxHeartbeats 800000 in
theorem put_any (B : Nat) (d : Value) (l : List Nat) (v n : Nat) (w : World) (h : Wr w B d l) (hv : v < 4294967296) (hn : n ≤ 32) (hl : l.length < 1099511627000) :
    Calls Tryz.prog 42 #[.pointer (some ⟨B, 0, none⟩), .int .u32 (v : Int), .int .i64 (n : Int)] w fun e w' => e = .returned (.tuple #[]) ∧ WStep w w' B d (l ++ bitsOf n v) := by
  have hlt := hid h.lt
  obtain ⟨bs, s, c, ⟨hb, hown, hne, hs, hb256⟩, hc, hl'⟩ := h
  have c1 := hb.cell (i := 1) rfl
  have c2 := hb.cell (i := 2) rfl
  have f1 := hb.frozen 1
  have f2 := hb.frozen 2
  obtain ⟨m, hm⟩ : ∃ m, m = v % 2 ^ n := ⟨_, rfl⟩
  obtain ⟨q, hq⟩ : ∃ q, q = s + 2 ^ c * m := ⟨_, rfl⟩
  have hvm : m < 4294967296 := by rw [hm]; exact Nat.lt_of_le_of_lt (Nat.mod_le _ _) hv
  have hm2 : m < 2 ^ n := by rw [hm]; exact Nat.mod_lt _ (Nat.two_pow_pos n)
  have hos := or_shift s m c hs hc hvm
  rw [← hq] at hos
  have hmid := hid (put_mid hb hown hne hs hb256 hm2 hq)
  have hjoin : bits8 bs ++ bitsOf (c + n) q = l ++ bitsOf n v := by
    rw [hl', hq, bitsOf_join c n s m hs, hm, bitsOf_mod, List.append_assoc]
  have hlen : (bits8 bs ++ bitsOf (c + n) q).length < 1099511627776 := by rw [hjoin, List.length_append, bitsOf_length]; omega
  have Hos := hid hos
  have HM := hid hm
  have HJ := hid hjoin
  have HLen := hid hlen
  clear hs hm hl' hos hq hjoin hm2 hlen
  go_enter Tryz.func42, Tryz.ntmps42
  go_wp2_with (go_at_call 56; refine (fits_yes _ _ ⟨by omega, by omega⟩).mono ?_; rintro e w' ⟨rfl, rfl⟩)
  refine wp_region_still_tail 14 (by kernel_rfl) (by kernel_rfl) ?_
  simp only [List.take_succ_cons, List.take_zero, List.drop_succ_cons, List.drop_zero]
  change wpStill _ _ w.drew _ _ _
  iterate 7 still_step
  refine wpStill_step (fun K hK => ?_)
  go_simp
  rw [IntWalk.u64_in (v : Int) (by omega)]
  refine ⟨_, lowest_of v n m _ (by omega) hn HM.out, hK _ ?_⟩
  clear hK K
  iterate 6 still_step
  refine wpStill_nil ?_
  rw [Hos.out]
  go_wp2_with fail
  refine (flush_any B d bs q (c + n) _ hmid.out.1 (by omega) HLen.out).mono ?_
  rintro e w' ⟨rfl, hst⟩
  have hfin := hid (WStep.next hlt.out hmid.out.2 (Or.inl rfl) hst)
  clear hst
  go_wp2
  go_end0
  rw [HJ.out] at hfin
  exact ⟨rfl, hfin.out⟩

theorem put_not (p : Option Addr) (v n : Int) (w : World) (hn : n < 0 ∨ 32 < n) :
    Calls Tryz.prog 42 #[.pointer p, .int .u32 v, .int .i64 n] w fun e w' => e = .returned (.tuple #[]) ∧ w = w' := by
  cases p with
  | none =>
    go_enter Tryz.func42, Tryz.ntmps42
    go_wp2
    refine bodyPost_ret (results_none rfl _ _ _) rfl ?_
    exact ⟨rfl, rfl⟩
  | some a =>
    go_enter Tryz.func42, Tryz.ntmps42
    go_wp2_with (go_at_call 56; refine (fits_no _ _ hn).mono ?_; rintro e w' ⟨rfl, rfl⟩)
    refine bodyPost_ret (results_none rfl _ _ _) rfl ?_
    exact ⟨rfl, rfl⟩
theorem put_nil (v n : Int) (w : World) :
    Calls Tryz.prog 42 #[.pointer none, .int .u32 v, .int .i64 n] w fun e w' => e = .returned (.tuple #[]) ∧ w = w' := by
  go_enter Tryz.func42, Tryz.ntmps42
  go_wp2
  refine bodyPost_ret (results_none rfl _ _ _) rfl ?_
  exact ⟨rfl, rfl⟩

/-! ### Align -/
theorem align_list {bs : List Nat} {s c : Nat} (hs : s < 2 ^ c) (hc : c < 8) (h0 : c ≠ 0) : bits8 bs ++ bitsOf 8 s = evened (bits8 bs ++ bitsOf c s) := by
  have h1 := bitsOf_zero_pad c (8 - c) s hs
  rw [show c + (8 - c) = 8 by omega] at h1
  rw [h1, evened, wsize, List.append_assoc]
  congr 3
  omega
theorem even_done {bs : List Nat} : evened (bits8 bs) = bits8 bs := by
  rw [evened, bits8_length]
  have : (8 - 8 * bs.length % 8) % 8 = 0 := by omega
  rw [this]; simp
theorem walign_any (B : Nat) (d : Value) (l : List Nat) (w : World) (h : Wr w B d l) (hl : l.length < 1099511627000) :
    Calls Tryz.prog 12 #[.pointer (some ⟨B, 0, none⟩)] w fun e w' => e = .returned (.tuple #[]) ∧ WStep w w' B d (evened l) := by
  have hlt := hid h.lt
  have hstay := hid (WStep.stay h)
  obtain ⟨bs, s, c, ⟨hb, hown, hne, hs, hb256⟩, hc, hl'⟩ := h
  have c2 := hb.cell (i := 2) rfl
  have f2 := hb.frozen 2
  by_cases h0 : c = 0
  · subst h0
    have hev : evened l = l := by rw [hl', show bitsOf 0 s = [] from rfl, List.append_nil]; exact even_done
    have HE := hid hev
    clear hev hl' hs
    have hd : (((0 : Nat) : Int) == 0) = true := rfl
    go_enter Tryz.func12, Tryz.ntmps12
    go_wp2
    refine bodyPost_ret (results_none rfl _ _ _) rfl ?_
    rw [HE.out]
    exact ⟨rfl, hstay.out⟩
  · have hj := align_list (bs := bs) hs hc h0
    rw [← hl'] at hj
    have hlen : (bits8 bs ++ bitsOf 8 s).length < 1099511627776 := by
      have := congrArg List.length hl'; rw [wsize] at this; rw [wsize]; omega
    have hs8 : s < 2 ^ 8 := Nat.lt_of_lt_of_le hs (Nat.pow_le_pow_right (by decide) (by omega))
    have hM : Mod w (w.setCell ⟨B, 2, none⟩ (.int .i64 8)) (fun k => k = B) := (Mod.refl w (fun k => k = B)).setCell (p := ⟨B, 2, none⟩) (.inr rfl) _
    have hW : WIs (w.setCell ⟨B, 2, none⟩ (.int .i64 8)) B d bs s 8 := ⟨hb.set 2 _, hown.kept hM (fun k hk e => hne (by rw [hk, e])), hne, hs8, hb256⟩
    have HM := hid (hM.mono (T := WSet B d) fun k _ e => .inl e)
    have HW := hid hW
    have HJ := hid hj
    have HLen := hid hlen
    have hd : ((c : Int) == 0) = false := by simp; omega
    clear hM hW hj hlen hl' hs8 hs
    go_enter Tryz.func12, Tryz.ntmps12
    go_wp2_with fail
    refine (flush_any B d bs s 8 _ HW.out (by omega) HLen.out).mono ?_
    rintro e w' ⟨rfl, hst⟩
    have hfin := hid (WStep.next hlt.out HM.out (Or.inl rfl) hst)
    clear hst
    go_wp2
    go_end0
    rw [HJ.out] at hfin
    exact ⟨rfl, hfin.out⟩
theorem walign_nil (w : World) :
    Calls Tryz.prog 12 #[.pointer none] w fun e w' => e = .returned (.tuple #[]) ∧ w = w' := by
  go_enter Tryz.func12, Tryz.ntmps12
  go_wp2
  refine bodyPost_ret (results_none rfl _ _ _) rfl ?_
  exact ⟨rfl, rfl⟩
theorem write_nil (v : Value) (w : World) :
    Calls Tryz.prog 124 #[.pointer none, v] w fun e w' => e = .returned (.tuple #[]) ∧ w = w' := by
  go_enter Tryz.func124, Tryz.ntmps124
  go_wp2
  refine bodyPost_ret (results_none rfl _ _ _) rfl ?_
  exact ⟨rfl, rfl⟩
theorem wbits_nil (w : World) :
    Calls Tryz.prog 10 #[.pointer none] w fun e w' => e = .returned (.int .i64 0) ∧ w = w' := by
  go_enter Tryz.func10, Tryz.ntmps10
  go_wp2
  go_ret
  exact ⟨rfl, rfl⟩
theorem take_nil (w : World) :
    Calls Tryz.prog 13 #[.pointer none] w fun e w' => e = .returned (.slice none 0 0) ∧ w = w' := by
  go_enter Tryz.func13, Tryz.ntmps13
  go_wp2
  go_ret
  exact ⟨rfl, rfl⟩

/-! ### Take -/
theorem take_any (B : Nat) (d : Value) (l : List Nat) (w : World) (h : Wr w B d l) :
    Calls Tryz.prog 13 #[.pointer (some ⟨B, 0, none⟩)] w fun e w' => e = .returned d ∧ Own w' 5 1 d (bytesOf l).length (u8s (bytesOf l)) ∧
      Wr w' B (.slice none 0 0) (l.drop (8 * (bytesOf l).length)) ∧ Mod w w' (fun k => k = B) := by
  obtain ⟨bs, s, c, ⟨hb, hown, hne, hs, hb256⟩, hc, hl'⟩ := h
  have hbytes : bytesOf l = bs := by rw [hl']; exact bytesOf_bits8 bs _ hb256 (by rw [bitsOf_length]; exact hc)
  have hdrop : l.drop (8 * bs.length) = bits8 [] ++ bitsOf c s := by
    rw [hl', List.drop_append, bits8_length, Nat.sub_self, List.drop_eq_nil_of_le (by rw [bits8_length]; omega)]; rfl
  have hM : Mod w (w.setCell ⟨B, 0, none⟩ (.slice none 0 0)) (fun k => k = B) := (Mod.refl w (fun k => k = B)).setCell (p := ⟨B, 0, none⟩) (.inr rfl) _
  have HW : Hid (Own (w.setCell ⟨B, 0, none⟩ (.slice none 0 0)) 5 1 d (bytesOf l).length (u8s (bytesOf l)) ∧
      Wr (w.setCell ⟨B, 0, none⟩ (.slice none 0 0)) B (.slice none 0 0) (l.drop (8 * (bytesOf l).length)) ∧ Mod w (w.setCell ⟨B, 0, none⟩ (.slice none 0 0)) (fun k => k = B)) := by
    rw [hbytes, hdrop]
    exact ⟨hown.kept hM (fun k hk e => hne (by rw [hk, e])), ⟨[], s, c, ⟨hb.set 0 _, Own.nil _ _ _, by simp [Value.ownBlock], hs, by simp⟩, hc, rfl⟩, hM⟩
  have c0 := hb.cell (i := 0) rfl
  have f0 := hb.frozen 0
  clear hM hdrop hbytes hl' hs
  go_enter Tryz.func13, Tryz.ntmps13
  go_wp2
  go_ret
  exact ⟨rfl, HW.out⟩

/-! ### Bits -/
theorem wbits_any (B : Nat) (d : Value) (l : List Nat) (w : World) (h : Wr w B d l) (hl : l.length < 1099511627000) :
    Calls Tryz.prog 10 #[.pointer (some ⟨B, 0, none⟩)] w fun e w' => e = .returned (.int .i64 (l.length : Int)) ∧ ∃ n, w' = w.drewN n := by
  obtain ⟨bs, s, c, ⟨hb, hown, hne, hs, hb256⟩, hc, hl'⟩ := h
  obtain ⟨ao, cap, rfl, hcap, hmax⟩ := hown.form
  have hlen : l.length = 8 * bs.length + c := by rw [hl', wsize]
  have hbl : bs.length < 1099511627000 := by omega
  have HL := hid hlen
  have c0 := hb.cell (i := 0) rfl
  have c2 := hb.cell (i := 2) rfl
  clear hlen hl' hs
  go_enter Tryz.func10, Tryz.ntmps10
  go_wp2
  go_quiet (fail)
  go_wp2
  go_ret
  exact ⟨by rw [HL.out]; rfl, _, rfl⟩

/-! ### Write -/
theorem evened_bytes {bs : List Nat} {s c : Nat} {l : List Nat} (h : bits8 bs ++ bitsOf c s = evened l) (hc : c < 8) : c = 0 := by
  have h1 := congrArg List.length h
  have h2 := evened_length l
  rw [wsize] at h1
  omega
theorem write_mid {w w1 : World} {B : Nat} {bs news : List Nat} {s : Nat} {ao ao1 : Option Addr} {cap cap1 n : Nat} (hb : Blk w B [.slice ao bs.length cap, .int .u64 (s : Int), .int .i64 ((0 : Nat) : Int)] 56) (hne : Value.ownBlock (.slice ao bs.length cap) ≠ some B)
    (hs : s < 2 ^ 0) (hb256 : ∀ b ∈ bs, b < 256) (hn256 : ∀ b ∈ news, b < 256) (hn : n = news.length)
    (hown1 : Own w1 5 1 (.slice ao1 (bs.length + n) cap1) (bs.length + n) (u8s bs ++ u8s news)) (hgrow : w.grownBy w1 (Value.ownBlock (.slice ao bs.length cap)))
    (hat : Value.ownBlock (.slice ao1 (bs.length + n) cap1) = Value.ownBlock (.slice ao bs.length cap) ∨ Value.ownBlock (.slice ao1 (bs.length + n) cap1) = some w.heap.size) :
    WStep w (w1.setCell ⟨B, 0, none⟩ (.slice ao1 (bs.length + n) cap1)) B (.slice ao bs.length cap) (bits8 bs ++ bits8 news) := by
  subst hn
  have hne1 : Value.ownBlock (.slice ao1 (bs.length + news.length) cap1) ≠ some B := by
    rcases hat with h | h
    · rw [h]; exact hne
    · rw [h]; intro e; injection e with e; have := hb.lt; omega
  have hb1 := hb.grown hgrow hne
  have hM1 : Mod w w1 (WSet B (.slice ao bs.length cap)) := (Mod.refl w _).grown hgrow fun k hk => .inr (.inr hk)
  refine ⟨.slice ao1 (bs.length + news.length) cap1, ⟨bs ++ news, s, 0, ⟨hb1.set 0 _, ?_, hne1, hs, ?_⟩, by omega, ?_⟩, hM1.setCell (.inr (.inl rfl)) _, ?_⟩
  · rw [List.length_append, u8s_append]
    exact hown1.kept ((Mod.refl w1 (fun k => k = B)).setCell (p := ⟨B, 0, none⟩) (.inr rfl) _) (fun k hk e => hne1 (by rw [hk, e]))
  · intro b hb'
    rcases List.mem_append.1 hb' with h | h
    · exact hb256 b h
    · exact hn256 b h
  · rw [bits8_append]; simp [bitsOf]
  · rcases hat with h | h
    · exact .inl h
    · exact .inr fun k hk => by rw [h] at hk; injection hk with hk; omega
theorem write_any (B : Nat) (d v : Value) (l news : List Nat) (n : Nat) (w : World) (h : Wr w B d l) (hl : l.length < 1099511600000) (hv : Rd w 1 v n (u8s news)) (hvo : 0 < n → ∀ k, v.ownBlock = some k → ¬ WSet B d k)
    (hn256 : ∀ b ∈ news, b < 256) (hnl : n < 1099511627776) :
    Calls Tryz.prog 124 #[.pointer (some ⟨B, 0, none⟩), v] w fun e w' => e = .returned (.tuple #[]) ∧ WStep w w' B d (evened l ++ bits8 news) := by
  obtain ⟨i, hi, hz0, hz1, hz2⟩ := info_parts Tryz.infoByte
  have hlt := hid h.lt
  have hn : n = news.length := by have := hv.1; rw [u8s_length] at this; omega
  have HN := hid hn
  clear hn
  go_enter Tryz.func124, Tryz.ntmps124
  go_wp2_with fail
  refine (walign_any B d l w h (by omega)).mono ?_
  rintro e w1 ⟨rfl, d1, ⟨bs, s, c, ⟨hb, hown, hne, hs, hb256⟩, hc, hl'⟩, hM, hmv⟩
  have hv1 := hv.kept0 hM hvo
  have hc0 := evened_bytes hl'.symm hc
  subst hc0
  obtain ⟨ao, cap, rfl, hcap, hmax⟩ := hown.form
  have hlen : bs.length < 1099511600007 := by
    have h1 := congrArg List.length hl'; rw [wsize] at h1; have := evened_le l; omega
  have c0 := hb.cell (i := 0) rfl
  have f0 := hb.frozen 0
  have HL : Hid (evened l = bits8 bs) := by rw [hl']; simp [bitsOf, Hid]
  have HS := hid hs
  clear hl' hs
  go_wp2_with (at_builtin; refine wpList_app _ rfl (.tmp 12) (.tmp 13) 23 rfl 5 i (.int .u8 0) 1 1 Tryz.underlying23 hi hz0 hz1 hz2 rfl (by decide) (.slice ao bs.length cap) bs.length (u8s bs) rfl hown v n (u8s news) rfl hv1 (u8s_one _) (by unfold maxLen; omega) (by omega) ?_; intro ao1 cap1 w2 hown1 hgrow hat; have hb1 := hb.grown hgrow hne; have e0 := hb1.cell (i := 0) rfl; have g0 := hb1.frozen 0)
  go_end0
  have hst := write_mid hb hne HS.out hb256 hn256 HN.out hown1 hgrow hat
  rw [HL.out]
  exact ⟨rfl, WStep.next hlt.out hM hmv hst⟩
end Go.Proofs.YthibpnkdhbkakaaGreatDoor
