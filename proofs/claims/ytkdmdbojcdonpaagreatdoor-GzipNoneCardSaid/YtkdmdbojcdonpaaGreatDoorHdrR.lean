/-
  The reference's parts of a header: numbers and texts.
-/
import Derived.Test.YtkdmdbojcdonpaaGreatDoorHdrP3
import Derived.Test.YtkdmdbojcdonpaaGreatDoorRef2
namespace Go.Proofs.YtkdmdbojcdonpaaGreatDoor
set_option maxRecDepth 5000
open Go.RowKit

section
variable {w0 w : World} {Rs : List Thing}
theorem leN_drop {x : List Nat} {i b : Nat} (h : x[i]? = some b) : leN (x.drop i) = b + 256 * leN (x.drop (i + 1)) := by
  have hi := (List.getElem?_eq_some_iff.1 h).1
  have hb := (List.getElem?_eq_some_iff.1 h).2
  rw [List.drop_eq_getElem_cons hi, hb, leN]
theorem leN_le (x : List Nat) (hb : ∀ b ∈ x, b < 256) (hx : x.length ≤ 4) : leN x < 4294967296 := by
  have h1 := leN_lt x hb
  have h2 : 256 ^ x.length ≤ 256 ^ 4 := Nat.pow_le_pow_right (by decide) hx
  omega
set_option maxHeartbeats 1600000 in
theorem num_any (v : Value) (n : Nat) (x : List Nat) (w : World) (hv : Rd w 1 v n (u8s x)) (hb : ∀ b ∈ x, b < 256) (hn : n ≤ 4) :
    Calls Tryz.prog 31 #[v] w fun e w' => e = .returned (.int .i64 ((leN x : Nat) : Int)) ∧ w' = w := by
  obtain ⟨ao, cap, rfl, _, _⟩ := hv.form
  have hl : x.length = n := by have := hv.1; unfold u8s at this; rw [List.length_map] at this; omega
  obtain ⟨V, hV⟩ : ∃ V, V = leN x := ⟨_, rfl⟩
  rw [← hV]
  have HV := hid hv
  have HB := hid (And.intro hb hl)
  have HVV := hid hV
  clear hV
  have hn0 : (0 : Int) ≤ (n : Int) := Int.natCast_nonneg _
  have hni : (n : Int) ≤ 4 := by omega
  clear hv hb hl
  go_enter Tryz.func31, Tryz.ntmps31
  go_wp2
  go_loopg [3, 4] (n + 2) (fun g t3 t4 wr => wr = w ∧ ∃ i : Nat, i ≤ n ∧ i < g ∧ t3 = .int .i64 ((leN (x.drop i) : Nat) : Int) ∧ t4 = .int .i64 ((i : Int) - 1))
  case atStart =>
    refine ⟨rfl, n, Nat.le_refl _, by omega, ?_, rfl⟩
    rw [List.drop_of_length_le (by have := HB.out.2; omega)]
    rfl
  case round =>
    obtain ⟨rfl, i, hi, hg, rfl, rfl⟩ := hrel
    cases i with
    | zero =>
      have hz : ¬ (0 : Int) ≤ ((0 : Nat) : Int) - 1 := by decide
      have h0 : leN (x.drop 0) = V := by rw [List.drop_zero]; exact HVV.out.symm
      rw [h0]
      clear h0
      go_wp2
      go_ret
      exact ⟨rfl, rfl⟩
    | succ j =>
      have hj : ((j + 1 : Nat) : Int) - 1 = (j : Int) := by omega
      rw [hj]
      have hj0 : (0 : Int) ≤ (j : Int) := Int.natCast_nonneg _
      have hjn : j < n := by omega
      have hjI : (j : Int) < (n : Int) := by omega
      obtain ⟨b, hbj⟩ : ∃ b, x[j]? = some b := ⟨x[j]'(by have := HB.out.2; omega), List.getElem?_eq_getElem _⟩
      obtain ⟨g, off, rfl, hc⟩ := HV.out.spot (by omega)
      have hcell := hc j (.int .u8 (b : Int)) (by unfold u8s; rw [List.getElem?_map, hbj]; rfl)
      have hb8 : b < 256 := HB.out.1 b (List.mem_of_getElem? hbj)
      have hnext := leN_drop hbj
      have hlt := leN_le (x.drop j) (fun b hb => HB.out.1 b (List.mem_of_mem_drop hb)) (by rw [List.length_drop]; have := HB.out.2; omega)
      obtain ⟨A, hA⟩ : ∃ A, A = leN (x.drop (j + 1)) := ⟨_, rfl⟩
      obtain ⟨D, hD⟩ : ∃ D, D = leN (x.drop j) := ⟨_, rfl⟩
      rw [← hA] at hnext ⊢
      rw [← hD] at hnext hlt
      have hval : 256 * (A : Int) + (b : Int) = (D : Int) := by omega
      have hA0 : (0 : Int) ≤ 256 * (A : Int) := by omega
      have hA1 : 256 * (A : Int) ≤ 9223372036854775807 := by omega
      have hD1 : (D : Int) ≤ 9223372036854775807 := by omega
      have HD := hid hD
      clear hnext hA hD hc hbj
      go_wp2
      go_roundg (gk - 1)
      case measure => omega
      case rel => exact ⟨rfl, j, by omega, by omega, by rw [← HD.out], rfl⟩
/-- what a text is read as -/
def textM (x : List Nat) : List Nat × Nat × Nat := match zeroAt (x.take 4097) with
  | some i => (x.take i, i + 1, 0)
  | none => ([], 0, if 4096 < x.length then 2 else 5)
set_option maxHeartbeats 1600000 in
theorem rtext_any (v : Value) (n : Nat) (x : List Nat) (w : World) (hv : Rd w 1 v n (u8s x)) (hb : ∀ b ∈ x, b < 256) (hn : n < 1000000000) :
    Calls Tryz.prog 47 #[v] w fun e w' => e = .returned (.tuple #[strV (textM x).1, .int .i64 ((textM x).2.1 : Int), .int .i64 ((textM x).2.2 : Int)]) ∧ w' = w := by
  obtain ⟨ao, cap, rfl, _, _⟩ := hv.form
  have hl : x.length = n := by have := hv.1; unfold u8s at this; rw [List.length_map] at this; omega
  obtain ⟨M, hM⟩ : ∃ M, M = textM x := ⟨_, rfl⟩
  rw [← hM]
  have HV := hid hv
  have HB := hid (And.intro hb (And.intro hl hM))
  have hn0 : (0 : Int) ≤ (n : Int) := Int.natCast_nonneg _
  clear hv hb hl hM
  go_enter Tryz.func47, Tryz.ntmps47
  go_wp2
  go_loopg [5] (n + 2) (fun g t5 wr => wr = w ∧ ∃ i : Nat, i ≤ n ∧ n - i < g ∧ t5 = .int .i64 (i : Int) ∧ i ≤ 4096 ∧ ∀ j, j < i → x[j]? ≠ some 0)
  case atStart => exact ⟨rfl, 0, by omega, by omega, rfl, by omega, fun j hj => absurd hj (Nat.not_lt_zero _)⟩
  case round =>
    obtain ⟨rfl, i, hi, hg, rfl, hi4, hno⟩ := hrel
    have hi0 : (0 : Int) ≤ (i : Int) := Int.natCast_nonneg _
    have hi4I : (i : Int) ≤ 4096 := by omega
    by_cases hin : i < n
    · have hiI : (i : Int) < (n : Int) := by omega
      obtain ⟨b, hbj⟩ : ∃ b, x[i]? = some b := ⟨x[i]'(by have := HB.out.2.1; omega), List.getElem?_eq_getElem _⟩
      obtain ⟨g, off, rfl, hc⟩ := HV.out.spot (by omega)
      have hcell := hc i (.int .u8 (b : Int)) (by unfold u8s; rw [List.getElem?_map, hbj]; rfl)
      clear hc
      by_cases hb0 : b = 0
      · subst hb0
        have hcell : wr.cell? ⟨g, off + i, none⟩ = some (.int .u8 0) := hcell
        have hz : zeroAt (x.take 4097) = some i := by
          rw [show x.take 4097 = x.take i ++ 0 :: (x.drop (i + 1)).take (4096 - i) by
            rw [← List.take_append_drop i (x.take 4097), List.take_take, Nat.min_eq_left (by omega), List.drop_take, List.drop_eq_getElem_cons (by have := HB.out.2.1; omega), show 4097 - i = (4096 - i) + 1 by omega, List.take_succ_cons]
            rw [(List.getElem?_eq_some_iff.1 hbj).2]]
          rw [zeroAt_app (fun y hy => ?_), List.length_take, Nat.min_eq_left (by have := HB.out.2.1; omega)]
          intro hy0
          rw [hy0] at hy
          obtain ⟨j, hj⟩ := List.mem_iff_getElem?.1 hy
          rw [List.getElem?_take] at hj
          split at hj
          · rename_i hji
            exact hno j hji hj
          · cases hj
        have hM : M = (x.take i, i + 1, 0) := by rw [HB.out.2.2]; unfold textM; rw [hz]
        have hfr := HV.out.front (H := i) (by omega)
        have hfr2 : Rd wr 1 (.slice (some ⟨g, off, none⟩) i cap) i (u8s (x.take i)) := by
          rw [Nat.mul_one] at hfr
          unfold u8s at hfr ⊢
          rwa [← List.map_take] at hfr
        have HF := hid (And.intro hfr2 hM)
        have hbt : ∀ b ∈ x.take i, b < 256 := fun b hb => HB.out.1 b (List.mem_of_mem_take hb)
        have HBT := hid hbt
        clear hz hM hfr hfr2 hbj hno hbt
        go_wp2_with (refine wpList_conv_str rfl 25 9 (.tmp 19) rfl 5 Tryz.underlying25 Tryz.underlying5 Tryz.underlying9 _ (x.take i) i rfl HF.out.1 HBT.out ?_)
        go_ret3
        exact ⟨by rw [HF.out.2]; rfl, rfl⟩
      · have hbI : ¬ (b : Int) = 0 := by omega
        have hbB : ((b : Int) == 0) = false := by simp; omega
        have hno2 : ∀ j, j < i + 1 → x[j]? ≠ some 0 := fun j hj => by
          by_cases hji : j < i
          · exact hno j hji
          · obtain rfl : j = i := by omega
            rw [hbj]
            intro e
            exact hb0 (Option.some.inj e)
        have HNO := hid hno2
        by_cases h96 : i = 4096
        · subst h96
          have hM : M = ([], 0, 2) := by
            have hz : zeroAt (x.take 4097) = none := by
              rw [zeroAt_none]
              intro y hy hy0
              rw [hy0] at hy
              obtain ⟨j, hj⟩ := List.mem_iff_getElem?.1 hy
              rw [List.getElem?_take] at hj
              split at hj
              · rename_i hji
                exact HNO.out j hji hj
              · cases hj
            rw [HB.out.2.2]
            unfold textM
            rw [hz]
            dsimp only
            rw [if_pos (by have := HB.out.2.1; omega)]
          have HM := hid hM
          clear hM hno hno2 hbj hb0
          go_wp2
          go_ret3
          exact ⟨by rw [HM.out]; rfl, rfl⟩
        · have h96I : ¬ (4096 : Int) ≤ (i : Int) := by omega
          clear hno hno2 hbj hb0
          go_wp2
          go_roundg (gk - 1)
          case measure => omega
          case rel => exact ⟨rfl, i + 1, by omega, by omega, rfl, by omega, HNO.out⟩
    · have hiI : ¬ (i : Int) < (n : Int) := by omega
      obtain rfl : i = n := by omega
      have hM : M = ([], 0, 5) := by
        have hz : zeroAt (x.take 4097) = none := by
          rw [zeroAt_none]
          intro y hy hy0
          rw [hy0] at hy
          obtain ⟨j, hj⟩ := List.mem_iff_getElem?.1 (List.mem_of_mem_take hy)
          have := (List.getElem?_eq_some_iff.1 hj).1
          exact hno j (by have := HB.out.2.1; omega) hj
        rw [HB.out.2.2]
        unfold textM
        rw [hz]
        dsimp only
        rw [if_neg (by have := HB.out.2.1; omega)]
      have HM := hid hM
      clear hM hno
      go_wp2
      go_ret3
      exact ⟨by rw [HM.out]; rfl, rfl⟩
end
end Go.Proofs.YtkdmdbojcdonpaaGreatDoor
