/-
  The reference's Same: two byte slices are alike.
-/
import Derived.Test.YthlfomeggobnaaaProg
import Derived.Test.YthlfomeggobnaaaHeld
import Derived.Test.YthlfomeggobnaaaBitsMath
import Derived.StillTailTactics
namespace Go.Proofs.Ythlfomeggobnaaa
open Go.RowKit

theorem take_snoc' (l : List Nat) (k b : Nat) (h : l[k]? = some b) : l.take (k + 1) = l.take k ++ [b] := by
  have hi := (List.getElem?_eq_some_iff.1 h).1
  have hb := (List.getElem?_eq_some_iff.1 h).2
  rw [List.take_succ_eq_append_getElem hi, hb]
theorem same_len {a b : List Nat} (h : a.length ≠ b.length) : a ≠ b := fun e => h (by rw [e])
set_option maxHeartbeats 800000 in
theorem same_any (v u : Value) (a b : List Nat) (w : World) (hv : Rd w 1 v a.length (u8s a)) (hu : Rd w 1 u b.length (u8s b)) (hal : a.length < 8000000000) :
    Calls Try.prog 10 #[v, u] w fun e w' => e = .returned (.bool (decide (a = b))) ∧ ∃ n, w' = w.drewN n := by
  obtain ⟨ao, cap, rfl, _, _⟩ := hv.form
  obtain ⟨bo, cbp, rfl, _, _⟩ := hu.form
  by_cases hab : a.length = b.length
  · obtain ⟨n, hn⟩ : ∃ n, n = a.length := ⟨_, rfl⟩
    rw [← hab] at hu
    rw [← hn] at hv hu hal
    rw [← hab, ← hn]
    have HN := hid hn
    have HM := hid hab
    clear hn hab
    have hne : ((n : Int) != (n : Int)) = false := by simp
    go_enter Try.func10, Try.ntmps10
    go_wp2
    go_loopw [5] (fun t5 wr => ∃ k c : Nat, k ≤ n ∧ t5 = .int .i64 (k : Int) ∧ Hid (a.take k = b.take k) ∧ Hid (wr = w.drewN c)) (fun t5 _ => n - (intOf t5).toNat)
    case atStart => exact ⟨0, 0, Nat.zero_le _, rfl, rfl, rfl⟩
    case round =>
      obtain ⟨k, c, hk, rfl, HT, HW⟩ := hrel
      obtain rfl := HW.out
      by_cases hkn : k < n
      · obtain ⟨x, hx⟩ : ∃ x, a[k]? = some x := ⟨a[k]'(by have := HN.out; omega), List.getElem?_eq_getElem _⟩
        obtain ⟨y, hy⟩ : ∃ y, b[k]? = some y := ⟨b[k]'(by have := HN.out; have := HM.out; omega), List.getElem?_eq_getElem _⟩
        obtain ⟨g, off, rfl, hcell⟩ := hv.spot (by omega)
        obtain ⟨g2, off2, rfl, hcell2⟩ := hu.spot (by omega)
        have hc : w.cell? ⟨g, off + k, none⟩ = some (.int .u8 (x : Int)) := hcell k _ (by rw [u8s_get, hx]; rfl)
        have hc2 : w.cell? ⟨g2, off2 + k, none⟩ = some (.int .u8 (y : Int)) := hcell2 k _ (by rw [u8s_get, hy]; rfl)
        have hk0 : (0 : Int) ≤ (k : Int) := Int.natCast_nonneg _
        have hk1 : (k : Int) < (n : Int) := by omega
        have HX := hid hx
        have HY := hid hy
        clear hcell hcell2 hx hy
        by_cases hxy : x = y
        · have hd : ((x : Int) != (y : Int)) = false := by simp [hxy]
          have HXY := hid hxy
          clear hxy
          go_wp2
          go_quiet (fail)
          go_wp2
          go_roundw
          case rel => exact ⟨k + 1, _, by omega, by go_num, by rw [Hid, take_snoc' _ _ _ HX.out, take_snoc' _ _ _ HY.out, HT.out, HXY.out], rfl⟩
          case measure => simp [intOf]; omega
        · have hd : ((x : Int) != (y : Int)) = true := by simp; omega
          have HXY := hid hxy
          clear hxy
          go_wp2
          go_quiet (fail)
          go_wp2
          go_ret
          refine ⟨?_, _, World.drewN_drewN ..⟩
          rw [decide_eq_false]
          · rfl
          · intro e
            have h1 := HX.out
            rw [e, HY.out] at h1
            exact HXY.out (Option.some.inj h1).symm
      · go_wp2
        go_ret
        refine ⟨?_, _, rfl⟩
        have h1 := HT.out
        rw [List.take_of_length_le (by have := HN.out; omega), List.take_of_length_le (by have := HN.out; have := HM.out; omega)] at h1
        rw [decide_eq_true h1]
        rfl
  · have hd : ((a.length : Int) != (b.length : Int)) = true := by simp; omega
    have HN := hid hab
    clear hab
    go_enter Try.func10, Try.ntmps10
    go_wp2
    go_ret
    exact ⟨by rw [decide_eq_false (same_len HN.out)]; rfl, 0, rfl⟩
section
variable {w0 w : World} {Rs : List Thing}
theorem h_same (h : Held w0 w Rs) (v u : Value) (a b : List Nat) (hv : Rd w 1 v a.length (u8s a)) (hu : Rd w 1 u b.length (u8s b)) (hal : a.length < 8000000000) :
    Calls Try.prog 10 #[v, u] w fun e w' => e = .returned (.bool (decide (a = b))) ∧ Held w0 w' Rs :=
  (same_any v u a b w hv hu hal).mono fun _ _ ⟨h1, n, h2⟩ => ⟨h1, by rw [h2]; exact h.drewN n⟩
theorem h_same_yes (h : Held w0 w Rs) (v u : Value) (a : List Nat) (n : Nat) (hv : Rd w 1 v n (u8s a)) (hu : Rd w 1 u n (u8s a)) (hal : n < 8000000000) :
    Calls Try.prog 10 #[v, u] w fun e w' => e = .returned (.bool true) ∧ Held w0 w' Rs := by
  have hn : n = a.length := by have := hv.1; rw [u8s_length] at this; omega
  subst hn
  exact (h_same h v u a a hv hu hal).mono fun _ _ ⟨h1, h2⟩ => ⟨by rw [h1]; simp, h2⟩
end
end Go.Proofs.Ythlfomeggobnaaa
