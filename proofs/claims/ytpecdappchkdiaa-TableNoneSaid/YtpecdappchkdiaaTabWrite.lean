/-
  Write: a symbol's code, its highest bit first; a table that is none.
-/
import Derived.Test.YtpecdappchkdiaaTabNext
namespace Go.Proofs.Ytpecdappchkdiaa
open Go.RowKit

section
variable {w0 w : World} {Rs : List Thing}
set_option maxRecDepth 20000 in
set_option maxHeartbeats 1600000 in
theorem write_tab (l : List Int) (B Bw : Nat) (bs : List Nat) (s : Int) (h : Held w0 w (wrT Bw bs :: tabT l B :: Rs)) (hF : Fine l) (hlen : bs.length < 1000000) :
    Calls Try.prog 18 #[.pointer (some ⟨B, 0, none⟩), .pointer (some ⟨Bw, 0, none⟩), .int .i64 s] w fun e w' =>
      (∃ i p : Nat, s = (i : Int) ∧ l[i]? = some (p : Int) ∧ 0 < p ∧ e = .returned (.bool true) ∧ Held w0 w' (wrT Bw (bs ++ hiBits p (codeAt l i)) :: tabT l B :: Rs)) ∨
      ((∀ i p : Nat, s = (i : Int) → l[i]? = some (p : Int) → p = 0) ∧ e = .returned (.bool false) ∧ Held w0 w' (wrT Bw bs :: tabT l B :: Rs)) := by
  obtain ⟨⟨lv, cv, S⟩, h1⟩ := h.swap.ex
  have h2 : Held w0 w (tabK l l.length B lv cv S :: wrT Bw bs :: Rs) := h1
  have hu := unK h2
  obtain ⟨n, hn⟩ : ∃ n, n = l.length := ⟨_, rfl⟩
  have hol := hu.swap.own
  have hoc := hu.third.own
  rw [← hn] at hol hoc
  obtain ⟨lo, lcap, rfl, _, _⟩ := hol.form
  obtain ⟨co, ccap, rfl, _, _⟩ := hoc.form
  have hc0 := hu.obj.cell (i := 0) (tabL_0 _ _ _ _)
  have hc1 := hu.obj.cell (i := 1) (tabL_1 _ _ _ _)
  have H0 := hid h
  have HN := hid hn
  have HF := hid hF
  have hn288 : n ≤ 288 := by have := hF.2.1; omega
  clear h h1 h2 hu hn hF
  have hn0 : (0 : Int) ≤ (n : Int) := Int.natCast_nonneg _
  have h3 : s < 0 ∨ 0 ≤ s ∧ (n : Int) ≤ s ∨ 0 ≤ s ∧ s < (n : Int) := by omega
  rcases h3 with h3 | ⟨h3, h4⟩ | ⟨h3, h4⟩
  · have hB1 : decide (s < 0) = true := by simp; omega
    have HR : Hid (∀ i p : Nat, s = (i : Int) → l[i]? = some (p : Int) → p = 0) := fun i p h => by omega
    clear hol hoc hc0 hc1
    go_enter Try.func18, Try.ntmps18
    go_wp2
    go_ret
    exact .inr ⟨HR.out, rfl, H0.out⟩
  · have hB1 : decide (s < 0) = false := by simp; omega
    have hB2 : decide ((n : Int) ≤ s) = true := by simp; omega
    have HR : Hid (∀ i p : Nat, s = (i : Int) → l[i]? = some (p : Int) → p = 0) := fun i p h h2 => by
      have := (List.getElem?_eq_some_iff.1 h2).1
      have := HN.out
      omega
    clear hol hoc
    go_enter Try.func18, Try.ntmps18
    go_wp2
    go_ret
    exact .inr ⟨HR.out, rfl, H0.out⟩
  · obtain ⟨i, rfl⟩ := Int.eq_ofNat_of_zero_le h3
    have hin : i < n := by omega
    obtain ⟨a, hai⟩ : ∃ a, l[i]? = some a := ⟨l[i]'(by have := HN.out; omega), List.getElem?_eq_getElem _⟩
    have ha := HF.out.1 a (List.mem_of_getElem? hai)
    obtain ⟨p, rfl⟩ := Int.eq_ofNat_of_zero_le ha.1
    have hB1 : decide ((i : Int) < 0) = false := by simp
    have hB2 : decide ((n : Int) ≤ (i : Int)) = false := by simp; omega
    have hB3 : decide (n ≤ i) = false := by simp; omega
    obtain ⟨g, off, rfl, hcell, _, _⟩ := hol.site (by omega)
    have hc2 := hcell i _ (by rw [ints_get, hai]; rfl)
    obtain ⟨g2, off2, rfl, hcell2, _, _⟩ := hoc.site (by omega)
    have hc3 := hcell2 i _ (codes_get l i (by have := HN.out; omega))
    have hcl := codeAt_le l i
    obtain ⟨x, hx⟩ : ∃ x, x = codeAt l i := ⟨_, rfl⟩
    rw [← hx] at hc3 hcl
    have HX := hid hx
    have hx32 : x < 4294967296 := by have := HN.out; omega
    have HAI := hid hai
    clear hcell hcell2 hol hoc hai hx hcl
    by_cases hp : p = 0
    · subst hp
      have HR : Hid (∀ j p : Nat, (i : Int) = (j : Int) → l[j]? = some (p : Int) → p = 0) := fun j p h h2 => by
        obtain rfl : i = j := by omega
        have := HAI.out.symm.trans h2
        simp only [Option.some.injEq] at this
        omega
      go_enter Try.func18, Try.ntmps18
      go_wp2
      go_ret
      exact .inr ⟨HR.out, rfl, H0.out⟩
    · have hB4 : ((p : Int) == 0) = false := by simp; omega
      have hp0 : 0 < p := by omega
      have hpI : (0 : Int) ≤ (p : Int) := Int.natCast_nonneg _
      have hp15 : p ≤ 15 := by omega
      have HP := hid (h_put H0.out (revN x p) p (by have := revN_lt x p (by omega); have h2 : 2 ^ p ≤ 2 ^ 15 := Nat.pow_le_pow_right (by decide) hp15; omega) (by omega) (by omega))
      have HE : Hid (bitsOf p (revN x p) = hiBits p (codeAt l i)) := by unfold Hid; rw [HX.out]; exact bitsOf_revN _ _ (by omega)
      have HRV := hid (reverse_any x p w hx32 (by omega))
      obtain ⟨y, hy⟩ : ∃ y, y = revN x p := ⟨_, rfl⟩
      rw [← hy] at HP HE HRV
      clear hp hy
      go_enter Try.func18, Try.ntmps18
      go_wp2_with fail
      refine HRV.out.mono ?_
      rintro e w3 ⟨rfl, rfl⟩
      go_wp2_with fail
      refine HP.out.mono ?_
      rintro e w4 ⟨rfl, hh⟩
      rw [HE.out] at hh
      have H4 := hid hh
      clear hh HP
      go_wp2
      go_ret
      exact .inl ⟨i, p, rfl, HAI.out, hp0, rfl, H4.out⟩
theorem tab_next_nil (Br : Nat) (bs : List Nat) (h : Held w0 w (rdrT Br bs :: Rs)) :
    Calls Try.prog 14 #[.pointer none, .pointer (some ⟨Br, 0, none⟩)] w fun e w' => ∃ k : Int, e = .returned (.tuple #[.int .i64 k, .int .i64 3]) ∧ Held w0 w' (rdrT Br bs :: Rs) := by
  have H0 := hid h
  clear h
  go_enter Try.func14, Try.ntmps14
  go_wp2
  go_ret2
  exact ⟨0, rfl, H0.out⟩
theorem tab_write_nil (Bw : Nat) (bs : List Nat) (s : Int) (h : Held w0 w (wrT Bw bs :: Rs)) :
    Calls Try.prog 18 #[.pointer none, .pointer (some ⟨Bw, 0, none⟩), .int .i64 s] w fun e w' => e = .returned (.bool false) ∧ Held w0 w' (wrT Bw bs :: Rs) := by
  have H0 := hid h
  clear h
  go_enter Try.func18, Try.ntmps18
  go_wp2
  go_ret
  exact ⟨rfl, H0.out⟩
end
end Go.Proofs.Ytpecdappchkdiaa
