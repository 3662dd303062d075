/-
  find: the symbol whose code 15 bits begin with.
-/
import Derived.Test.YtpecdappchkdiaaTabBuild
import Derived.Test.YtpecdappchkdiaaTabRev
namespace Go.Proofs.Ytpecdappchkdiaa
open Go.RowKit

section
variable {w0 w : World} {Rs : List Thing}
theorem hit15 {l : List Int} {x i n : Nat} (h : Hit l (hiBits 15 x) i n) : n ≤ 15 := by have := h.2.2.1; rwa [hiBits_length] at this
theorem hiN15 (x n : Nat) (hx : x < 32768) (hn : n ≤ 15) : hiN ((hiBits 15 x).take n) = x / 2 ^ (15 - n) := by
  rw [hiN_hiBits 15 x n hn, Nat.mod_eq_of_lt]
  rw [Nat.div_lt_iff_lt_mul (Nat.pow_pos (by decide)), ← Nat.pow_add, show n + (15 - n) = 15 by omega]
  exact hx
set_option maxRecDepth 20000 in
set_option maxHeartbeats 1600000 in
theorem find_any (l : List Int) (B x : Nat) (h : Held w0 w (tabT l B :: Rs)) (hF : Fine l) (hx : x < 32768) :
    Calls Try.prog 32 #[.pointer (some ⟨B, 0, none⟩), .int .u32 (x : Int)] w fun e w' => ∃ k n : Nat, e = .returned (.tuple #[.int .i64 (k : Int), .int .i64 (n : Int)]) ∧
      Held w0 w' (tabT l B :: Rs) ∧ Hid (Hit l (hiBits 15 x) k n ∨ k = 0 ∧ n = 0 ∧ ∀ i m, ¬ Hit l (hiBits 15 x) i m) := by
  obtain ⟨⟨lv, cv, S⟩, h1⟩ := h.ex
  have H1 : Hid (Held w0 w (tabK l l.length B lv cv S :: Rs)) := h1
  have HL := hid hF
  clear h h1 hF
  obtain ⟨bs, hbs⟩ : ∃ bs, bs = hiBits 15 x := ⟨_, rfl⟩
  rw [← hbs]
  have HY : Hid (∀ n, n ≤ 15 → hiN (bs.take n) = x / 2 ^ (15 - n)) := by rw [hbs]; exact fun n hn => hiN15 x n hx hn
  have HB : Hid (bs.length = 15) := by unfold Hid; rw [hbs]; exact hiBits_length 15 x
  clear hbs
  go_enter Try.func32, Try.ntmps32
  go_wp2
  go_loopg [5] 17 (fun k t5 wr => ∃ n : Nat, 1 ≤ n ∧ n ≤ 16 ∧ 16 - n < k ∧ t5 = .int .i64 (n : Int) ∧ Hid (Held w0 wr (tabK l l.length B lv cv S :: Rs)) ∧ Hid (Past l bs n ∧ (n ≤ 15 → fstC l n ≤ hiN (bs.take n))))
  case atStart => exact ⟨1, by omega, by omega, by omega, rfl, H1, Past.one l bs, fun _ => Nat.zero_le _⟩
  case round =>
    obtain ⟨n, hn1, hn2, hk, rfl, HH, HP⟩ := hrel
    clear H1
    by_cases hn : n ≤ 15
    · obtain ⟨m, hm⟩ : ∃ m, m = (grp l l.length n).length := ⟨_, rfl⟩
      obtain ⟨f, hf⟩ : ∃ f, f = grpF l l.length n := ⟨_, rfl⟩
      obtain ⟨y, hy⟩ : ∃ y, y = x / 2 ^ (15 - n) := ⟨_, rfl⟩
      have hn16 : n < 16 := by omega
      have hKO := K_open HH.out hn16
      have hc1 := hKO.obj.cell (tabL_F _ _ _ _ n hn16)
      have hc2 := hKO.obj.cell (tabL_S _ _ _ _ n hn16)
      have hos := hKO.swap.own
      rw [← hm] at hos
      obtain ⟨so, scap, hS, _, _⟩ := hos.form
      rw [hS] at hc2 hos
      rw [← hf] at hc1
      have hfy : f ≤ y := by
        have h1 := HP.out.2 hn
        rw [HY.out n hn, ← hy] at h1
        rw [hf]; unfold grpF; split
        · exact Nat.zero_le _
        · exact h1
      have hy2 : y < 32768 := by rw [hy]; exact Nat.lt_of_le_of_lt (Nat.div_le_self _ _) hx
      obtain ⟨r, hr⟩ : ∃ r, r = 15 - n := ⟨_, rfl⟩
      have hrI : (15 : Int) - (n : Int) = (r : Int) := by omega
      have hval : (x : Int) / 2 ^ r = (y : Int) := by rw [hy, ← hr, two_pow_int]; exact (Int.natCast_ediv _ _).symm
      obtain ⟨d, hd⟩ : ∃ d, d = y - f := ⟨_, rfl⟩
      have hdI : (y : Int) - (f : Int) = (d : Int) := by omega
      have hm288 : m ≤ 288 := by rw [hm]; have h1 := grp_le l l.length n; have := HL.out.2.1; omega
      have hn0 : (0 : Int) ≤ (n : Int) := Int.natCast_nonneg _
      have hn15 : (n : Int) < 16 := by omega
      have hr15 : r ≤ 14 := by omega
      have hm0 : (0 : Int) ≤ (m : Int) := Int.natCast_nonneg _
      have HMI := hid hm
      have HFI := hid hf
      have HYI := hid hy
      have HDI := hid hd
      have HRI := hid hr
      have HSI := hid hS
      clear hm hf hy hd hS hKO hr
      by_cases hdm : d < m
      · have hdB : decide ((d : Int) < (m : Int)) = true := by simp; omega
        obtain ⟨g, off, rfl, hcell, _, _⟩ := hos.site (by omega)
        obtain ⟨i, hi⟩ : ∃ i, (grp l l.length n)[d]? = some i := ⟨(grp l l.length n)[d]'(by have := HMI.out; omega), List.getElem?_eq_getElem _⟩
        have hc3 := hcell d _ (by rw [nums_get, hi]; rfl)
        have HI := hid hi
        clear hi hcell hos
        have hd0 : (0 : Int) ≤ (d : Int) := Int.natCast_nonneg _
        have hdmI : (d : Int) < (m : Int) := by omega
        go_wp2
        go_quiet (fail)
        go_wp2
        go_ret2
        have hcode := grp_code l n d i hn1 hn HI.out
        have hne : grp l l.length n ≠ [] := fun e => by have h1 := HMI.out; rw [e] at h1; simp at h1; omega
        have hfF : f = fstC l n := by rw [HFI.out]; unfold grpF; rw [if_neg hne]
        exact ⟨i, n, rfl, Held.mk (_, _, S) (HH.out.drewN _), .inl (hit_at hn1 (by have := HB.out; omega) hcode.1 (by rw [HY.out n hn, ← HYI.out, hcode.2]; have := HDI.out; omega))⟩
      · have hdB : decide ((d : Int) < (m : Int)) = false := by simp; omega
        go_wp2
        go_quiet (fail)
        go_wp2
        have hcnt : fstC l n + l.count (n : Int) ≤ hiN (bs.take n) := by
          have h1 := HP.out.2 hn
          rw [HY.out n hn, ← HYI.out] at h1 ⊢
          rw [← grp_all l n hn1, ← HMI.out]
          by_cases hm1 : m = 0
          · omega
          · have hne : grp l l.length n ≠ [] := fun e => by have h1 := HMI.out; rw [e] at h1; simp at h1; omega
            have hfF : f = fstC l n := by rw [HFI.out]; unfold grpF; rw [if_neg hne]
            have := HDI.out
            omega
        have HP2 : Hid (Past l bs (n + 1) ∧ (n + 1 ≤ 15 → fstC l (n + 1) ≤ hiN (bs.take (n + 1)))) := by
          refine ⟨HP.out.1.next hn hcnt, fun h15 => ?_⟩
          exact over_next hn1 hcnt (b := bs[n]'(by have := HB.out; omega)) (List.getElem?_eq_getElem _)
        have HH2 := hid (HH.out.drewN 4)
        clear hcnt
        go_roundg (gk - 1)
        case measure => omega
        case rel => exact ⟨n + 1, by omega, by omega, by omega, by go_num, HH.out.drewN _, HP2⟩
    · have h16 : n = 16 := by omega
      subst h16
      have HN : Hid (∀ i m, ¬ Hit l bs i m) := fun i m hh => by
        have h1 := HP.out.1 i m hh
        have h2 := hh.2.2.1
        have := HB.out
        omega
      have HH2 := hid HH.out
      clear HH HP
      go_wp2
      go_ret2
      exact ⟨0, 0, rfl, Held.mk (_, _, S) HH2.out, .inr ⟨rfl, rfl, HN.out⟩⟩
end
end Go.Proofs.Ytpecdappchkdiaa
