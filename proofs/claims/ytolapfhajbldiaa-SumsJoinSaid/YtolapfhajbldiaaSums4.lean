/-
  The program's Adler-32.
-/
import Derived.Test.YtolapfhajbldiaaSums1
import Derived.Test.YtolapfhajbldiaaAdlMath
import Derived.Maps.RangeWalk
namespace Go.Proofs.Ytolapfhajbldiaa
open Go.RowKit
theorem Try.infoByte : (Try.prog.info? 5).map (fun i => (i.zero, i.size, i.bytes)) = some (some (.int .u8 0), 1, 1) := by kernel_rfl
def adlOf (c : Nat) (l : List Nat) : Nat := (adl (c % 65536 % 65521, c / 65536 % 65521) l).2 * 65536 + (adl (c % 65536 % 65521, c / 65536 % 65521) l).1

set_option maxRecDepth 20000 in
set_option maxHeartbeats 1600000 in
theorem adler_any (c : Nat) (v : Value) (l : List Nat) (w : World) (hc : c < 4294967296) (hv : Rd w 1 v l.length (u8s l)) (hb : ∀ b ∈ l, b < 256) (hl : l.length < 1000000000) :
    Calls Try.prog 10 #[.int .u32 (c : Int), v] w fun e w' => e = .returned (.int .u32 ((adlOf c l : Nat) : Int)) ∧ w = w' := by
  obtain ⟨ao, cap, rfl, _, _⟩ := hv.form
  obtain ⟨n, hn⟩ : ∃ n, n = l.length := ⟨_, rfl⟩
  obtain ⟨x0, hx0⟩ : ∃ x0, x0 = c % 65536 % 65521 := ⟨_, rfl⟩
  obtain ⟨y0, hy0⟩ : ∃ y0, y0 = c / 65536 % 65521 := ⟨_, rfl⟩
  have hx1 : x0 < 65521 := by omega
  have hy1 : y0 < 65521 := by omega
  unfold adlOf
  rw [← hx0, ← hy0]
  have HX0 := hid hx0
  have HY0 := hid hy0
  have HV : Hid (Rd w 1 (.slice ao n cap) n (u8s l)) := by unfold Hid; rw [hn]; exact hv
  rw [← hn] at hl ⊢
  have HN := hid hn
  clear hn hv hx0 hy0
  obtain ⟨i, hi, hz0, hz1, hz2⟩ := info_parts Try.infoByte
  have HC := hid (halves_any c w hc)
  rw [← HX0.out, ← HY0.out] at HC
  go_enter Try.func10, Try.ntmps10
  go_wp2_with fail
  refine HC.out.mono ?_
  rintro e w' ⟨rfl, rfl⟩
  go_wp2
  clear HC
  go_loopg [1, 5, 6] (n + 1) (fun k t1 t5 t6 wr => ∃ (o m x y : Nat) (a' : Option Addr) (cap' : Nat), o + m = n ∧ m < k ∧ t1 = .slice a' m cap' ∧ t5 = .int .u64 (x : Int) ∧ t6 = .int .u64 (y : Int) ∧ x < 65521 ∧ y < 65521 ∧ Hid (Rd w 1 (.slice a' m cap') m (u8s (l.drop o))) ∧ Hid (adl (x0, y0) (l.take o) = (x, y)) ∧ wr = w)
  case atStart => exact ⟨0, n, x0, y0, ao, cap, by omega, by omega, rfl, rfl, rfl, hx1, hy1, HV, rfl, rfl⟩
  case round =>
    obtain ⟨o, m, x, y, a', cap', hom, hmk, rfl, rfl, rfl, hx, hy, HR, HA, rfl⟩ := hrel
    have hm0 : (0 : Int) ≤ (m : Int) := Int.natCast_nonneg _
    by_cases hpos : 0 < m
    · have hpos1 : (0 : Int) < (m : Int) := by omega
      obtain ⟨q, hq⟩ : ∃ q, q = min m 1048576 := ⟨_, rfl⟩
      have hqI : (if (1048576 : Int) < (m : Int) then (1048576 : Int) else (m : Int)) = (q : Int) := by
        by_cases h : (1048576 : Int) < (m : Int)
        · rw [if_pos h]; omega
        · rw [if_neg h]; omega
      have hqm : q ≤ m := by omega
      have hq20 : q ≤ 1048576 := by omega
      have hq1 : 0 < q := by omega
      have HQ := hid hq
      have HOM := hid hom
      clear hq hom
      have hm9 : m < 1000000000 := by have := HOM.out; omega
      obtain ⟨wo, rfl⟩ : ∃ wo : World, wo = wr := ⟨_, rfl⟩
      obtain ⟨gx, rfl⟩ : ∃ g, g = gk := ⟨gk, rfl⟩
      go_wp2_with ((with_reducible show wpList _ _ _ (⟨some 23, _, _, _, _, _⟩ :: _) _ _); refine wpList_cut_rd (w := wo) rfl 23 (.tmp 21) none (some (.tmp 22)) rfl 5 i 1 Try.underlying23 hi hz1 a' m cap' 0 q (u8s (l.drop o)) rfl HR.out rfl ⟨_, rfl⟩ (Nat.zero_le _) hqm ?_; simp only [Nat.sub_zero, Nat.mul_one, List.drop_zero]; intro a2 hrd2 _)
      obtain ⟨L, hL⟩ : ∃ L, L = (l.drop o).take q := ⟨_, rfl⟩
      have hLl : L.length = q := by have h1 := HOM.out; have h2 := HN.out; rw [hL, List.length_take, List.length_drop]; omega
      have hLb : ∀ b ∈ L, b < 256 := fun b hb' => hb b (List.mem_of_mem_drop (List.mem_of_mem_take (hL ▸ hb')))
      have HR2 : Hid (Rd wo 1 (.slice a2 q cap') q (u8s L)) := by
        unfold Hid; rw [hL]; simpa [u8s, List.map_take] using hrd2
      have HL := hid hL
      have HLL := hid hLl
      have HLB := hid hLb
      clear hL hLl hLb hrd2
      go_loopg [5, 6, 25] (q + 1) (fun k t5 t6 t25 wr => ∃ (j X Y : Nat), j ≤ q ∧ q - j < k ∧ t25 = .int .i64 (j : Int) ∧ t5 = .int .u64 (X : Int) ∧ t6 = .int .u64 (Y : Int) ∧ X < 300000000 ∧ Y < 300000000000000 ∧ Hid (raw (x, y) (L.take j) = (X, Y)) ∧ wr = wo)
      case atStart => exact ⟨0, x, y, by omega, by omega, rfl, rfl, rfl, by omega, by omega, rfl, rfl⟩
      case round =>
        obtain ⟨j, X, Y, hj, hk2, rfl, rfl, rfl, hX, hY, HP, rfl⟩ := hrel
        have hj0 : (0 : Int) ≤ (j : Int) := Int.natCast_nonneg _
        by_cases hjq : j < q
        · obtain ⟨g, off, rfl, hcell⟩ := HR2.out.spot (by omega)
          obtain ⟨b, hbi⟩ : ∃ b, L[j]? = some b := ⟨L[j]'(by have := HLL.out; omega), List.getElem?_eq_getElem _⟩
          have hb256 := HLB.out b (List.mem_of_getElem? hbi)
          have hc1 := hcell j _ (by rw [u8s_get, hbi]; rfl)
          have hj1 : (j : Int) < (q : Int) := by omega
          obtain ⟨X2, hX2⟩ : ∃ X2, X2 = X + b := ⟨_, rfl⟩
          obtain ⟨Y2, hY2⟩ : ∃ Y2, Y2 = Y + X2 := ⟨_, rfl⟩
          have hX2I : (X : Int) + (b : Int) = (X2 : Int) := by omega
          have hY2I : (Y : Int) + (X2 : Int) = (Y2 : Int) := by omega
          have HT := hid (take_snoc'' L j b hbi)
          have hP2 : raw (x, y) (L.take (j + 1)) = (X2, Y2) := by rw [HT.out, raw_snoc, HP.out, ← hX2, hY2]
          have hlt := raw_lt (L.take (j + 1)) (fun c hc => HLB.out c (List.mem_of_mem_take hc)) (by have := HLL.out; rw [List.length_take]; omega) x y hx hy
          rw [hP2] at hlt
          have hX3 : X2 < 300000000 := hlt.1
          have hY3 : Y2 < 300000000000000 := hlt.2
          have HP2 := hid hP2
          clear hcell hbi hX2 hY2 hP2 hlt
          go_wp2
          go_roundg (gk - 1)
          case measure => omega
          case rel => exact ⟨j + 1, X2, Y2, by omega, by omega, by go_num, by first | rfl | rw [hX2I], by first | rfl | rw [hX2I, hY2I] | rw [hY2I], hX3, hY3, HP2, rfl⟩
        · obtain rfl : j = q := by omega
          have hj1 : ¬ (j : Int) < (j : Int) := by omega
          obtain ⟨X2, hX2⟩ : ∃ X2, X2 = X % 65521 := ⟨_, rfl⟩
          obtain ⟨Y2, hY2⟩ : ∃ Y2, Y2 = Y % 65521 := ⟨_, rfl⟩
          have hX2I : (X : Int) % 65521 = (X2 : Int) := by omega
          have hY2I : (Y : Int) % 65521 = (Y2 : Int) := by omega
          have hX3 : X2 < 65521 := by omega
          have hY3 : Y2 < 65521 := by omega
          have HP2 : Hid (adl (x0, y0) (l.take (o + j)) = (X2, Y2)) := by
            unfold Hid
            have h1 : l.take (o + j) = l.take o ++ L := by rw [HL.out, List.take_add]
            have h2 := HP.out
            rw [List.take_of_length_le (by have := HLL.out; omega)] at h2
            rw [h1, adl_append, HA.out, adl_mod x y L hx hy, h2, hX2, hY2]
          clear hX2 hY2
          go_wp2_with ((with_reducible show wpList _ _ _ (⟨some 43, _, _, _, _, _⟩ :: _) _ _); refine wpList_cut_rd rfl 23 (.tmp 41) (some (.tmp 42)) none rfl 5 i 1 Try.underlying23 hi hz1 a' m cap' j m (u8s (l.drop o)) rfl HR.out ⟨_, rfl⟩ rfl hqm (Nat.le_refl _) ?_; intro a3 hrd3 _)
          have HR3 : Hid (Rd wr 1 (.slice a3 (m - j) (cap' - j)) (m - j) (u8s (l.drop (o + j)))) := by
            unfold Hid
            have e : u8s (l.drop (o + j)) = ((u8s (l.drop o)).drop (j * 1)).take ((m - j) * 1) := by
              have h1 := HOM.out
              have h2 := HN.out
              rw [Nat.mul_one, Nat.mul_one]
              unfold u8s
              rw [← List.map_drop, List.drop_drop, List.take_of_length_le (by simp; omega)]
            rw [e]; exact hrd3
          clear hrd3
          go_roundg (gx - 1)
          case measure => omega
          case rel => exact ⟨o + j, m - j, X2, Y2, a3, cap' - j, by have := HOM.out; omega, by omega, rfl, by first | rfl | rw [hX2I], by first | rfl | rw [hY2I], hX3, hY3, HR3, HP2, rfl⟩
    · have hpos1 : ¬ (0 : Int) < (m : Int) := by omega
      have HM : Hid (n ≤ o) := by unfold Hid; omega
      have HC2 := hid (joined_any x y wr (by omega) (by omega))
      go_wp2_with fail
      refine HC2.out.mono ?_
      rintro e w' ⟨rfl, rfl⟩
      go_wp2
      go_ret
      refine ⟨ret_int ?_, rfl⟩
      have h1 := HA.out
      rw [List.take_of_length_le (by have h1 := HN.out; have h2 := HM.out; omega)] at h1
      rw [h1]
      simp

set_option maxRecDepth 20000 in
theorem joinadler_math (l m : List Nat) (a b : Nat × Nat) (ha : a = adl (1, 0) l) (hb : b = adl (1, 0) m) :
    adl (1, 0) (l ++ m) = ((a.1 + 65520 + b.1) % 65521, (a.2 + b.2 + m.length % 65521 * (a.1 + 65520)) % 65521) := by
  have hl := adl_lt (p := (1, 0)) (by decide) (by decide) l
  rw [← ha] at hl
  obtain ⟨x, y⟩ := a
  have h := adl_shift 1 0 (x + 65520) y m
  have e1 : (1 + (x + 65520)) % 65521 = x := by have := hl.1; simp only at this; omega
  have e2 : (0 + y) % 65521 = y := by have := hl.2; simp only at this; omega
  rw [e1, e2] at h
  rw [adl_append, ← ha, h]
  have e3 : adl (1 % 65521, 0 % 65521) m = b := by rw [hb]
  rw [e3]
  refine Prod.ext ?_ ?_
  · show (b.1 + (x + 65520)) % 65521 = (x + 65520 + b.1) % 65521
    rw [Nat.add_comm]
  · show (b.2 + y + m.length * (x + 65520)) % 65521 = (y + b.2 + m.length % 65521 * (x + 65520)) % 65521
    rw [Nat.add_mod, Nat.add_mod (y + b.2) (m.length % 65521 * (x + 65520)), Nat.mul_mod (m.length % 65521), Nat.mod_mod, ← Nat.mul_mod, Nat.add_comm b.2 y]
theorem adlOf_append (c : Nat) (l m : List Nat) : adlOf c (l ++ m) = adlOf (adlOf c l) m := by
  unfold adlOf
  have h := adl_lt (p := (c % 65536 % 65521, c / 65536 % 65521)) (Nat.mod_lt _ (by decide)) (Nat.mod_lt _ (by decide)) l
  rw [adl_append]
  obtain ⟨p, hp⟩ : ∃ p, p = adl (c % 65536 % 65521, c / 65536 % 65521) l := ⟨_, rfl⟩
  rw [← hp] at h ⊢
  obtain ⟨x, y⟩ := p
  simp only at h ⊢
  have e1 : (y * 65536 + x) % 65536 % 65521 = x := by omega
  have e2 : (y * 65536 + x) / 65536 % 65521 = y := by omega
  rw [e1, e2]

set_option maxRecDepth 20000 in
set_option maxHeartbeats 1600000 in
theorem joinadler_any (a b n : Nat) (w : World) (ha : a < 4294967296) (hb : b < 4294967296) (hn : n < 9223372036854775808) :
    Calls Try.prog 13 #[.int .u32 (a : Int), .int .u32 (b : Int), .int .i64 (n : Int)] w fun e w' =>
      e = .returned (.int .u32 (((a / 65536 % 65521 + b / 65536 % 65521 + n % 65521 * (a % 65536 % 65521 + 65520)) % 65521 * 65536 + (a % 65536 % 65521 + 65520 + b % 65536 % 65521) % 65521 : Nat) : Int)) ∧ w = w' := by
  have HA := hid (halves_any a w ha)
  have HB := hid (halves_any b w hb)
  obtain ⟨x, hx⟩ : ∃ x, x = a % 65536 % 65521 := ⟨_, rfl⟩
  obtain ⟨y, hy⟩ : ∃ y, y = a / 65536 % 65521 := ⟨_, rfl⟩
  obtain ⟨p, hp⟩ : ∃ p, p = b % 65536 % 65521 := ⟨_, rfl⟩
  obtain ⟨q, hq⟩ : ∃ q, q = b / 65536 % 65521 := ⟨_, rfl⟩
  rw [← hx, ← hy] at HA ⊢
  rw [← hp, ← hq] at HB ⊢
  have hx1 : x < 65521 := by omega
  have hy1 : y < 65521 := by omega
  have hp1 : p < 65521 := by omega
  have hq1 : q < 65521 := by omega
  clear hx hy hp hq
  obtain ⟨m, hm⟩ : ∃ m, m = x + 65520 := ⟨_, rfl⟩
  obtain ⟨t, ht⟩ : ∃ t, t = n % 65521 := ⟨_, rfl⟩
  have hmI : (x : Int) + 65521 - 1 = (m : Int) := by omega
  have htI : (n : Int) % 65521 = (t : Int) := by omega
  have hm1 : m < 131041 := by omega
  have ht1 : t < 65521 := by omega
  rw [← hm, ← ht]
  obtain ⟨u, hu⟩ : ∃ u, u = t * m := ⟨_, rfl⟩
  have huI : (t : Int) * (m : Int) = (u : Int) := by rw [hu]; simp
  have hu1 : u < 8586000000 := by rw [hu]; exact Nat.lt_of_le_of_lt (Nat.mul_le_mul (show t ≤ 65520 by omega) (show m ≤ 131040 by omega)) (by decide)
  rw [← hu]
  obtain ⟨r1, hr1⟩ : ∃ r1, r1 = (m + p) % 65521 := ⟨_, rfl⟩
  obtain ⟨r2, hr2⟩ : ∃ r2, r2 = (y + q + u) % 65521 := ⟨_, rfl⟩
  have hr1I : ((m : Int) + (p : Int)) % 65521 = (r1 : Int) := by omega
  have hr2I : ((y : Int) + (q : Int) + (u : Int)) % 65521 = (r2 : Int) := by omega
  have hr11 : r1 < 65521 := by omega
  have hr21 : r2 < 65521 := by omega
  rw [← hr1, ← hr2]
  have HC := hid (joined_any r1 r2 w (by omega) (by omega))
  have hn0 : (0 : Int) ≤ (n : Int) := Int.natCast_nonneg _
  have hn1 : (n : Int) < 9223372036854775808 := by omega
  clear hm ht hu hr1 hr2
  go_enter Try.func13, Try.ntmps13
  go_wp2_with fail
  refine HA.out.mono ?_
  rintro e w' ⟨rfl, rfl⟩
  go_wp2_with fail
  refine HB.out.mono ?_
  rintro e w' ⟨rfl, rfl⟩
  go_wp2_with fail
  refine HC.out.mono ?_
  rintro e w' ⟨rfl, rfl⟩
  go_wp2
  go_ret
  exact ⟨rfl, rfl⟩
end Go.Proofs.Ytolapfhajbldiaa
