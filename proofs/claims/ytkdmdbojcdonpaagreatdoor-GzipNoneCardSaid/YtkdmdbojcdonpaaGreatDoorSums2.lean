/-
  The program's table, matrices and joined CRCs.
-/
import Derived.Test.YtkdmdbojcdonpaaGreatDoorSums1
import Derived.Test.YtkdmdbojcdonpaaGreatDoorArr
namespace Go.Proofs.YtkdmdbojcdonpaaGreatDoor
set_option maxRecDepth 5000
open Go.RowKit

def tableL : List Nat := (List.range 256).map (stps 8)
def tablePart (k : Nat) : List Nat := (List.range k).map (stps 8) ++ List.replicate (256 - k) 0
theorem tablePart_set (k : Nat) (h : k < 256) : (tablePart k).set k (stps 8 k) = tablePart (k + 1) := by
  unfold tablePart
  rw [List.range_succ, List.map_append, List.set_append_right _ _ (by simp)]
  rw [show 256 - k = (256 - (k + 1)) + 1 by omega, List.replicate_succ]
  simp
theorem tablePart_length (k : Nat) (h : k ≤ 256) : (tablePart k).length = 256 := by
  simp [tablePart]; omega
theorem info30z : (Tryz.prog.info? 125).map (·.zero) = some (some (arrV .u32 (tablePart 0))) := by kernel_rfl
theorem info30s : (Tryz.prog.info? 125).map (·.size) = some 256 := by kernel_rfl

set_option maxHeartbeats 1600000 in
theorem table_any (w : World) :
    Calls Tryz.prog 86 #[] w fun e w' => e = .returned (arrV .u32 tableL) ∧ Mod w w' (fun _ => False) := by
  go_enter Tryz.func86, Tryz.ntmps86
  go_wp2_with (refine wpList_alloc_arr rfl _ rfl .u32 _ info30z ?_)
  have hH0 : Held w ((w.alloc (.cells (nums .u32 (tablePart 0)).toArray 125)).alloc (.cells (nums .u32 (tablePart 0)).toArray 125)) [objT (w.heap.size + 1) (nums .u32 (tablePart 0)) 125, objT w.heap.size (nums .u32 (tablePart 0)) 125] := by
    have h := ((Held.start w).newObj (nums .u32 (tablePart 0)) 125).newObj (nums .u32 (tablePart 0)) 125
    simpa using h
  have HH0 := hid hH0
  clear hH0
  go_loopg [3] 257 (fun k t3 wr => ∃ (i : Nat), i ≤ 256 ∧ 256 - i < k ∧ t3 = .int .i64 (i : Int) ∧ Hid (Held w wr [objT (w.heap.size + 1) (nums .u32 (tablePart i)) 125, objT w.heap.size (nums .u32 (tablePart 0)) 125]))
  case atStart => exact ⟨0, by omega, by omega, rfl, HH0⟩
  case round =>
    obtain ⟨i, hi, hk, rfl, HH⟩ := hrel
    have hB := HH.out.obj
    by_cases hi1 : i < 256
    · have hlen : (tablePart i).length = 256 := tablePart_length i hi
      obtain ⟨b0, hb0⟩ : ∃ b0, (tablePart i)[i]? = some b0 := ⟨_, List.getElem?_eq_getElem (by omega)⟩
      have hcell := hB.cell (i := i) (v := .int .u32 (b0 : Int)) (by rw [nums_get, hb0]; rfl)
      have hfr := hB.frozen i
      have hi0 : (0 : Int) ≤ (i : Int) := Int.natCast_nonneg _
      have hi2 : (i : Int) < 256 := by omega
      obtain ⟨y, hy⟩ : ∃ y, y = stps 8 i := ⟨_, rfl⟩
      have HY := hid hy
      have HN := hid hlen
      have HS := hid (HH.out.setObj i (.int .u32 (y : Int)))
      clear hB hlen hy hb0
      go_wp2_with (go_at_call 85; refine (bsteps_any i _ (by omega)).mono ?_; rw [← HY.out]; rintro e w' ⟨rfl, rfl⟩)
      go_roundg (gk - 1)
      case measure => omega
      case rel => exact ⟨i + 1, by omega, by omega, by go_num, by unfold Hid; have h := HS.out; have e : (tablePart i).set i y = tablePart (i + 1) := (by rw [HY.out]; exact tablePart_set i hi1); rw [nums_set, e] at h; exact h⟩
    · obtain rfl : i = 256 := by omega
      have hi2 : ¬ ((256 : Nat) : Int) < 256 := by omega
      have hB2 := HH.out.swap.obj
      have HL := hid (tablePart_length 256 hi)
      have HL0 := hid (tablePart_length 0 (by omega))
      go_wp2_with (first
        | refine wpList_load_arr rfl _ _ rfl _ 256 (by rfl) rfl info30s (w.heap.size + 1) .u32 (tablePart 256) _ rfl HL.out hB ?_
        | (refine wpList_store_arr rfl _ _ _ rfl 256 info30s w.heap.size .u32 (tablePart 0) (tablePart 256) _ rfl rfl HL0.out HL.out hB2 ?_; intro w3 hB3 hM3))
      have e : tablePart 256 = tableL := by simp [tablePart, tableL]
      exact ret_arr rfl _ 256 (by rfl) rfl info30s w.heap.size .u32 (tablePart 256) _ rfl HL.out hB3 rfl ⟨by rw [e], (HH.out.swap.putObj hB3 hM3).mod⟩

theorem tableL_length : tableL.length = 256 := by simp [tableL]
theorem tableL_get (i : Nat) (h : i < 256) : tableL[i]? = some (stps 8 i) := by simp [tableL, List.getElem?_map, List.getElem?_range h]
/-- what the table gives for a byte -/
theorem by_table (x b : Nat) : stps 8 (x ^^^ b) = stps 8 ((x % 256) ^^^ b) ^^^ (x / 256) := by
  rw [stps_xor, stps_byte x, stps_xor, Nat.xor_assoc, Nat.xor_assoc, Nat.xor_comm (x / 256)]

set_option maxHeartbeats 1600000 in
theorem bytable_any (c : Nat) (v : Value) (l : List Nat) (w : World) (hc : c < 4294967296) (hv : Rd w 1 v l.length (u8s l)) (hb : ∀ b ∈ l, b < 256) (hl : l.length < 1000000000) :
    Calls Tryz.prog 61 #[.int .u32 (c : Int), v] w fun e w' => e = .returned (.int .u32 ((crcs c l : Nat) : Int)) ∧ Mod w w' (fun _ => False) := by
  obtain ⟨ao, cap, rfl, _, _⟩ := hv.form
  obtain ⟨n, hn⟩ : ∃ n, n = l.length := ⟨_, rfl⟩
  rw [← hn] at hv hl ⊢
  have HN := hid hn
  clear hn
  go_enter Tryz.func61, Tryz.ntmps61
  have HT0 := hid (tablePart_length 0 (by omega))
  go_wp2_with (first
    | (go_at_call 86; refine (table_any _).mono ?_; rintro e w1 ⟨rfl, hM1⟩)
    | refine wpList_alloc_arr rfl _ rfl .u32 _ info30z ?_
    | (refine wpList_store_arr rfl _ _ _ rfl 256 info30s _ .u32 (tablePart 0) tableL _ rfl rfl HT0.out tableL_length (Blk.new _ _ _) ?_; intro w3 hB3 hM3))
  have hv3 : Rd w3 1 (.slice ao n cap) n (u8s l) := (hv.kept hM1 (fun _ _ h => h)).kept0 ((Mod.refl w1 (fun k => k = w1.heap.size)).alloc _ |>.same hM3) (fun hn k hk e => by
    have := (hv.kept hM1 (fun _ _ h => h)).lt (by decide) hn k hk
    omega)
  have HV3 := hid hv3
  have HM3 := hid hM3
  have HM1 := hid hM1
  obtain ⟨B, hBe⟩ : ∃ B, B = w1.heap.size := ⟨_, rfl⟩
  rw [← hBe] at hB3
  rw [← hBe]
  have HBE := hid hBe
  have HB3 := hid hB3
  clear hBe hB3 hM1 hM3 hv hv3
  go_loopg [0, 11] (n + 1) (fun k t0 t11 wr => ∃ (i x : Nat), i ≤ n ∧ n - i < k ∧ t11 = .int .i64 (i : Int) ∧ t0 = .int .u32 (x : Int) ∧ x < 4294967296 ∧ Hid (x = crcs c (l.take i)) ∧ wr = w3)
  case atStart => exact ⟨0, c, by omega, by omega, rfl, rfl, hc, rfl, rfl⟩
  case round =>
    obtain ⟨i, x, hi, hk, rfl, rfl, hx32, HXX, rfl⟩ := hrel
    by_cases hin : i < n
    · obtain ⟨g, off, rfl, hcell⟩ := HV3.out.spot (by omega)
      obtain ⟨b, hbi⟩ : ∃ b, l[i]? = some b := ⟨l[i]'(by have := HN.out; omega), List.getElem?_eq_getElem _⟩
      have hb256 := hb b (List.mem_of_getElem? hbi)
      have hc1 := hcell i _ (by rw [u8s_get, hbi]; rfl)
      have hi0 : (0 : Int) ≤ (i : Int) := Int.natCast_nonneg _
      have hi1 : (i : Int) < (n : Int) := by omega
      obtain ⟨a, ha⟩ : ∃ a, a = x % 256 := ⟨_, rfl⟩
      have ha256 : a < 256 := by omega
      have haI : (x : Int) % 256 = (a : Int) := by omega
      obtain ⟨y, hy⟩ : ∃ y, y = x / 256 := ⟨_, rfl⟩
      have hyI : (x : Int) / 256 = (y : Int) := by omega
      have hy32 : y < 4294967296 := by omega
      obtain ⟨z, hz⟩ : ∃ z, z = a ^^^ b := ⟨_, rfl⟩
      have hz8 : z < 256 := by rw [hz]; exact Nat.xor_lt_two_pow (n := 8) ha256 hb256
      have hzI : bits .xor .u8 (a : Int) (b : Int) = (z : Int) := by rw [hz]; exact u8_xor_nat a b ha256 hb256
      have hz0 : (0 : Int) ≤ (z : Int) := Int.natCast_nonneg _
      have hz1 : (z : Int) < 256 := by omega
      obtain ⟨s, hs⟩ : ∃ s, s = stps 8 z := ⟨_, rfl⟩
      have hs32 : s < 4294967296 := by rw [hs]; exact stps_lt 8 (by omega)
      have hc2 : wr.cell? ⟨B, z, none⟩ = some (.int .u32 (s : Int)) := HB3.out.cell (by rw [nums_get, tableL_get z hz8, hs]; rfl)
      obtain ⟨r, hr⟩ : ∃ r, r = s ^^^ y := ⟨_, rfl⟩
      have hr32 : r < 4294967296 := by rw [hr]; exact Nat.xor_lt_two_pow (n := 32) hs32 hy32
      have hrI : bits .xor .u32 (s : Int) (y : Int) = (r : Int) := by rw [hr]; exact u32_xor_nat s y hs32 hy32
      have HT := hid (take_snoc'' l i b hbi)
      have HR : Hid (r = stps 8 (x ^^^ b)) := by unfold Hid; rw [hr, hs, hz, hy, ha]; exact (by_table x b).symm
      clear hcell hbi hz hy ha hs hr
      go_wp2
      go_roundg (gk - 1)
      case measure => omega
      case rel => exact ⟨i + 1, r, by omega, by omega, by go_num, rfl, hr32, by unfold Hid; rw [HT.out, crcs_snoc, ← HXX.out]; exact HR.out, rfl⟩
    · have hi1 : ¬ (i : Int) < (n : Int) := by omega
      go_wp2
      go_ret
      refine ⟨ret_intS (by rw [HXX.out, List.take_of_length_le (by have := HN.out; omega)]), ?_⟩
      have h1 := HM1.out.alloc (.cells (nums .u32 (tablePart 0)).toArray 125)
      exact h1.trans HM3.out (fun k hk e => by have := HM1.out.size; omega)

set_option maxRecDepth 20000 in
set_option maxHeartbeats 800000 in
theorem crc_any (c : Nat) (v : Value) (l : List Nat) (w : World) (hc : c < 4294967296) (hv : Rd w 1 v l.length (u8s l)) (hb : ∀ b ∈ l, b < 256) (hl : l.length < 1000000000) :
    Calls Tryz.prog 40 #[.int .u32 (c : Int), v] w fun e w' => e = .returned (.int .u32 ((crcOf c l : Nat) : Int)) ∧ Mod w w' (fun _ => False) := by
  obtain ⟨ao, cap, rfl, _, _⟩ := hv.form
  obtain ⟨n, hn⟩ : ∃ n, n = l.length := ⟨_, rfl⟩
  rw [← hn] at hv ⊢
  have HN := hid hn
  have hn9 : n < 1000000000 := by omega
  have hn0 : (0 : Int) ≤ (n : Int) := Int.natCast_nonneg _
  obtain ⟨x0, hx0⟩ : ∃ x0, x0 = c ^^^ 4294967295 := ⟨_, rfl⟩
  have hx032 : x0 < 4294967296 := by rw [hx0]; exact Nat.xor_lt_two_pow (n := 32) hc (by decide)
  have hm : bits .xor .u32 IntKind.u32.max (c : Int) = (x0 : Int) := by
    rw [hx0, Nat.xor_comm]; exact u32_xor_nat 4294967295 c (by decide) hc
  obtain ⟨x, hx⟩ : ∃ x, x = crcs x0 l := ⟨_, rfl⟩
  have hx32 : x < 4294967296 := by rw [hx]; exact crcs_lt hx032 hb
  obtain ⟨z, hz⟩ : ∃ z, z = x ^^^ 4294967295 := ⟨_, rfl⟩
  have hzI : bits .xor .u32 IntKind.u32.max (x : Int) = (z : Int) := by
    rw [hz, Nat.xor_comm]; exact u32_xor_nat 4294967295 x (by decide) hx32
  have HZ : Hid (crcOf c l = z) := by unfold Hid; rw [hz, hx, hx0]; rfl
  have HX := hid hx
  have HV : Hid (Rd w 1 (.slice ao n cap) l.length (u8s l)) := by unfold Hid; rw [← hn]; exact hv
  clear hx0 hx hz hn hv
  by_cases hs : n < 256
  · have hs1 : (n : Int) < 256 := by omega
    go_enter Tryz.func40, Tryz.ntmps40
    have HC := hid (bysteps_any x0 _ l _ hx032 HV.out hb hl)
    rw [← HX.out] at HC
    go_wp2_with fail
    refine HC.out.mono ?_
    rintro e w' ⟨rfl, rfl⟩
    go_wp2
    go_ret
    exact ⟨ret_intS (by rw [HZ.out]), Mod.refl _ _⟩
  · have hs1 : ¬ (n : Int) < 256 := by omega
    go_enter Tryz.func40, Tryz.ntmps40
    have HC := hid (bytable_any x0 _ l _ hx032 HV.out hb hl)
    rw [← HX.out] at HC
    go_wp2_with fail
    refine HC.out.mono ?_
    rintro e w' ⟨rfl, hM⟩
    go_wp2
    go_ret
    exact ⟨ret_intS (by rw [HZ.out]), hM⟩
end Go.Proofs.YtkdmdbojcdonpaaGreatDoor
