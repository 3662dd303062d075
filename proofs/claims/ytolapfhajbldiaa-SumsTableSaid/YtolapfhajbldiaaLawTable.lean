/-
  The walk of the law SumsTable.
-/
import Derived.Test.YtolapfhajbldiaaAns2
namespace Go.Proofs.Ytolapfhajbldiaa
open Go.RowKit

theorem crc_one (i : Nat) : crcOf 4294967295 [i] = stps 8 i ^^^ 4294967295 := by
  unfold crcOf
  rw [Nat.xor_self, crcs_cons, Nat.zero_xor, crcs_nil]
theorem crc_byte (c b : Nat) :
    crcOf c [b] = (stps 8 (((c ^^^ 4294967295) % 256) ^^^ b) ^^^ (c ^^^ 4294967295) / 256) ^^^ 4294967295 := by
  unfold crcOf
  rw [crcs_cons, crcs_nil, by_table]

set_option maxRecDepth 20000 in
set_option maxHeartbeats 1600000 in
theorem table_walk (c b : Nat) (w : World) (hc : c < 4294967296) (hb : b < 256) :
    Calls Try.prog 5 #[.int .u32 (c : Int), .int .u8 (b : Int)] w fun e w' => e = .returned (.bool true) ∧ Below w.heap.size w w' := by
  have HT0 := hid (tablePart_length 0 (by omega))
  go_enter Try.func5, Try.ntmps5
  go_wp2_with (first
    | (go_at_call 14; refine (table_any _).mono ?_; rintro e w1 ⟨rfl, hM1⟩)
    | refine wpList_alloc_arr rfl _ rfl .u32 _ info30z ?_
    | (refine wpList_store_arr rfl _ _ _ rfl 256 info30s _ .u32 (tablePart 0) tableL _ rfl rfl HT0.out tableL_length (Blk.new _ _ _) ?_; intro w3 hB3 hM3))
  obtain ⟨B, hBe⟩ : ∃ B, B = w1.heap.size := ⟨_, rfl⟩
  have hH0 : Held w w3 [objT B (nums .u32 tableL) 30] := by
    rw [hBe]
    exact (((Held.start w).same hM1).newObj (nums .u32 (tablePart 0)) 30).putObj hB3 hM3
  rw [← hBe]
  have HH0 := hid hH0
  clear hH0 hB3 hM3 hBe hM1
  go_loopg [6] 257 (fun k t6 wr => ∃ (i : Nat), i ≤ 256 ∧ 256 - i < k ∧ t6 = .int .i64 (i : Int) ∧ Hid (Held w wr [objT B (nums .u32 tableL) 30]))
  case atStart => exact ⟨0, by omega, by omega, rfl, HH0⟩
  case round =>
    obtain ⟨i, hi, hk, rfl, HH⟩ := hrel
    have hi0 : (0 : Int) ≤ (i : Int) := Int.natCast_nonneg _
    by_cases hi1 : i < 256
    · have hi2 : (i : Int) < 256 := by omega
      obtain ⟨s, hs⟩ : ∃ s, s = stps 8 i := ⟨_, rfl⟩
      have hs32 : s < 4294967296 := by rw [hs]; exact stps_lt 8 (by omega)
      have hcell : wr.cell? ⟨B, i, none⟩ = some (.int .u32 (s : Int)) := HH.out.obj.cell (by rw [nums_get, tableL_get i hi1, hs]; rfl)
      obtain ⟨x, hx⟩ : ∃ x, x = crcOf 4294967295 [i] := ⟨_, rfl⟩
      have hxI : bits .xor .u32 IntKind.u32.max (x : Int) = (s : Int) := by
        have h1 := u32_xor_nat 4294967295 x (by decide) (by rw [hx, crc_one i, ← hs]; exact Nat.xor_lt_two_pow (n := 32) hs32 (by decide))
        rw [show (4294967295 : Nat) ^^^ x = s by rw [hx, crc_one i, ← hs, Nat.xor_comm, Nat.xor_assoc, Nat.xor_self, Nat.xor_zero]] at h1
        exact h1
      have hxJ : bits .xor .u32 (if IntKind.u32.signed = true then -1 else IntKind.u32.max) (x : Int) = (s : Int) := hxI
      have hne : ((s : Int) != (s : Int)) = false := by simp
      have hw : IntKind.u8.wrap (i : Int) = (i : Int) := by rw [IntKind.wrap_u8']; omega
      have HX := hid hx
      clear hx hs
      go_wp2_with fail
      go_region_held3 (fun w' => w'.cell? ⟨B, i, none⟩ = some (.int .u32 (s : Int))) (first | go_keep)
        (first
          | (go_at_call 9; refine (refcrc_any 4294967295 _ [i] _ (by decide) (by first | exact (Rd.lit _ [.int .u8 (i : Int)] _ 1 1 (by decide) rfl) | exact (Rd.lit _ [.int .u8 (i : Int)] _ 1 1 (by decide) rfl).drew) (by simp; omega) (by simp)).mono ?_; rw [← HX.out]; rintro e w' ⟨rfl, rfl⟩))
      go_wp2
      go_roundg (gk - 1)
      case measure => omega
      case rel => exact ⟨i + 1, by omega, by omega, by go_num, (HH.out.alloc _).drew⟩
    · obtain ⟨n, hn⟩ : ∃ n, n = i := ⟨_, rfl⟩
      have hi2 : ¬ (i : Int) < 256 := by omega
      obtain ⟨x, hx⟩ : ∃ x, x = c ^^^ 4294967295 := ⟨_, rfl⟩
      have hx32 : x < 4294967296 := by rw [hx]; exact Nat.xor_lt_two_pow (n := 32) hc (by decide)
      have hcI : bits .xor .u32 IntKind.u32.max (c : Int) = (x : Int) := by
        rw [hx, Nat.xor_comm]; exact u32_xor_nat 4294967295 c (by decide) hc
      obtain ⟨a, ha⟩ : ∃ a, a = x % 256 := ⟨_, rfl⟩
      have ha256 : a < 256 := by omega
      have haI : (x : Int) % 256 = (a : Int) := by omega
      have haJ : IntKind.u8.wrap (x : Int) = (a : Int) := by rw [IntKind.wrap_u8']; omega
      obtain ⟨y, hy⟩ : ∃ y, y = x / 256 := ⟨_, rfl⟩
      have hyI : (x : Int) / 256 = (y : Int) := by omega
      have hy32 : y < 4294967296 := by omega
      obtain ⟨z, hz⟩ : ∃ z, z = a ^^^ b := ⟨_, rfl⟩
      have hz8 : z < 256 := by rw [hz]; exact Nat.xor_lt_two_pow (n := 8) ha256 hb
      have hzI : bits .xor .u8 (a : Int) (b : Int) = (z : Int) := by rw [hz]; exact u8_xor_nat a b ha256 hb
      have hz0 : (0 : Int) ≤ (z : Int) := Int.natCast_nonneg _
      have hz1 : (z : Int) < 256 := by omega
      obtain ⟨s, hs⟩ : ∃ s, s = stps 8 z := ⟨_, rfl⟩
      have hs32 : s < 4294967296 := by rw [hs]; exact stps_lt 8 (by omega)
      obtain ⟨r, hr⟩ : ∃ r, r = s ^^^ y := ⟨_, rfl⟩
      have hr32 : r < 4294967296 := by rw [hr]; exact Nat.xor_lt_two_pow (n := 32) hs32 hy32
      have hrI : bits .xor .u32 (s : Int) (y : Int) = (r : Int) := by rw [hr]; exact u32_xor_nat s y hs32 hy32
      obtain ⟨v, hv⟩ : ∃ v, v = r ^^^ 4294967295 := ⟨_, rfl⟩
      have hvI : bits .xor .u32 IntKind.u32.max (r : Int) = (v : Int) := by
        rw [hv, Nat.xor_comm]; exact u32_xor_nat 4294967295 r (by decide) hr32
      have hvJ : bits .xor .u32 (if IntKind.u32.signed = true then -1 else IntKind.u32.max) (r : Int) = (v : Int) := hvI
      have HV : Hid (v = crcOf c [b]) := by unfold Hid; rw [hv, hr, hs, hz, hy, ha, hx, crc_byte]
      have HC : Hid (tableL[z]? = some s) := by unfold Hid; rw [tableL_get z hz8, hs]
      have heq : ((v : Int) == (v : Int)) = true := by simp
      have hcell : wr.cell? ⟨B, z, none⟩ = some (.int .u32 (s : Int)) := HH.out.obj.cell (by rw [nums_get, HC.out]; rfl)
      clear hn hx ha hy hz hs hr hv
      go_wp2_with fail
      go_region_held3 (fun w' => w'.cell? ⟨B, z, none⟩ = some (.int .u32 (s : Int))) (first | go_keep)
        (first
          | (go_at_call 7; refine (answers_any _).mono ?_; rintro e w5 ⟨rfl, hM5⟩; have H5 := hid (HH.out.drew.same hM5); have f5 : w5.cell? ⟨B, z, none⟩ = some (.int .u32 (s : Int)) := H5.out.obj.cell (by rw [nums_get, HC.out]; rfl))
          | (go_at_call 8; refine (crc_any c _ [b] _ hc (Rd.lit w5 [.int .u8 (b : Int)] _ 1 1 (by decide) rfl) (by simp; omega) (by simp)).mono ?_; rw [← HV.out]; rintro e w6 ⟨rfl, hM6⟩; have H6 := hid ((H5.out.alloc _).same hM6); have f6 : w6.cell? ⟨B, z, none⟩ = some (.int .u32 (s : Int)) := H6.out.obj.cell (by rw [nums_get, HC.out]; rfl)))
      go_wp2
      go_ret
      exact ⟨rfl, H6.out.below⟩
end Go.Proofs.Ytolapfhajbldiaa
