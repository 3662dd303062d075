/-
  The checksums' own examples.
-/
import Derived.Test.YtolapfhajbldiaaSums3
import Derived.Test.YtolapfhajbldiaaSums4
import Derived.Lib.SlBytesConst
namespace Go.Proofs.Ytolapfhajbldiaa
open Go.RowKit

theorem nine : crcOf 0 [49, 50, 51, 52, 53, 54, 55, 56, 57] = 3421780262 := by kernel_rfl
theorem abc : adlOf 1 [97, 98, 99] = 38600999 := by kernel_rfl
theorem Rd.const (w : World) (cs : List Value) (e : TypeId) (fr : Nat × Nat) (size n : Nat) (hm : n ≤ maxLen) (hs : cs.length = n * size) :
    Rd (w.alloc (.cells cs.toArray e fr)) size (.slice (some ⟨w.heap.size, 0, none⟩) n n) n cs :=
  ⟨hs, _, n, rfl, Nat.le_refl _, hm, (fun h => by cases h), .inr ⟨w.heap.size, 0, rfl, fun j u hu => by
    rw [cell_of_row _ w.heap.size _ cs.toArray e fr (heap_alloc_new w _)]; simpa using hu⟩⟩
set_option maxRecDepth 20000 in
set_option maxHeartbeats 800000 in
theorem answers_any (w : World) :
    Calls Try.prog 7 #[] w fun e w' => e = .returned (.bool true) ∧ Mod w w' (fun _ => False) := by
  have kc := fun (w : World) (C : Array Value) (n c : Nat) => Lib.run_convert_bytes_const (P := Try.prog) w 23 5 C n c Try.underlying23 Try.underlying5
  go_enter Try.func7, Try.ntmps7
  go_wp2_with fail
  refine (crc_any 0 _ [49, 50, 51, 52, 53, 54, 55, 56, 57] _ (by decide) (Rd.const w (u8s [49, 50, 51, 52, 53, 54, 55, 56, 57]) 5 _ 1 9 (by decide) rfl) (by decide) (by decide)).mono ?_
  rw [nine]
  rintro e w1 ⟨rfl, hM1⟩
  have HM1 := hid (((Mod.refl w (fun _ => False)).alloc _).same hM1)
  clear hM1
  go_wp2_with fail
  refine (adler_any 1 _ [97, 98, 99] _ (by decide) (Rd.const w1 (u8s [97, 98, 99]) 5 _ 1 3 (by decide) rfl) (by decide) (by decide)).mono ?_
  rw [abc]
  rintro e w2 ⟨rfl, rfl⟩
  go_wp2
  go_ret
  exact ⟨rfl, HM1.out.alloc _⟩
end Go.Proofs.Ytolapfhajbldiaa
