/-
  The landed finder: New, by the table of levels; Tokens of a whole.
-/
import Derived.Test.YtjmdgcppllnkdaaDoorMatFin3
namespace Go.Proofs.YtjmdgcppllnkdaaDoor
open Go.RowKit

def lvls : List (Nat × Nat × Nat) := [(0, 0, 0), (4, 8, 0), (8, 16, 0), (16, 32, 0), (16, 32, 4), (32, 64, 16), (64, 128, 16), (128, 128, 32), (512, 258, 128), (1024, 258, 258)]
def lvlV : List Value := lvls.flatMap fun t => [.int .i64 (t.1 : Int), .int .i64 (t.2.1 : Int), .int .i64 (t.2.2 : Int)]
/-- the table of levels lies in memory -/
def Levs (w : World) : Prop := ∀ i v, lvlV[i]? = some v → w.cell? ⟨0, i, none⟩ = some v
def lvlN (lev : Int) : Nat := (min (max lev 0) 9).toNat
def lvl (lev : Int) : Nat × Nat × Nat := lvls[lvlN lev]?.getD (0, 0, 0)
theorem Levs.kept {w w' : World} (h : Levs w) (hm : Mod w w' (fun _ => False)) : Levs w' := fun i v hv => by
  have hc := h i v hv
  rw [hm.cell (World.block_lt_of_cell? w _ hc) (fun h => h)]; exact hc
theorem lvl_cells : ∀ k, k < 10 → lvlV[k * 3]? = some (.int .i64 (((lvls[k]?.getD (0, 0, 0)).1 : Nat) : Int)) ∧ lvlV[k * 3 + 1]? = some (.int .i64 (((lvls[k]?.getD (0, 0, 0)).2.1 : Nat) : Int)) ∧ lvlV[k * 3 + 2]? = some (.int .i64 (((lvls[k]?.getD (0, 0, 0)).2.2 : Nat) : Int)) := by
  intro k hk
  match k, hk with
  | 0, _ | 1, _ | 2, _ | 3, _ | 4, _ | 5, _ | 6, _ | 7, _ | 8, _ | 9, _ => exact ⟨rfl, rfl, rfl⟩
  | k + 10, h => omega
theorem lvls_le : ∀ t ∈ lvls, t.1 ≤ 1024 ∧ t.2.1 ≤ 258 ∧ t.2.2 ≤ 258 := by decide
theorem lvl_le (lev : Int) : (lvl lev).1 ≤ 1024 ∧ (lvl lev).2.1 ≤ 258 ∧ (lvl lev).2.2 ≤ 258 := by
  unfold lvl
  cases e : lvls[lvlN lev]? with
  | none => decide
  | some t => exact lvls_le t (List.mem_of_getElem? e)
theorem lvl_low (lev : Int) (h : lev ≤ 0) : lvl lev = (0, 0, 0) := by
  unfold lvl lvlN
  rw [show (min (max lev 0) 9).toNat = 0 by omega]; rfl
theorem lvl_high (lev : Int) (h : 1 ≤ lev) : 1 ≤ (lvl lev).1 ∧ 1 ≤ (lvl lev).2.1 := by
  have hk : lvlN lev < 10 ∧ 1 ≤ lvlN lev := by unfold lvlN; omega
  unfold lvl
  generalize lvlN lev = k at hk
  match k, hk with
  | 1, _ | 2, _ | 3, _ | 4, _ | 5, _ | 6, _ | 7, _ | 8, _ | 9, _ => decide
  | k + 10, h => omega
section
variable {w0 w : World} {Rs : List Thing}
theorem newInput_any (h : Held w0 w Rs) :
    Calls Tryd.prog 19 #[] w fun e w' => ∃ m1 m2, e = .returned (.agg #[.slice none 0 0, .int .i64 0, .map (some m1), .map (some m2), .slice none 0 0]) ∧ Held w0 w' (mapS (.map (some m1)) (fun _ => none) 0 :: mapS (.map (some m2)) (fun _ => none) 0 :: Rs) := by
  have HH := hid h
  have hmk : ∀ wg : World, (Instr.makeMap 52 none).run Tryd.prog wg = .ok (.map (some wg.heap.size)) (wg.alloc (.map #[] 0)) := fun wg => rfl
  clear h
  go_enter Tryd.func19, Tryd.ntmps19
  go_wp2
  have h1 := (((HH.out.alloc (.cells #[.slice none 0 0, .int .i64 0, .map (some (w.heap.size + 1)), .map (some (w.heap.size + 1 + 1)), .slice none 0 0] 55)).newMap (kv := arrV .u8) (ok := goodS) (ev := fun p : Nat => Value.int .i64 (p : Int))).newMap (kv := arrV .u8) (ok := goodS) (ev := fun p : Nat => Value.int .i64 (p : Int)))
  rw [show (w.alloc (.cells #[.slice none 0 0, .int .i64 0, .map (some (w.heap.size + 1)), .map (some (w.heap.size + 1 + 1)), .slice none 0 0] 55)).heap.size = w.heap.size + 1 by simp,
    show ((w.alloc (.cells #[.slice none 0 0, .int .i64 0, .map (some (w.heap.size + 1)), .map (some (w.heap.size + 1 + 1)), .slice none 0 0] 55)).alloc (.map #[] 0)).heap.size = w.heap.size + 1 + 1 by simp] at h1
  refine ret_obj rfl _ 5 Tryd.underlying55 rfl (by kernel_rfl) w.heap.size [.slice none 0 0, .int .i64 0, .map (some (w.heap.size + 1)), .map (some (w.heap.size + 1 + 1)), .slice none 0 0] 55 rfl rfl ?_ rfl ⟨_, _, rfl, h1.swap⟩
  exact ((Blk.new w [.slice none 0 0, .int .i64 0, .map (some (w.heap.size + 1)), .map (some (w.heap.size + 1 + 1)), .slice none 0 0] 55).alloc _).alloc _
theorem newEnd {tr en la m1 m2 : Nat} (H : Held w0 w (mapS (.map (some m1)) (fun _ => none) 0 :: mapS (.map (some m2)) (fun _ => none) 0 :: Rs)) :
    Held w0 (w.alloc (.cells #[.int .i64 (tr : Int), .int .i64 (en : Int), .int .i64 (la : Int), .slice none 0 0, .int .i64 0, .map (some m1), .map (some m2), .slice none 0 0, .int .i64 0] 58))
      (finL tr en la 0 0 [] [] (fun _ => none) (fun _ => none) 0 w.heap.size (.slice none 0 0) (.slice none 0 0) m1 m2 ++ Rs) := by
  have h1 := H.newObj (finV tr en la (.slice none 0 0) 0 (.map (some m1)) (.map (some m2)) (.slice none 0 0) 0) 58
  have h2 := (h1.nil 42 1).nil 5 1
  exact h2.third
set_option maxHeartbeats 1600000 in
theorem new_any (lev : Int) (hl : Levs w0) (h : Held w0 w Rs) :
    Calls Tryd.prog 13 #[.int .i64 lev] w fun e w' => ∃ B, e = .returned (.pointer (some ⟨B, 0, none⟩)) ∧ Held w0 w' (rawF (lvl lev).1 (lvl lev).2.1 (lvl lev).2.2 0 0 [] [] (fun _ => none) (fun _ => none) 0 B :: Rs) := by
  have HH := hid h
  obtain ⟨k, hk⟩ : ∃ k, k = lvlN lev := ⟨_, rfl⟩
  have hk10 : k < 10 := by rw [hk]; unfold lvlN; omega
  obtain ⟨tr, en, la, ht⟩ : ∃ tr en la, lvl lev = (tr, en, la) := ⟨_, _, _, rfl⟩
  have ht2 : lvls[k]?.getD (0, 0, 0) = (tr, en, la) := by rw [hk]; exact ht
  have hc := lvl_cells k hk10
  rw [ht2] at hc
  rw [ht]
  have HLC : Hid (∀ wz, Mod w0 wz (fun _ => False) → wz.cell? ⟨0, k * 3, none⟩ = some (.int .i64 (tr : Int)) ∧ wz.cell? ⟨0, k * 3 + 1, none⟩ = some (.int .i64 (en : Int)) ∧ wz.cell? ⟨0, k * 3 + 2, none⟩ = some (.int .i64 (la : Int))) :=
    hid fun wz hm => ⟨hl.kept hm _ _ hc.1, hl.kept hm _ _ hc.2.1, hl.kept hm _ _ hc.2.2⟩
  have hNI := newInput_any h.drew
  have HNI := hid hNI
  have hkI : (k : Int) < 10 := by omega
  have hk0 : (0 : Int) ≤ (k : Int) := Int.natCast_nonneg _
  have hcase : (lev < 0 ∧ k = 0) ∨ (0 ≤ lev ∧ lev ≤ 9 ∧ lev = (k : Int)) ∨ (9 < lev ∧ k = 9) := by
    unfold lvlN at hk; omega
  clear ht ht2 hc hNI h hl hk
  rcases hcase with ⟨h1, rfl⟩ | ⟨h1, h2, rfl⟩ | ⟨h1, rfl⟩
  · have e0 := HLC.out w HH.out.mod
    have c0 : w.cell? ⟨0, 0, none⟩ = some (.int .i64 (tr : Int)) := e0.1
    have c1 : w.cell? ⟨0, 1, none⟩ = some (.int .i64 (en : Int)) := e0.2.1
    have c2 : w.cell? ⟨0, 2, none⟩ = some (.int .i64 (la : Int)) := e0.2.2
    clear e0
    go_enter Tryd.func13, Tryd.ntmps13
    go_wp2
    go_region_law ((first
      | (go_simp; go_at_call 19; refine HNI.out.mono ?_; rintro e w5 ⟨m1, m2, rfl, h5⟩; have H5 := hid h5
         have e5 := HLC.out w5 h5.mod
         have d0 : w5.cell? ⟨0, 0, none⟩ = some (.int .i64 (tr : Int)) := e5.1
         have d1 : w5.cell? ⟨0, 1, none⟩ = some (.int .i64 (en : Int)) := e5.2.1
         have d2 : w5.cell? ⟨0, 2, none⟩ = some (.int .i64 (la : Int)) := e5.2.2
         clear h5 e5)))
    all_goals
      go_wp2
      go_ret
      refine ⟨_, rfl, mkFin (.slice none 0 0) (.slice none 0 0) m1 m2 ?_⟩
      exact newEnd H5.out
  · have e0 := HLC.out w HH.out.mod
    have hm1 : (if (k : Int) < 0 then 0 else (k : Int)) = (k : Int) := if_neg (by omega)
    have hm2 : (if 9 < (k : Int) then 9 else (k : Int)) = (k : Int) := if_neg (by omega)
    have c0 : w.cell? ⟨0, k * 3, none⟩ = some (.int .i64 (tr : Int)) := e0.1
    have c1 : w.cell? ⟨0, k * 3 + 1, none⟩ = some (.int .i64 (en : Int)) := e0.2.1
    have c2 : w.cell? ⟨0, k * 3 + 2, none⟩ = some (.int .i64 (la : Int)) := e0.2.2
    clear e0
    go_enter Tryd.func13, Tryd.ntmps13
    go_wp2
    go_region_law ((first
      | (go_simp; go_at_call 19; refine HNI.out.mono ?_; rintro e w5 ⟨m1, m2, rfl, h5⟩; have H5 := hid h5
         have e5 := HLC.out w5 h5.mod
         have d0 : w5.cell? ⟨0, k * 3, none⟩ = some (.int .i64 (tr : Int)) := e5.1
         have d1 : w5.cell? ⟨0, k * 3 + 1, none⟩ = some (.int .i64 (en : Int)) := e5.2.1
         have d2 : w5.cell? ⟨0, k * 3 + 2, none⟩ = some (.int .i64 (la : Int)) := e5.2.2
         clear h5 e5)))
    all_goals
      go_wp2
      go_ret
      refine ⟨_, rfl, mkFin (.slice none 0 0) (.slice none 0 0) m1 m2 ?_⟩
      exact newEnd H5.out
  · have e0 := HLC.out w HH.out.mod
    have hm1 : (if lev < 0 then 0 else lev) = lev := if_neg (by omega)
    have hm2 : (if 9 < lev then 9 else lev) = 9 := if_pos h1
    have c0 : w.cell? ⟨0, 27, none⟩ = some (.int .i64 (tr : Int)) := e0.1
    have c1 : w.cell? ⟨0, 28, none⟩ = some (.int .i64 (en : Int)) := e0.2.1
    have c2 : w.cell? ⟨0, 29, none⟩ = some (.int .i64 (la : Int)) := e0.2.2
    clear e0
    go_enter Tryd.func13, Tryd.ntmps13
    go_wp2
    go_region_law ((first
      | (go_simp; go_at_call 19; refine HNI.out.mono ?_; rintro e w5 ⟨m1, m2, rfl, h5⟩; have H5 := hid h5
         have e5 := HLC.out w5 h5.mod
         have d0 : w5.cell? ⟨0, 27, none⟩ = some (.int .i64 (tr : Int)) := e5.1
         have d1 : w5.cell? ⟨0, 28, none⟩ = some (.int .i64 (en : Int)) := e5.2.1
         have d2 : w5.cell? ⟨0, 29, none⟩ = some (.int .i64 (la : Int)) := e5.2.2
         clear h5 e5)))
    all_goals
      go_wp2
      go_ret
      refine ⟨_, rfl, mkFin (.slice none 0 0) (.slice none 0 0) m1 m2 ?_⟩
      exact newEnd H5.out
end
end Go.Proofs.YtjmdgcppllnkdaaDoor
