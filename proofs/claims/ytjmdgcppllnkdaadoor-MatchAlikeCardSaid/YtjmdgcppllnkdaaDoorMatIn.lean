/-
  The landed finder's input: the starts of matches as keys, where a start was last (startOf, reached, nearest, farther), copies of slices.
-/
import Derived.Test.YtjmdgcppllnkdaaDoorProg
import Derived.Test.YtjmdgcppllnkdaaDoorMatMath
import Derived.Test.YtjmdgcppllnkdaaDoorMapT
import Derived.Test.YtjmdgcppllnkdaaDoorArr
import Derived.Test.YtjmdgcppllnkdaaDoorSlices
import Derived.Test.YtjmdgcppllnkdaaDoorPut
import Derived.Test.YtjmdgcppllnkdaaDoorHeldApp
import Derived.Test.YtjmdgcppllnkdaaDoorFam
import Derived.StillTailTactics
namespace Go.Proofs.YtjmdgcppllnkdaaDoor
open Go.RowKit

theorem infoStz : (Tryd.prog.info? 71).map (·.zero) = some (some (arrV .u8 [0, 0, 0])) := by kernel_rfl
theorem infoSts : (Tryd.prog.info? 71).map (·.size) = some 3 := by kernel_rfl
theorem infoByteM : (Tryd.prog.info? 5).map (fun i => (i.zero, i.size, i.bytes)) = some (some (.int .u8 0), 1, 1) := by kernel_rfl
theorem infoU16M : (Tryd.prog.info? 42).map (fun i => (i.zero, i.size, i.bytes)) = some (some (.int .u16 0), 1, 2) := by kernel_rfl
/-! ### Keys -/
def goodS (s : List Nat) : Prop := s.length = 3 ∧ ∀ b ∈ s, b < 256
theorem startKeyed : Go.Maps.Keyed Tryd.prog 71 :=
  Go.Maps.Keyed.of_law (deep_law_laid (show laidOutB Tryd.prog = true by kernel_rfl) (m := 2) (by omega) (show 71 < Tryd.prog.types.size from of_decide_eq_true (by kernel_rfl)) (by kernel_rfl) (by rw [Tryd.underlying71]))
theorem arrV_inj {k : IntKind} {a b : List Nat} (h : arrV k a = arrV k b) : a = b := by
  unfold arrV nums at h
  have h1 := Value.agg.inj h
  have h2 : a.map (fun (b : Nat) => Value.int k (b : Int)) = b.map (fun (b : Nat) => Value.int k (b : Int)) := by simpa using h1
  exact List.map_inj_right (fun x y h => by injection h with _ h; omega) |>.1 h2
theorem startKey : KeyIs Tryd.prog 71 (arrV .u8) goodS where
  keyed := startKeyed
  is := by
    rintro s ⟨hl, hb⟩
    match s, hl with
    | [a, b, c], _ =>
      have ha : a < 256 := hb a (by simp)
      have hb' : b < 256 := hb b (by simp)
      have hc : c < 256 := hb c (by simp)
      have wf8 : ∀ x : Nat, x < 256 → (Lit.int .u8 (x : Int)).wf = true := fun x hx => by
        show (decide ((0 : Int) ≤ (x : Int)) && decide ((x : Int) ≤ 255)) = true
        rw [Bool.and_eq_true, decide_eq_true_eq, decide_eq_true_eq]; omega
      have hk : Tryd.prog.keyType 71 = true := by kernel_rfl
      have hc3 : Tryd.prog.cellsOf 71 = 3 := by kernel_rfl
      have hc1 : Tryd.prog.cellsOf 5 = 1 := by kernel_rfl
      obtain ⟨m, hm⟩ : ∃ m, Tryd.prog.types.size = m + 1 := ⟨Tryd.prog.types.size - 1, by
        have : 0 < Tryd.prog.types.size := of_decide_eq_true (by kernel_rfl)
        omega⟩
      have hf : (arrV .u8 [a, b, c]).formed Tryd.prog 71 = true := by simp [arrV, nums, Value.formed, Tryd.underlying71, hc3]
      have hl : Tryd.prog.keyLits (m + 1 + 1) 71 [.int .u8 (a : Int), .int .u8 (b : Int), .int .u8 (c : Int)] = some [.int .u8 (a : Int), .int .u8 (b : Int), .int .u8 (c : Int)] := by
        have h1 : ∀ x : Nat, x < 256 → Tryd.prog.keyLits (m + 1) 5 [.int .u8 (x : Int)] = some [.int .u8 (x : Int)] := fun x hx => by simp [Program.keyLits, Tryd.underlying5, wf8 x hx]
        unfold Program.keyLits
        rw [Tryd.underlying71]
        simp [hc3, hc1, List.range, List.range.loop, h1 a ha, h1 b hb', h1 c hc]
      unfold keyOf
      rw [Tryd.underlying71]
      simp only [hk, hf, hm, Bool.and_true, if_true]
      rw [show (arrV .u8 [a, b, c]).cells.toList = [.int .u8 (a : Int), .int .u8 (b : Int), .int .u8 (c : Int)] by simp [arrV, nums, Value.cells], hl]
      exact ⟨_, rfl⟩
  inj := fun _ _ h => arrV_inj h
theorem reached_any (d : Nat) (hd : d < 2000000000) (w : World) :
    Calls Tryd.prog 33 #[.int .i64 (d : Int)] w fun e w' => e = .returned (.int .i64 ((reach 32768 d : Nat) : Int)) ∧ w' = w := by
  have hd0 : (0 : Int) ≤ (d : Int) := Int.natCast_nonneg _
  rcases Nat.lt_or_ge 32768 d with h | h
  · have hI : (32768 : Int) < (d : Int) := by omega
    have HR := hid (show reach 32768 d = 0 from if_pos h)
    clear h
    go_enter Tryd.func33, Tryd.ntmps33
    go_wp2
    go_ret
    exact ⟨by rw [HR.out]; rfl, rfl⟩
  · have hI : ¬ (32768 : Int) < (d : Int) := by omega
    have HR := hid (show reach 32768 d = d from if_neg (by omega))
    clear h
    go_enter Tryd.func33, Tryd.ntmps33
    go_wp2
    go_ret
    exact ⟨by rw [HR.out]; rfl, rfl⟩
/-- the first bytes of a slice into an array of as many -/
theorem wpList_copy_arr {P : Program} {w : World} {ops : Array Oper} {rest : List Oper} {o : Oper} {ac : Act} {Q : Exit → Act → World → Prop} (hgd : o.guard = none) (d s : Operand) (dT sT : TypeId)
    (ho : o.op = .call { callee := .builtin .copy, args := #[d, s], argTypes := #[dT, sT] }) (e : TypeId) (i : TypeInfo) (ht : P.underlying dT = some (.slice e)) (hi : P.info? e = some i) (hs : i.size = 1)
    (B n : Nat) (T : TypeId) (k : IntKind) (zs : List Nat) (l : List Nat) (y : Value) (hd : ac.eval d = .slice (some ⟨B, 0, none⟩) zs.length zs.length) (hy : ac.eval s = y) (hB : Blk w B (nums k zs) T) (hsrc : Rd w 1 y n (nums k l)) (hn : zs.length ≤ n) (h0 : 0 < zs.length)
    (h : ∀ w', Blk w' B (nums k (l.take zs.length)) T → Mod w w' (fun j => j = B) → wpList P ops Q rest (ac.put o.dst (goInt ((zs.length : Nat) : Int))) w') : wpList P ops Q (o :: rest) ac w := by
  refine wpList_plain hgd fun K hK => ?_
  obtain ⟨hyl, sa, scap, rfl, hmc, hsm, hs0, hsrd⟩ := hsrc
  have hmin : Nat.min n zs.length = zs.length := Nat.min_eq_right hn
  have hnl : n = l.length := by rw [nums_length] at hyl; omega
  rcases hsrd with hm0 | ⟨b, so, rfl, hc⟩
  · omega
  have hcl : (nums k (l.take zs.length)).length = zs.length := by rw [nums_length, List.length_take]; omega
  have hl := run_loadCells_list (P := P) w ⟨b, so, none⟩ (nums k (l.take zs.length)) (fun j u hu => by
    rw [Addr.add_lit]
    refine hc j u ?_
    rw [nums_get, List.getElem?_take] at hu
    rw [nums_get]
    split at hu
    · exact hu
    · simp at hu)
  rw [hcl] at hl
  have hst := run_storeCells_at P B 0 T (nums k (l.take zs.length)) 0 (nums k zs).toArray w hB (by rw [hcl]; simp [nums]) (nums_one k _)
  have e0 : ((nums k zs).toArray.toList.take (0 + 0) ++ nums k (l.take zs.length) ++ (nums k zs).toArray.toList.drop (0 + 0 + (nums k (l.take zs.length)).length)).toArray = (nums k (l.take zs.length)).toArray := by
    rw [hcl]; simp [nums]
  rw [e0] at hst
  have hr : (Builtin.copy_ #[dT, sT] o.type #[.slice (some ⟨B, 0, none⟩) zs.length zs.length, .slice (some ⟨b, so, none⟩) n scap]).run P w = .ok (goInt ((zs.length : Nat) : Int)) (w.setRow B (nums k (l.take zs.length)).toArray) := by
    simp [Builtin.copy_, run_underlying ht, Builtin.lenOf, Builtin.firstCells, sizeOf, typeInfo, hi, hs, hmin, hl, hst]
  unfold Oper.wp execOp
  simp only [ho, resolve, invoke, builtin, Sem.run_bind, Sem.run_pure, Result.andThen_ok, List.map_toArray, List.map_cons, List.map_nil, hd, hy, hr]
  exact hK _ _ (h _ (setRow_heap w B _ _ T (0, 0) hB) ⟨rfl, rfl, rfl, by simp, fun j _ hne => setRow_other w B j _ hne⟩)
theorem startOf_any (v : Value) (n : Nat) (l : List Nat) (w : World) (hv : Rd w 1 v n (u8s l)) (hn : 3 ≤ n) :
    Calls Tryd.prog 32 #[v] w fun e w' => e = .returned (arrV .u8 (l.take 3)) ∧ Mod w w' (fun _ => False) := by
  obtain ⟨ao, cap, rfl, _, _⟩ := hv.form
  obtain ⟨i0, hi0, hz0, hz1, hz2⟩ := info_parts infoByteM
  have hB0 : Blk ((w.alloc (.cells (nums .u8 [0, 0, 0]).toArray 71)).alloc (.cells (nums .u8 [0, 0, 0]).toArray 71)) w.heap.size (nums .u8 [0, 0, 0]) 71 := (Blk.new w _ _).alloc _
  have hB1 : Blk ((w.alloc (.cells (nums .u8 [0, 0, 0]).toArray 71)).alloc (.cells (nums .u8 [0, 0, 0]).toArray 71)) (w.heap.size + 1) (nums .u8 [0, 0, 0]) 71 := by
    have := Blk.new (w.alloc (.cells (nums .u8 [0, 0, 0]).toArray 71)) (nums .u8 [0, 0, 0]) 71
    rw [show (w.alloc (.cells (nums .u8 [0, 0, 0]).toArray 71)).heap.size = w.heap.size + 1 by simp] at this
    exact this
  have hM : Mod w ((w.alloc (.cells (nums .u8 [0, 0, 0]).toArray 71)).alloc (.cells (nums .u8 [0, 0, 0]).toArray 71)) (fun _ => False) := ((Mod.refl w _).alloc _).alloc _
  have HV := hid (hv.kept hM (fun _ _ h => h))
  have H0 := hid hB0
  have H1 := hid hB1
  have HM := hid hM
  have hl3 : (l.take 3).length = 3 := by have := hv.1; rw [u8s_length] at this; rw [List.length_take]; omega
  have HL := hid hl3
  clear hv hB0 hB1 hM hl3
  go_enter Tryd.func32, Tryd.ntmps32
  go_wp2_with (first
    | (refine wpList_alloc_arr rfl _ rfl .u8 _ infoStz ?_)
    | (refine wpList_copy_arr rfl (.tmp 4) (.tmp 5) 22 22 rfl 5 i0 Tryd.underlying22 hi0 hz1 (w.heap.size + 1) n 71 .u8 [0, 0, 0] l _ rfl rfl H1.out HV.out hn (by decide) ?_; intro w3 b3 m3; have H2 := hid (H0.out.kept m3 (by omega)); have H3 := hid b3; have M3 := hid m3; clear b3 m3)
    | (refine wpList_load_arr rfl 71 _ rfl _ 3 Tryd.underlying71 rfl infoSts (w.heap.size + 1) .u8 (l.take 3) 71 rfl HL.out H3.out ?_)
    | (refine wpList_store_arr rfl 71 _ _ rfl 3 infoSts w.heap.size .u8 [0, 0, 0] (l.take 3) 71 rfl rfl rfl HL.out H2.out ?_; intro w4 b4 m4; have H4 := hid b4; have M4 := hid m4; clear b4 m4))
  refine ret_arr rfl _ 3 Tryd.underlying71 rfl infoSts w.heap.size .u8 (l.take 3) 71 rfl HL.out H4.out rfl ⟨rfl, ?_⟩
  have hs : w.heap.size ≤ w.heap.size + 1 := by omega
  exact ((HM.out.trans M3.out (fun k hk e => by omega)).trans M4.out (fun k hk e => by omega))
end Go.Proofs.YtjmdgcppllnkdaaDoor
