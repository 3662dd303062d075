/-
  The landed finder's input: the starts of matches as keys, where a start was last (startOf, reached, nearest, farther), copies of slices.
-/
import Derived.Test.YtdmnfjicjjlnnaaGreatDoorProg
import Derived.Test.YtdmnfjicjjlnnaaGreatDoorDm09
import Derived.Test.YtdmnfjicjjlnnaaGreatDoorDm10
import Derived.Test.YtdmnfjicjjlnnaaGreatDoorDm04
import Derived.Test.YtdmnfjicjjlnnaaGreatDoorDm03
import Derived.Test.YtdmnfjicjjlnnaaGreatDoorDm05
import Derived.Test.YtdmnfjicjjlnnaaGreatDoorDm08
import Derived.StillTailTactics
import Derived.Deep.DeepCutAuto
namespace Go.Proofs.YtdmnfjicjjlnnaaGreatDoor
set_option maxRecDepth 5000
open Go.RowKit
theorem infoStz : (Tryz.prog.info? 186).map (·.zero) = some (some (arrV .u8 [0, 0, 0])) := by kernel_rfl
theorem infoSts : (Tryz.prog.info? 186).map (·.size) = some 3 := by kernel_rfl
theorem infoByteM : (Tryz.prog.info? 5).map (fun i => (i.zero, i.size, i.bytes)) = some (some (.int .u8 0), 1, 1) := by kernel_rfl
theorem infoU16M : (Tryz.prog.info? 23).map (fun i => (i.zero, i.size, i.bytes)) = some (some (.int .u16 0), 1, 2) := by kernel_rfl
/-! ### Keys -/
def goodS (s : List Nat) : Prop := s.length = 3 ∧ ∀ b ∈ s, b < 256
theorem startKeyed : Go.Maps.Keyed Tryz.prog 186 :=
  Go.Maps.Keyed.of_law (deep_law_laid (show laidOutB Tryz.prog = true by kernel_rfl) (m := 2) (by omega) (show 186 < Tryz.prog.types.size from of_decide_eq_true (by kernel_rfl)) (by kernel_rfl) (by rw [Tryz.underlying186]))
theorem arrV_inj {k : IntKind} {a b : List Nat} (h : arrV k a = arrV k b) : a = b := by
  unfold arrV nums at h
  have h1 := Value.agg.inj h
  have h2 : a.map (fun (b : Nat) => Value.int k (b : Int)) = b.map (fun (b : Nat) => Value.int k (b : Int)) := by simpa using h1
  exact List.map_inj_right (fun x y h => by injection h with _ h; omega) |>.1 h2
theorem startKey : KeyIs Tryz.prog 186 (arrV .u8) goodS where
  keyed := startKeyed
  is := by
    rintro s ⟨hl, hb⟩
    match s, hl with
    | [a, b, c], _ =>
      have ha : a < 256 := hb a (by simp)
      have hb' : b < 256 := hb b (by simp)
      have hc : c < 256 := hb c (by simp)
      have wf8 : ∀ x : Nat, x < 256 → (Lit.int .u8 (x : Int)).wf = true := fun x hx => by
        show (decide ((0 : Int) ≤ (x : Int)) && decide ((x : Int) ≤ 255)) = true
        rw [Bool.and_eq_true, decide_eq_true_eq, decide_eq_true_eq]; omega
      have hk : Tryz.prog.keyType 186 = true := by kernel_rfl
      have hc3 : Tryz.prog.cellsOf 186 = 3 := by kernel_rfl
      have hc1 : Tryz.prog.cellsOf 5 = 1 := by kernel_rfl
      obtain ⟨m, hm⟩ : ∃ m, Tryz.prog.types.size = m + 1 := ⟨Tryz.prog.types.size - 1, by
        have : 0 < Tryz.prog.types.size := of_decide_eq_true (by kernel_rfl)
        omega⟩
      have hf : (arrV .u8 [a, b, c]).formed Tryz.prog 186 = true := by simp [arrV, nums, Value.formed, Tryz.underlying186, hc3]
      have hl : Tryz.prog.keyLits (m + 1 + 1) 186 [.int .u8 (a : Int), .int .u8 (b : Int), .int .u8 (c : Int)] = some [.int .u8 (a : Int), .int .u8 (b : Int), .int .u8 (c : Int)] := by
        have h1 : ∀ x : Nat, x < 256 → Tryz.prog.keyLits (m + 1) 5 [.int .u8 (x : Int)] = some [.int .u8 (x : Int)] := fun x hx => by simp [Program.keyLits, Tryz.underlying5, wf8 x hx]
        unfold Program.keyLits
        rw [Tryz.underlying186]
        simp [hc3, hc1, List.range, List.range.loop, h1 a ha, h1 b hb', h1 c hc]
      unfold keyOf
      rw [Tryz.underlying186]
      simp only [hk, hf, hm, Bool.and_true, if_true]
      rw [show (arrV .u8 [a, b, c]).cells.toList = [.int .u8 (a : Int), .int .u8 (b : Int), .int .u8 (c : Int)] by simp [arrV, nums, Value.cells], hl]
      exact ⟨_, rfl⟩
  inj := fun _ _ h => arrV_inj h
theorem reached_any (d : Nat) (hd : d < 2000000000) (w : World) :
    Calls Tryz.prog 113 #[.int .i64 (d : Int)] w fun e w' => e = .returned (.int .i64 ((reach 32768 d : Nat) : Int)) ∧ w' = w := by
  have hd0 : (0 : Int) ≤ (d : Int) := Int.natCast_nonneg _
  rcases Nat.lt_or_ge 32768 d with h | h
  · have hI : (32768 : Int) < (d : Int) := by omega
    have HR := hid (show reach 32768 d = 0 from if_pos h)
    clear h
    go_enter Tryz.func113, Tryz.ntmps113
    go_wp2
    go_ret
    exact ⟨by rw [HR.out]; rfl, rfl⟩
  · have hI : ¬ (32768 : Int) < (d : Int) := by omega
    have HR := hid (show reach 32768 d = d from if_neg (by omega))
    clear h
    go_enter Tryz.func113, Tryz.ntmps113
    go_wp2
    go_ret
    exact ⟨by rw [HR.out]; rfl, rfl⟩
theorem wpList_copy_arr {P : Program} {w : World} {ops : Array Oper} {rest : List Oper} {o : Oper} {ac : Act} {Q : Exit → Act → World → Prop} (hgd : o.guard = none) (d s : Operand) (dT sT : TypeId)
    (ho : o.op = .call { callee := .builtin .copy, args := #[d, s], argTypes := #[dT, sT] }) (e : TypeId) (i : TypeInfo) (ht : P.underlying dT = some (.slice e)) (hi : P.info? e = some i) (hs : i.size = 1)
    (B n : Nat) (T : TypeId) (k : IntKind) (zs : List Nat) (l : List Nat) (y : Value) (hd : ac.eval d = .slice (some ⟨B, 0, none⟩) zs.length zs.length) (hy : ac.eval s = y) (hB : Blk w B (nums k zs) T) (hsrc : Rd w 1 y n (nums k l)) (hn : zs.length ≤ n) (h0 : 0 < zs.length)
    (h : ∀ w', Blk w' B (nums k (l.take zs.length)) T → Mod w w' (fun j => j = B) → wpList P ops Q rest (ac.put o.dst (goInt ((zs.length : Nat) : Int))) w') : wpList P ops Q (o :: rest) ac w := by
  refine wpList_plain hgd fun K hK => ?_
  obtain ⟨hyl, sa, scap, rfl, hmc, hsm, hs0, hsrd⟩ := hsrc
  have hmin : Nat.min n zs.length = zs.length := Nat.min_eq_right hn
  have hnl : n = l.length := by rw [nums_length] at hyl; omega
  rcases hsrd with hm0 | ⟨b, so, rfl, hc⟩
  · omega
  have hcl : (nums k (l.take zs.length)).length = zs.length := by rw [nums_length, List.length_take]; omega
  have hl := run_loadCells_list (P := P) w ⟨b, so, none⟩ (nums k (l.take zs.length)) (fun j u hu => by
    rw [Addr.add_lit]
    refine hc j u ?_
    rw [nums_get, List.getElem?_take] at hu
    rw [nums_get]
    split at hu
    · exact hu
    · simp at hu)
  rw [hcl] at hl
  have hst := run_storeCells_at P B 0 T (nums k (l.take zs.length)) 0 (nums k zs).toArray w hB (by rw [hcl]; simp [nums]) (nums_one k _)
  have e0 : ((nums k zs).toArray.toList.take (0 + 0) ++ nums k (l.take zs.length) ++ (nums k zs).toArray.toList.drop (0 + 0 + (nums k (l.take zs.length)).length)).toArray = (nums k (l.take zs.length)).toArray := by
    rw [hcl]; simp [nums]
  rw [e0] at hst
  have hr : (Builtin.copy_ #[dT, sT] o.type #[.slice (some ⟨B, 0, none⟩) zs.length zs.length, .slice (some ⟨b, so, none⟩) n scap]).run P w = .ok (goInt ((zs.length : Nat) : Int)) (w.setRow B (nums k (l.take zs.length)).toArray) := by
    simp [Builtin.copy_, run_underlying ht, Builtin.lenOf, Builtin.firstCells, sizeOf, typeInfo, hi, hs, hmin, hl, hst]
  unfold Oper.wp execOp
  simp only [ho, resolve, invoke, builtin, Sem.run_bind, Sem.run_pure, Result.andThen_ok, List.map_toArray, List.map_cons, List.map_nil, hd, hy, hr]
  exact hK _ _ (h _ (setRow_heap w B _ _ T (0, 0) hB) ⟨rfl, rfl, rfl, by simp, fun j _ hne => setRow_other w B j _ hne⟩)
theorem startOf_any (v : Value) (n : Nat) (l : List Nat) (w : World) (hv : Rd w 1 v n (u8s l)) (hn : 3 ≤ n) :
    Calls Tryz.prog 112 #[v] w fun e w' => e = .returned (arrV .u8 (l.take 3)) ∧ Mod w w' (fun _ => False) := by
  obtain ⟨ao, cap, rfl, _, _⟩ := hv.form
  obtain ⟨i0, hi0, hz0, hz1, hz2⟩ := info_parts infoByteM
  have hB0 : Blk ((w.alloc (.cells (nums .u8 [0, 0, 0]).toArray 186)).alloc (.cells (nums .u8 [0, 0, 0]).toArray 186)) w.heap.size (nums .u8 [0, 0, 0]) 186 := (Blk.new w _ _).alloc _
  have hB1 : Blk ((w.alloc (.cells (nums .u8 [0, 0, 0]).toArray 186)).alloc (.cells (nums .u8 [0, 0, 0]).toArray 186)) (w.heap.size + 1) (nums .u8 [0, 0, 0]) 186 := by
    have := Blk.new (w.alloc (.cells (nums .u8 [0, 0, 0]).toArray 186)) (nums .u8 [0, 0, 0]) 186
    rw [show (w.alloc (.cells (nums .u8 [0, 0, 0]).toArray 186)).heap.size = w.heap.size + 1 by simp] at this
    exact this
  have hM : Mod w ((w.alloc (.cells (nums .u8 [0, 0, 0]).toArray 186)).alloc (.cells (nums .u8 [0, 0, 0]).toArray 186)) (fun _ => False) := ((Mod.refl w _).alloc _).alloc _
  have HV := hid (hv.kept hM (fun _ _ h => h))
  have H0 := hid hB0
  have H1 := hid hB1
  have HM := hid hM
  have hl3 : (l.take 3).length = 3 := by have := hv.1; rw [u8s_length] at this; rw [List.length_take]; omega
  have HL := hid hl3
  clear hv hB0 hB1 hM hl3
  go_enter Tryz.func112, Tryz.ntmps112
  go_wp2_with (first
    | (refine wpList_alloc_arr rfl _ rfl .u8 _ infoStz ?_)
    | (refine wpList_copy_arr rfl (.tmp 4) (.tmp 5) 22 22 rfl 5 i0 Tryz.underlying22 hi0 hz1 (w.heap.size + 1) n 186 .u8 [0, 0, 0] l _ rfl rfl H1.out HV.out hn (by decide) ?_; intro w3 b3 m3; have H2 := hid (H0.out.kept m3 (by omega)); have H3 := hid b3; have M3 := hid m3; clear b3 m3)
    | (refine wpList_load_arr rfl 186 _ rfl _ 3 Tryz.underlying186 rfl infoSts (w.heap.size + 1) .u8 (l.take 3) 186 rfl HL.out H3.out ?_)
    | (refine wpList_store_arr rfl 186 _ _ rfl 3 infoSts w.heap.size .u8 [0, 0, 0] (l.take 3) 186 rfl rfl rfl HL.out H2.out ?_; intro w4 b4 m4; have H4 := hid b4; have M4 := hid m4; clear b4 m4))
  refine ret_arr rfl _ 3 Tryz.underlying186 rfl infoSts w.heap.size .u8 (l.take 3) 186 rfl HL.out H4.out rfl ⟨rfl, ?_⟩
  have hs : w.heap.size ≤ w.heap.size + 1 := by omega
  exact ((HM.out.trans M3.out (fun k hk e => by omega)).trans M4.out (fun k hk e => by omega))
end Go.Proofs.YtdmnfjicjjlnnaaGreatDoor
/-
  The landed finder as a thing in memory; where a start was last (nearest), and the one before it (farther).
-/
namespace Go.Proofs.YtdmnfjicjjlnnaaGreatDoor
set_option maxRecDepth 5000
open Go.RowKit
def finV (tr en la : Nat) (lv : Value) (gone : Nat) (lm om bv : Value) (at' : Nat) : List Value :=
  [.int .i64 (tr : Int), .int .i64 (en : Int), .int .i64 (la : Int), lv, .int .i64 (gone : Int), lm, om, bv, .int .i64 (at' : Int)]
def mapS (v : Value) (g : List Nat → Option Nat) (n : Nat) : Thing := mapT (arrV .u8) goodS (fun p : Nat => .int .i64 (p : Int)) v g n
def finL (tr en la at' gone : Nat) (bs bk : List Nat) (g h : List Nat → Option Nat) (n : Nat) (B : Place) (lv bv : Value) (m1 m2 : Nat) : List Thing :=
  [objP B (finV tr en la lv gone (.map (some m1)) (.map (some m2)) bv at'), ownT 5 1 lv bs.length (u8s bs), ownT 23 1 bv bk.length (nums .u16 bk), mapS (.map (some m1)) g n, mapS (.map (some m2)) h n]
def rawF (tr en la at' gone : Nat) (bs bk : List Nat) (g h : List Nat → Option Nat) (n : Nat) (B : Place) : Thing :=
  exT fun q : Value × Value × Nat × Nat => allT (finL tr en la at' gone bs bk g h n B q.1 q.2.1 q.2.2.1 q.2.2.2)
section
variable {w0 w : World} {Rs : List Thing} {tr en la at' gone n : Nat} {B : Place} {bs bk : List Nat} {g h : List Nat → Option Nat}
theorem unFin (H : Held w0 w (rawF tr en la at' gone bs bk g h n B :: Rs)) : ∃ (lv bv : Value) (m1 m2 : Nat), Held w0 w (finL tr en la at' gone bs bk g h n B lv bv m1 m2 ++ Rs) := by
  obtain ⟨⟨lv, bv, m1, m2⟩, h1⟩ := H.ex
  exact ⟨lv, bv, m1, m2, h1.unall⟩
theorem mkFin (lv bv : Value) (m1 m2 : Nat) (H : Held w0 w (finL tr en la at' gone bs bk g h n B lv bv m1 m2 ++ Rs)) : Held w0 w (rawF tr en la at' gone bs bk g h n B :: Rs) :=
  Held.mk (R := fun q : Value × Value × Nat × Nat => allT (finL tr en la at' gone bs bk g h n B q.1 q.2.1 q.2.2.1 q.2.2.2)) (lv, bv, m1, m2) H.all
theorem finAll {lv bv : Value} {m1 m2 : Nat} (H : Held w0 w (finL tr en la at' gone bs bk g h n B lv bv m1 m2 ++ Rs)) :
    BlkP w B (finV tr en la lv gone (.map (some m1)) (.map (some m2)) bv at') ∧ Own w 5 1 lv bs.length (u8s bs) ∧ Own w 23 1 bv bk.length (nums .u16 bk) ∧
      MapIs (arrV .u8) goodS (fun p : Nat => .int .i64 (p : Int)) w m1 g n ∧ MapIs (arrV .u8) goodS (fun p : Nat => .int .i64 (p : Int)) w m2 h n := by
  have H1 : Held w0 w (objP B (finV tr en la lv gone (.map (some m1)) (.map (some m2)) bv at') :: ownT 5 1 lv bs.length (u8s bs) :: ownT 23 1 bv bk.length (nums .u16 bk) :: mapS (.map (some m1)) g n :: mapS (.map (some m2)) h n :: Rs) := H
  have h1 := H1.objp
  have h2 := H1.drop.own
  have h3 := H1.drop.drop.own
  obtain ⟨b4, e4, h4⟩ := H1.drop.drop.drop.map
  obtain ⟨b5, e5, h5⟩ := H1.drop.drop.drop.drop.map
  simp only [Value.map.injEq, Option.some.injEq] at e4 e5
  subst e4; subst e5
  exact ⟨h1, h2, h3, h4, h5⟩
end
theorem zeroInt (w : World) : (zeroValue 3).run Tryz.prog w = .ok (.int .i64 0) w := by kernel_rfl
theorem at3_good {x : List Nat} {P : Nat} (h : P + 3 ≤ x.length) (hb : ∀ b ∈ x, b < 256) : ∃ a b c : Nat, at3 x P = [a, b, c] ∧ goodS (at3 x P) := by
  have hl : (at3 x P).length = 3 := by unfold at3; rw [List.length_take, List.length_drop]; omega
  have hg : goodS (at3 x P) := ⟨hl, fun b h => hb b (List.mem_of_mem_drop (List.mem_of_mem_take h))⟩
  match e : at3 x P, hl with
  | [a, b, c], _ => exact ⟨a, b, c, rfl, by rw [← e]; exact hg⟩
section
variable {w0 w : World} {Rs : List Thing} {tr en la at' cut n a P : Nat} {B : Place} {x bk : List Nat}
set_option maxHeartbeats 1600000 in
theorem nearest_any (H : Held w0 w (rawF tr en la at' cut (x.drop cut) bk (mLast x a P) (mOlder 32768 x a) n B :: Rs)) (hcut : cut ≤ P) (hx : P + 3 ≤ x.length) (hlen : x.length < 1000000000) (ha : a ≤ P) (hb : ∀ b ∈ x, b < 256) :
    Calls Tryz.prog 88 #[.pointer (some ⟨B.b, B.o + 3, none⟩), .int .i64 ((P - cut : Nat) : Int)] w fun e w' => e = .returned (.int .i64 ((near 32768 x P : Nat) : Int)) ∧ Mod w w' (fun _ => False) := by
  obtain ⟨i0, hi0, hz0, hz1, hz2⟩ := info_parts infoByteM
  obtain ⟨lv, bv, m1, m2, HF⟩ := unFin H
  obtain ⟨hB, hO, _, hM1, hM2⟩ := finAll HF
  obtain ⟨L, hL⟩ : ∃ L, L = (x.drop cut).length := ⟨_, rfl⟩
  obtain ⟨i, hi⟩ : ∃ i, i = P - cut := ⟨_, rfl⟩
  have hLx : L = x.length - cut := by rw [hL, List.length_drop]
  rw [← hL] at hO
  rw [← hi]
  have hiL : i ≤ L := by omega
  obtain ⟨ao, cap, rfl, hnc, hcm⟩ := hO.form
  have c3 := hB.cell (i := 3) rfl
  have hcutE : ∀ wg, (Instr.sliceAt 22 (.slice ao L cap) (some (.int .i64 (i : Int))) none none).run Tryz.prog wg = .ok (.slice (if cap = i then ao else ao.map fun (x : Addr) => x.add (i * 1)) (L - i) (cap - i)) wg := fun wg =>
    run_cut (P := Tryz.prog) 22 5 i0 1 Tryz.underlying22 hi0 hz1 ao L cap i L (some (.int .i64 (i : Int))) none ⟨_, rfl⟩ rfl hiL hnc
  have hrd := hO.rd.cut (L := i) (H := L) hiL (Nat.le_refl _)
  unfold sliced at hrd
  generalize (if cap = i then ao else ao.map fun (x : Addr) => x.add (i * 1)) = a' at hcutE hrd
  have e2 : ((u8s (x.drop cut)).drop (i * 1)).take ((L - i) * 1) = u8s (x.drop P) := by
    rw [Nat.mul_one, Nat.mul_one, List.take_of_length_le (by rw [List.length_drop, u8s_length, ← hL]; omega)]
    simp only [u8s, ← List.map_drop, List.drop_drop]
    rw [show cut + i = P by omega]
  rw [e2] at hrd
  obtain ⟨K, hK⟩ : ∃ K, K = L - i := ⟨_, rfl⟩
  rw [← hK] at hrd hcutE
  have HS := hid (startOf_any _ K (x.drop P) w hrd (by omega))
  obtain ⟨s0, s1, s2, hs, hg⟩ := at3_good hx hb
  have hs3 : (x.drop P).take 3 = [s0, s1, s2] := hs
  rw [hs3] at HS
  have HS : Hid (Calls Tryz.prog 112 _ w fun e w' => e = .returned (.agg #[.int .u8 (s0 : Int), .int .u8 (s1 : Int), .int .u8 (s2 : Int)]) ∧ Mod w w' (fun _ => False)) := HS
  have hnear := near_maps 32768 x a P ha
  unfold nearM at hnear
  rw [hs] at hnear hg
  have HB := hid hB
  have H1 := hid hM1
  have H2 := hid hM2
  have hi0' : (0 : Int) ≤ (i : Int) := Int.natCast_nonneg _
  clear hB hM1 hM2 HF H hO hrd e2 hK hs3
  rcases e1 : mLast x a P [s0, s1, s2] with _ | k
  · rcases e3 : mOlder 32768 x a [s0, s1, s2] with _ | k
    · rw [e1, e3] at hnear
      have HN : Hid (0 = near 32768 x P) := hid hnear
      clear hnear hi hL hLx
      go_enter Tryz.func88, Tryz.ntmps88
      go_wp2_with fail
      refine HS.out.mono ?_
      rintro e w1 ⟨rfl, m1'⟩
      have HB1 := hid (HB.out.kept m1' (fun h => h))
      have H11 := hid (H1.out.kept m1' (fun h => h))
      have HM := hid m1'
      clear HS m1'
      have HA := hid (Blk.new w1 (nums .u8 [0, 0, 0]) 186)
      have HB2 := hid (HB1.out.alloc (.cells (nums .u8 [0, 0, 0]).toArray 186))
      have H21 := hid (H2.out.kept HM.out (fun h => h))
      have H12 := hid (H11.out.kept ((Mod.refl w1 (fun _ => False)).alloc (.cells (nums .u8 [0, 0, 0]).toArray 186)) (fun h => h))
      go_wp2_with (first
        | (refine wpList_alloc_arr rfl _ rfl .u8 _ infoStz ?_)
        | (refine wpList_store_arr rfl 186 _ _ rfl 3 infoSts w1.heap.size .u8 [0, 0, 0] [s0, s1, s2] 186 rfl rfl rfl rfl HA.out ?_; intro w4 b4 m4; have H4 := hid b4; have M4 := hid m4; clear b4 m4))
      have hm14 : Mod w1 w4 (fun _ => False) := ((Mod.refl w1 (fun _ => False)).alloc _).trans M4.out (fun k hk e => by omega)
      have HM4 := hid (HM.out.same hm14)
      have HB4 := hid (HB1.out.kept hm14 (fun h => h))
      have hM4 := H11.out.kept hm14 (fun h => h)
      have hq := fun k => (show MapIs (arrV .u8) goodS (fun p : Nat => .int .i64 (p : Int)) (w4.drewN k) m1 (mLast x a P) n from hM4.kept ((Mod.refl w4 (fun _ => False)).drewN k) (fun h => h)).look startKey (t := 54) Tryz.underlying54 (zeroInt _) [s0, s1, s2] hg
      rw [e1] at hq
      have hq : ∀ k', (Instr.lookup 54 (.map (some m1)) (.agg #[.int .u8 (s0 : Int), .int .u8 (s1 : Int), .int .u8 (s2 : Int)]) true).run Tryz.prog (w4.drewN k') = .ok (.tuple #[.int .i64 0, .bool false]) (w4.drewN k') := hq
      have hM42 := H21.out.kept hm14 (fun h => h)
      have hq2 := fun k => (show MapIs (arrV .u8) goodS (fun p : Nat => .int .i64 (p : Int)) (w4.drewN k) m2 (mOlder 32768 x a) n from hM42.kept ((Mod.refl w4 (fun _ => False)).drewN k) (fun h => h)).look startKey (t := 54) Tryz.underlying54 (zeroInt _) [s0, s1, s2] hg
      rw [e3] at hq2
      have hq2 : ∀ k', (Instr.lookup 54 (.map (some m2)) (.agg #[.int .u8 (s0 : Int), .int .u8 (s1 : Int), .int .u8 (s2 : Int)]) true).run Tryz.prog (w4.drewN k') = .ok (.tuple #[.int .i64 0, .bool false]) (w4.drewN k') := hq2
      have d6 := HB4.out.cell (i := 6) rfl
      have q0 := H4.out.cell0 rfl
      have q1 := H4.out.cell (i := 1) rfl
      have q2 := H4.out.cell (i := 2) rfl
      have d5 := HB4.out.cell (i := 5) rfl
      have d4 := HB4.out.cell (i := 4) rfl
      clear hM4 hm14 hM42
      go_quiet (fail)
      go_wp2
      go_quiet (fail)
      go_wp2
      go_ret
      exact ⟨by rw [← HN.out]; rfl, HM4.out.drewN _⟩
    · rw [e1, e3] at hnear
      have hnear : reach 32768 (P - k) = near 32768 x P := hnear
      have hk : k < P := by
        unfold mOlder at e3
        have := Option.filter_eq_some_iff.1 e3
        have := (lastAt_some this.1).1
        omega
      have hd : ((cut : Int) + (i : Int)) - (k : Int) = ((P - k : Nat) : Int) := by omega
      have HR := hid (reached_any (P - k) (by omega))
      have HN := hid hnear
      obtain ⟨D, hD⟩ : ∃ D, D = P - k := ⟨_, rfl⟩
      rw [← hD] at hd HR HN
      have hsum : (cut : Int) + (i : Int) = (P : Int) := by omega
      have hPb : P < 1000000000 := by omega
      have hd2 : (P : Int) - (k : Int) = (D : Int) := by omega
      clear hnear hi hL hLx hD hd
      go_enter Tryz.func88, Tryz.ntmps88
      go_wp2_with fail
      refine HS.out.mono ?_
      rintro e w1 ⟨rfl, m1'⟩
      have HB1 := hid (HB.out.kept m1' (fun h => h))
      have H11 := hid (H1.out.kept m1' (fun h => h))
      have HM := hid m1'
      clear HS m1'
      have HA := hid (Blk.new w1 (nums .u8 [0, 0, 0]) 186)
      have HB2 := hid (HB1.out.alloc (.cells (nums .u8 [0, 0, 0]).toArray 186))
      have H21 := hid (H2.out.kept HM.out (fun h => h))
      have H12 := hid (H11.out.kept ((Mod.refl w1 (fun _ => False)).alloc (.cells (nums .u8 [0, 0, 0]).toArray 186)) (fun h => h))
      go_wp2_with (first
        | (refine wpList_alloc_arr rfl _ rfl .u8 _ infoStz ?_)
        | (refine wpList_store_arr rfl 186 _ _ rfl 3 infoSts w1.heap.size .u8 [0, 0, 0] [s0, s1, s2] 186 rfl rfl rfl rfl HA.out ?_; intro w4 b4 m4; have H4 := hid b4; have M4 := hid m4; clear b4 m4))
      have hm14 : Mod w1 w4 (fun _ => False) := ((Mod.refl w1 (fun _ => False)).alloc _).trans M4.out (fun k hk e => by omega)
      have HM4 := hid (HM.out.same hm14)
      have HB4 := hid (HB1.out.kept hm14 (fun h => h))
      have hM4 := H11.out.kept hm14 (fun h => h)
      have hq := fun k => (show MapIs (arrV .u8) goodS (fun p : Nat => .int .i64 (p : Int)) (w4.drewN k) m1 (mLast x a P) n from hM4.kept ((Mod.refl w4 (fun _ => False)).drewN k) (fun h => h)).look startKey (t := 54) Tryz.underlying54 (zeroInt _) [s0, s1, s2] hg
      rw [e1] at hq
      have hq : ∀ k', (Instr.lookup 54 (.map (some m1)) (.agg #[.int .u8 (s0 : Int), .int .u8 (s1 : Int), .int .u8 (s2 : Int)]) true).run Tryz.prog (w4.drewN k') = .ok (.tuple #[.int .i64 0, .bool false]) (w4.drewN k') := hq
      have hM42 := H21.out.kept hm14 (fun h => h)
      have hq2 := fun k => (show MapIs (arrV .u8) goodS (fun p : Nat => .int .i64 (p : Int)) (w4.drewN k) m2 (mOlder 32768 x a) n from hM42.kept ((Mod.refl w4 (fun _ => False)).drewN k) (fun h => h)).look startKey (t := 54) Tryz.underlying54 (zeroInt _) [s0, s1, s2] hg
      rw [e3] at hq2
      have hq2 : ∀ k', (Instr.lookup 54 (.map (some m2)) (.agg #[.int .u8 (s0 : Int), .int .u8 (s1 : Int), .int .u8 (s2 : Int)]) true).run Tryz.prog (w4.drewN k') = .ok (.tuple #[.int .i64 (k : Int), .bool true]) (w4.drewN k') := hq2
      have d6 := HB4.out.cell (i := 6) rfl
      have q0 := H4.out.cell0 rfl
      have q1 := H4.out.cell (i := 1) rfl
      have q2 := H4.out.cell (i := 2) rfl
      have d5 := HB4.out.cell (i := 5) rfl
      have d4 := HB4.out.cell (i := 4) rfl
      clear hM4 hm14 hM42
      go_quiet (fail)
      go_wp2
      go_quiet (fail)
      go_wp2_with fail
      refine (HR.out _).mono ?_
      rintro e w5 ⟨rfl, rfl⟩
      go_wp2
      go_ret
      exact ⟨by rw [← HN.out]; rfl, HM4.out.drewN _⟩
  · rw [e1] at hnear
    have hnear : reach 32768 (P - k) = near 32768 x P := hnear
    have hk : k < P := by
      unfold mLast at e1
      have := Option.filter_eq_some_iff.1 e1
      exact (lastAt_some this.1).1
    have hd : ((cut : Int) + (i : Int)) - (k : Int) = ((P - k : Nat) : Int) := by omega
    have HR := hid (reached_any (P - k) (by omega))
    have HN := hid hnear
    obtain ⟨D, hD⟩ : ∃ D, D = P - k := ⟨_, rfl⟩
    rw [← hD] at hd HR HN
    have hsum : (cut : Int) + (i : Int) = (P : Int) := by omega
    have hPb : P < 1000000000 := by omega
    have hd2 : (P : Int) - (k : Int) = (D : Int) := by omega
    clear hnear hi hL hLx hD hd
    go_enter Tryz.func88, Tryz.ntmps88
    go_wp2_with fail
    refine HS.out.mono ?_
    rintro e w1 ⟨rfl, m1'⟩
    have HB1 := hid (HB.out.kept m1' (fun h => h))
    have H11 := hid (H1.out.kept m1' (fun h => h))
    have HM := hid m1'
    clear HS m1'
    have HA := hid (Blk.new w1 (nums .u8 [0, 0, 0]) 186)
    have HB2 := hid (HB1.out.alloc (.cells (nums .u8 [0, 0, 0]).toArray 186))
    have H12 := hid (H11.out.kept ((Mod.refl w1 (fun _ => False)).alloc (.cells (nums .u8 [0, 0, 0]).toArray 186)) (fun h => h))
    go_wp2_with (first
      | (refine wpList_alloc_arr rfl _ rfl .u8 _ infoStz ?_)
      | (refine wpList_store_arr rfl 186 _ _ rfl 3 infoSts w1.heap.size .u8 [0, 0, 0] [s0, s1, s2] 186 rfl rfl rfl rfl HA.out ?_; intro w4 b4 m4; have H4 := hid b4; have M4 := hid m4; clear b4 m4))
    have hm14 : Mod w1 w4 (fun _ => False) := ((Mod.refl w1 (fun _ => False)).alloc _).trans M4.out (fun k hk e => by omega)
    have HM4 := hid (HM.out.same hm14)
    have HB4 := hid (HB1.out.kept hm14 (fun h => h))
    have hM4 := H11.out.kept hm14 (fun h => h)
    have hq := fun k => (show MapIs (arrV .u8) goodS (fun p : Nat => .int .i64 (p : Int)) (w4.drewN k) m1 (mLast x a P) n from hM4.kept ((Mod.refl w4 (fun _ => False)).drewN k) (fun h => h)).look startKey (t := 54) Tryz.underlying54 (zeroInt _) [s0, s1, s2] hg
    rw [e1] at hq
    have hq : ∀ k', (Instr.lookup 54 (.map (some m1)) (.agg #[.int .u8 (s0 : Int), .int .u8 (s1 : Int), .int .u8 (s2 : Int)]) true).run Tryz.prog (w4.drewN k') = .ok (.tuple #[.int .i64 (k : Int), .bool true]) (w4.drewN k') := hq
    have q0 := H4.out.cell0 rfl
    have q1 := H4.out.cell (i := 1) rfl
    have q2 := H4.out.cell (i := 2) rfl
    have d5 := HB4.out.cell (i := 5) rfl
    have d4 := HB4.out.cell (i := 4) rfl
    clear hM4 hm14
    go_quiet (fail)
    go_wp2_with fail
    refine (HR.out _).mono ?_
    rintro e w5 ⟨rfl, rfl⟩
    go_wp2
    go_ret
    exact ⟨by rw [← HN.out]; rfl, HM4.out.drewN _⟩
end
end Go.Proofs.YtdmnfjicjjlnnaaGreatDoor
/-
  The landed finder's search: how many bytes are the same, the longer one of two matches, the place before one.
-/
namespace Go.Proofs.YtdmnfjicjjlnnaaGreatDoor
set_option maxRecDepth 5000
open Go.RowKit
section
variable {w0 w : World} {Rs : List Thing} {tr en la at' cut n : Nat} {B : Place} {bs bk : List Nat} {g h : List Nat → Option Nat}
theorem farther_any (H : Held w0 w (rawF tr en la at' cut bs bk g h n B :: Rs)) (i d m : Nat) (hd : d ≤ i) (hi : i < 1000000000) (hm : bk[i - d]? = some m) (hm2 : m ≤ 32768) :
    Calls Tryz.prog 91 #[.pointer (some ⟨B.b, B.o + 3, none⟩), .int .i64 (i : Int), .int .i64 (d : Int)] w fun e w' => e = .returned (.int .i64 (((if m = 0 then 0 else reach 32768 (d + m)) : Nat) : Int)) ∧ w' = w := by
  obtain ⟨lv, bv, m1, m2, HF⟩ := unFin H
  obtain ⟨hB, _, hO, _, _⟩ := finAll HF
  obtain ⟨q, hq⟩ : ∃ q, q = i - d := ⟨_, rfl⟩
  rw [← hq] at hm
  obtain ⟨K, hK⟩ : ∃ K, K = bk.length := ⟨_, rfl⟩
  rw [← hK] at hO
  have hqK : q < K := by have := (List.getElem?_eq_some_iff.1 hm).1; omega
  obtain ⟨ao, cap, rfl, hnc, hcm⟩ := hO.form
  have c7 := hB.cell (i := 7) rfl
  obtain ⟨gg, off, rfl, hcell, _, _⟩ := hO.site (by omega)
  have e1 := hcell q (.int .u16 (m : Int)) (by rw [nums_get, hm]; rfl)
  have hqI : (i : Int) - (d : Int) = (q : Int) := by omega
  have hq0 : (0 : Int) ≤ (q : Int) := Int.natCast_nonneg _
  have hqK2 : (q : Int) < (K : Int) := by omega
  have hm0 : (0 : Int) ≤ (m : Int) := Int.natCast_nonneg _
  have hmw : IntKind.i64.wrap (m : Int) = (m : Int) := IntWalk.i64_in _ (by omega)
  have hqb : q < 1000000000 := by omega
  have HR := hid (reached_any (d + m) (by omega))
  clear hcell hB hO HF H hq hm hK
  rcases Nat.eq_zero_or_pos m with rfl | hp
  · go_enter Tryz.func91, Tryz.ntmps91
    go_wp2
    go_ret
    exact ⟨rfl, rfl⟩
  · have hmI : ¬ (m : Int) = 0 := by omega
    obtain ⟨r, hr⟩ : ∃ r, r = reach 32768 (d + m) := ⟨_, rfl⟩
    obtain ⟨D, hD⟩ : ∃ D, D = d + m := ⟨_, rfl⟩
    rw [if_neg (by omega)]
    rw [← hr]
    rw [← hr, ← hD] at HR
    have hDI : (d : Int) + (m : Int) = (D : Int) := by omega
    have hDb : D < 2000000000 := by omega
    clear hr hD
    go_enter Tryz.func91, Tryz.ntmps91
    go_wp2_with fail
    refine (HR.out _).mono ?_
    rintro e w5 ⟨rfl, rfl⟩
    go_wp2
    go_ret
    exact ⟨rfl, rfl⟩
end
theorem ret_obj {P : Program} {w : World} {fn : Func} {p : Tmp} {t : TypeId} (hf : fn.results = #[.cell p t]) {R : Ending → World → Prop} {a : Act}
    (d : TypeDesc) (n : Nat) (ht : P.underlying t = some d) (hd : isArr d = true) (hi : (P.info? t).map (·.size) = some n)
    (B : Nat) (cs : List Value) (T : TypeId) (hp : a.tmps.getD p undef = .pointer (some ⟨B, 0, none⟩)) (hl : cs.length = n) (hB : Blk w B cs T)
    (hdf : a.defers = []) (h : R (.returned (.agg cs.toArray)) w) : bodyPost P fn R .ret a w :=
  bodyPost_ret (v := .agg cs.toArray) (results_cell_row hf a.tmps w B T cs.toArray (0, 0) d hp hB ht (by cases d <;> simp_all [isArr]) (by rw [hi]; simp [hl])) hdf h
theorem infoTokM : (Tryz.prog.info? 80).map (·.size) = some 3 := by kernel_rfl
theorem longer_any (a l d a2 l2 d2 : Nat) (w : World) :
    Calls Tryz.prog 89 #[.agg #[.int .u8 (a : Int), .int .i64 (l : Int), .int .i64 (d : Int)], .agg #[.int .u8 (a2 : Int), .int .i64 (l2 : Int), .int .i64 (d2 : Int)]] w fun e w' =>
      e = .returned (if l < l2 then .agg #[.int .u8 (a2 : Int), .int .i64 (l2 : Int), .int .i64 (d2 : Int)] else .agg #[.int .u8 (a : Int), .int .i64 (l : Int), .int .i64 (d : Int)]) ∧ Mod w w' (fun _ => False) := by
  by_cases h : l < l2
  · have hI : (l : Int) < (l2 : Int) := by omega
    rw [if_pos h]
    clear h
    go_enter Tryz.func89, Tryz.ntmps89
    go_wp2
    refine ret_obj rfl _ 3 Tryz.underlying80 rfl infoTokM (w.heap.size + 1 + 1) [.int .u8 (a2 : Int), .int .i64 (l2 : Int), .int .i64 (d2 : Int)] 80 rfl rfl ?_ rfl ⟨rfl, ((((Mod.refl w _).alloc _).alloc _).alloc _)⟩
    have := Blk.new ((w.alloc (.cells #[.int .u8 (a : Int), .int .i64 (l : Int), .int .i64 (d : Int)] 80)).alloc (.cells #[.int .u8 (a2 : Int), .int .i64 (l2 : Int), .int .i64 (d2 : Int)] 80)) [.int .u8 (a2 : Int), .int .i64 (l2 : Int), .int .i64 (d2 : Int)] 80
    simpa using this
  · have hI : ¬ (l : Int) < (l2 : Int) := by omega
    rw [if_neg h]
    clear h
    go_enter Tryz.func89, Tryz.ntmps89
    go_wp2
    refine ret_obj rfl _ 3 Tryz.underlying80 rfl infoTokM (w.heap.size + 1 + 1) [.int .u8 (a : Int), .int .i64 (l : Int), .int .i64 (d : Int)] 80 rfl rfl ?_ rfl ⟨rfl, ((((Mod.refl w _).alloc _).alloc _).alloc _)⟩
    have := Blk.new ((w.alloc (.cells #[.int .u8 (a : Int), .int .i64 (l : Int), .int .i64 (d : Int)] 80)).alloc (.cells #[.int .u8 (a2 : Int), .int .i64 (l2 : Int), .int .i64 (d2 : Int)] 80)) [.int .u8 (a : Int), .int .i64 (l : Int), .int .i64 (d : Int)] 80
    simpa using this
set_option maxHeartbeats 1600000 in
theorem sameM_any (v u : Value) (n m : Nat) (a b : List Nat) (w : World) (hv : Rd w 1 v n (u8s a)) (hu : Rd w 1 u m (u8s b)) (hmn : m ≤ n) (hn : n < 1000000000) :
    Calls Tryz.prog 90 #[v, u] w fun e w' => e = .returned (.int .i64 ((same a b : Nat) : Int)) ∧ ∃ k, w' = w.drewN k := by
  obtain ⟨ao, cap, rfl, _, _⟩ := hv.form
  obtain ⟨bo, cap2, rfl, _, _⟩ := hu.form
  have hna : n = a.length := by have := hv.1; rw [u8s_length] at this; omega
  have hmb : m = b.length := by have := hu.1; rw [u8s_length] at this; omega
  have HN := hid (And.intro hna hmb)
  have HV := hid hv
  have HU := hid hu
  have hm0 : (0 : Int) ≤ (m : Int) := Int.natCast_nonneg _
  have hmnI : (m : Int) ≤ (n : Int) := by omega
  have hif : (if m < n then (m : Int) else (n : Int)) = (m : Int) := by split <;> omega
  clear hna hmb hv hu
  go_enter Tryz.func90, Tryz.ntmps90
  go_wp2
  go_loopg [5] (m + 2) (fun g t5 wr => ∃ j c : Nat, j ≤ m ∧ m - j < g ∧ t5 = .int .i64 (j : Int) ∧ wr = w.drewN c ∧ Hid (∀ k, k < j → a[k]? = b[k]?))
  case atStart => exact ⟨0, 0, by omega, by omega, rfl, rfl, hid (fun k hk => by omega)⟩
  case round =>
    obtain ⟨j, c, hj, hg, rfl, rfl, HJ⟩ := hrel
    have hj0 : (0 : Int) ≤ (j : Int) := Int.natCast_nonneg _
    by_cases hjm : j < m
    · have hjI : (j : Int) < (m : Int) := by omega
      have hjn : (j : Int) < (n : Int) := by omega
      have hB1 : decide ((j : Int) < (m : Int)) = true := decide_eq_true hjI
      have hB2 : decide (j < m) = true := decide_eq_true hjm
      obtain ⟨x, hx⟩ : ∃ x, a[j]? = some x := ⟨a[j]'(by have := HN.out.1; omega), List.getElem?_eq_getElem _⟩
      obtain ⟨y, hy⟩ : ∃ y, b[j]? = some y := ⟨b[j]'(by have := HN.out.2; omega), List.getElem?_eq_getElem _⟩
      obtain ⟨g1, off1, rfl, f1⟩ := HV.out.spot (by omega)
      have e1 := f1 j (.int .u8 (x : Int)) (by rw [u8s_get, hx]; rfl)
      obtain ⟨g2, off2, rfl, f2⟩ := HU.out.spot (by omega)
      have e2 := f2 j (.int .u8 (y : Int)) (by rw [u8s_get, hy]; rfl)
      clear f1 f2
      have HX := hid (And.intro hx hy)
      clear hx hy
      by_cases hxy : x = y
      · subst hxy
        go_wp2
        go_quiet (fail)
        go_wp2
        go_roundg (gk - 1)
        case measure => omega
        case rel =>
          refine ⟨j + 1, _, by omega, by omega, by go_num, rfl, hid fun k hk => ?_⟩
          by_cases e : k = j
          · subst e; rw [HX.out.1, HX.out.2]
          · exact HJ.out k (by omega)
      · have hE := hid (show same a b = j from same_is (by have := HN.out.1; omega) (by have := HN.out.2; omega) HJ.out (fun _ _ => by rw [HX.out.1, HX.out.2]; simpa using hxy))
        have hne : ((x : Int) == (y : Int)) = false := by simp; omega
        have hne2 : decide ((x : Int) = (y : Int)) = false := by simp; omega
        have hne3 : (x == y) = false := by simpa using hxy
        have hne4 : decide (x = y) = false := by simpa using hxy
        go_wp2
        go_quiet (fail)
        go_wp2
        go_ret
        exact ⟨by rw [hE.out]; rfl, _, World.drewN_drewN _ _ _⟩
    · obtain rfl : j = m := by omega
      have hE := hid (show same a b = j from same_is (by have := HN.out.1; omega) (by have := HN.out.2; omega) HJ.out (fun _ h2 => by have := HN.out.2; omega))
      have hjI : ¬ (j : Int) < (j : Int) := by omega
      have hB1 : decide ((j : Int) < (j : Int)) = false := decide_eq_false hjI
      have hB2 : decide (j < j) = false := decide_eq_false (by omega)
      go_wp2
      go_quiet (fail)
      go_wp2
      go_ret
      exact ⟨by rw [hE.out]; rfl, _, World.drewN_drewN _ _ _⟩
end Go.Proofs.YtdmnfjicjjlnnaaGreatDoor
/-
  The landed finder learns places: the two maps change at each full window, the distances back are kept in a list.
-/
namespace Go.Proofs.YtdmnfjicjjlnnaaGreatDoor
set_option maxRecDepth 5000
open Go.RowKit
def backs (x : List Nat) (cut P : Nat) : List Nat := (List.range (P - cut)).map fun k => near 32768 x (cut + k)
theorem backs_length (x : List Nat) (cut P : Nat) : (backs x cut P).length = P - cut := by simp [backs]
theorem backs_snoc (x : List Nat) (cut P : Nat) (h : cut ≤ P) : backs x cut (P + 1) = backs x cut P ++ [near 32768 x P] := by
  unfold backs
  rw [show P + 1 - cut = P - cut + 1 by omega, List.range_succ, List.map_append, List.map_singleton, show cut + (P - cut) = P by omega]
theorem backs_get (x : List Nat) (cut P k : Nat) (h : k < P - cut) : (backs x cut P)[k]? = some (near 32768 x (cut + k)) := by simp [backs, h]
theorem backs_app (x y : List Nat) (cut P : Nat) (h : P = 0 ∨ P + 2 ≤ x.length) : backs (x ++ y) cut P = backs x cut P := by
  unfold backs
  refine List.map_congr_left fun k hk => ?_
  rw [List.mem_range] at hk
  exact near_app 32768 x y (cut + k) (by omega)
theorem backs_drop (x : List Nat) (cut n P : Nat) : (backs x cut P).drop n = backs x (cut + n) P := by
  refine List.ext_getElem? fun j => ?_
  rw [List.getElem?_drop]
  by_cases c : n + j < P - cut
  · rw [backs_get x cut P _ c, backs_get x (cut + n) P j (by omega), Nat.add_assoc]
  · rw [List.getElem?_eq_none (by rw [backs_length]; omega), List.getElem?_eq_none (by rw [backs_length]; omega)]
structure InpOK (x : List Nat) (cut P a : Nat) : Prop where
  cut_le : cut ≤ P
  room : P = 0 ∨ P + 2 ≤ x.length
  a_le : a ≤ P
  le_a : P ≤ a + 32768
  mod : a % 32768 = 0
  some : a < P ∨ P = 0
def inF (tr en la at' : Nat) (x : List Nat) (cut P a : Nat) (B : Place) : Thing := rawF tr en la at' cut (x.drop cut) (backs x cut P) (mLast x a P) (mOlder 32768 x a) P B
def inV (tr en la at' : Nat) (x : List Nat) (cut P a : Nat) (B : Place) (lv : Value) : Thing :=
  exT fun q : Value × Nat × Nat => allT (finL tr en la at' cut (x.drop cut) (backs x cut P) (mLast x a P) (mOlder 32768 x a) P B lv q.1 q.2.1 q.2.2)
section
variable {w0 w : World} {Rs : List Thing} {tr en la at' cut a P : Nat} {B : Place} {x : List Nat}
theorem unV {lv : Value} (H : Held w0 w (inV tr en la at' x cut P a B lv :: Rs)) : ∃ (bv : Value) (m1 m2 : Nat), Held w0 w (finL tr en la at' cut (x.drop cut) (backs x cut P) (mLast x a P) (mOlder 32768 x a) P B lv bv m1 m2 ++ Rs) := by
  obtain ⟨⟨bv, m1, m2⟩, h1⟩ := H.ex
  exact ⟨bv, m1, m2, h1.unall⟩
theorem mkV {lv : Value} (bv : Value) (m1 m2 : Nat) (H : Held w0 w (finL tr en la at' cut (x.drop cut) (backs x cut P) (mLast x a P) (mOlder 32768 x a) P B lv bv m1 m2 ++ Rs)) : Held w0 w (inV tr en la at' x cut P a B lv :: Rs) :=
  Held.mk (R := fun q : Value × Nat × Nat => allT (finL tr en la at' cut (x.drop cut) (backs x cut P) (mLast x a P) (mOlder 32768 x a) P B lv q.1 q.2.1 q.2.2)) (bv, m1, m2) H.all
theorem inF_V (H : Held w0 w (inF tr en la at' x cut P a B :: Rs)) : ∃ lv, Held w0 w (inV tr en la at' x cut P a B lv :: Rs) := by
  obtain ⟨lv, bv, m1, m2, h⟩ := unFin H
  exact ⟨lv, mkV bv m1 m2 h⟩
theorem inV_F {lv : Value} (H : Held w0 w (inV tr en la at' x cut P a B lv :: Rs)) : Held w0 w (inF tr en la at' x cut P a B :: Rs) := by
  obtain ⟨bv, m1, m2, h⟩ := unV H
  exact mkFin lv bv m1 m2 h
theorem perm45 {R1 R2 R3 R4 R5 : Thing} (H : Held w0 w (R1 :: R2 :: R3 :: R4 :: R5 :: Rs)) : Held w0 w (R1 :: R2 :: R3 :: R5 :: R4 :: Rs) :=
  H.perm (List.Perm.cons _ (List.Perm.cons _ (List.Perm.cons _ (List.Perm.swap _ _ _))))
theorem perm23 {R1 R2 R3 : Thing} (H : Held w0 w (R1 :: R2 :: R3 :: Rs)) : Held w0 w (R1 :: R3 :: R2 :: Rs) := H.perm (List.Perm.cons _ (List.Perm.swap _ _ _))
theorem perm4b {R1 R2 R3 R4 : Thing} (H : Held w0 w (R4 :: R1 :: R2 :: R3 :: Rs)) : Held w0 w (R1 :: R2 :: R3 :: R4 :: Rs) := H.fourth.fourth.fourth
theorem moreMap5 {R1 R2 R3 R4 : Thing} {v : Value} {g : List Nat → Option Nat} {n n' : Nat} (hn : n ≤ n') (H : Held w0 w (R1 :: R2 :: R3 :: R4 :: mapS v g n :: Rs)) : Held w0 w (R1 :: R2 :: R3 :: R4 :: mapS v g n' :: Rs) :=
  perm45 (perm4b ((perm45 H).fourth.moreMap hn))
set_option maxHeartbeats 3200000 in
theorem learn_any {lv : Value} (H : Held w0 w (inV tr en la at' x cut P a B lv :: Rs)) (HI : InpOK x cut P a) (I : Nat) (hcI : cut ≤ I) (hI : I = 0 ∨ I + 2 ≤ x.length) (hlen : x.length < 1000000000) (hb : ∀ b ∈ x, b < 256) :
    Calls Tryz.prog 87 #[.pointer (some ⟨B.b, B.o + 3, none⟩), .int .i64 ((I - cut : Nat) : Int)] w fun e w' => e = .returned (.tuple #[]) ∧ ∃ a', InpOK x cut (max P I) a' ∧ Held w0 w' (inV tr en la at' x cut (max P I) a' B lv :: Rs) := by
  obtain ⟨i0, hi0, hz0, hz1, hz2⟩ := info_parts infoByteM
  obtain ⟨i1, hi1, hy0, hy1, hy2⟩ := info_parts infoU16M
  obtain ⟨i, hi⟩ : ∃ i, i = I - cut := ⟨_, rfl⟩
  rw [← hi]
  have hiI : I = cut + i := by omega
  have hIx : 0 < i → cut + i + 2 ≤ x.length := fun h => by omega
  have HII := hid hiI
  have HI1 := hid HI
  have HH := hid H
  obtain ⟨k0, hk0⟩ : ∃ k0, k0 = P - cut := ⟨_, rfl⟩
  obtain ⟨bv, m1, m2, HF⟩ := unV H
  obtain ⟨hB, _, hO, _, _⟩ := finAll HF
  have hbl := backs_length x cut P
  rw [hbl, ← hk0] at hO
  have hPk : P = cut + k0 := by have := HI.cut_le; omega
  obtain ⟨ao, cap, rfl, _, _⟩ := hO.form
  have c7 := hB.cell (i := 7) rfl
  have HPK := hid hPk
  clear hB hO HF H hi HI hbl hk0 hPk hI hiI hcI
  go_enter Tryz.func87, Tryz.ntmps87
  go_wp2
  go_loopg [4, 5] (i + 2) (fun gg t4 t5 wr => ∃ (k a1 : Nat), k0 ≤ k ∧ (k = k0 ∨ k ≤ i) ∧ i + 1 - k < gg ∧ t4 = .int .i64 (k : Int) ∧ Hid (InpOK x cut (cut + k) a1) ∧ Hid (Held w0 wr (inV tr en la at' x cut (cut + k) a1 B lv :: Rs)))
  case atStart => exact ⟨k0, a, Nat.le_refl _, .inl rfl, by omega, rfl, by rw [← HPK.out]; exact HI1, by rw [← HPK.out]; exact HH⟩
  case round =>
    obtain ⟨k, a1, hk0, hk, hg, rfl, HI2, HR⟩ := hrel
    have hkn : (0 : Int) ≤ (k : Int) := Int.natCast_nonneg _
    by_cases hki : k < i
    · have hkI : (k : Int) < (i : Int) := by omega
      obtain ⟨p, hp⟩ : ∃ p, p = cut + k := ⟨_, rfl⟩
      rw [← hp] at HI2 HR
      have hpI : (cut : Int) + (k : Int) = (p : Int) := by omega
      have hp3 : p + 3 ≤ x.length := by have := hIx (by omega); omega
      have hpb : p < 1000000000 := by omega
      have hp0 : (0 : Int) ≤ (p : Int) := Int.natCast_nonneg _
      have hkp : k = p - cut := by omega
      obtain ⟨bv, m1, m2, HF⟩ := unV HR.out
      obtain ⟨hB, hO1, hO2, hM1, hM2⟩ := finAll HF
      have HB := hid hB
      have c4 := hB.cell (i := 4) rfl
      have c5 := hB.cell (i := 5) rfl
      have c6 := hB.cell (i := 6) rfl
      have f5 := hB.frozen 5
      have f6 := hB.frozen 6
      have HP := hid hp
      have HKP := hid hkp
      obtain ⟨r, hr⟩ : ∃ r, r = p % 32768 := ⟨_, rfl⟩
      have hrI : (p : Int) % 32768 = (r : Int) := by omega
      have hrT : (p : Int).tmod 32768 = (r : Int) := by rw [hr]; rfl
      have HRr := hid hr
      clear hp hkp hB hr
      have HFx := hid HF
      go_upto_if 24 with (fail)
      go_cut [5] (fun s5 wx => s5 = .int .i64 (p : Int) ∧ ∃ (a2 n1 n2 : Nat), a2 ≤ p ∧ p < a2 + 32768 ∧ Hid (a2 % 32768 = 0) ∧ a2 < p + 1 ∧ Hid (Held w0 wx (finL tr en la at' cut (x.drop cut) (backs x cut p) (mLast x a2 p) (mOlder 32768 x a2) p B lv bv n1 n2 ++ Rs)))
      case first =>
        by_cases hr0 : r = 0
        · have hr0I : ((r : Int) == 0) = true := by subst hr0; rfl
          subst hr0
          have hpa : (p = 0 ∧ a1 = 0) ∨ p = a1 + 32768 := by
            have h1 := HI2.out.a_le
            have h2 := HI2.out.le_a
            have h3 := HI2.out.mod
            have h4 := HI2.out.some
            have h5 := HRr.out
            omega
          have HG : Hid (mOlder 32768 x p = mLast x a1 p) := by
            rcases hpa with ⟨e1, e2⟩ | e1
            · subst e1; subst e2; exact hid (by rw [mLast_zero, mOlder_zero])
            · subst e1; exact hid (mOlder_new _ _ _)
          clear hpa
          go_wp2
          go_region
          have h5 := ((HFx.out.setObjP 5 (.map (some m2))).setObjP 6 (.map (some m1))).drew
          have h6 : Held w0 _ (mapS (.map (some m2)) (mOlder 32768 x a1) p :: objP B (finV tr en la lv cut (.map (some m2)) (.map (some m1)) bv at') :: ownT 5 1 lv (x.drop cut).length (u8s (x.drop cut)) :: ownT 23 1 bv (backs x cut p).length (nums .u16 (backs x cut p)) :: mapS (.map (some m1)) (mLast x a1 p) p :: Rs) := (perm45 h5).fourth
          have H6 := hid h6
          clear h5 h6
          go_wp2_with (refine wpList_clear_held rfl (.tmp 42) rfl Tryz.underlying54 rfl H6.out ?_; intro w7 h7; have H7 := hid h7; clear h7)
          go_meet
          case rel =>
            refine ⟨rfl, p, m2, m1, Nat.le_refl _, by omega, hid ?_, by omega, hid ?_⟩
            · have := HRr.out; omega
            · rw [mLast_new, HG.out]
              exact perm4b (H7.out.moreMap (Nat.zero_le _))
        · have hr0I : ((r : Int) == 0) = false := by simp; omega
          go_wp2
          go_meet
          case rel =>
            have h1 := HI2.out.a_le
            have h2 := HI2.out.le_a
            have h3 := HI2.out.mod
            exact ⟨rfl, a1, m1, m2, h1, by have := HRr.out; omega, hid h3, by omega, HFx⟩
      case rest =>
        obtain ⟨rfl, a2, n1, n2, h1, h2, h3, h4, H8⟩ := hcut
        obtain ⟨hB, hO1, hO2, hM1, hM2⟩ := finAll H8.out
        obtain ⟨D, hD⟩ : ∃ D, D = near 32768 x p := ⟨_, rfl⟩
        have hDle : D ≤ 32768 := by rw [hD]; exact (near_le _ _ _).1
        have hN := nearest_any (mkFin _ _ _ _ H8.out.drew) (by have := HP.out; omega) hp3 hlen h1 hb
        rw [← hD, ← HKP.out] at hN
        have HN := hid hN
        have hb2 := backs_length x cut p
        rw [hb2, ← HKP.out] at hO2
        have hb2' := hb2
        obtain ⟨bo, bcap, rfl, hbc, hbm⟩ := hO2.form
        have HB := hid hB
        have HO := hid hO2
        have c7 := hB.cell (i := 7) rfl
        have f7 := hB.frozen 7
        have hD0 : (0 : Int) ≤ (D : Int) := Int.natCast_nonneg _
        have hDw : IntKind.u16.wrap (D : Int) = (D : Int) := IntWalk.u16_in _ (by omega)
        have HDD := hid hD
        have hH8 : Held w0 wc (objP B (finV tr en la lv cut (.map (some n1)) (.map (some n2)) (.slice bo k bcap) at') :: ownT 5 1 lv (x.drop cut).length (u8s (x.drop cut)) :: ownT 23 1 (.slice bo k bcap) (backs x cut p).length (nums .u16 (backs x cut p)) :: mapS (.map (some n1)) (mLast x a2 p) p :: mapS (.map (some n2)) (mOlder 32768 x a2) p :: Rs) := H8.out
        have HA := hid hH8.third.swap.apartP
        have H8' := hid hH8
        rw [hb2', ← HKP.out] at H8'
        clear hb2 hb2' hH8 hN hB hO1 hO2 hM1 hM2 HF HFx hD c4 c5 c6 f5 f6
        go_upto_region 7 with (fail)
        go_cut [5] (fun s5 wx => s5 = .int .i64 (p : Int) ∧ ∃ (bo' : Option Addr) (bcap' : Nat), Hid (Held w0 wx (objP B (finV tr en la lv cut (.map (some n1)) (.map (some n2)) (.slice bo' (k + 1) bcap') at') :: ownT 5 1 lv (x.drop cut).length (u8s (x.drop cut)) ::
          ownT 23 1 (.slice bo' (k + 1) bcap') (k + 1) (nums .u16 (backs x cut (p + 1))) :: mapS (.map (some n1)) (mLast x a2 p) p :: mapS (.map (some n2)) (mOlder 32768 x a2) p :: Rs)))
        case first =>
          go_wp2
          go_region_law ((first
            | (refine step_app _ (by rfl) (.tmp 47) (.tmp 52) 55 (by rfl) 23 i1 (.int .u16 0) 1 2 Tryz.underlying55 hi1 hy0 hy1 hy2 (by rfl) (by decide) (.slice bo k bcap) k (nums .u16 (backs x cut p)) (by rfl) (by exact (HO5.out.alloc _)) (.slice (some ⟨w5.heap.size, 0, none⟩) 1 1) 1 (nums .u16 [D]) (by rfl) (by exact (Rd.lit w5 [_] _ 1 1 (by decide) rfl)) (nums_one _ _) (by unfold maxLen; omega) (by omega) ?_; intro ao1 cap1 w6 hown1 hgrow hat; have HB6 := hid ((HB5.out.alloc _).grown hgrow HA.out); have c67 := HB6.out.cell (i := 7) rfl; have f67 := HB6.out.frozen 7; have H6 := hid (((H9.out.alloc _).third.app hown1 hgrow hat).swap.setObjP 7 (.slice ao1 (k + 1) cap1)); clear hown1 hgrow hat)
            | (go_simp; go_at_call 88; refine HN.out.mono ?_; rintro e w5 ⟨rfl, m5⟩; have H9 := hid (H8'.out.drew.same m5); have HB5 := hid (HB.out.drew.kept m5 (fun h => h)); have HO5 := hid (HO.out.drew.kept m5 (fun _ _ h => h)); have d7 := HB5.out.cell (i := 7) rfl; have g7 := HB5.out.frozen 7; have da7 : ∀ o, (w5.alloc o).cell? ⟨B.b, B.o + 7, none⟩ = some (.slice bo k bcap) := fun o => (HB5.out.alloc o).cell (i := 7) rfl; clear m5)))
          all_goals
            go_wp2
            go_meet
            case rel =>
              refine ⟨rfl, ao1, cap1, hid ?_⟩
              have h6 := perm23 H6.out
              have e : nums .u16 (backs x cut p) ++ nums .u16 [D] = nums .u16 (backs x cut (p + 1)) := by
                rw [backs_snoc x cut p (by have := HP.out; omega), ← HDD.out]; simp [nums]
              rw [e] at h6
              exact h6
        case rest =>
          obtain ⟨rfl, bo', bcap', H10⟩ := hcut
          have hB := H10.out.objp
          have HB := hid hB
          have hO1 := H10.out.drop.own
          obtain ⟨b4, e4, hM⟩ := H10.out.drop.drop.drop.map
          simp only [Value.map.injEq, Option.some.injEq] at e4
          subst e4
          have HM1 := hid hM
          obtain ⟨L, hL⟩ : ∃ L, L = (x.drop cut).length := ⟨_, rfl⟩
          have hLx : L = x.length - cut := by rw [hL, List.length_drop]
          rw [← hL] at hO1
          have hkL : k ≤ L := by omega
          obtain ⟨lo, lcap, rfl, hlc, hlm⟩ := hO1.form
          have c3 := hB.cell (i := 3) rfl
          have c5 := hB.cell (i := 5) rfl
          have hcutE : ∀ wg, (Instr.sliceAt 22 (.slice lo L lcap) (some (.int .i64 (k : Int))) none none).run Tryz.prog wg = .ok (.slice (if lcap = k then lo else lo.map fun (x : Addr) => x.add (k * 1)) (L - k) (lcap - k)) wg := fun wg =>
            run_cut (P := Tryz.prog) 22 5 i0 1 Tryz.underlying22 hi0 hz1 lo L lcap k L (some (.int .i64 (k : Int))) none ⟨_, rfl⟩ rfl hkL hlc
          have hrd := hO1.rd.cut (L := k) (H := L) hkL (Nat.le_refl _)
          unfold sliced at hrd
          generalize (if lcap = k then lo else lo.map fun (x : Addr) => x.add (k * 1)) = lo' at hcutE hrd
          have e2 : ((u8s (x.drop cut)).drop (k * 1)).take ((L - k) * 1) = u8s (x.drop p) := by
            rw [Nat.mul_one, Nat.mul_one, List.take_of_length_le (by rw [List.length_drop, u8s_length, ← hL]; omega)]
            simp only [u8s, ← List.map_drop, List.drop_drop]
            rw [HP.out]
          rw [e2] at hrd
          obtain ⟨K, hK⟩ : ∃ K, K = L - k := ⟨_, rfl⟩
          rw [← hK] at hrd hcutE
          have hS := startOf_any _ K (x.drop p) wc.drew hrd.drew (by have := HP.out; omega)
          obtain ⟨s0, s1, s2, hs, hg⟩ := at3_good hp3 hb
          have hs3 : (x.drop p).take 3 = [s0, s1, s2] := hs
          rw [hs3] at hS
          have HS : Hid (Calls Tryz.prog 112 _ wc.drew fun e w' => e = .returned (.agg #[.int .u8 (s0 : Int), .int .u8 (s1 : Int), .int .u8 (s2 : Int)]) ∧ Mod wc.drew w' (fun _ => False)) := hS
          have HST : Hid (∀ w5, Mod wc.drew w5 (fun _ => False) → ∃ w7, (Instr.mapUpdate 54 (.map (some n1)) (.agg #[.int .u8 (s0 : Int), .int .u8 (s1 : Int), .int .u8 (s2 : Int)]) (.int .i64 (p : Int))).run Tryz.prog w5 = .ok () w7 ∧
              MapIs (arrV .u8) goodS (fun p : Nat => .int .i64 (p : Int)) w7 n1 (mLast x a2 (p + 1)) (p + 1) ∧ Mod w5 w7 (fun j => j = n1)) := hid fun w5 m5 => by
            have hm : MapIs (arrV .u8) goodS (fun p : Nat => .int .i64 (p : Int)) wc.drew n1 (mLast x a2 p) p := hM
            rw [hs] at hg
            exact (hm.kept m5 (fun h => h)).store startKey (t := 54) Tryz.underlying54 [s0, s1, s2] hg p (mLast x a2 (p + 1)) (by rw [mLast_learn x a2 p h1, hs]; exact if_pos rfl) (fun s' hs' => by rw [mLast_learn x a2 p h1, hs]; exact if_neg hs')
          have HSG := hid (And.intro hs hg)
          have HL := hid hL
          clear hS hs hg hs3 hrd e2 hK hL hLx hO1 hB hM H8 HN HO
          go_wp2
          go_region_law ((first
            | (go_simp; go_at_call 112; refine HS.out.mono ?_; rintro e w5 ⟨rfl, m5⟩; have H11 := hid (H10.out.drew.same m5); have HB5 := hid (HB.out.drew.kept m5 (fun h => h)); have d3 := HB5.out.cell (i := 3) rfl; have d5 := HB5.out.cell (i := 5) rfl
               obtain ⟨w7, hrun, hM7, hm7⟩ := HST.out w5 m5
               have HM7 := hid hM7; have Hm7 := hid hm7; clear m5 hM7 hm7)))
          all_goals
            have h6 : Held w0 w5 (mapT (arrV .u8) goodS (fun p : Nat => .int .i64 (p : Int)) (.map (some n1)) (mLast x a2 p) p :: objP B (finV tr en la (.slice lo L lcap) cut (.map (some n1)) (.map (some n2)) (.slice bo' (k + 1) bcap') at') ::
                ownT 5 1 (.slice lo L lcap) (x.drop cut).length (u8s (x.drop cut)) :: ownT 23 1 (.slice bo' (k + 1) bcap') (k + 1) (nums .u16 (backs x cut (p + 1))) :: mapS (.map (some n2)) (mOlder 32768 x a2) p :: Rs) := H11.out.fourth
            have h7 := moreMap5 (n' := p + 1) (by omega) (perm4b (h6.putMap HM7.out Hm7.out))
            have hl : (backs x cut (p + 1)).length = k + 1 := by rw [backs_length]; have := HP.out; omega
            rw [← hl] at h7
            have H12 := hid (mkV _ _ _ h7)
            have hI9 : Hid (InpOK x cut (p + 1) a2) := hid ⟨by have := HP.out; omega, .inr (by omega), by omega, by omega, h3.out, .inl h4⟩
            have hpk : Hid (p + 1 = cut + (k + 1)) := hid (by have := HP.out; omega)
            clear h6 h7 hl H11 HB5 HM7 Hm7 hrun d3 d5
            go_wp2
            go_roundg (gk - 1)
            case measure => omega
            case rel =>
              refine ⟨k + 1, a2, by omega, .inr (by omega), by omega, by go_num, ?_, ?_⟩
              · rw [← hpk.out]; exact hI9
              · rw [← hpk.out]; exact H12
    · have hkI : ¬ (k : Int) < (i : Int) := by omega
      have hmax : Hid (cut + k = max P I) := hid (by have := HPK.out; have := HII.out; omega)
      rw [hmax.out] at HI2 HR
      go_wp2
      go_end0
      exact ⟨rfl, a1, HI2.out, HR.out⟩
end
end Go.Proofs.YtdmnfjicjjlnnaaGreatDoor
