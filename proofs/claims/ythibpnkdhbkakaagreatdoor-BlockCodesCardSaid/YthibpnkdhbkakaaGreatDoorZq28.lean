/-
  The rows of items, each sorted: the symbols and the packages of the row before.
-/
import Derived.Test.YthibpnkdhbkakaaGreatDoorZq27
import Derived.Deep.DeepCutAuto
import Derived.Test.YthibpnkdhbkakaaGreatDoorZq24
namespace Go.Proofs.YthibpnkdhbkakaaGreatDoor
set_option maxRecDepth 5000
open Go.RowKit

def rowI (s : List Itm) : Nat → List Itm
  | 0 => []
  | t + 1 => ssort (s ++ packI (rowI s t))
theorem rowI_length (s : List Itm) : ∀ t, (rowI s t).length ≤ 2 * s.length
  | 0 => by simp [rowI]
  | t + 1 => by
    have := rowI_length s t
    rw [rowI, ssort_length, List.length_append, packI_length]; omega
theorem packI_mem : ∀ (l : List Itm) (x : Itm), x ∈ packI l → ∃ a b, a ∈ l ∧ b ∈ l ∧ x = (a.1 + b.1, -1)
  | [], x, h => by simp [packI] at h
  | [a], x, h => by simp [packI] at h
  | a :: b :: l, x, h => by
    rw [packI] at h
    rcases List.mem_cons.1 h with h | h
    · exact ⟨a, b, by simp, by simp, h⟩
    · obtain ⟨c, d, h1, h2, h3⟩ := packI_mem l x h
      exact ⟨c, d, by simp [h1], by simp [h2], h3⟩
theorem rowI_le (s : List Itm) (hs : ∀ x ∈ s, x.1 ≤ 1048576) : ∀ t, ∀ x ∈ rowI s t, x.1 ≤ 1048576 * 2 ^ t
  | 0, x, h => by simp [rowI] at h
  | t + 1, x, h => by
    rw [rowI] at h
    have hp : 1 ≤ 2 ^ t := Nat.one_le_two_pow
    rw [Nat.pow_succ]
    rcases List.mem_append.1 ((ssort_perm _).mem_iff.1 h) with h | h
    · have := hs x h; omega
    · obtain ⟨a, b, ha, hb, rfl⟩ := packI_mem _ _ h
      have h1 := rowI_le s hs t a ha
      have h2 := rowI_le s hs t b hb
      show a.1 + b.1 ≤ _
      omega
def mT (ms : List (Value × List Itm)) : List Thing := ms.map fun r => itmT r.1 r.2
theorem infoRow : (Tryz.prog.info? 113).map (fun i => (i.zero, i.size, i.bytes)) = some (some (.slice none 0 0), 1, 24) := by kernel_rfl
theorem set_mid (A C : List Value) (x y : Value) (n : Nat) (h : A.length = n) : (A ++ x :: C).set n y = A ++ y :: C := by
  rw [← h, List.set_append_right _ _ (Nat.le_refl _), Nat.sub_self]; rfl
theorem Held.rowAt {w0 w : World} {e : TypeId} {B m c : Nat} {xs : List Value} {Rs : List Thing} (h : Held w0 w (ownT e 1 (.slice (some ⟨B, 0, none⟩) m c) m xs :: Rs)) {i : Nat} {u : Value} (hu : xs[i]? = some u) (hm : 0 < m) : w.cell? ⟨B, i, none⟩ = some u := by
  obtain ⟨g, off, hg, hcell, _, _⟩ := h.own.site hm
  simp only [Option.some.injEq, Addr.mk.injEq, and_true] at hg
  obtain ⟨rfl, rfl⟩ := hg
  have := hcell i u hu
  rw [Nat.zero_add] at this; exact this
theorem mid_get (A C : List Value) (y : Value) (n : Nat) (h : A.length = n) : (A ++ y :: C)[n]? = some y := by
  rw [← h, List.getElem?_append_right (Nat.le_refl _), Nat.sub_self]; rfl
set_option maxHeartbeats 1600000 in
theorem rows_any (n m : Nat) (S : List Itm) (sv : Value) (w0 w : World) (Rs : List Thing) (h : Held w0 w (itmT sv S :: Rs)) (hn : S.length = n) (hn0 : 0 < n) (hN2 : n ≤ 1000) (hm : m ≤ 15) (hw : ∀ x ∈ S, x.1 ≤ 1048576) :
    Calls Tryz.prog 70 #[sv, .int .i64 (m : Int)] w fun e w' => ∃ (B : Nat) (ms : List (Value × List Itm)), e = .returned (.slice (some ⟨B, 0, none⟩) m m) ∧ ms.length = m ∧ ms.map (·.2) = (List.range m).map (fun t => rowI S (t + 1)) ∧
      Held w0 w' (ownT 113 1 (.slice (some ⟨B, 0, none⟩) m m) m (ms.map (·.1)) :: itmT sv S :: (mT ms ++ Rs)) := by
  obtain ⟨i0, hi, hz0, hz1, hz2⟩ := info_parts infoRow
  obtain ⟨so, sc, rfl, hc1, hc2⟩ := itm_form h
  have HL : Hid (S.length = n ∧ ∀ x ∈ S, x.1 ≤ 1048576) := hid ⟨hn, hw⟩
  rw [hn] at h hc1 ⊢
  have H := hid h
  have hm0 : (0 : Int) ≤ (m : Int) := Int.natCast_nonneg _
  clear h hn hw
  go_enter Tryz.func70, Tryz.ntmps70
  go_wp2_with ((with_reducible show wpList _ _ _ (⟨some 9, _, _, _, _, _⟩ :: _) _ _); refine wpList_make_own rfl 118 (.tmp 8) (.tmp 8) rfl 113 i0 (.slice none 0 0) 1 Tryz.underlying118 hi hz0 hz1 .i64 m rfl rfl (by rw [hz2]; omega) (by unfold maxLen; omega) ?_; intro v1 w1 zs ho1 hm1 hf1 hv1 hzs; rw [made_cells _ _ rfl] at hzs; subst hzs; subst hv1; have HH1 := hid (H.out.pushOwn ho1 hm1 hf1); clear hm1 hf1 ho1)
  generalize w.heap.size = B at HH1 ⊢
  go_loopg [6, 12] (m + 1) (fun k t6 t12 wr => ∃ (i : Nat) (ms : List (Value × List Itm)), i ≤ m ∧ m - i < k ∧ t12 = .int .i64 (i : Int) ∧ Hid (ms.length = i ∧ ms.map (·.2) = (List.range i).map (fun t => rowI S (t + 1))) ∧
    Hid (Held w0 wr (ownT 113 1 (.slice (some ⟨B, 0, none⟩) m m) m (ms.map (·.1) ++ List.replicate (m - i) (.slice none 0 0)) :: itmT t6 (packI (rowI S i)) :: itmT (.slice so n sc) S :: (mT ms ++ Rs))))
  case atStart =>
    refine ⟨0, [], by omega, by omega, rfl, hid ⟨rfl, rfl⟩, ?_⟩
    have h := (HH1.out.nil 116 2).swap
    exact hid h
  case round =>
    obtain ⟨i, ms, him, hk, rfl, HE, HH⟩ := hrel
    have h1 : (0 : Int) ≤ (i : Int) := Int.natCast_nonneg _
    by_cases hlt : i < m
    · have hltI : (i : Int) < (m : Int) := by omega
      obtain ⟨po, pc, rfl, hp1, hp2⟩ := itm_form HH.out.swap
      obtain ⟨k, hk0⟩ : ∃ k, k = (packI (rowI S i)).length := ⟨_, rfl⟩
      rw [← hk0] at hp1 HH ⊢
      have hkk : k ≤ n := by
        have := rowI_length S i
        rw [packI_length] at hk0
        have := HL.out.1
        omega
      have hh := HH.out.lit 113 1 [.slice so n sc, .slice po k pc] 2 (by decide) rfl
      have HC0 := hid hh.fourth.fourth.swap.third
      have HK := hid hk0.symm
      clear hh hk0
      go_wp2_with fail
      refine (concat_any n k _ S (packI (rowI S i)) _ _ w0 _ _ HC0.out HL.out.1 HK.out hn0 (by omega)).mono ?_
      rintro e w2 ⟨v, rfl, hh⟩
      obtain ⟨N, hN⟩ : ∃ N, N = (S ++ packI (rowI S i)).length := ⟨_, rfl⟩
      have hNn : N ≤ 2 * n := by
        rw [List.length_append, HL.out.1, HK.out] at hN; omega
      obtain ⟨vo, vc, rfl, hv1, hv2⟩ := itm_form hh
      rw [← hN] at hv1 hh ⊢
      have HNN := hid hN.symm
      have HS := hid hh.swap.drop.third.drop.third
      clear hh HC0 HH hN
      obtain ⟨g, off, hg, hcell, hfr, hput⟩ := HS.out.own.site (by omega)
      simp only [Option.some.injEq, Addr.mk.injEq, and_true] at hg
      obtain ⟨rfl, rfl⟩ := hg
      have hl1 : (List.map (fun x : Value × List Itm => x.1) ms).length = i := by rw [List.length_map]; exact HE.out.1
      have hrep : List.replicate (m - i) (Value.slice none 0 0) = .slice none 0 0 :: List.replicate (m - (i + 1)) (.slice none 0 0) := by
        rw [show m - i = (m - (i + 1)) + 1 by omega, List.replicate_succ]
      have hci := hcell i _ (by rw [hrep, List.getElem?_append_right (by omega), hl1, Nat.sub_self]; rfl)
      have hfi := hfr i
      have HP := hid (HS.out.putOwn (hput i (.slice vo N vc) hlt) (Mod.set w2 B (0 + i) _))
      have HSET : Hid ((List.map (fun x : Value × List Itm => x.1) ms ++ List.replicate (m - i) (Value.slice none 0 0)).set i (.slice vo N vc) = List.map (fun x : Value × List Itm => x.1) ms ++ (.slice vo N vc :: List.replicate (m - (i + 1)) (.slice none 0 0))) := by
        rw [hrep]; exact hid (set_mid _ _ _ _ _ hl1)
      have HP2 := HP.out
      rw [HSET.out] at HP2
      simp only [Nat.zero_add] at HP2 hci hfi
      have HQ := hid HP2
      have HLI := hid hl1
      clear hcell hfr hput hrep HP HP2 HS hl1
      go_upto_region 7 with (fail)
      generalize w2.setCell ⟨B, i, none⟩ (.slice vo N vc) = w3 at HQ ⊢
      have c1 := HQ.out.rowAt (mid_get _ _ _ _ HLI.out) (by omega)
      clear hci hfi
      go_wp2_with fail
      refine (sortrow_any N _ _ w0 _ _ HQ.out.swap HNN.out (by omega)).mono ?_
      rintro e w4 ⟨rfl, hh⟩
      have HQ2 := hid hh.swap
      clear hh HQ c1
      have c1 := HQ2.out.rowAt (mid_get _ _ _ _ HLI.out) (by omega)
      have HWB : Hid (∀ x ∈ rowI S (i + 1), x.1 ≤ 1099511627776) := by
        refine hid fun x hx => ?_
        have h := rowI_le S HL.out.2 (i + 1) x hx
        have h2 : 2 ^ (i + 1) ≤ 2 ^ 15 := Nat.pow_le_pow_right (by decide) (by omega)
        have h3 : 1048576 * 2 ^ (i + 1) ≤ 1048576 * 2 ^ 15 := Nat.mul_le_mul_left _ h2
        omega
      go_wp2_with fail
      refine (pack_any N (ssort (S ++ packI (rowI S i))) _ w0 _ _ HQ2.out.swap (by rw [ssort_length]; exact HNN.out) (by omega) HWB.out).mono ?_
      rintro e w5 ⟨pv, rfl, hh⟩
      have h5 := hh.third
      have h6 := h5.perm ((((List.Perm.swap _ _ _).cons _).cons _).trans (((List.perm_middle.symm.cons _).cons _).cons _))
      have HF : Hid (Held w0 w5 (ownT 113 1 (.slice (some ⟨B, 0, none⟩) m m) m ((ms ++ [(Value.slice vo N vc, rowI S (i + 1))]).map (·.1) ++ List.replicate (m - (i + 1)) (.slice none 0 0)) :: itmT pv (packI (rowI S (i + 1))) :: itmT (.slice so n sc) S :: (mT (ms ++ [(Value.slice vo N vc, rowI S (i + 1))]) ++ Rs))) := by
        have e1 : (ms ++ [((.slice vo N vc : Value), rowI S (i + 1))]).map (·.1) ++ List.replicate (m - (i + 1)) (.slice none 0 0) = List.map (fun x : Value × List Itm => x.1) ms ++ .slice vo N vc :: List.replicate (m - (i + 1)) (.slice none 0 0) := by simp
        have e2 : mT (ms ++ [((.slice vo N vc : Value), rowI S (i + 1))]) ++ Rs = mT ms ++ itmT (.slice vo N vc) (rowI S (i + 1)) :: Rs := by simp [mT]
        rw [e1, e2]
        exact hid h6
      clear hh h5 h6 HQ2 c1
      go_wp2
      go_roundg (gk - 1)
      case measure => omega
      case rel =>
        refine ⟨i + 1, ms ++ [(Value.slice vo N vc, rowI S (i + 1))], by omega, by omega, by go_num, hid ⟨by simp; exact HE.out.1, ?_⟩, HF⟩
        rw [List.map_append, HE.out.2, List.range_succ, List.map_append]; rfl
    · have hltI : ¬ (i : Int) < (m : Int) := by omega
      obtain rfl : i = m := by omega
      have HF : Hid (Held w0 wr (ownT 113 1 (.slice (some ⟨B, 0, none⟩) i i) i (ms.map (·.1)) :: itmT (.slice so n sc) S :: (mT ms ++ Rs))) := by
        have h := HH.out
        rw [Nat.sub_self, List.replicate_zero, List.append_nil] at h
        exact hid h.swap.drop
      go_wp2
      go_ret
      exact ⟨B, rfl, ms, HE.out.1, HE.out.2, HF⟩
end Go.Proofs.YthibpnkdhbkakaaGreatDoor
/-
  The lengths shared out: the walk.
-/
namespace Go.Proofs.YthibpnkdhbkakaaGreatDoor
set_option maxRecDepth 5000
open Go.RowKit
attribute [local go_sem] Oper.semAt_some

def packsN (l : List Itm) : Nat := l.countP fun x => decide (x.2 = -1)
def symsN (l : List Itm) (i : Nat) : Nat := l.countP fun x => decide (x.2 = (i : Int))
/-- when k rows are over: how many of the next row, and the lengths so far -/
def stS (rl : Nat → List Itm) (m K0 : Nat) : Nat → Nat × (Nat → Nat)
  | 0 => (K0, fun _ => 0)
  | k + 1 => (2 * packsN ((rl (m - 1 - k)).take (stS rl m K0 k).1), fun i => (stS rl m K0 k).2 i + symsN ((rl (m - 1 - k)).take (stS rl m K0 k).1) i)
def gNums (N : Nat) (G : Nat → Nat) : List Value := nums .i64 ((List.range N).map G)
theorem gNums_get (N : Nat) (G : Nat → Nat) (i : Nat) (h : i < N) : (gNums N G)[i]? = some (.int .i64 (G i : Int)) := by simp [gNums, nums_get, h]
theorem gNums_set (N : Nat) (G : Nat → Nat) (i u : Nat) : (gNums N G).set i (.int .i64 (u : Int)) = gNums N (fun j => if j = i then u else G j) := by
  unfold gNums
  rw [nums_set]
  congr 1
  refine List.ext_getElem? fun j => ?_
  rw [List.getElem?_set]
  by_cases hj : j < N
  · by_cases e : i = j
    · subst e
      rw [if_pos rfl, if_pos (by simpa using hj)]
      simp [hj]
    · rw [if_neg e]
      simp [hj, show ¬ j = i from fun h => e h.symm]
  · by_cases e : i = j
    · subst e
      rw [if_pos rfl, if_neg (by simpa using hj), List.getElem?_eq_none (by simp; omega)]
    · rw [if_neg e, List.getElem?_eq_none (by simp; omega), List.getElem?_eq_none (by simp; omega)]
theorem packsN_snoc (l : List Itm) (x : Itm) : packsN (l ++ [x]) = packsN l + (if x.2 = -1 then 1 else 0) := by
  unfold packsN; rw [List.countP_append]; simp [List.countP_cons]
theorem symsN_snoc (l : List Itm) (x : Itm) (i : Nat) : symsN (l ++ [x]) i = symsN l i + (if x.2 = (i : Int) then 1 else 0) := by
  unfold symsN; rw [List.countP_append]; simp [List.countP_cons]
theorem packsN_le (l : List Itm) : packsN l ≤ l.length := List.countP_le_length
theorem symsN_le (l : List Itm) (i : Nat) : symsN l i ≤ l.length := List.countP_le_length
theorem stS_le (rl : Nat → List Itm) (m K0 : Nat) (h : ∀ t, (rl t).length ≤ 1000) (i : Nat) : ∀ k, (stS rl m K0 k).2 i ≤ 1000 * k
  | 0 => Nat.le_refl _
  | k + 1 => by
    have h1 := stS_le rl m K0 h i k
    have h2 := symsN_le ((rl (m - 1 - k)).take (stS rl m K0 k).1) i
    have h3 := h (m - 1 - k)
    rw [List.length_take] at h2
    show (stS rl m K0 k).2 i + _ ≤ _
    omega
/-- what holds when k rows are over -/
def ShI (w3 : World) (gl B3 N cap off : Nat) (st : Nat → Nat × (Nat → Nat)) (k : Nat) (W : World) : Prop :=
  Mod w3 W (fun j => j = gl ∨ j = B3) ∧ Own W 3 1 (.slice (some ⟨gl, off, none⟩) N cap) N (gNums N (st k).2) ∧ Blk W B3 [.int .i64 ((st k).1 : Int)] 3
theorem ShI.far {w3 : World} {gl B3 N cap off : Nat} {st : Nat → Nat × (Nat → Nat)} {k : Nat} {W W' : World} (h : ShI w3 gl B3 N cap off st k W) (hb : Below w3.heap.size W W') (h1 : gl < w3.heap.size) (h2 : B3 < w3.heap.size) : ShI w3 gl B3 N cap off st k W' := by
  obtain ⟨a, b, c⟩ := h
  have hm := Mod.of_below hb
  refine ⟨a.trans hm (fun j hj h => by omega), b.kept hm (fun j hj => ?_), c.kept hm (by omega)⟩
  simp only [Value.ownBlock, Option.some.injEq] at hj
  omega
set_option maxRecDepth 100000 in
set_option maxHeartbeats 3200000 in
theorem share_any (N m K0 gl off cap B : Nat) (vals : Nat → Value) (rl : Nat → List Itm) (w : World) (hN : N ≤ 1000) (hm : m ≤ 15)
    (hO : Own w 3 1 (.slice (some ⟨gl, off, none⟩) N cap) N (gNums N (fun _ => 0))) (hB : ∀ t, t < m → w.cell? ⟨B, t, none⟩ = some (vals t)) (hBl : B < w.heap.size) (hBg : B ≠ gl)
    (hV : ∀ t, ∃ a k c, vals t = .slice a k c) (hR : ∀ t, t < m → Own w 116 2 (vals t) (rl t).length (cellsI (rl t))) (hRg : ∀ t, t < m → (vals t).ownBlock ≠ some gl)
    (hOK : ∀ k, k < m → (stS rl m K0 k).1 ≤ (rl (m - 1 - k)).length) (hlen : ∀ t, (rl t).length ≤ 1000) (hpos : ∀ t, t < m → 0 < (rl t).length) (hsym : ∀ t, t < m → ∀ x ∈ rl t, x.2 = -1 ∨ ∃ s : Nat, s < N ∧ x.2 = (s : Int)) :
    Calls Tryz.prog 69 #[.slice (some ⟨gl, off, none⟩) N cap, .slice (some ⟨B, 0, none⟩) m m, .int .i64 (K0 : Int)] w fun e w' => e = .returned (.tuple #[]) ∧
      Own w' 3 1 (.slice (some ⟨gl, off, none⟩) N cap) N (gNums N (stS rl m K0 m).2) ∧ Mod w w' (fun j => j = gl) := by
  have hgl : gl < w.heap.size := hO.lt gl rfl
  refine (callsIn_wide (n := 3)).1 ?_
  refine callsIn_of_wp_marks Tryz.func69 rfl trivial ?_ rfl
  simp only [Tryz.ntmps69, List.size_toArray, List.length_cons, List.length_nil, Nat.reduceAdd, Nat.reduceSub, Array.replicate_succ, Array.replicate_zero, List.push_toArray, List.append_toArray, List.nil_append, List.cons_append]
  gi_wp2_with fail
  refine ⟨trivial, ?_⟩
  refine (callsIn_wide.2 (backward_any _ _ ⟨_, _, _, rfl⟩)).mono ?_
  rintro e w' ⟨rfl, rfl⟩
  have hsz : ((w.alloc (.cells #[.slice (some ⟨gl, off, none⟩) N cap] 37)).alloc (.cells #[.int .i64 (K0 : Int)] 3)).heap.size = w.heap.size + 2 := by simp
  rw [hsz]
  have b1 := (Blk.new w [.slice (some ⟨gl, off, none⟩) N cap] 37)
  obtain ⟨wa, hwa⟩ : ∃ wa, wa = w.alloc (.cells #[.slice (some ⟨gl, off, none⟩) N cap] 37) := ⟨_, rfl⟩
  rw [← hwa] at hsz ⊢
  have b2 := (Blk.new wa [.int .i64 (K0 : Int)] 3)
  obtain ⟨wb, hwb⟩ : ∃ wb, wb = wa.alloc (.cells #[.int .i64 (K0 : Int)] 3) := ⟨_, rfl⟩
  rw [← hwb] at hsz ⊢
  have b3 := (Blk.new wb [.slice (some ⟨B, 0, none⟩) m m] 118)
  obtain ⟨wc, hwc⟩ : ∃ wc, wc = wb.alloc (.cells #[.slice (some ⟨B, 0, none⟩) m m] 118) := ⟨_, rfl⟩
  rw [← hwc]
  have hszc : wc.heap.size = w.heap.size + 3 := by rw [hwc, World.size_alloc, hsz]
  have hsza : wa.heap.size = w.heap.size + 1 := by rw [hwa]; simp
  have hMc : Mod w wc (fun _ => False) := by rw [hwc, hwb, hwa]; exact ((((Mod.refl w _).alloc _).alloc _).alloc _)
  have k1 : Blk wc w.heap.size [.slice (some ⟨gl, off, none⟩) N cap] 37 := by
    rw [hwc, hwb]; exact (by rw [hwa]; exact (b1.alloc _).alloc _)
  have k2 : Blk wc (w.heap.size + 1) [.int .i64 (K0 : Int)] 3 := by
    rw [hwc, ← hsza]; exact (by rw [hwb]; exact b2.alloc _)
  have k3 : Blk wc (w.heap.size + 2) [.slice (some ⟨B, 0, none⟩) m m] 118 := by
    rw [hwc, ← hsz]; exact b3
  clear b1 b2 b3 hwa hwb hwc hsz hsza
  gi_wp2_with fail
  refine range_rounds (gf := 94) (lb := #[.pointer (some ⟨w.heap.size + 2, 0, none⟩)]) rfl (by decide) rfl trivial (enters_of Tryz.func94 (by kernel_rfl) rfl) m
    (fun k => #[.int .i64 ((m - 1 - k : Nat) : Int), vals (m - 1 - k)]) (fun _ => rfl) (ShI wc gl (w.heap.size + 1) N cap off (stS rl m K0)) ?far ?h0 ?hit
    (fun k => { tmps := #[.slice (some ⟨gl, off, none⟩) N cap, .slice (some ⟨B, 0, none⟩) m m, .int .i64 (K0 : Int), .pointer (some ⟨w.heap.size, 0, none⟩), undef, .pointer (some ⟨w.heap.size + 1, 0, none⟩), undef, vals (m - 1 - k), undef, undef, undef, .slice (some ⟨B, 0, none⟩) m m,
      .func (.func 94) #[] #[.pointer (some ⟨w.heap.size + 2, 0, none⟩)], .int .i64 ((m - 1 - k : Nat) : Int), vals (m - 1 - k), undef, undef, undef, undef, undef, undef, undef, undef, undef, undef, undef, undef, undef, undef, undef, undef, undef, undef, undef, undef, undef, undef, undef], defers := [] }) ?assign ?body ?done
  case far => exact fun k W W' h hb => h.far hb (by omega) (by omega)
  case h0 => exact ⟨Mod.refl _ _, hO.kept hMc (fun _ _ h => h), k2⟩
  case hit =>
    intro l J W hJI hY hJ0
    refine backward_in Fence.wide _ trivial rfl (by decide) l (w.heap.size + 2) B m vals hm hV J (fun k W h => ?_) hY W hJ0
    obtain ⟨i1, _, _⟩ := hJI k W h
    refine ⟨?_, fun t ht => ?_⟩
    · rw [i1.cell (p := ⟨w.heap.size + 2, 0, none⟩) (by show w.heap.size + 2 < _; omega) (by show ¬ (w.heap.size + 2 = gl ∨ w.heap.size + 2 = w.heap.size + 1); omega)]
      exact k3.cell (i := 0) rfl
    · rw [i1.cell (p := ⟨B, t, none⟩) (by show B < _; omega) (by show ¬ (B = gl ∨ B = w.heap.size + 1); omega), hMc.cell (p := ⟨B, t, none⟩) hBl (fun h => h)]
      exact hB t ht
  case assign =>
    intro l k W K hK
    obtain ⟨a, b, c, hv⟩ := hV (m - 1 - k)
    rw [hv] at hK ⊢
    gi_wp2
    exact hK
  case body =>
    intro l k W hk hI hWs
    obtain ⟨t, ht⟩ : ∃ t, t = m - 1 - k := ⟨_, rfl⟩
    have htm : t < m := by omega
    obtain ⟨K, hK⟩ : ∃ K, K = (stS rl m K0 k).1 := ⟨_, rfl⟩
    obtain ⟨G, hG⟩ : ∃ G, G = (stS rl m K0 k).2 := ⟨_, rfl⟩
    obtain ⟨i1, i2, i3⟩ := hI
    rw [← hG] at i2
    rw [← hK] at i3
    have hKR : K ≤ (rl t).length := by rw [hK, ht]; exact hOK k hk
    have hK1 : K ≤ 1000 := by have := hlen t; omega
    have hGb : ∀ i, G i ≤ 15000 := fun i => by
      have := stS_le rl m K0 hlen i k
      rw [← hG] at this; omega
    have hst : stS rl m K0 (k + 1) = (2 * packsN ((rl t).take K), fun i => G i + symsN ((rl t).take K) i) := by
      show (2 * packsN ((rl (m - 1 - k)).take (stS rl m K0 k).1), fun i => (stS rl m K0 k).2 i + symsN ((rl (m - 1 - k)).take (stS rl m K0 k).1) i) = _
      rw [← ht, ← hK, ← hG]
    have hrow : Own wc 116 2 (vals t) (rl t).length (cellsI (rl t)) := (hR t htm).kept hMc (fun _ _ h => h)
    obtain ⟨g, o, cp, hv, hl1, hl2, hcell, _, _⟩ := hrow.site2 (hpos t htm)
    have hgn : g ≠ gl := by
      intro e
      exact hRg t htm (by rw [hv, e]; rfl)
    have hglt : g < w.heap.size := (hR t htm).lt g (by rw [hv]; rfl)
    have cK := i3.cell (i := 0) rfl
    have cL : W.cell? ⟨w.heap.size, 0, none⟩ = some (.slice (some ⟨gl, off, none⟩) N cap) := by
      rw [i1.cell (p := ⟨w.heap.size, 0, none⟩) (by show w.heap.size < _; omega) (by show ¬ (w.heap.size = gl ∨ w.heap.size = w.heap.size + 1); omega)]
      exact k1.cell (i := 0) rfl
    rw [← ht, hv]
    have HK := hid hst
    have HR := hid (And.intro hcell hKR)
    have hK0' : (0 : Int) ≤ (K : Int) := Int.natCast_nonneg _
    have HI2 := hid i2
    have HI3 := hid i3
    have HI1 := hid i1
    have hKc : K ≤ cp := by omega
    have hsymt := hid (hsym t htm)
    have hKt : ∀ j, j < K → ∃ x, (rl t)[j]? = some x := fun j hj => ⟨_, List.getElem?_eq_getElem (by omega)⟩
    generalize (rl t).length = RL at *
    clear hst hcell hKR i1 i2 i3 hrow hv hK hG
    gi_wp2
    gi_loopg [8, 19] (K + 1) (fun q t8 t19 wr => ∃ (j p : Nat), j ≤ K ∧ K - j < q ∧ t19 = .int .i64 (j : Int) ∧ t8 = .int .i64 (p : Int) ∧ p ≤ j ∧ Hid (p = packsN ((rl t).take j)) ∧
      Hid (Mod wc wr (fun j => j = gl ∨ j = w.heap.size + 1) ∧ Own wr 3 1 (.slice (some ⟨gl, off, none⟩) N cap) N (gNums N (fun i => G i + symsN ((rl t).take j) i)) ∧ Blk wr (w.heap.size + 1) [.int .i64 (K : Int)] 3) ∧
      Hid (KeepsFrom wc.heap.size W wr ∧ wc.heap.size ≤ wr.heap.size))
    case atStart => exact ⟨0, 0, by omega, by omega, rfl, rfl, by omega, rfl, hid ⟨HI1.out, by simpa [symsN] using HI2.out, HI3.out⟩, hid ⟨KeepsFrom.refl _ _, hWs⟩⟩
    case round =>
      obtain ⟨j, p, hjK, hq, rfl, rfl, hpj, HP, HW, HF⟩ := hrel
      have hj0 : (0 : Int) ≤ (j : Int) := Int.natCast_nonneg _
      have hp0 : (0 : Int) ≤ (p : Int) := Int.natCast_nonneg _
      obtain ⟨j1, j2, j3⟩ := HW.out
      by_cases hlt : j < K
      · have hltI : (j : Int) < (K : Int) := by omega
        obtain ⟨x, hx⟩ := hKt j hlt
        have c1 := (HR.out.1 j x hx).1
        have c2 := (HR.out.1 j x hx).2
        rw [← j1.cell (p := ⟨g, o + j * 2, none⟩) (by show g < _; omega) (by show ¬ (g = gl ∨ g = w.heap.size + 1); omega)] at c1
        rw [← j1.cell (p := ⟨g, o + j * 2 + 1, none⟩) (by show g < _; omega) (by show ¬ (g = gl ∨ g = w.heap.size + 1); omega)] at c2
        have cL2 : wr.cell? ⟨w.heap.size, 0, none⟩ = some (.slice (some ⟨gl, off, none⟩) N cap) := by
          rw [j1.cell (p := ⟨w.heap.size, 0, none⟩) (by show w.heap.size < _; omega) (by show ¬ (w.heap.size = gl ∨ w.heap.size = w.heap.size + 1); omega)]
          exact k1.cell (i := 0) rfl
        have HT : Hid ((rl t).take (j + 1) = (rl t).take j ++ [x]) := by rw [List.take_add_one, hx]; exact hid rfl
        rcases hsymt.out x (List.mem_of_getElem? hx) with hs | ⟨s, hsN, hs⟩
        · rw [hs] at c2
          have HG : Hid ((fun i => G i + symsN ((rl t).take (j + 1)) i) = fun i => G i + symsN ((rl t).take j) i) := by
            refine hid (funext fun i => ?_)
            rw [HT.out, symsN_snoc, if_neg (by rw [hs]; omega)]; omega
          have HP2 : Hid (p + 1 = packsN ((rl t).take (j + 1))) := by
            rw [HT.out, packsN_snoc, if_pos hs, ← HP.out]; exact hid rfl
          gi_wp2
          gi_roundg (gk - 1)
          case measure => omega
          case rel =>
            refine ⟨j + 1, p + 1, by omega, by omega, by go_num, by go_num, by omega, HP2, hid ⟨j1.alloc _, ?_, j3.alloc _⟩, hid ⟨HF.out.1.trans ((KeepsOthers.alloc wr _).from _), by have := HF.out.2; simp; omega⟩⟩
            rw [HG.out]; exact j2.alloc _
        · rw [hs] at c2
          obtain ⟨gs, hgs⟩ : ∃ gs, gs = G s + symsN ((rl t).take j) s := ⟨_, rfl⟩
          have hgs1 : gs ≤ 16000 := by
            have h1 := hGb s
            have h2 := symsN_le ((rl t).take j) s
            rw [List.length_take] at h2
            omega
          have HG : Hid ((fun i => G i + symsN ((rl t).take (j + 1)) i) = fun i => if i = s then gs + 1 else G i + symsN ((rl t).take j) i) := by
            refine hid (funext fun i => ?_)
            rw [HT.out, symsN_snoc]
            by_cases e : i = s
            · subst e
              rw [if_pos hs, if_pos rfl, hgs]; omega
            · rw [if_neg (by rw [hs]; omega), if_neg e]; omega
          have HP2 : Hid (p = packsN ((rl t).take (j + 1))) := by
            rw [HT.out, packsN_snoc, if_neg (by rw [hs]; omega), ← HP.out]; exact hid (Nat.add_zero _).symm
          obtain ⟨g', o', hg', hcl, hfr, hput⟩ := (j2.alloc (.cells #[.int .i64 (x.1 : Int), .int .i64 (s : Int)] 116)).site (by omega)
          simp only [Option.some.injEq, Addr.mk.injEq, and_true] at hg'
          obtain ⟨rfl, rfl⟩ := hg'
          have c3 := hcl s _ (gNums_get N _ s hsN)
          rw [← hgs] at c3
          have f3 := hfr s
          have HPUT := hput s (.int .i64 ((gs + 1 : Nat) : Int)) hsN
          rw [gNums_set, ← HG.out] at HPUT
          have hs0 : (0 : Int) ≤ (s : Int) := Int.natCast_nonneg _
          have hsb : ((s : Int) == -1) = false := by simp
          have hs1 : ¬ (s : Int) = -1 := by omega
          have cL3 : (wr.alloc (.cells #[.int .i64 (x.1 : Int), .int .i64 (s : Int)] 116)).cell? ⟨w.heap.size, 0, none⟩ = some (.slice (some ⟨gl, off, none⟩) N cap) := by
            rw [((Mod.refl wr (fun _ => False)).alloc _).cell (p := ⟨w.heap.size, 0, none⟩) (by show w.heap.size < _; have := HF.out.2; omega) (fun h => h)]; exact cL2
          have HS := hid HPUT
          have HS2 := hid hs
          have HX := hid hx
          have HGS := hid hgs
          clear hcl hfr hput HPUT hs hx hgs
          gi_wp2
          gi_roundg (gk - 1)
          case measure => omega
          case rel =>
            have hcast : ((gs + 1 : Nat) : Int) = (gs : Int) + 1 := by omega
            have h2 := HS.out
            rw [hcast] at h2
            refine ⟨j + 1, p, by omega, by omega, by go_num, rfl, by omega, HP2, hid ⟨(j1.alloc _).setCell (p := ⟨gl, off + s, none⟩) (.inr (.inl rfl)) _, h2, (j3.alloc _).other (p := ⟨gl, off + s, none⟩) (by show w.heap.size + 1 ≠ gl; omega) _⟩,
              hid ⟨(HF.out.1.trans ((KeepsOthers.alloc wr _).from _)).trans ((KeepsOthers.setCell _ _ _).from _), by have := HF.out.2; simp [World.setCell]; omega⟩⟩
      · have hltI : ¬ (j : Int) < (K : Int) := by omega
        obtain rfl : j = K := by omega
        have cN := j3.cell (i := 0) rfl
        have fN := j3.frozen 0
        have hpn : p ≤ 1000 := by omega
        have HSET := hid (j3.set 0 (.int .i64 ((2 * p : Nat) : Int)))
        have hp2 : ((2 * p : Nat) : Int) = 2 * (p : Int) := by omega
        rw [hp2] at HSET
        gi_wp2
        refine ⟨by rw [← hszc]; exact HF.out.1.trans ((KeepsOthers.setCell _ _ _).from _), j1.setCell (p := ⟨w.heap.size + 1, 0, none⟩) (.inr (.inr rfl)) _, ?_, ?_⟩
        · rw [HK.out]
          exact j2.kept (Mod.setCell (S := fun k => k = w.heap.size + 1) (Mod.refl wr _) (p := ⟨w.heap.size + 1, 0, none⟩) (.inr rfl) _) (fun q hq => by
            simp only [Value.ownBlock, Option.some.injEq] at hq
            omega)
        · rw [HK.out, ← HP.out]
          have h := HSET.out
          rw [← hp2] at h
          exact h
  case done =>
    intro D W hD hI hK
    obtain ⟨i1, i2, i3⟩ := hI
    have HI1 := hid i1
    have HI2 := hid i2
    clear i1 i2 i3
    gi_wp2
    refine ⟨by simp, .inl ⟨_, _, rfl, run_takeDeferred hK, ?_⟩⟩
    have hM2 : Mod W (W.putObj D (.deferred none)) (fun j => j = D) := ⟨rfl, rfl, rfl, by simp, fun j hj hne => World.putObj_heap_other hne⟩
    have hM0 : Mod w wc (fun j => j = gl) := hMc.mono (fun _ _ h => h.elim)
    have hM1 : Mod w W (fun j => j = gl) := hM0.trans HI1.out (fun k hk h => by omega)
    refine ⟨_, results_none rfl _ _ _, rfl, HI2.out.kept hM2 (fun j hj => ?_), hM1.trans hM2 (fun k hk h => by omega)⟩
    simp only [Value.ownBlock, Option.some.injEq] at hj
    omega
end Go.Proofs.YthibpnkdhbkakaaGreatDoor
/-
  The lengths shared out are fit, and cost as little as any.
-/
namespace Go.Proofs.YthibpnkdhbkakaaGreatDoor
set_option maxRecDepth 5000

def isS (x : Itm) : Bool := decide (x.2 ≠ -1)
def isP (x : Itm) : Bool := decide (x.2 = -1)
/-! ### lists parted in two kinds -/
theorem filter_parts : ∀ l : List Itm, l.Perm (l.filter isS ++ l.filter isP)
  | [] => List.Perm.refl _
  | x :: l => by
    by_cases h : x.2 = -1
    · rw [List.filter_cons_of_neg (by simp [isS, h]), List.filter_cons_of_pos (by simp [isP, h])]
      exact ((filter_parts l).cons x).trans List.perm_middle.symm
    · rw [List.filter_cons_of_pos (by simp [isS, h]), List.filter_cons_of_neg (by simp [isP, h])]
      exact (filter_parts l).cons x
theorem filter_take (p : Itm → Bool) : ∀ (l : List Itm) (k : Nat), (l.take k).filter p = (l.filter p).take ((l.take k).filter p).length
  | [], k => by simp
  | x :: l, 0 => by simp
  | x :: l, k + 1 => by
    rw [List.take_succ_cons]
    by_cases h : p x = true
    · rw [List.filter_cons_of_pos h, List.filter_cons_of_pos h, List.length_cons, List.take_succ_cons, ← filter_take p l k]
    · rw [List.filter_cons_of_neg h, List.filter_cons_of_neg h, ← filter_take p l k]
theorem count_S (l : List Itm) : (l.filter isS).length + packsN l = l.length := by
  have h := (filter_parts l).length_eq
  rw [List.length_append] at h
  have h2 : packsN l = (l.filter isP).length := by rw [packsN, List.countP_eq_length_filter]; rfl
  omega
theorem packsN_filter (l : List Itm) : packsN l = (l.filter isP).length := by rw [packsN, List.countP_eq_length_filter]; rfl
theorem symsN_filter (l : List Itm) (s : Nat) : symsN l s = symsN (l.filter isS) s := by
  rw [symsN, symsN, List.countP_filter]
  congr 1
  funext x
  by_cases h : x.2 = (s : Int)
  · have : x.2 ≠ -1 := by omega
    simp [isS, h]
  · simp [h]
theorem asc_packI : ∀ l : List Itm, Asc l → Asc (packI l)
  | [], _ => trivial
  | [a], _ => trivial
  | a :: b :: l, h => by
    rw [packI]
    refine ⟨fun y hy => ?_, asc_packI l h.2.2⟩
    obtain ⟨c, d, hc, hd, rfl⟩ := packI_mem l y hy
    have h1 := h.1 c (List.mem_cons_of_mem _ hc)
    have h2 := h.2.1 d hd
    show a.1 + b.1 ≤ c.1 + d.1
    omega
theorem asc_up : ∀ l : List Itm, Asc l → Up (l.map (·.1))
  | [], _ => trivial
  | a :: l, h => by
    refine ⟨fun b hb => ?_, asc_up l h.2⟩
    obtain ⟨x, hx, rfl⟩ := List.mem_map.1 hb
    exact h.1 x hx
theorem packI_fst : ∀ l : List Itm, (packI l).map (·.1) = pairs (l.map (·.1))
  | [] => rfl
  | [a] => rfl
  | a :: b :: l => by
    rw [packI, List.map_cons, packI_fst l]; rfl
theorem rowI_asc (S : List Itm) : ∀ t, Asc (rowI S t)
  | 0 => trivial
  | _ + 1 => ssort_asc _
section
variable {S : List Itm} (hS : ∀ x ∈ S, x.2 ≠ -1)
include hS
theorem row_S (t : Nat) : (rowI S (t + 1)).filter isS = ssort S := by
  rw [rowI, filter_ssort, List.filter_append, List.filter_eq_self.2 (fun x hx => by simp [isS, hS x hx]), List.filter_eq_nil_iff.2 (fun x hx => by
    obtain ⟨a, b, _, _, rfl⟩ := packI_mem _ _ hx
    simp [isS]), List.append_nil]
theorem row_P (t : Nat) : (rowI S (t + 1)).filter isP = packI (rowI S t) := by
  rw [rowI, filter_ssort, List.filter_append, List.filter_eq_nil_iff.2 (fun x hx => by simp [isP, hS x hx]), List.filter_eq_self.2 (fun x hx => by
    obtain ⟨a, b, _, _, rfl⟩ := packI_mem _ _ hx
    simp [isP]), List.nil_append, ssort_of_asc _ (asc_packI _ (rowI_asc S t))]
end
theorem row_len (S : List Itm) : ∀ t, (2 * S.length - (rowI S t).length) * 2 ^ t ≤ 2 * S.length + 2 ^ t - 1
  | 0 => by simp [rowI]
  | t + 1 => by
    have h := row_len S t
    have hl := rowI_length S t
    have e : (rowI S (t + 1)).length = S.length + (rowI S t).length / 2 := by rw [rowI, ssort_length, List.length_append, packI_length]
    rw [e]
    have hp : 0 < 2 ^ t := Nat.two_pow_pos t
    rw [Nat.pow_succ]
    obtain ⟨d, hd⟩ : ∃ d, d = 2 * S.length - (rowI S t).length := ⟨_, rfl⟩
    obtain ⟨d2, hd2⟩ : ∃ d2, d2 = 2 * S.length - (S.length + (rowI S t).length / 2) := ⟨_, rfl⟩
    rw [← hd] at h
    rw [← hd2]
    have h2 : d2 * 2 ≤ d + 1 := by omega
    have h3 : d2 * (2 ^ t * 2) = d2 * 2 * 2 ^ t := by rw [Nat.mul_comm (2 ^ t) 2, Nat.mul_assoc]
    have h4 : d2 * 2 * 2 ^ t ≤ (d + 1) * 2 ^ t := Nat.mul_le_mul_right _ h2
    have h5 : (d + 1) * 2 ^ t = d * 2 ^ t + 2 ^ t := by rw [Nat.add_mul, Nat.one_mul]
    rw [h3]
    omega
theorem row_room (S : List Itm) (m : Nat) (h : S.length ≤ 2 ^ m) : 2 * S.length - 2 ≤ (rowI S m).length := by
  have h1 := row_len S m
  have hp : 0 < 2 ^ m := Nat.two_pow_pos m
  by_cases hc : 2 * S.length - 2 ≤ (rowI S m).length
  · exact hc
  · exfalso
    have h2 : 3 ≤ 2 * S.length - (rowI S m).length := by omega
    have h3 : 3 * 2 ^ m ≤ (2 * S.length - (rowI S m).length) * 2 ^ m := Nat.mul_le_mul_right _ h2
    omega
/-! ### what is taken of each row -/
section
variable (S : List Itm) (m : Nat)
/-- the rows, the longest codes' first -/
def rlS (t : Nat) : List Itm := rowI S (t + 1)
def kS (t : Nat) : Nat := (stS (rlS S) m (2 * S.length - 2) (m - t)).1
def tkS (t : Nat) : List Itm := (rowI S (t + 1)).take (kS S m (t + 1))
def cntS : Nat → Nat
  | 0 => 0
  | t + 1 => ((tkS S m t).filter isS).length
theorem kS_step (t : Nat) (ht : t < m) : kS S m t = 2 * packsN (tkS S m t) := by
  unfold kS tkS
  rw [show m - t = (m - (t + 1)) + 1 by omega]
  show 2 * packsN ((rlS S (m - 1 - (m - (t + 1)))).take _) = _
  rw [show m - 1 - (m - (t + 1)) = t by omega]; rfl
theorem kS_top : kS S m m = 2 * S.length - 2 := by unfold kS; rw [Nat.sub_self]; rfl
end
section
variable {S : List Itm} {m : Nat} (hS : ∀ x ∈ S, x.2 ≠ -1) (hn : S.length ≤ 2 ^ m)
include hS hn
theorem kS_room (t : Nat) (ht : t ≤ m) : kS S m t ≤ (rowI S t).length := by
  by_cases e : t = m
  · subst e; rw [kS_top]; exact row_room S t hn
  · rw [kS_step S m t (by omega), packsN_filter]
    unfold tkS
    rw [filter_take, row_P hS]
    have h := packI_length (rowI S t)
    rw [List.length_take]
    omega
theorem taken_S : Taken ((ssort S).map (·.1)) m (fun t => (rowI S t).map (·.1)) (cntS S m) (kS S m) where
  packs := ⟨rfl, fun t _ => asc_up _ (rowI_asc S (t + 1)), fun t _ => by
    have h1 : (rowI S (t + 1)).Perm (ssort S ++ packI (rowI S t)) := (ssort_perm _).trans ((ssort_perm S).symm.append_right _)
    have h2 := h1.map (·.1)
    rw [List.map_append, packI_fst] at h2
    exact h2⟩
  top := by rw [kS_top, List.length_map, ssort_length]
  low := fun t ht => by
    rw [kS_step S m t ht]
    have h1 := count_S (tkS S m t)
    have h2 : (tkS S m t).length = kS S m (t + 1) := by
      unfold tkS; rw [List.length_take]; have := kS_room hS hn (t + 1) (by omega); omega
    show _ = 2 * (kS S m (t + 1) - ((tkS S m t).filter isS).length)
    omega
  few := fun t ht => by
    have h1 := count_S (tkS S m t)
    have h2 : (tkS S m t).length ≤ kS S m (t + 1) := by unfold tkS; rw [List.length_take]; omega
    refine ⟨?_, by show ((tkS S m t).filter isS).length ≤ _; omega⟩
    show ((tkS S m t).filter isS).length ≤ _
    unfold tkS
    rw [filter_take, row_S hS, List.length_take, List.length_map]; omega
  room := fun t ht => by rw [List.length_map]; exact kS_room hS hn t ht
  split := fun t ht => by
    have h1 := count_S (tkS S m t)
    have h2 : (tkS S m t).length = kS S m (t + 1) := by
      unfold tkS; rw [List.length_take]; have := kS_room hS hn (t + 1) (by omega); omega
    have h3 := packsN_filter (tkS S m t)
    have e1 : (tkS S m t).filter isS = (ssort S).take (cntS S m (t + 1)) := by
      show _ = (ssort S).take ((tkS S m t).filter isS).length
      have h := filter_take isS (rowI S (t + 1)) (kS S m (t + 1))
      rw [row_S hS] at h; exact h
    have e2 : (tkS S m t).filter isP = (packI (rowI S t)).take (kS S m (t + 1) - cntS S m (t + 1)) := by
      have h := filter_take isP (rowI S (t + 1)) (kS S m (t + 1))
      rw [row_P hS] at h
      have h4 : ((tkS S m t).filter isP).length = kS S m (t + 1) - cntS S m (t + 1) := by
        show _ = kS S m (t + 1) - ((tkS S m t).filter isS).length
        omega
      rw [← h4]; exact h
    have h5 := (filter_parts (tkS S m t)).map (·.1)
    rw [e1, e2, List.map_append, List.map_take, List.map_take, packI_fst] at h5
    rw [← List.map_take]; exact h5
end
/-! ### the lengths counted -/
def upSum (h : Nat → Nat) : Nat → Nat
  | 0 => 0
  | t + 1 => h t + upSum h t
theorem upSum_congr {h g : Nat → Nat} : ∀ t, (∀ u, u < t → h u = g u) → upSum h t = upSum g t
  | 0, _ => rfl
  | t + 1, e => by rw [upSum, upSum, e t (by omega), upSum_congr t fun u hu => e u (by omega)]
theorem upSum_zero : ∀ t, upSum (fun _ => 0) t = 0
  | 0 => rfl
  | t + 1 => by rw [upSum, upSum_zero t]
theorem addFirst_get : ∀ (l : List Nat) (c q : Nat), (addFirst l c)[q]? = (l[q]?).map fun a => a + if q < c then 1 else 0
  | [], c, q => by simp [addFirst]
  | a :: l, 0, q => by simp [addFirst]
  | a :: l, c + 1, 0 => by simp [addFirst]
  | a :: l, c + 1, q + 1 => by
    rw [addFirst, List.getElem?_cons_succ, List.getElem?_cons_succ, addFirst_get l c q]
    by_cases h : q < c
    · simp [h]
    · simp [h]
theorem lensR_get (n : Nat) (cnt : Nat → Nat) (q : Nat) (hq : q < n) : ∀ t, (lensR n cnt t)[q]? = some (upSum (fun u => if q < cnt (u + 1) then 1 else 0) t)
  | 0 => by rw [lensR, List.getElem?_replicate, if_pos hq]; rfl
  | t + 1 => by
    rw [lensR, addFirst_get, lensR_get n cnt q hq t, Option.map_some, upSum, Nat.add_comm]
theorem stS_sum (S : List Itm) (m i : Nat) : ∀ k, k ≤ m → (stS (rlS S) m (2 * S.length - 2) k).2 i + upSum (fun u => symsN (tkS S m u) i) (m - k) = upSum (fun u => symsN (tkS S m u) i) m
  | 0, _ => by rw [Nat.sub_zero]; show 0 + _ = _; omega
  | k + 1, h => by
    have ih := stS_sum S m i k (by omega)
    obtain ⟨u, hu⟩ : ∃ u, m - k = u + 1 := ⟨m - k - 1, by omega⟩
    rw [hu, upSum] at ih
    have e1 : m - (k + 1) = u := by omega
    have e2 : m - 1 - k = u := by omega
    have e3 : m - (u + 1) = k := by omega
    rw [e1]
    show (stS (rlS S) m (2 * S.length - 2) k).2 i + symsN ((rlS S (m - 1 - k)).take (stS (rlS S) m (2 * S.length - 2) k).1) i + _ = _
    rw [e2]
    have e4 : symsN (tkS S m u) i = symsN ((rlS S u).take (stS (rlS S) m (2 * S.length - 2) k).1) i := by
      unfold tkS kS rlS; rw [e3]
    rw [← e4]; omega
/-- what the program has when all rows are over -/
def gS (S : List Itm) (m i : Nat) : Nat := (stS (rlS S) m (2 * S.length - 2) m).2 i
theorem gS_sum (S : List Itm) (m i : Nat) : gS S m i = upSum (fun u => symsN (tkS S m u) i) m := by
  have h := stS_sum S m i m (Nat.le_refl _)
  rw [Nat.sub_self] at h
  exact h
theorem symsN_take : ∀ (Q : List Itm) (c q a s : Nat), (Q.map (·.2)).Nodup → Q[q]? = some (a, (s : Int)) → symsN (Q.take c) s = if q < c then 1 else 0
  | [], c, q, a, s, _, h => by simp at h
  | x :: Q, 0, q, a, s, _, _ => by simp [symsN]
  | x :: Q, c + 1, 0, a, s, hd, h => by
    obtain rfl : x = (a, (s : Int)) := by simpa using h
    rw [List.map_cons, List.nodup_cons] at hd
    have h0 : symsN (Q.take c) s = 0 := by
      unfold symsN
      rw [List.countP_eq_zero]
      intro y hy e
      exact hd.1 (List.mem_map.2 ⟨y, List.mem_of_mem_take hy, by simpa using e⟩)
    rw [List.take_succ_cons]
    unfold symsN at *
    rw [List.countP_cons, h0]; simp
  | x :: Q, c + 1, q + 1, a, s, hd, h => by
    rw [List.map_cons, List.nodup_cons] at hd
    have hm : (a, (s : Int)) ∈ Q := List.mem_of_getElem? (by simpa using h)
    have hx : ¬ x.2 = (s : Int) := fun e => hd.1 (List.mem_map.2 ⟨_, hm, e.symm⟩)
    have ih := symsN_take Q c q a s hd.2 (by simpa using h)
    rw [List.take_succ_cons]
    unfold symsN at *
    rw [List.countP_cons, ih]
    simp [hx]
theorem symI_mem : ∀ (f : List Nat) (k : Nat) (x : Itm), x ∈ symI k f → ∃ i : Nat, k ≤ i ∧ x.2 = (i : Int) ∧ f[i - k]? = some x.1 ∧ 0 < x.1
  | [], k, x, h => by simp [symI] at h
  | a :: f, k, x, h => by
    rw [symI] at h
    by_cases ha : 0 < a
    · rw [if_pos ha] at h
      rcases List.mem_cons.1 h with h | h
      · subst h
        exact ⟨k, Nat.le_refl _, rfl, by simp, ha⟩
      · obtain ⟨i, h1, h2, h3, h4⟩ := symI_mem f (k + 1) x h
        exact ⟨i, by omega, h2, by rw [show i - k = (i - (k + 1)) + 1 by omega, List.getElem?_cons_succ]; exact h3, h4⟩
    · rw [if_neg ha] at h
      obtain ⟨i, h1, h2, h3, h4⟩ := symI_mem f (k + 1) x h
      exact ⟨i, by omega, h2, by rw [show i - k = (i - (k + 1)) + 1 by omega, List.getElem?_cons_succ]; exact h3, h4⟩
theorem symI_has : ∀ (f : List Nat) (k i b : Nat), f[i]? = some b → 0 < b → (b, ((k + i : Nat) : Int)) ∈ symI k f
  | [], k, i, b, h, _ => by simp at h
  | a :: f, k, 0, b, h, hb => by
    obtain rfl : a = b := by simpa using h
    rw [symI, if_pos hb]; simp
  | a :: f, k, i + 1, b, h, hb => by
    have ih := symI_has f (k + 1) i b (by simpa using h) hb
    rw [show k + 1 + i = k + (i + 1) by omega] at ih
    rw [symI]
    split
    · exact List.mem_cons_of_mem _ ih
    · exact ih
theorem symI_nodup : ∀ (f : List Nat) (k : Nat), ((symI k f).map (·.2)).Nodup
  | [], _ => by simp [symI]
  | a :: f, k => by
    rw [symI]
    split
    · rw [List.map_cons, List.nodup_cons]
      refine ⟨fun h => ?_, symI_nodup f (k + 1)⟩
      obtain ⟨x, hx, e⟩ := List.mem_map.1 h
      obtain ⟨i, h1, h2, _⟩ := symI_mem f (k + 1) x hx
      have e2 : x.2 = (k : Int) := e
      omega
    · exact symI_nodup f (k + 1)
/-! ### sums over items -/
def cI (g : Nat → Nat) : List Itm → Nat
  | [] => 0
  | x :: l => g x.2.toNat * x.1 + cI g l
def kI (g : Nat → Nat) : List Itm → Nat
  | [] => 0
  | x :: l => wtN (g x.2.toNat) + kI g l
theorem cI_perm (g : Nat → Nat) {l l2 : List Itm} (h : l.Perm l2) : cI g l = cI g l2 := by
  induction h with
  | nil => rfl
  | cons x _ ih => rw [cI, cI, ih]
  | swap x y l => simp only [cI]; omega
  | trans _ _ ih1 ih2 => rw [ih1, ih2]
theorem kI_perm (g : Nat → Nat) {l l2 : List Itm} (h : l.Perm l2) : kI g l = kI g l2 := by
  induction h with
  | nil => rfl
  | cons x _ ih => rw [kI, kI, ih]
  | swap x y l => simp only [kI]; omega
  | trans _ _ ih1 ih2 => rw [ih1, ih2]
theorem cI_map (g : Nat → Nat) : ∀ l : List Itm, cst (l.map fun x => g x.2.toNat) (l.map (·.1)) = cI g l
  | [] => rfl
  | x :: l => by rw [List.map_cons, List.map_cons, cst, cI, cI_map g l]
theorem kI_map (g : Nat → Nat) : ∀ l : List Itm, kr (l.map fun x => g x.2.toNat) = kI g l
  | [] => rfl
  | x :: l => by rw [List.map_cons, kr, kI, kI_map g l]
theorem cI_all (g : Nat → Nat) : ∀ (f : List Nat) (k : Nat), cst ((List.range' k f.length).map g) f = cI g (symI k f)
  | [], _ => rfl
  | a :: f, k => by
    rw [List.length_cons, List.range'_succ, List.map_cons, cst, cI_all g f (k + 1), symI]
    by_cases ha : 0 < a
    · rw [if_pos ha, cI]; simp
    · rw [if_neg ha, show a = 0 by omega]; omega
theorem kI_all (g : Nat → Nat) : ∀ (f : List Nat) (k : Nat), (∀ i, f[i]? = some 0 → g (k + i) = 0) → kr ((List.range' k f.length).map g) = kI g (symI k f)
  | [], _, _ => rfl
  | a :: f, k, h => by
    have ih := kI_all g f (k + 1) fun i hi => by
      have := h (i + 1) (by simpa using hi)
      rw [show k + 1 + i = k + (i + 1) by omega]; exact this
    rw [List.length_cons, List.range'_succ, List.map_cons, kr, ih, symI]
    by_cases ha : 0 < a
    · rw [if_pos ha, kI]; simp
    · rw [if_neg ha]
      have := h 0 (by rw [show a = 0 by omega]; rfl)
      rw [Nat.add_zero] at this
      rw [this, wtN_zero]; omega
theorem symI_came : ∀ (f : List Nat) (k : Nat), (symI k f).map (·.1) = came f
  | [], _ => rfl
  | a :: f, k => by
    rw [symI, came, List.filter_cons]
    by_cases ha : 0 < a
    · simp only [ha, if_true, decide_true, List.map_cons, symI_came f (k + 1)]; rfl
    · simp only [ha, if_false, decide_false, symI_came f (k + 1)]; rfl
/-- What the program counts is fit and costs no more than any. -/
theorem share_opt (f : List Nat) (m : Nat) (hm : 1 ≤ m) (hm2 : m ≤ 15) (h2 : 2 ≤ codedN f) (hn : codedN f ≤ 2 ^ m) : OptL f m ((List.range f.length).map (gS (symI 0 f) m)) := by
  obtain ⟨S, hSd⟩ : ∃ S, S = symI 0 f := ⟨_, rfl⟩
  rw [← hSd]
  have hSl : S.length = codedN f := by rw [hSd, symI_length]
  have hS : ∀ x ∈ S, x.2 ≠ -1 := fun x hx => by
    rw [hSd] at hx
    obtain ⟨i, _, h, _⟩ := symI_mem f 0 x hx
    omega
  have hT := taken_S hS (by omega : S.length ≤ 2 ^ m)
  have hAl : ((ssort S).map (·.1)).length = S.length := by rw [List.length_map, ssort_length]
  have hApos : ∀ x ∈ (ssort S).map (·.1), 0 < x := fun a ha => by
    obtain ⟨x, hx, rfl⟩ := List.mem_map.1 ha
    have hx2 := (ssort_perm S).mem_iff.1 hx
    rw [hSd] at hx2
    obtain ⟨i, _, _, _, h⟩ := symI_mem f 0 x hx2
    exact h
  obtain ⟨l1, l2, l3⟩ := hT.fit hApos rfl hm hm2 (by omega)
  have hnd : ((ssort S).map (·.2)).Nodup := by
    have h := ((ssort_perm S).map (·.2)).symm
    refine h.nodup ?_
    rw [hSd]; exact symI_nodup f 0
  -- the lengths, place by place
  have hg : ∀ (q a s : Nat), (ssort S)[q]? = some (a, (s : Int)) → gS S m s = upSum (fun u => if q < cntS S m (u + 1) then 1 else 0) m := fun q a s hq => by
    rw [gS_sum]
    refine upSum_congr m fun u _ => ?_
    have e1 : (tkS S m u).filter isS = (ssort S).take (cntS S m (u + 1)) := by
      show _ = (ssort S).take ((tkS S m u).filter isS).length
      have h := filter_take isS (rowI S (u + 1)) (kS S m (u + 1))
      rw [row_S hS] at h; exact h
    show symsN (tkS S m u) s = _
    rw [symsN_filter, e1, symsN_take _ _ q a s hnd hq]
  have hz : ∀ i : Nat, f[i]? = some 0 → gS S m i = 0 := fun i hi => by
    rw [gS_sum, ← upSum_zero m]
    refine upSum_congr m fun u _ => ?_
    show symsN (tkS S m u) i = 0
    have e1 : (tkS S m u).filter isS = (ssort S).take (cntS S m (u + 1)) := by
      show _ = (ssort S).take ((tkS S m u).filter isS).length
      have h := filter_take isS (rowI S (u + 1)) (kS S m (u + 1))
      rw [row_S hS] at h; exact h
    rw [symsN_filter, e1]
    unfold symsN
    rw [List.countP_eq_zero]
    intro x hx e
    have hx2 := (ssort_perm S).mem_iff.1 (List.mem_of_mem_take hx)
    rw [hSd] at hx2
    obtain ⟨j, _, hj, hj2, hj3⟩ := symI_mem f 0 x hx2
    have e2 : x.2 = (i : Int) := by simpa using e
    have : j = i := by omega
    subst this
    rw [Nat.sub_zero, hi] at hj2
    simp only [Option.some.injEq] at hj2
    omega
  have hlr : lensR ((ssort S).map (·.1)).length (cntS S m) m = (ssort S).map fun x => gS S m x.2.toNat := by
    refine List.ext_getElem? fun q => ?_
    by_cases hq : q < S.length
    · obtain ⟨x, hx⟩ : ∃ x, (ssort S)[q]? = some x := ⟨(ssort S)[q]'(by rw [ssort_length]; exact hq), List.getElem?_eq_getElem _⟩
      have hx2 := (ssort_perm S).mem_iff.1 (List.mem_of_getElem? hx)
      rw [hSd] at hx2
      obtain ⟨s, _, hs, _⟩ := symI_mem f 0 x hx2
      have hx3 : (ssort S)[q]? = some (x.1, (s : Int)) := by rw [hx, ← hs]
      rw [lensR_get _ _ q (by omega), List.getElem?_map, hx, Option.map_some, hs, ← hg q x.1 s hx3]; rfl
    · rw [List.getElem?_eq_none (by rw [lensR_length]; omega), List.getElem?_eq_none (by rw [List.length_map, ssort_length]; omega)]
  rw [hlr] at l1 l2 l3
  rw [kI_map] at l2
  rw [cI_map] at l3
  have hpS := ssort_perm S
  have hrange : List.range f.length = List.range' 0 f.length := List.range_eq_range'
  have hget : ∀ (i a : Nat), ((List.range f.length).map (gS S m))[i]? = some a → a = gS S m i ∧ i < f.length := fun i a h => by
    have hi := (List.getElem?_eq_some_iff.1 h).1
    rw [List.length_map, List.length_range] at hi
    rw [List.getElem?_map, List.getElem?_range hi] at h
    simp only [Option.map_some, Option.some.injEq] at h
    exact ⟨h.symm, hi⟩
  have hin : ∀ (i b : Nat), f[i]? = some b → 0 < b → 1 ≤ gS S m i ∧ gS S m i ≤ m := fun i b hi hb => by
    have h := symI_has f 0 i b hi hb
    rw [← hSd, Nat.zero_add] at h
    have h3 := l1 (gS S m i) (List.mem_map.2 ⟨_, hpS.mem_iff.2 h, by simp⟩)
    exact h3
  have hA : ((ssort S).map (·.1)).Perm (came f) := by
    have h := hpS.map (·.1)
    rw [hSd] at h ⊢
    rw [symI_came] at h
    exact h
  have hgood : FitL f m ((List.range f.length).map (gS S m)) := by
    refine ⟨by simp, fun i a b ha hb => ?_, fun a ha => ?_, ?_⟩
    · obtain ⟨rfl, _⟩ := hget i a ha
      by_cases h0 : 0 < b
      · have := hin i b hb h0
        exact ⟨fun _ => h0, fun _ => by omega⟩
      · have h00 : b = 0 := by omega
        rw [h00] at hb
        have := hz i hb
        exact ⟨fun h => by omega, fun h => by omega⟩
    · obtain ⟨i, hi⟩ := List.mem_iff_getElem?.1 ha
      obtain ⟨rfl, hlt⟩ := hget i a hi
      have hfi : f[i]? = some f[i] := List.getElem?_eq_getElem hlt
      by_cases h0 : 0 < f[i]
      · exact (hin i _ hfi h0).2
      · have h00 : f[i] = 0 := by omega
        rw [h00] at hfi
        rw [hz i hfi]; omega
    · rw [hrange, kI_all (gS S m) f 0 (fun i hi => by rw [Nat.zero_add]; exact hz i hi), ← hSd, ← kI_perm _ hpS]
      exact l2
  refine packs_best hT.packs (asc_up _ (ssort_asc S)) hA hm hm2 hgood ?_
  rw [hrange, cI_all, ← hSd, ← cI_perm _ hpS]
  exact l3
end Go.Proofs.YthibpnkdhbkakaaGreatDoor
