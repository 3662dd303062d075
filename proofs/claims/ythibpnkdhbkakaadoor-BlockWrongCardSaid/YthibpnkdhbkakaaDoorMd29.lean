/-
  The rows of items, each sorted: the symbols and the packages of the row before.
-/
import Derived.Test.YthibpnkdhbkakaaDoorMd28
import Derived.Deep.DeepCutAuto
import Derived.Test.YthibpnkdhbkakaaDoorMd24
namespace Go.Proofs.YthibpnkdhbkakaaDoor
set_option maxRecDepth 5000
open Go.RowKit

def rowI (s : List Itm) : Nat → List Itm
  | 0 => []
  | t + 1 => ssort (s ++ packI (rowI s t))
theorem rowI_length (s : List Itm) : ∀ t, (rowI s t).length ≤ 2 * s.length
  | 0 => by simp [rowI]
  | t + 1 => by
    have := rowI_length s t
    rw [rowI, ssort_length, List.length_append, packI_length]; omega
theorem packI_mem : ∀ (l : List Itm) (x : Itm), x ∈ packI l → ∃ a b, a ∈ l ∧ b ∈ l ∧ x = (a.1 + b.1, -1)
  | [], x, h => by simp [packI] at h
  | [a], x, h => by simp [packI] at h
  | a :: b :: l, x, h => by
    rw [packI] at h
    rcases List.mem_cons.1 h with h | h
    · exact ⟨a, b, by simp, by simp, h⟩
    · obtain ⟨c, d, h1, h2, h3⟩ := packI_mem l x h
      exact ⟨c, d, by simp [h1], by simp [h2], h3⟩
theorem rowI_le (s : List Itm) (hs : ∀ x ∈ s, x.1 ≤ 1048576) : ∀ t, ∀ x ∈ rowI s t, x.1 ≤ 1048576 * 2 ^ t
  | 0, x, h => by simp [rowI] at h
  | t + 1, x, h => by
    rw [rowI] at h
    have hp : 1 ≤ 2 ^ t := Nat.one_le_two_pow
    rw [Nat.pow_succ]
    rcases List.mem_append.1 ((ssort_perm _).mem_iff.1 h) with h | h
    · have := hs x h; omega
    · obtain ⟨a, b, ha, hb, rfl⟩ := packI_mem _ _ h
      have h1 := rowI_le s hs t a ha
      have h2 := rowI_le s hs t b hb
      show a.1 + b.1 ≤ _
      omega
def mT (ms : List (Value × List Itm)) : List Thing := ms.map fun r => itmT r.1 r.2
theorem infoRow : (Tryd.prog.info? 84).map (fun i => (i.zero, i.size, i.bytes)) = some (some (.slice none 0 0), 1, 24) := by kernel_rfl
theorem set_mid (A C : List Value) (x y : Value) (n : Nat) (h : A.length = n) : (A ++ x :: C).set n y = A ++ y :: C := by
  rw [← h, List.set_append_right _ _ (Nat.le_refl _), Nat.sub_self]; rfl
theorem Held.rowAt {w0 w : World} {e : TypeId} {B m c : Nat} {xs : List Value} {Rs : List Thing} (h : Held w0 w (ownT e 1 (.slice (some ⟨B, 0, none⟩) m c) m xs :: Rs)) {i : Nat} {u : Value} (hu : xs[i]? = some u) (hm : 0 < m) : w.cell? ⟨B, i, none⟩ = some u := by
  obtain ⟨g, off, hg, hcell, _, _⟩ := h.own.site hm
  simp only [Option.some.injEq, Addr.mk.injEq, and_true] at hg
  obtain ⟨rfl, rfl⟩ := hg
  have := hcell i u hu
  rw [Nat.zero_add] at this; exact this
theorem mid_get (A C : List Value) (y : Value) (n : Nat) (h : A.length = n) : (A ++ y :: C)[n]? = some y := by
  rw [← h, List.getElem?_append_right (Nat.le_refl _), Nat.sub_self]; rfl
set_option maxHeartbeats 1600000 in
theorem rows_any (n m : Nat) (S : List Itm) (sv : Value) (w0 w : World) (Rs : List Thing) (h : Held w0 w (itmT sv S :: Rs)) (hn : S.length = n) (hn0 : 0 < n) (hN2 : n ≤ 1000) (hm : m ≤ 15) (hw : ∀ x ∈ S, x.1 ≤ 1048576) :
    Calls Tryd.prog 42 #[sv, .int .i64 (m : Int)] w fun e w' => ∃ (B : Nat) (ms : List (Value × List Itm)), e = .returned (.slice (some ⟨B, 0, none⟩) m m) ∧ ms.length = m ∧ ms.map (·.2) = (List.range m).map (fun t => rowI S (t + 1)) ∧
      Held w0 w' (ownT 84 1 (.slice (some ⟨B, 0, none⟩) m m) m (ms.map (·.1)) :: itmT sv S :: (mT ms ++ Rs)) := by
  obtain ⟨i0, hi, hz0, hz1, hz2⟩ := info_parts infoRow
  obtain ⟨so, sc, rfl, hc1, hc2⟩ := itm_form h
  have HL : Hid (S.length = n ∧ ∀ x ∈ S, x.1 ≤ 1048576) := hid ⟨hn, hw⟩
  rw [hn] at h hc1 ⊢
  have H := hid h
  have hm0 : (0 : Int) ≤ (m : Int) := Int.natCast_nonneg _
  clear h hn hw
  go_enter Tryd.func42, Tryd.ntmps42
  go_wp2_with ((with_reducible show wpList _ _ _ (⟨some 9, _, _, _, _, _⟩ :: _) _ _); refine wpList_make_own rfl 89 (.tmp 8) (.tmp 8) rfl 84 i0 (.slice none 0 0) 1 Tryd.underlying89 hi hz0 hz1 .i64 m rfl rfl (by rw [hz2]; omega) (by unfold maxLen; omega) ?_; intro v1 w1 zs ho1 hm1 hf1 hv1 hzs; rw [made_cells _ _ rfl] at hzs; subst hzs; subst hv1; have HH1 := hid (H.out.pushOwn ho1 hm1 hf1); clear hm1 hf1 ho1)
  generalize w.heap.size = B at HH1 ⊢
  go_loopg [6, 12] (m + 1) (fun k t6 t12 wr => ∃ (i : Nat) (ms : List (Value × List Itm)), i ≤ m ∧ m - i < k ∧ t12 = .int .i64 (i : Int) ∧ Hid (ms.length = i ∧ ms.map (·.2) = (List.range i).map (fun t => rowI S (t + 1))) ∧
    Hid (Held w0 wr (ownT 84 1 (.slice (some ⟨B, 0, none⟩) m m) m (ms.map (·.1) ++ List.replicate (m - i) (.slice none 0 0)) :: itmT t6 (packI (rowI S i)) :: itmT (.slice so n sc) S :: (mT ms ++ Rs))))
  case atStart =>
    refine ⟨0, [], by omega, by omega, rfl, hid ⟨rfl, rfl⟩, ?_⟩
    have h := (HH1.out.nil 87 2).swap
    exact hid h
  case round =>
    obtain ⟨i, ms, him, hk, rfl, HE, HH⟩ := hrel
    have h1 : (0 : Int) ≤ (i : Int) := Int.natCast_nonneg _
    by_cases hlt : i < m
    · have hltI : (i : Int) < (m : Int) := by omega
      obtain ⟨po, pc, rfl, hp1, hp2⟩ := itm_form HH.out.swap
      obtain ⟨k, hk0⟩ : ∃ k, k = (packI (rowI S i)).length := ⟨_, rfl⟩
      rw [← hk0] at hp1 HH ⊢
      have hkk : k ≤ n := by
        have := rowI_length S i
        rw [packI_length] at hk0
        have := HL.out.1
        omega
      have hh := HH.out.lit 84 1 [.slice so n sc, .slice po k pc] 2 (by decide) rfl
      have HC0 := hid hh.fourth.fourth.swap.third
      have HK := hid hk0.symm
      clear hh hk0
      go_wp2_with fail
      refine (concat_any n k _ S (packI (rowI S i)) _ _ w0 _ _ HC0.out HL.out.1 HK.out hn0 (by omega)).mono ?_
      rintro e w2 ⟨v, rfl, hh⟩
      obtain ⟨N, hN⟩ : ∃ N, N = (S ++ packI (rowI S i)).length := ⟨_, rfl⟩
      have hNn : N ≤ 2 * n := by
        rw [List.length_append, HL.out.1, HK.out] at hN; omega
      obtain ⟨vo, vc, rfl, hv1, hv2⟩ := itm_form hh
      rw [← hN] at hv1 hh ⊢
      have HNN := hid hN.symm
      have HS := hid hh.swap.drop.third.drop.third
      clear hh HC0 HH hN
      obtain ⟨g, off, hg, hcell, hfr, hput⟩ := HS.out.own.site (by omega)
      simp only [Option.some.injEq, Addr.mk.injEq, and_true] at hg
      obtain ⟨rfl, rfl⟩ := hg
      have hl1 : (List.map (fun x : Value × List Itm => x.1) ms).length = i := by rw [List.length_map]; exact HE.out.1
      have hrep : List.replicate (m - i) (Value.slice none 0 0) = .slice none 0 0 :: List.replicate (m - (i + 1)) (.slice none 0 0) := by
        rw [show m - i = (m - (i + 1)) + 1 by omega, List.replicate_succ]
      have hci := hcell i _ (by rw [hrep, List.getElem?_append_right (by omega), hl1, Nat.sub_self]; rfl)
      have hfi := hfr i
      have HP := hid (HS.out.putOwn (hput i (.slice vo N vc) hlt) (Mod.set w2 B (0 + i) _))
      have HSET : Hid ((List.map (fun x : Value × List Itm => x.1) ms ++ List.replicate (m - i) (Value.slice none 0 0)).set i (.slice vo N vc) = List.map (fun x : Value × List Itm => x.1) ms ++ (.slice vo N vc :: List.replicate (m - (i + 1)) (.slice none 0 0))) := by
        rw [hrep]; exact hid (set_mid _ _ _ _ _ hl1)
      have HP2 := HP.out
      rw [HSET.out] at HP2
      simp only [Nat.zero_add] at HP2 hci hfi
      have HQ := hid HP2
      have HLI := hid hl1
      clear hcell hfr hput hrep HP HP2 HS hl1
      go_upto_region 7 with (fail)
      generalize w2.setCell ⟨B, i, none⟩ (.slice vo N vc) = w3 at HQ ⊢
      have c1 := HQ.out.rowAt (mid_get _ _ _ _ HLI.out) (by omega)
      clear hci hfi
      go_wp2_with fail
      refine (sortrow_any N _ _ w0 _ _ HQ.out.swap HNN.out (by omega)).mono ?_
      rintro e w4 ⟨rfl, hh⟩
      have HQ2 := hid hh.swap
      clear hh HQ c1
      have c1 := HQ2.out.rowAt (mid_get _ _ _ _ HLI.out) (by omega)
      have HWB : Hid (∀ x ∈ rowI S (i + 1), x.1 ≤ 1099511627776) := by
        refine hid fun x hx => ?_
        have h := rowI_le S HL.out.2 (i + 1) x hx
        have h2 : 2 ^ (i + 1) ≤ 2 ^ 15 := Nat.pow_le_pow_right (by decide) (by omega)
        have h3 : 1048576 * 2 ^ (i + 1) ≤ 1048576 * 2 ^ 15 := Nat.mul_le_mul_left _ h2
        omega
      go_wp2_with fail
      refine (pack_any N (ssort (S ++ packI (rowI S i))) _ w0 _ _ HQ2.out.swap (by rw [ssort_length]; exact HNN.out) (by omega) HWB.out).mono ?_
      rintro e w5 ⟨pv, rfl, hh⟩
      have h5 := hh.third
      have h6 := h5.perm ((((List.Perm.swap _ _ _).cons _).cons _).trans (((List.perm_middle.symm.cons _).cons _).cons _))
      have HF : Hid (Held w0 w5 (ownT 84 1 (.slice (some ⟨B, 0, none⟩) m m) m ((ms ++ [(Value.slice vo N vc, rowI S (i + 1))]).map (·.1) ++ List.replicate (m - (i + 1)) (.slice none 0 0)) :: itmT pv (packI (rowI S (i + 1))) :: itmT (.slice so n sc) S :: (mT (ms ++ [(Value.slice vo N vc, rowI S (i + 1))]) ++ Rs))) := by
        have e1 : (ms ++ [((.slice vo N vc : Value), rowI S (i + 1))]).map (·.1) ++ List.replicate (m - (i + 1)) (.slice none 0 0) = List.map (fun x : Value × List Itm => x.1) ms ++ .slice vo N vc :: List.replicate (m - (i + 1)) (.slice none 0 0) := by simp
        have e2 : mT (ms ++ [((.slice vo N vc : Value), rowI S (i + 1))]) ++ Rs = mT ms ++ itmT (.slice vo N vc) (rowI S (i + 1)) :: Rs := by simp [mT]
        rw [e1, e2]
        exact hid h6
      clear hh h5 h6 HQ2 c1
      go_wp2
      go_roundg (gk - 1)
      case measure => omega
      case rel =>
        refine ⟨i + 1, ms ++ [(Value.slice vo N vc, rowI S (i + 1))], by omega, by omega, by go_num, hid ⟨by simp; exact HE.out.1, ?_⟩, HF⟩
        rw [List.map_append, HE.out.2, List.range_succ, List.map_append]; rfl
    · have hltI : ¬ (i : Int) < (m : Int) := by omega
      obtain rfl : i = m := by omega
      have HF : Hid (Held w0 wr (ownT 84 1 (.slice (some ⟨B, 0, none⟩) i i) i (ms.map (·.1)) :: itmT (.slice so n sc) S :: (mT ms ++ Rs))) := by
        have h := HH.out
        rw [Nat.sub_self, List.replicate_zero, List.append_nil] at h
        exact hid h.swap.drop
      go_wp2
      go_ret
      exact ⟨B, rfl, ms, HE.out.1, HE.out.2, HF⟩
end Go.Proofs.YthibpnkdhbkakaaDoor
/-
  The lengths shared out: the walk.
-/
namespace Go.Proofs.YthibpnkdhbkakaaDoor
set_option maxRecDepth 5000
open Go.RowKit
attribute [local go_sem] Oper.semAt_some

def packsN (l : List Itm) : Nat := l.countP fun x => decide (x.2 = -1)
def symsN (l : List Itm) (i : Nat) : Nat := l.countP fun x => decide (x.2 = (i : Int))
/-- when k rows are over: how many of the next row, and the lengths so far -/
def stS (rl : Nat → List Itm) (m K0 : Nat) : Nat → Nat × (Nat → Nat)
  | 0 => (K0, fun _ => 0)
  | k + 1 => (2 * packsN ((rl (m - 1 - k)).take (stS rl m K0 k).1), fun i => (stS rl m K0 k).2 i + symsN ((rl (m - 1 - k)).take (stS rl m K0 k).1) i)
def gNums (N : Nat) (G : Nat → Nat) : List Value := nums .i64 ((List.range N).map G)
theorem gNums_get (N : Nat) (G : Nat → Nat) (i : Nat) (h : i < N) : (gNums N G)[i]? = some (.int .i64 (G i : Int)) := by simp [gNums, nums_get, h]
theorem gNums_set (N : Nat) (G : Nat → Nat) (i u : Nat) : (gNums N G).set i (.int .i64 (u : Int)) = gNums N (fun j => if j = i then u else G j) := by
  unfold gNums
  rw [nums_set]
  congr 1
  refine List.ext_getElem? fun j => ?_
  rw [List.getElem?_set]
  by_cases hj : j < N
  · by_cases e : i = j
    · subst e
      rw [if_pos rfl, if_pos (by simpa using hj)]
      simp [hj]
    · rw [if_neg e]
      simp [hj, show ¬ j = i from fun h => e h.symm]
  · by_cases e : i = j
    · subst e
      rw [if_pos rfl, if_neg (by simpa using hj), List.getElem?_eq_none (by simp; omega)]
    · rw [if_neg e, List.getElem?_eq_none (by simp; omega), List.getElem?_eq_none (by simp; omega)]
theorem packsN_snoc (l : List Itm) (x : Itm) : packsN (l ++ [x]) = packsN l + (if x.2 = -1 then 1 else 0) := by
  unfold packsN; rw [List.countP_append]; simp [List.countP_cons]
theorem symsN_snoc (l : List Itm) (x : Itm) (i : Nat) : symsN (l ++ [x]) i = symsN l i + (if x.2 = (i : Int) then 1 else 0) := by
  unfold symsN; rw [List.countP_append]; simp [List.countP_cons]
theorem packsN_le (l : List Itm) : packsN l ≤ l.length := List.countP_le_length
theorem symsN_le (l : List Itm) (i : Nat) : symsN l i ≤ l.length := List.countP_le_length
theorem stS_le (rl : Nat → List Itm) (m K0 : Nat) (h : ∀ t, (rl t).length ≤ 1000) (i : Nat) : ∀ k, (stS rl m K0 k).2 i ≤ 1000 * k
  | 0 => Nat.le_refl _
  | k + 1 => by
    have h1 := stS_le rl m K0 h i k
    have h2 := symsN_le ((rl (m - 1 - k)).take (stS rl m K0 k).1) i
    have h3 := h (m - 1 - k)
    rw [List.length_take] at h2
    show (stS rl m K0 k).2 i + _ ≤ _
    omega
/-- what holds when k rows are over -/
def ShI (w3 : World) (gl B3 N cap off : Nat) (st : Nat → Nat × (Nat → Nat)) (k : Nat) (W : World) : Prop :=
  Mod w3 W (fun j => j = gl ∨ j = B3) ∧ Own W 3 1 (.slice (some ⟨gl, off, none⟩) N cap) N (gNums N (st k).2) ∧ Blk W B3 [.int .i64 ((st k).1 : Int)] 3
theorem ShI.far {w3 : World} {gl B3 N cap off : Nat} {st : Nat → Nat × (Nat → Nat)} {k : Nat} {W W' : World} (h : ShI w3 gl B3 N cap off st k W) (hb : Below w3.heap.size W W') (h1 : gl < w3.heap.size) (h2 : B3 < w3.heap.size) : ShI w3 gl B3 N cap off st k W' := by
  obtain ⟨a, b, c⟩ := h
  have hm := Mod.of_below hb
  refine ⟨a.trans hm (fun j hj h => by omega), b.kept hm (fun j hj => ?_), c.kept hm (by omega)⟩
  simp only [Value.ownBlock, Option.some.injEq] at hj
  omega
set_option maxRecDepth 100000 in
set_option maxHeartbeats 3200000 in
theorem share_any (N m K0 gl off cap B : Nat) (vals : Nat → Value) (rl : Nat → List Itm) (w : World) (hN : N ≤ 1000) (hm : m ≤ 15)
    (hO : Own w 3 1 (.slice (some ⟨gl, off, none⟩) N cap) N (gNums N (fun _ => 0))) (hB : ∀ t, t < m → w.cell? ⟨B, t, none⟩ = some (vals t)) (hBl : B < w.heap.size) (hBg : B ≠ gl)
    (hV : ∀ t, ∃ a k c, vals t = .slice a k c) (hR : ∀ t, t < m → Own w 87 2 (vals t) (rl t).length (cellsI (rl t))) (hRg : ∀ t, t < m → (vals t).ownBlock ≠ some gl)
    (hOK : ∀ k, k < m → (stS rl m K0 k).1 ≤ (rl (m - 1 - k)).length) (hlen : ∀ t, (rl t).length ≤ 1000) (hpos : ∀ t, t < m → 0 < (rl t).length) (hsym : ∀ t, t < m → ∀ x ∈ rl t, x.2 = -1 ∨ ∃ s : Nat, s < N ∧ x.2 = (s : Int)) :
    Calls Tryd.prog 41 #[.slice (some ⟨gl, off, none⟩) N cap, .slice (some ⟨B, 0, none⟩) m m, .int .i64 (K0 : Int)] w fun e w' => e = .returned (.tuple #[]) ∧
      Own w' 3 1 (.slice (some ⟨gl, off, none⟩) N cap) N (gNums N (stS rl m K0 m).2) ∧ Mod w w' (fun j => j = gl) := by
  have hgl : gl < w.heap.size := hO.lt gl rfl
  refine (callsIn_wide (n := 3)).1 ?_
  refine callsIn_of_wp_marks Tryd.func41 rfl trivial ?_ rfl
  simp only [Tryd.ntmps41, List.size_toArray, List.length_cons, List.length_nil, Nat.reduceAdd, Nat.reduceSub, Array.replicate_succ, Array.replicate_zero, List.push_toArray, List.append_toArray, List.nil_append, List.cons_append]
  gi_wp2_with fail
  refine ⟨trivial, ?_⟩
  refine (callsIn_wide.2 (backward_any _ _ ⟨_, _, _, rfl⟩)).mono ?_
  rintro e w' ⟨rfl, rfl⟩
  have hsz : ((w.alloc (.cells #[.slice (some ⟨gl, off, none⟩) N cap] 59)).alloc (.cells #[.int .i64 (K0 : Int)] 3)).heap.size = w.heap.size + 2 := by simp
  rw [hsz]
  have b1 := (Blk.new w [.slice (some ⟨gl, off, none⟩) N cap] 59)
  obtain ⟨wa, hwa⟩ : ∃ wa, wa = w.alloc (.cells #[.slice (some ⟨gl, off, none⟩) N cap] 59) := ⟨_, rfl⟩
  rw [← hwa] at hsz ⊢
  have b2 := (Blk.new wa [.int .i64 (K0 : Int)] 3)
  obtain ⟨wb, hwb⟩ : ∃ wb, wb = wa.alloc (.cells #[.int .i64 (K0 : Int)] 3) := ⟨_, rfl⟩
  rw [← hwb] at hsz ⊢
  have b3 := (Blk.new wb [.slice (some ⟨B, 0, none⟩) m m] 89)
  obtain ⟨wc, hwc⟩ : ∃ wc, wc = wb.alloc (.cells #[.slice (some ⟨B, 0, none⟩) m m] 89) := ⟨_, rfl⟩
  rw [← hwc]
  have hszc : wc.heap.size = w.heap.size + 3 := by rw [hwc, World.size_alloc, hsz]
  have hsza : wa.heap.size = w.heap.size + 1 := by rw [hwa]; simp
  have hMc : Mod w wc (fun _ => False) := by rw [hwc, hwb, hwa]; exact ((((Mod.refl w _).alloc _).alloc _).alloc _)
  have k1 : Blk wc w.heap.size [.slice (some ⟨gl, off, none⟩) N cap] 59 := by
    rw [hwc, hwb]; exact (by rw [hwa]; exact (b1.alloc _).alloc _)
  have k2 : Blk wc (w.heap.size + 1) [.int .i64 (K0 : Int)] 3 := by
    rw [hwc, ← hsza]; exact (by rw [hwb]; exact b2.alloc _)
  have k3 : Blk wc (w.heap.size + 2) [.slice (some ⟨B, 0, none⟩) m m] 89 := by
    rw [hwc, ← hsz]; exact b3
  clear b1 b2 b3 hwa hwb hwc hsz hsza
  gi_wp2_with fail
  refine range_rounds (gf := 70) (lb := #[.pointer (some ⟨w.heap.size + 2, 0, none⟩)]) rfl (by decide) rfl trivial (enters_of Tryd.func70 (by kernel_rfl) rfl) m
    (fun k => #[.int .i64 ((m - 1 - k : Nat) : Int), vals (m - 1 - k)]) (fun _ => rfl) (ShI wc gl (w.heap.size + 1) N cap off (stS rl m K0)) ?far ?h0 ?hit
    (fun k => { tmps := #[.slice (some ⟨gl, off, none⟩) N cap, .slice (some ⟨B, 0, none⟩) m m, .int .i64 (K0 : Int), .pointer (some ⟨w.heap.size, 0, none⟩), undef, .pointer (some ⟨w.heap.size + 1, 0, none⟩), undef, vals (m - 1 - k), undef, undef, undef, .slice (some ⟨B, 0, none⟩) m m,
      .func (.func 70) #[] #[.pointer (some ⟨w.heap.size + 2, 0, none⟩)], .int .i64 ((m - 1 - k : Nat) : Int), vals (m - 1 - k), undef, undef, undef, undef, undef, undef, undef, undef, undef, undef, undef, undef, undef, undef, undef, undef, undef, undef, undef, undef, undef, undef, undef], defers := [] }) ?assign ?body ?done
  case far => exact fun k W W' h hb => h.far hb (by omega) (by omega)
  case h0 => exact ⟨Mod.refl _ _, hO.kept hMc (fun _ _ h => h), k2⟩
  case hit =>
    intro l J W hJI hY hJ0
    refine backward_in Fence.wide _ trivial rfl (by decide) l (w.heap.size + 2) B m vals hm hV J (fun k W h => ?_) hY W hJ0
    obtain ⟨i1, _, _⟩ := hJI k W h
    refine ⟨?_, fun t ht => ?_⟩
    · rw [i1.cell (p := ⟨w.heap.size + 2, 0, none⟩) (by show w.heap.size + 2 < _; omega) (by show ¬ (w.heap.size + 2 = gl ∨ w.heap.size + 2 = w.heap.size + 1); omega)]
      exact k3.cell (i := 0) rfl
    · rw [i1.cell (p := ⟨B, t, none⟩) (by show B < _; omega) (by show ¬ (B = gl ∨ B = w.heap.size + 1); omega), hMc.cell (p := ⟨B, t, none⟩) hBl (fun h => h)]
      exact hB t ht
  case assign =>
    intro l k W K hK
    obtain ⟨a, b, c, hv⟩ := hV (m - 1 - k)
    rw [hv] at hK ⊢
    gi_wp2
    exact hK
  case body =>
    intro l k W hk hI hWs
    obtain ⟨t, ht⟩ : ∃ t, t = m - 1 - k := ⟨_, rfl⟩
    have htm : t < m := by omega
    obtain ⟨K, hK⟩ : ∃ K, K = (stS rl m K0 k).1 := ⟨_, rfl⟩
    obtain ⟨G, hG⟩ : ∃ G, G = (stS rl m K0 k).2 := ⟨_, rfl⟩
    obtain ⟨i1, i2, i3⟩ := hI
    rw [← hG] at i2
    rw [← hK] at i3
    have hKR : K ≤ (rl t).length := by rw [hK, ht]; exact hOK k hk
    have hK1 : K ≤ 1000 := by have := hlen t; omega
    have hGb : ∀ i, G i ≤ 15000 := fun i => by
      have := stS_le rl m K0 hlen i k
      rw [← hG] at this; omega
    have hst : stS rl m K0 (k + 1) = (2 * packsN ((rl t).take K), fun i => G i + symsN ((rl t).take K) i) := by
      show (2 * packsN ((rl (m - 1 - k)).take (stS rl m K0 k).1), fun i => (stS rl m K0 k).2 i + symsN ((rl (m - 1 - k)).take (stS rl m K0 k).1) i) = _
      rw [← ht, ← hK, ← hG]
    have hrow : Own wc 87 2 (vals t) (rl t).length (cellsI (rl t)) := (hR t htm).kept hMc (fun _ _ h => h)
    obtain ⟨g, o, cp, hv, hl1, hl2, hcell, _, _⟩ := hrow.site2 (hpos t htm)
    have hgn : g ≠ gl := by
      intro e
      exact hRg t htm (by rw [hv, e]; rfl)
    have hglt : g < w.heap.size := (hR t htm).lt g (by rw [hv]; rfl)
    have cK := i3.cell (i := 0) rfl
    have cL : W.cell? ⟨w.heap.size, 0, none⟩ = some (.slice (some ⟨gl, off, none⟩) N cap) := by
      rw [i1.cell (p := ⟨w.heap.size, 0, none⟩) (by show w.heap.size < _; omega) (by show ¬ (w.heap.size = gl ∨ w.heap.size = w.heap.size + 1); omega)]
      exact k1.cell (i := 0) rfl
    rw [← ht, hv]
    have HK := hid hst
    have HR := hid (And.intro hcell hKR)
    have hK0' : (0 : Int) ≤ (K : Int) := Int.natCast_nonneg _
    have HI2 := hid i2
    have HI3 := hid i3
    have HI1 := hid i1
    have hKc : K ≤ cp := by omega
    have hsymt := hid (hsym t htm)
    have hKt : ∀ j, j < K → ∃ x, (rl t)[j]? = some x := fun j hj => ⟨_, List.getElem?_eq_getElem (by omega)⟩
    generalize (rl t).length = RL at *
    clear hst hcell hKR i1 i2 i3 hrow hv hK hG
    gi_wp2
    gi_loopg [8, 19] (K + 1) (fun q t8 t19 wr => ∃ (j p : Nat), j ≤ K ∧ K - j < q ∧ t19 = .int .i64 (j : Int) ∧ t8 = .int .i64 (p : Int) ∧ p ≤ j ∧ Hid (p = packsN ((rl t).take j)) ∧
      Hid (Mod wc wr (fun j => j = gl ∨ j = w.heap.size + 1) ∧ Own wr 3 1 (.slice (some ⟨gl, off, none⟩) N cap) N (gNums N (fun i => G i + symsN ((rl t).take j) i)) ∧ Blk wr (w.heap.size + 1) [.int .i64 (K : Int)] 3) ∧
      Hid (KeepsFrom wc.heap.size W wr ∧ wc.heap.size ≤ wr.heap.size))
    case atStart => exact ⟨0, 0, by omega, by omega, rfl, rfl, by omega, rfl, hid ⟨HI1.out, by simpa [symsN] using HI2.out, HI3.out⟩, hid ⟨KeepsFrom.refl _ _, hWs⟩⟩
    case round =>
      obtain ⟨j, p, hjK, hq, rfl, rfl, hpj, HP, HW, HF⟩ := hrel
      have hj0 : (0 : Int) ≤ (j : Int) := Int.natCast_nonneg _
      have hp0 : (0 : Int) ≤ (p : Int) := Int.natCast_nonneg _
      obtain ⟨j1, j2, j3⟩ := HW.out
      by_cases hlt : j < K
      · have hltI : (j : Int) < (K : Int) := by omega
        obtain ⟨x, hx⟩ := hKt j hlt
        have c1 := (HR.out.1 j x hx).1
        have c2 := (HR.out.1 j x hx).2
        rw [← j1.cell (p := ⟨g, o + j * 2, none⟩) (by show g < _; omega) (by show ¬ (g = gl ∨ g = w.heap.size + 1); omega)] at c1
        rw [← j1.cell (p := ⟨g, o + j * 2 + 1, none⟩) (by show g < _; omega) (by show ¬ (g = gl ∨ g = w.heap.size + 1); omega)] at c2
        have cL2 : wr.cell? ⟨w.heap.size, 0, none⟩ = some (.slice (some ⟨gl, off, none⟩) N cap) := by
          rw [j1.cell (p := ⟨w.heap.size, 0, none⟩) (by show w.heap.size < _; omega) (by show ¬ (w.heap.size = gl ∨ w.heap.size = w.heap.size + 1); omega)]
          exact k1.cell (i := 0) rfl
        have HT : Hid ((rl t).take (j + 1) = (rl t).take j ++ [x]) := by rw [List.take_add_one, hx]; exact hid rfl
        rcases hsymt.out x (List.mem_of_getElem? hx) with hs | ⟨s, hsN, hs⟩
        · rw [hs] at c2
          have HG : Hid ((fun i => G i + symsN ((rl t).take (j + 1)) i) = fun i => G i + symsN ((rl t).take j) i) := by
            refine hid (funext fun i => ?_)
            rw [HT.out, symsN_snoc, if_neg (by rw [hs]; omega)]; omega
          have HP2 : Hid (p + 1 = packsN ((rl t).take (j + 1))) := by
            rw [HT.out, packsN_snoc, if_pos hs, ← HP.out]; exact hid rfl
          gi_wp2
          gi_roundg (gk - 1)
          case measure => omega
          case rel =>
            refine ⟨j + 1, p + 1, by omega, by omega, by go_num, by go_num, by omega, HP2, hid ⟨j1.alloc _, ?_, j3.alloc _⟩, hid ⟨HF.out.1.trans ((KeepsOthers.alloc wr _).from _), by have := HF.out.2; simp; omega⟩⟩
            rw [HG.out]; exact j2.alloc _
        · rw [hs] at c2
          obtain ⟨gs, hgs⟩ : ∃ gs, gs = G s + symsN ((rl t).take j) s := ⟨_, rfl⟩
          have hgs1 : gs ≤ 16000 := by
            have h1 := hGb s
            have h2 := symsN_le ((rl t).take j) s
            rw [List.length_take] at h2
            omega
          have HG : Hid ((fun i => G i + symsN ((rl t).take (j + 1)) i) = fun i => if i = s then gs + 1 else G i + symsN ((rl t).take j) i) := by
            refine hid (funext fun i => ?_)
            rw [HT.out, symsN_snoc]
            by_cases e : i = s
            · subst e
              rw [if_pos hs, if_pos rfl, hgs]; omega
            · rw [if_neg (by rw [hs]; omega), if_neg e]; omega
          have HP2 : Hid (p = packsN ((rl t).take (j + 1))) := by
            rw [HT.out, packsN_snoc, if_neg (by rw [hs]; omega), ← HP.out]; exact hid (Nat.add_zero _).symm
          obtain ⟨g', o', hg', hcl, hfr, hput⟩ := (j2.alloc (.cells #[.int .i64 (x.1 : Int), .int .i64 (s : Int)] 87)).site (by omega)
          simp only [Option.some.injEq, Addr.mk.injEq, and_true] at hg'
          obtain ⟨rfl, rfl⟩ := hg'
          have c3 := hcl s _ (gNums_get N _ s hsN)
          rw [← hgs] at c3
          have f3 := hfr s
          have HPUT := hput s (.int .i64 ((gs + 1 : Nat) : Int)) hsN
          rw [gNums_set, ← HG.out] at HPUT
          have hs0 : (0 : Int) ≤ (s : Int) := Int.natCast_nonneg _
          have hsb : ((s : Int) == -1) = false := by simp
          have hs1 : ¬ (s : Int) = -1 := by omega
          have cL3 : (wr.alloc (.cells #[.int .i64 (x.1 : Int), .int .i64 (s : Int)] 87)).cell? ⟨w.heap.size, 0, none⟩ = some (.slice (some ⟨gl, off, none⟩) N cap) := by
            rw [((Mod.refl wr (fun _ => False)).alloc _).cell (p := ⟨w.heap.size, 0, none⟩) (by show w.heap.size < _; have := HF.out.2; omega) (fun h => h)]; exact cL2
          have HS := hid HPUT
          have HS2 := hid hs
          have HX := hid hx
          have HGS := hid hgs
          clear hcl hfr hput HPUT hs hx hgs
          gi_wp2
          gi_roundg (gk - 1)
          case measure => omega
          case rel =>
            have hcast : ((gs + 1 : Nat) : Int) = (gs : Int) + 1 := by omega
            have h2 := HS.out
            rw [hcast] at h2
            refine ⟨j + 1, p, by omega, by omega, by go_num, rfl, by omega, HP2, hid ⟨(j1.alloc _).setCell (p := ⟨gl, off + s, none⟩) (.inr (.inl rfl)) _, h2, (j3.alloc _).other (p := ⟨gl, off + s, none⟩) (by show w.heap.size + 1 ≠ gl; omega) _⟩,
              hid ⟨(HF.out.1.trans ((KeepsOthers.alloc wr _).from _)).trans ((KeepsOthers.setCell _ _ _).from _), by have := HF.out.2; simp [World.setCell]; omega⟩⟩
      · have hltI : ¬ (j : Int) < (K : Int) := by omega
        obtain rfl : j = K := by omega
        have cN := j3.cell (i := 0) rfl
        have fN := j3.frozen 0
        have hpn : p ≤ 1000 := by omega
        have HSET := hid (j3.set 0 (.int .i64 ((2 * p : Nat) : Int)))
        have hp2 : ((2 * p : Nat) : Int) = 2 * (p : Int) := by omega
        rw [hp2] at HSET
        gi_wp2
        refine ⟨by rw [← hszc]; exact HF.out.1.trans ((KeepsOthers.setCell _ _ _).from _), j1.setCell (p := ⟨w.heap.size + 1, 0, none⟩) (.inr (.inr rfl)) _, ?_, ?_⟩
        · rw [HK.out]
          exact j2.kept (Mod.setCell (S := fun k => k = w.heap.size + 1) (Mod.refl wr _) (p := ⟨w.heap.size + 1, 0, none⟩) (.inr rfl) _) (fun q hq => by
            simp only [Value.ownBlock, Option.some.injEq] at hq
            omega)
        · rw [HK.out, ← HP.out]
          have h := HSET.out
          rw [← hp2] at h
          exact h
  case done =>
    intro D W hD hI hK
    obtain ⟨i1, i2, i3⟩ := hI
    have HI1 := hid i1
    have HI2 := hid i2
    clear i1 i2 i3
    gi_wp2
    refine ⟨by simp, .inl ⟨_, _, rfl, run_takeDeferred hK, ?_⟩⟩
    have hM2 : Mod W (W.putObj D (.deferred none)) (fun j => j = D) := ⟨rfl, rfl, rfl, by simp, fun j hj hne => World.putObj_heap_other hne⟩
    have hM0 : Mod w wc (fun j => j = gl) := hMc.mono (fun _ _ h => h.elim)
    have hM1 : Mod w W (fun j => j = gl) := hM0.trans HI1.out (fun k hk h => by omega)
    refine ⟨_, results_none rfl _ _ _, rfl, HI2.out.kept hM2 (fun j hj => ?_), hM1.trans hM2 (fun k hk h => by omega)⟩
    simp only [Value.ownBlock, Option.some.injEq] at hj
    omega
end Go.Proofs.YthibpnkdhbkakaaDoor
