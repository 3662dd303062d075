/-
  Items sorted (the library's function, as the program calls it); two slices of items put together.
-/
import Derived.Test.YthibpnkdhbkakaaGreatDoorZq26
import Derived.Test.YthibpnkdhbkakaaGreatDoorZq02
import Derived.Lib.AppendZerosOnto
import Derived.Test.YthibpnkdhbkakaaGreatDoorZq14
import Derived.Test.YthibpnkdhbkakaaGreatDoorZq03
import Derived.Test.YthibpnkdhbkakaaGreatDoorZq04
import Derived.Test.YthibpnkdhbkakaaGreatDoorZq07
namespace Go.Proofs.YthibpnkdhbkakaaGreatDoor
set_option maxRecDepth 5000
open Go.RowKit

theorem infoItem : (Tryz.prog.info? 116).map (fun i => (i.zero, i.size, i.bytes)) = some (some (.agg #[.int .i64 0, .int .i64 0]), 2, 16) := by kernel_rfl
theorem sortfunc_any (n : Nat) (Z : List Itm) (v : Value) (w0 w : World) (Rs : List Thing) (h : Held w0 w (itmT v Z :: Rs)) (hn : Z.length = n) (hN2 : n ≤ 100000) :
    Calls Tryz.prog 96 #[v, cmpV] w fun e w' => e = .returned (.tuple #[]) ∧ Held w0 w' (itmT v (ssort Z) :: Rs) := by
  have HR := hid (stable_any n Z v w0 w Rs h hn hN2)
  obtain ⟨ao, cap, rfl, hc1, hc2⟩ := itm_form h
  unfold cmpV at *
  rw [hn] at HR hc1 ⊢
  clear h hn
  go_enter Tryz.func96, Tryz.ntmps96
  go_wp2_with fail
  refine HR.out.mono ?_
  rintro e w1 ⟨rfl, hh⟩
  have HH := hid hh
  clear hh HR
  go_wp2
  go_end0
  exact ⟨rfl, HH⟩
theorem sortrow_any (n : Nat) (Z : List Itm) (v : Value) (w0 w : World) (Rs : List Thing) (h : Held w0 w (itmT v Z :: Rs)) (hn : Z.length = n) (hN2 : n ≤ 100000) :
    Calls Tryz.prog 87 #[v] w fun e w' => e = .returned (.tuple #[]) ∧ Held w0 w' (itmT v (ssort Z) :: Rs) := by
  have HR := hid (sortfunc_any n Z v w0 w Rs h hn hN2)
  clear h hn
  unfold cmpV at *
  go_enter Tryz.func87, Tryz.ntmps87
  go_wp2_with fail
  refine HR.out.mono ?_
  rintro e w1 ⟨rfl, hh⟩
  have HH := hid hh
  clear hh HR
  go_wp2
  go_end0
  exact ⟨rfl, HH⟩
set_option maxHeartbeats 800000 in
theorem grow_nil (n : Nat) (w0 w : World) (Rs : List Thing) (h : Held w0 w Rs) (hn : 0 < n) (hN2 : n ≤ 100000) :
    Calls Tryz.prog 95 #[.slice none 0 0, .int .i64 (n : Int)] w fun e w' => ∃ v, e = .returned v ∧ Held w0 w' (itmT v [] :: Rs) := by
  obtain ⟨i, hi, hz0, hz1, hz2⟩ := info_parts infoItem
  obtain ⟨G, hG⟩ : ∃ G, G = grownCap w (0 + n) 0 116 := ⟨_, rfl⟩
  have hrz : ∀ ty, (Builtin.append_ #[113, 3] ty #[.slice none 0 0, .int .i64 (n : Int)]).run Tryz.prog w =
      .ok (.slice (some ⟨w.heap.size, 0, none⟩) n G) (w.drew.alloc (.cells (#[] ++ Builtin.zeroCells (#[.int .i64 0, .int .i64 0]) n ++ Builtin.zeroCells (#[.int .i64 0, .int .i64 0]) (G - n)) 116)) := fun ty => by
    have h := Lib.run_append_grow_zeros w 113 3 ty 116 i (.agg #[.int .i64 0, .int .i64 0]) .i64 .i64 Tryz.underlying113 Tryz.underlying3 hi hz0 none 0 0 [] (by simp [Builtin.firstCells]) n hn (by rw [hz1]; decide) (by omega) (by omega) (by rw [hz2]; omega) (growslice_fits (by omega) (by rw [hz2]; omega))
    rw [← hG, Nat.zero_add] at h
    exact h
  have hGn : n ≤ G := by rw [hG]; have := grownCap_ge w (0 + n) 0 116; omega
  have hGm : G ≤ maxLen := by rw [hG]; exact grownCap_le_maxLen w (0 + n) 0 _ (by unfold maxLen; omega)
  have H := hid h
  have h0 : (0 : Int) ≤ (n : Int) := Int.natCast_nonneg _
  have h1 : ¬ (n : Int) < 0 := by omega
  have h2 : (0 : Int) < (n : Int) := by omega
  clear h hG
  go_enter Tryz.func95, Tryz.ntmps95
  go_wp2_with (at_builtin; refine Lib.wpList_append_run _ rfl _ _ _ _ rfl _ _ rfl rfl _ _ (hrz _) ?_)
  go_ret
  refine ⟨_, rfl, ?_⟩
  have hown : Own ((w.alloc (.cells (Builtin.zeroCells #[.int .i64 0, .int .i64 0] n ++ Builtin.zeroCells #[.int .i64 0, .int .i64 0] (G - n)) 116)).drew) 116 2 (.slice (some ⟨w.heap.size, 0, none⟩) 0 G) 0 [] :=
    ⟨rfl, .inr ⟨w.heap.size, 0, G, _, rfl, heap_alloc_new w _, Nat.zero_le _, hGm, by simp [size_zeroCells]; omega, fun j u hu => by simp at hu⟩⟩
  exact H.out.pushOwn hown (((Mod.refl w _).alloc _).drew) (fun k hk => by simp [Value.ownBlock] at hk; omega)
set_option maxHeartbeats 1600000 in
theorem concat_any (n m B : Nat) (X Y : List Itm) (x y : Value) (w0 w : World) (Rs : List Thing) (h : Held w0 w (ownT 113 1 (.slice (some ⟨B, 0, none⟩) 2 2) 2 [x, y] :: itmT x X :: itmT y Y :: Rs)) (hn : X.length = n) (hm : Y.length = m) (hn0 : 0 < n) (hN2 : n + m ≤ 100000) :
    Calls Tryz.prog 86 #[.slice (some ⟨B, 0, none⟩) 2 2] w fun e w' => ∃ v, e = .returned v ∧ Held w0 w' (itmT v (X ++ Y) :: ownT 113 1 (.slice (some ⟨B, 0, none⟩) 2 2) 2 [x, y] :: itmT x X :: itmT y Y :: Rs) := by
  obtain ⟨i0, hi, hz0, hz1, hz2⟩ := info_parts infoItem
  obtain ⟨xo, xc, rfl, hx1, hx2⟩ := itm_form h.swap
  obtain ⟨yo, yc, rfl, hy1, hy2⟩ := itm_form h.third
  rw [hn] at h hx1 ⊢
  rw [hm] at h hy1 ⊢
  have HL : Hid (X.length = n ∧ Y.length = m) := hid ⟨hn, hm⟩
  have H := hid h
  have h0 : (0 : Int) ≤ (n : Int) := Int.natCast_nonneg _
  have h1 : (0 : Int) ≤ (m : Int) := Int.natCast_nonneg _
  clear h hn hm
  go_enter Tryz.func86, Tryz.ntmps86
  go_wp2
  go_loopg [3, 11] 3 (fun k t3 t11 wr => ∃ (i s : Nat), i ≤ 2 ∧ 2 - i < k ∧ t11 = .int .i64 (i : Int) ∧ t3 = .int .i64 (s : Int) ∧ Hid ((i = 0 ∧ 0 = s) ∨ (i = 1 ∧ n = s) ∨ (i = 2 ∧ n + m = s)) ∧ wr = w)
  case atStart => exact ⟨0, 0, by omega, by omega, rfl, rfl, hid (.inl ⟨rfl, rfl⟩), rfl⟩
  case round =>
    obtain ⟨i, s, hi2, hk, rfl, rfl, HS, rfl⟩ := hrel
    obtain ⟨g, off, hg, hcell, hfr, _⟩ := H.out.own.site (by omega)
    simp only [Option.some.injEq, Addr.mk.injEq, and_true] at hg
    obtain ⟨rfl, rfl⟩ := hg
    have c0 := hcell 0 _ rfl
    have c1 := hcell 1 _ rfl
    simp only [Nat.zero_add] at c0 c1
    clear hcell hfr
    rcases HS.out with ⟨rfl, rfl⟩ | ⟨rfl, rfl⟩ | ⟨rfl, rfl⟩
    · go_wp2
      go_roundg (gk - 1)
      case measure => omega
      case rel => exact ⟨1, n, by omega, by omega, by go_num, by go_num, hid (.inr (.inl ⟨rfl, rfl⟩)), rfl⟩
    · go_wp2
      go_roundg (gk - 1)
      case measure => omega
      case rel => exact ⟨2, n + m, by omega, by omega, by go_num, by go_num, hid (.inr (.inr ⟨rfl, rfl⟩)), rfl⟩
    · have HG := hid (grow_nil (n + m) w0 wr _ H.out (by omega) hN2)
      go_wp2_with fail
      refine HG.out.mono ?_
      rintro e w1 ⟨v, rfl, hh⟩
      have HH := hid hh
      clear hh HG c0 c1
      go_wp2
      go_loopg [6, 27] 3 (fun k t6 t27 wq => ∃ (i L : Nat) (ao : Option Addr) (cap : Nat) (Z : List Itm), i ≤ 2 ∧ 2 - i < k ∧ t27 = .int .i64 (i : Int) ∧ t6 = .slice ao L cap ∧ Hid (L = Z.length ∧ ((i = 0 ∧ Z = []) ∨ (i = 1 ∧ Z = X) ∨ (i = 2 ∧ Z = X ++ Y))) ∧
        Hid (Held w0 wq (ownT 116 2 (.slice ao L cap) L (cellsI Z) :: ownT 113 1 (.slice (some ⟨B, 0, none⟩) 2 2) 2 [.slice xo n xc, .slice yo m yc] :: itmT (.slice xo n xc) X :: itmT (.slice yo m yc) Y :: Rs)))
      case atStart =>
        obtain ⟨ao, cap, rfl, _, _⟩ := itm_form HH.out
        exact ⟨0, 0, ao, cap, [], by omega, by omega, rfl, rfl, hid ⟨rfl, .inl ⟨rfl, rfl⟩⟩, HH⟩
      case round =>
        obtain ⟨i, L, ao, cap, Z, hi2, hk2, rfl, rfl, HZ, HJ⟩ := hrel
        obtain ⟨g, off, hg, hcell, hfr, _⟩ := HJ.out.swap.own.site (by omega)
        simp only [Option.some.injEq, Addr.mk.injEq, and_true] at hg
        obtain ⟨rfl, rfl⟩ := hg
        have c0 := hcell 0 _ rfl
        have c1 := hcell 1 _ rfl
        simp only [Nat.zero_add] at c0 c1
        clear hcell hfr
        obtain ⟨hL, hz⟩ := HZ.out
        have hLL : L ≤ n + m := by
          have := HL.out
          rcases hz with ⟨_, rfl⟩ | ⟨_, rfl⟩ | ⟨_, rfl⟩
          · rw [hL]; simp
          · omega
          · rw [hL]; simp; omega
        rcases hz with ⟨rfl, hz⟩ | ⟨rfl, hz⟩ | ⟨rfl, hz⟩
        · have HRd : Hid (Rd wr 2 (.slice xo n xc) n (cellsI X)) := by
            have h := HJ.out.third.own.rd
            rw [HL.out.1] at h
            exact hid h
          have HZ2 : Hid (cellsI Z ++ cellsI X = cellsI (X) ∧ 0 + n = (X).length) := by
            rw [hz]
            have := HL.out
            refine hid ⟨by simp [cellsI], ?_⟩
            simp; omega
          have hL0 : L = 0 := by rw [hL, hz]; rfl
          clear hz hL HZ
          subst hL0
          go_wp2_with ((with_reducible show wpList _ _ _ (⟨some 33, _, _, _, _, _⟩ :: _) _ _); refine wpList_app_held rfl (.tmp 31) (.tmp 32) 113 rfl 116 i0 (.agg #[.int .i64 0, .int .i64 0]) 2 16 Tryz.underlying113 hi hz0 hz1 hz2 rfl (by decide) _ _ (cellsI Z) rfl HJ.out _ n (cellsI X) rfl HRd.out (cellsI_one X) (0 + n) rfl (by unfold maxLen; omega) (by omega) ?_; intro ao1 cap1 w1 h1; rw [HZ2.out.1] at h1; have HJ2 := hid h1; clear h1)
          go_roundg (gk - 1)
          case measure => omega
          case rel => exact ⟨1, n, ao1, cap1, X, by omega, by omega, by go_num, rfl, hid ⟨by have := HZ2.out.2; omega, .inr (.inl ⟨rfl, rfl⟩)⟩, by rw [Nat.zero_add] at HJ2; exact HJ2⟩
        · have HRd : Hid (Rd wr 2 (.slice yo m yc) m (cellsI Y)) := by
            have h := HJ.out.fourth.own.rd
            rw [HL.out.2] at h
            exact hid h
          have HZ2 : Hid (cellsI Z ++ cellsI Y = cellsI (X ++ Y) ∧ n + m = (X ++ Y).length) := by
            rw [hz]
            have := HL.out
            refine hid ⟨by simp [cellsI], ?_⟩
            simp; omega
          have hL0 : n = L := by rw [hL, hz]; exact HL.out.1.symm
          clear hz hL HZ
          subst hL0
          go_wp2_with ((with_reducible show wpList _ _ _ (⟨some 33, _, _, _, _, _⟩ :: _) _ _); refine wpList_app_held rfl (.tmp 31) (.tmp 32) 113 rfl 116 i0 (.agg #[.int .i64 0, .int .i64 0]) 2 16 Tryz.underlying113 hi hz0 hz1 hz2 rfl (by decide) _ _ (cellsI Z) rfl HJ.out _ m (cellsI Y) rfl HRd.out (cellsI_one Y) (n + m) rfl (by unfold maxLen; omega) (by omega) ?_; intro ao1 cap1 w1 h1; rw [HZ2.out.1] at h1; have HJ2 := hid h1; clear h1)
          go_roundg (gk - 1)
          case measure => omega
          case rel => exact ⟨2, n + m, ao1, cap1, X ++ Y, by omega, by omega, by go_num, rfl, hid ⟨HZ2.out.2, .inr (.inr ⟨rfl, rfl⟩)⟩, HJ2⟩
        · have HZ2 : Hid (Held w0 wr (itmT (.slice ao L cap) (X ++ Y) :: ownT 113 1 (.slice (some ⟨B, 0, none⟩) 2 2) 2 [.slice xo n xc, .slice yo m yc] :: itmT (.slice xo n xc) X :: itmT (.slice yo m yc) Y :: Rs)) := by
            have h := HJ.out
            rw [hz] at h hL
            unfold itmT
            rw [← hL]
            exact hid h
          clear hz hL HZ HJ
          go_wp2
          go_ret
          exact ⟨_, rfl, HZ2⟩
end Go.Proofs.YthibpnkdhbkakaaGreatDoor
/-
  Items packed two by two.
-/
namespace Go.Proofs.YthibpnkdhbkakaaGreatDoor
set_option maxRecDepth 5000
open Go.RowKit

def packI : List Itm → List Itm
  | a :: b :: l => (a.1 + b.1, -1) :: packI l
  | _ => []
theorem packI_length : ∀ l : List Itm, (packI l).length = l.length / 2
  | [] => rfl
  | [a] => by simp [packI]
  | a :: b :: l => by rw [packI, List.length_cons, packI_length l, List.length_cons, List.length_cons]; omega
theorem packI_get : ∀ (l : List Itm) (i : Nat) (x y : Itm), l[2 * i]? = some x → l[2 * i + 1]? = some y → (packI l)[i]? = some (x.1 + y.1, -1)
  | [], i, x, y, h, _ => by simp at h
  | [a], i, x, y, h, h2 => by
    have := (List.getElem?_eq_some_iff.1 h2).1
    simp at this
  | a :: b :: l, 0, x, y, h, h2 => by
    obtain rfl : a = x := by simpa using h
    obtain rfl : b = y := by simpa using h2
    rfl
  | a :: b :: l, i + 1, x, y, h, h2 => by
    rw [show 2 * (i + 1) = 2 * i + 1 + 1 by omega] at h h2
    simpa [packI] using packI_get l i x y (by simpa using h) (by simpa using h2)
theorem made_items (n : Nat) : (madeCells (Value.cells (.agg #[.int .i64 0, .int .i64 0])) (n * 2)).toList = cellsI (List.replicate n (0, 0)) := by
  refine List.ext_getElem? fun j => ?_
  by_cases hj : j < n * 2
  · have h1 : (madeCells (Value.cells (.agg #[.int .i64 0, .int .i64 0])) (n * 2)).toList[j]? = some (.int .i64 0) := by
      have : j % 2 = 0 ∨ j % 2 = 1 := by omega
      rcases this with e | e <;> simp [madeCells, Value.cells, hj, e]
    rw [h1]
    have h2 : (List.replicate n ((0, 0) : Itm))[j / 2]? = some (0, 0) := by rw [List.getElem?_replicate, if_pos (by omega)]
    obtain ⟨g1, g2⟩ := cellsI_get _ _ _ h2
    have : j = j / 2 * 2 ∨ j = j / 2 * 2 + 1 := by omega
    rcases this with e | e
    · rw [e, g1]; rfl
    · rw [e, g2]
  · rw [List.getElem?_eq_none (by simp [madeCells]; omega), List.getElem?_eq_none (by rw [cellsI_length]; simp; omega)]
set_option maxHeartbeats 1600000 in
theorem pack_any (n : Nat) (l : List Itm) (v : Value) (w0 w : World) (Rs : List Thing) (h : Held w0 w (itmT v l :: Rs)) (hn : l.length = n) (hN2 : n ≤ 100000) (hw : ∀ x ∈ l, x.1 ≤ 1099511627776) :
    Calls Tryz.prog 88 #[v] w fun e w' => ∃ v', e = .returned v' ∧ Held w0 w' (itmT v' (packI l) :: itmT v l :: Rs) := by
  obtain ⟨i0, hi, hz0, hz1, hz2⟩ := info_parts infoItem
  obtain ⟨ao, cap, rfl, hc1, hc2⟩ := itm_form h
  rw [hn] at h hc1 ⊢
  have HL : Hid (l.length = n ∧ ∀ x ∈ l, x.1 ≤ 1099511627776) := hid ⟨hn, hw⟩
  have H := hid h
  have h0 : (0 : Int) ≤ (n : Int) := Int.natCast_nonneg _
  obtain ⟨k, hk⟩ : ∃ k, k = n / 2 := ⟨_, rfl⟩
  have hk1 : (n : Int) / 2 = (k : Int) := by omega
  have hk2 : Int.tdiv (n : Int) 2 = (k : Int) := by rw [Int.tdiv_eq_ediv_of_nonneg (by omega)]; exact hk1
  have hk0 : (0 : Int) ≤ (k : Int) := Int.natCast_nonneg _
  have hkn : 2 * k ≤ n := by omega
  have HK := hid hk
  clear h hn hw hk
  go_enter Tryz.func88, Tryz.ntmps88
  go_wp2_with ((with_reducible show wpList _ _ _ (⟨some 8, _, _, _, _, _⟩ :: _) _ _); refine wpList_make_own rfl 113 (.tmp 7) (.tmp 7) rfl 116 i0 (.agg #[.int .i64 0, .int .i64 0]) 2 Tryz.underlying113 hi hz0 hz1 .i64 k rfl rfl (by rw [hz2]; omega) (by unfold maxLen; omega) ?_; intro v1 w1 zs ho1 hm1 hf1 hv1 hzs; rw [made_items] at hzs; subst hzs; subst hv1; have HH1 := hid (H.out.pushOwn ho1 hm1 hf1); clear hm1 hf1 ho1)
  generalize w.heap.size = B at HH1 ⊢
  go_loopg [11] (k + 1) (fun q t11 wr => ∃ (i : Nat) (Q : List Itm), i ≤ k ∧ k - i < q ∧ t11 = .int .i64 (i : Int) ∧ Hid (Q.length = k ∧ ∀ j, j < i → Q[j]? = (packI l)[j]?) ∧
    Hid (Held w0 wr (ownT 116 2 (.slice (some ⟨B, 0, none⟩) k k) k (cellsI Q) :: itmT (.slice ao n cap) l :: Rs)))
  case atStart => exact ⟨0, List.replicate k (0, 0), by omega, by omega, rfl, hid ⟨by simp, fun j h => by omega⟩, HH1⟩
  case round =>
    obtain ⟨i, Q, hik, hq, rfl, HE, HH⟩ := hrel
    have h1 : (0 : Int) ≤ (i : Int) := Int.natCast_nonneg _
    by_cases hlt : i < k
    · have hltI : (i : Int) < (k : Int) := by omega
      obtain ⟨x, hx⟩ : ∃ x, l[2 * i]? = some x := ⟨l[2 * i]'(by have := HL.out.1; omega), List.getElem?_eq_getElem _⟩
      obtain ⟨y, hy⟩ : ∃ y, l[2 * i + 1]? = some y := ⟨l[2 * i + 1]'(by have := HL.out.1; omega), List.getElem?_eq_getElem _⟩
      have HX : Hid (l[2 * i]? = some x ∧ l[2 * i + 1]? = some y) := hid ⟨hx, hy⟩
      have hxm := HL.out.2 x (List.mem_of_getElem? hx)
      have hym := HL.out.2 y (List.mem_of_getElem? hy)
      obtain ⟨g, off, cap', hv, _, _, hcell, hfr, _⟩ := HH.out.swap.site2 (by have := HL.out.1; omega)
      simp only [Value.slice.injEq] at hv
      obtain ⟨rfl, _, rfl⟩ := hv
      have c1 := (hcell _ _ hx).1
      have c2 := (hcell _ _ hy).1
      have hQ : Held w0 wr (itmT (.slice (some ⟨B, 0, none⟩) k k) Q :: itmT (.slice (some ⟨g, off, none⟩) n cap) l :: Rs) := by
        have h := HH.out
        unfold itmT at *
        rw [HE.out.1]; exact h
      obtain ⟨q0, hq0⟩ : ∃ q0, Q[i]? = some q0 := ⟨Q[i]'(by have := HE.out.1; omega), List.getElem?_eq_getElem _⟩
      obtain ⟨g', off', cap', hv, _, _, hcell', hfr', hput⟩ := hQ.site2 (by have := HE.out.1; omega)
      simp only [Value.slice.injEq, Option.some.injEq, Addr.mk.injEq, and_true] at hv
      obtain ⟨⟨rfl, rfl⟩, _, _⟩ := hv
      have HP := hid (hput i (x.1 + y.1, -1) (by have := HE.out.1; omega))
      have c3 := (hcell' _ _ hq0).1
      have c4 := (hcell' _ _ hq0).2
      have hf1 := hfr' (0 + i * 2)
      have hf2 := hfr' (0 + i * 2 + 1)
      simp only [Nat.zero_add] at c3 c4 hf1 hf2 HP
      have HQ : Hid (∀ j, j < i + 1 → (Q.set i (x.1 + y.1, -1))[j]? = (packI l)[j]?) := by
        refine hid fun j hj => ?_
        rw [List.getElem?_set]
        by_cases e : i = j
        · subst e
          rw [if_pos rfl, if_pos (by have := HE.out.1; omega), packI_get l i x y hx hy]
        · rw [if_neg e]
          exact HE.out.2 j (by omega)
      clear hcell hfr hput hx hy hQ hcell' hfr' hq0
      have hin : 2 * i < n := by omega
      have hin2 : 2 * i + 1 < n := by omega
      go_wp2
      go_region
      go_wp2
      go_roundg (gk - 1)
      case measure => omega
      case rel =>
        refine ⟨i + 1, Q.set i (x.1 + y.1, -1), by omega, by omega, by go_num, hid ⟨by simp; exact HE.out.1, HQ.out⟩, ?_⟩
        have h := HP.out.drew
        unfold itmT at h ⊢
        rw [List.length_set, HE.out.1] at h
        exact hid h
    · have hltI : ¬ (i : Int) < (k : Int) := by omega
      obtain rfl : i = k := by omega
      have HF : Hid (Held w0 wr (itmT (.slice (some ⟨B, 0, none⟩) i i) (packI l) :: itmT (.slice ao n cap) l :: Rs)) := by
        have e : Q = packI l := by
          refine List.ext_getElem? fun j => ?_
          by_cases hj : j < i
          · exact HE.out.2 j hj
          · rw [List.getElem?_eq_none (by have := HE.out.1; omega), List.getElem?_eq_none (by rw [packI_length, HL.out.1]; have := HK.out; omega)]
        have h := HH.out
        rw [e] at h
        unfold itmT
        rw [packI_length, HL.out.1, ← HK.out]
        unfold itmT at h
        rw [HL.out.1] at h
        exact hid h
      go_wp2
      go_ret
      exact ⟨_, rfl, HF⟩
end Go.Proofs.YthibpnkdhbkakaaGreatDoor
/-
  The frequencies looked at: whether they may be, and the symbols that come.
-/
namespace Go.Proofs.YthibpnkdhbkakaaGreatDoor
set_option maxRecDepth 5000
open Go.RowKit

set_option maxHeartbeats 800000 in
theorem withinL_any (v : Value) (f : List Int) (w : World) (n : Nat) (hn : n = f.length) (hv : Rd w 1 v n (ints f)) (hl : n < 1000000) :
    Calls Tryz.prog 67 #[v] w fun e w' => e = .returned (.bool (frqIn f)) ∧ w = w' := by
  obtain ⟨ao, cap, rfl, _, _⟩ := hv.form
  have HN := hid hn
  clear hn
  have hn0 : (0 : Int) ≤ (n : Int) := Int.natCast_nonneg _
  go_enter Tryz.func67, Tryz.ntmps67
  go_wp2
  go_loopg [7] (n + 1) (fun k t7 wr => ∃ (i : Nat), i ≤ n ∧ n - i < k ∧ t7 = .int .i64 (i : Int) ∧ Hid (frqIn (f.take i) = true) ∧ wr = w)
  case atStart => exact ⟨0, by omega, by omega, rfl, rfl, rfl⟩
  case round =>
    obtain ⟨i, hi, hk, rfl, HA, rfl⟩ := hrel
    by_cases hin : i < n
    · obtain ⟨g, off, rfl, hcell⟩ := hv.spot (by omega)
      obtain ⟨a, hai⟩ : ∃ a, f[i]? = some a := ⟨f[i]'(by have := HN.out; omega), List.getElem?_eq_getElem _⟩
      have hc1 := hcell i _ (by rw [ints_get, hai]; rfl)
      have hi0 : (0 : Int) ≤ (i : Int) := Int.natCast_nonneg _
      have hi1 : (i : Int) < (n : Int) := by omega
      have HT := hid (take_snoc3 f i a hai)
      clear hcell hai
      have h5 : a < 0 ∨ 0 ≤ a ∧ 1048576 < a ∨ 0 ≤ a ∧ a ≤ 1048576 := by omega
      rcases h5 with h5 | ⟨h5, h6⟩ | ⟨h5, h6⟩
      · have HF : Hid (frqIn f = false) := hid (frqIn_take f (i + 1) (by rw [HT.out, frqIn_snoc, HA.out]; simp; omega))
        have hb3 : decide (a < 0) = true := by simp; omega
        go_wp2
        go_ret
        exact ⟨by rw [HF.out]; rfl, rfl⟩
      · have HF : Hid (frqIn f = false) := hid (frqIn_take f (i + 1) (by rw [HT.out, frqIn_snoc, HA.out]; simp; omega))
        have hb3 : decide (a < 0) = false := by simp; omega
        have hb4 : decide ((1048576 : Int) < a) = true := by simp; omega
        go_wp2
        go_ret
        exact ⟨by rw [HF.out]; rfl, rfl⟩
      · have HF : Hid (frqIn (f.take (i + 1)) = true) := hid (by rw [HT.out, frqIn_snoc, HA.out]; simp; omega)
        have hb3 : decide (a < 0) = false := by simp; omega
        have hb4 : decide ((1048576 : Int) < a) = false := by simp; omega
        go_wp2
        go_roundg (gk - 1)
        case measure => omega
        case rel => exact ⟨i + 1, by omega, by omega, by go_num, HF, rfl⟩
    · have hi1 : ¬ (i : Int) < (n : Int) := by omega
      have HF : Hid (frqIn f = true) := by
        have h := HA.out
        rw [List.take_of_length_le (by have := HN.out; omega)] at h
        exact hid h
      go_wp2
      go_ret
      exact ⟨by rw [HF.out]; rfl, rfl⟩
/-- the symbols that come, each with its weight -/
def symI : Nat → List Nat → List Itm
  | _, [] => []
  | k, a :: f => if 0 < a then (a, (k : Int)) :: symI (k + 1) f else symI (k + 1) f
theorem symI_snoc (a : Nat) : ∀ (f : List Nat) (k : Nat), symI k (f ++ [a]) = symI k f ++ (if 0 < a then [(a, ((k + f.length : Nat) : Int))] else [])
  | [], k => by simp [symI]
  | b :: f, k => by
    rw [List.cons_append, symI, symI, symI_snoc a f (k + 1), show k + 1 + f.length = k + (b :: f).length by simp; omega]
    by_cases h : 0 < b
    · rw [if_pos h, if_pos h]; rfl
    · rw [if_neg h, if_neg h]
theorem symI_length : ∀ (f : List Nat) (k : Nat), (symI k f).length = codedN f
  | [], _ => rfl
  | a :: f, k => by
    rw [symI, codedN]
    by_cases h : 0 < a
    · rw [if_pos h, if_pos h, List.length_cons, symI_length f]; omega
    · rw [if_neg h, if_neg h, symI_length f]; omega
theorem symI_le : ∀ (f : List Nat) (k : Nat), (symI k f).length ≤ f.length
  | [], _ => Nat.le_refl _
  | a :: f, k => by
    rw [symI, List.length_cons]
    have := symI_le f (k + 1)
    split
    · rw [List.length_cons]; omega
    · omega
set_option maxHeartbeats 1600000 in
theorem symbols_any (v : Value) (f : List Int) (w0 w : World) (Rs : List Thing) (h : Held w0 w Rs) (n : Nat) (hn : n = f.length) (hv : Rd w0 1 v n (ints f)) (hl : n < 1000) (hf : ∀ a ∈ f, 0 ≤ a ∧ a ≤ 1048576) :
    Calls Tryz.prog 68 #[v] w fun e w' => ∃ v', e = .returned v' ∧ Held w0 w' (itmT v' (symI 0 (f.map Int.toNat)) :: Rs) := by
  obtain ⟨i0, hi0, hz0, hz1, hz2⟩ := info_parts infoItem
  obtain ⟨ao, cap, rfl, _, _⟩ := hv.form
  have HN := hid hn
  have HF := hid hf
  have H := hid h
  clear hn hf h
  have hn0 : (0 : Int) ≤ (n : Int) := Int.natCast_nonneg _
  go_enter Tryz.func68, Tryz.ntmps68
  go_wp2
  go_loopg [3, 8] (n + 1) (fun k t3 t8 wr => ∃ (i L : Nat) (so : Option Addr) (sc : Nat), i ≤ n ∧ n - i < k ∧ t8 = .int .i64 (i : Int) ∧ t3 = .slice so L sc ∧ L ≤ i ∧ Hid (L = (symI 0 ((f.take i).map Int.toNat)).length) ∧
    Hid (Held w0 wr (ownT 116 2 (.slice so L sc) L (cellsI (symI 0 ((f.take i).map Int.toNat))) :: Rs)))
  case atStart => exact ⟨0, 0, none, 0, by omega, by omega, rfl, rfl, by omega, rfl, hid (H.out.nil _ _)⟩
  case round =>
    obtain ⟨i, L, so, sc, hi, hk, rfl, rfl, hLi, HL, HH⟩ := hrel
    have hI0 : (0 : Int) ≤ (i : Int) := Int.natCast_nonneg _
    by_cases hin : i < n
    · have hi1 : (i : Int) < (n : Int) := by omega
      obtain ⟨g1, off1, rfl, hcell⟩ := (HH.out.old hv).spot (by omega)
      obtain ⟨a, hai⟩ : ∃ a, f[i]? = some a := ⟨f[i]'(by have := HN.out; omega), List.getElem?_eq_getElem _⟩
      have ha := HF.out a (List.mem_of_getElem? hai)
      obtain ⟨x, rfl⟩ := Int.eq_ofNat_of_zero_le ha.1
      have hx : x ≤ 1048576 := by omega
      have hc1 := hcell i _ (by rw [ints_get, hai]; rfl)
      have HT : Hid (symI 0 ((f.take (i + 1)).map Int.toNat) = symI 0 ((f.take i).map Int.toNat) ++ (if 0 < x then [(x, ((i : Nat) : Int))] else [])) := by
        rw [take_snoc3 f i _ hai, List.map_append, List.map_cons, List.map_nil, symI_snoc]
        have hl : (List.map Int.toNat (f.take i)).length = i := by rw [List.length_map, List.length_take]; have := HN.out; omega
        rw [hl, Nat.zero_add]; exact hid rfl
      clear hcell hai ha
      by_cases hx0 : 0 < x
      · have hx0I : (0 : Int) < (x : Int) := by omega
        have HT2 : Hid (symI 0 ((f.take (i + 1)).map Int.toNat) = symI 0 ((f.take i).map Int.toNat) ++ [(x, ((i : Nat) : Int))]) := by
          have h := HT.out
          rw [if_pos hx0] at h
          exact hid h
        have HH1 := hid (HH.out.lit 116 2 (cellsI [(x, ((i : Nat) : Int))]) 1 (by decide) rfl).swap
        go_wp2_with ((with_reducible show wpList _ _ _ (⟨some 20, _, _, _, _, _⟩ :: _) _ _); refine wpList_app_held rfl (.tmp 15) (.tmp 19) 113 rfl 116 i0 (.agg #[.int .i64 0, .int .i64 0]) 2 16 Tryz.underlying113 hi0 hz0 hz1 hz2 rfl (by decide) _ L (cellsI (symI 0 ((f.take i).map Int.toNat))) rfl HH1.out _ 1 (cellsI [(x, ((i : Nat) : Int))]) rfl HH1.out.swap.own.rd (cellsI_one _) (L + 1) rfl (by unfold maxLen; omega) (by omega) ?_; intro ao1 cap1 w1 h1; rw [← cellsI_app, ← HT2.out] at h1; have HH2 := hid h1.swap.drop; clear h1)
        go_roundg (gk - 1)
        case measure => omega
        case rel => exact ⟨i + 1, L + 1, ao1, cap1, by omega, by omega, by go_num, rfl, by omega, hid (by rw [HT2.out, List.length_append, ← HL.out]; rfl), HH2⟩
      · have hx0I : ¬ (0 : Int) < (x : Int) := by omega
        have HT2 : Hid (symI 0 ((f.take (i + 1)).map Int.toNat) = symI 0 ((f.take i).map Int.toNat)) := by
          have h := HT.out
          rw [if_neg hx0, List.append_nil] at h
          exact hid h
        go_wp2
        go_roundg (gk - 1)
        case measure => omega
        case rel => exact ⟨i + 1, L, so, sc, by omega, by omega, by go_num, rfl, by omega, by rw [HT2.out]; exact HL, by rw [HT2.out]; exact HH⟩
    · have hi1 : ¬ (i : Int) < (n : Int) := by omega
      have HE : Hid (Held w0 wr (itmT (.slice so L sc) (symI 0 (f.map Int.toNat)) :: Rs)) := by
        have h := HH.out
        have h2 := HL.out
        rw [List.take_of_length_le (by have := HN.out; omega)] at h h2
        unfold itmT
        rw [← h2]; exact hid h
      go_wp2
      go_ret
      exact ⟨_, rfl, HE⟩
end Go.Proofs.YthibpnkdhbkakaaGreatDoor
/-
  A square table that the call has made: a slice of slices of whole numbers, each row in a block of its own. The first k rows are there, the others are nil. No program is named here.
-/
namespace Go.Proofs.YthibpnkdhbkakaaGreatDoor
set_option maxRecDepth 5000
open Go.RowKit

def atK (b : Nat → Nat) (k c i : Nat) : Nat := if i = k then c else b i
def put2 (V : Nat → Nat → Nat) (i j u x y : Nat) : Nat := if x = i ∧ y = j then u else V x y
def addRow (V : Nat → Nat → Nat) (k : Nat) (W : Nat → Nat) (x y : Nat) : Nat := if x = k then W y else V x y
theorem atK_self (b : Nat → Nat) (k c : Nat) : atK b k c k = c := by simp [atK]
theorem atK_ne (b : Nat → Nat) (k c : Nat) {i : Nat} (h : i ≠ k) : atK b k c i = b i := by simp [atK, h]
/-- the row as a value -/
def rowV (b : Nat → Nat) (k N i : Nat) : Value := if i < k then .slice (some ⟨b i, 0, none⟩) N N else .slice none 0 0
def rowsL (b : Nat → Nat) (k N : Nat) : List Value := (List.range N).map (rowV b k N)
def rowL (V : Nat → Nat → Nat) (N i : Nat) : List Value := nums .i64 ((List.range N).map (V i))
def matT (eR eI : TypeId) (B : Nat) (b : Nat → Nat) (k N : Nat) (V : Nat → Nat → Nat) : Thing where
  res := fun w F => Own w eR 1 (.slice (some ⟨B, 0, none⟩) N N) N (rowsL b k N) ∧ (∀ i, i < k → Own w eI 1 (.slice (some ⟨b i, 0, none⟩) N N) N (rowL V N i)) ∧
    (∀ i, i < k → b i ≠ B) ∧ (∀ i j, i < k → j < k → b i = b j → i = j) ∧ ∀ x, F x ↔ x = B ∨ ∃ i, i < k ∧ x = b i
  loc := fun _ _ F S h hm hS => by
    obtain ⟨h1, h2, h3, h4, h5⟩ := h
    refine ⟨h1.kept hm fun x hx => hS x ((h5 x).2 (.inl ?_)), fun i hi => (h2 i hi).kept hm fun x hx => hS x ((h5 x).2 (.inr ⟨i, hi, ?_⟩)), h3, h4, h5⟩
    · simpa [Value.ownBlock, eq_comm] using hx
    · simpa [Value.ownBlock, eq_comm] using hx
theorem rowsL_get (b : Nat → Nat) (k N i : Nat) (h : i < N) : (rowsL b k N)[i]? = some (rowV b k N i) := by simp [rowsL, h]
theorem rowL_get (V : Nat → Nat → Nat) (N i j : Nat) (h : j < N) : (rowL V N i)[j]? = some (.int .i64 (V i j : Int)) := by simp [rowL, nums_get, h]
section
variable {w0 w : World} {Rs : List Thing} {eR eI : TypeId} {B : Nat} {b : Nat → Nat} {k N : Nat} {V : Nat → Nat → Nat}
/-- where a row's value lies -/
theorem Held.matRow (h : Held w0 w (matT eR eI B b k N V :: Rs)) {i : Nat} (hi : i < N) : w.cell? ⟨B, i, none⟩ = some (rowV b k N i) ∧ w.frozen? ⟨B, i, none⟩ = false := by
  obtain ⟨F, ⟨h1, _⟩, _⟩ := h
  obtain ⟨g, off, hg, hc, hf, _⟩ := h1.site (by omega)
  simp only [Option.some.injEq, Addr.mk.injEq, and_true] at hg
  obtain ⟨rfl, rfl⟩ := hg
  have e1 := hc i _ (rowsL_get b k N i hi)
  have e2 := hf i
  rw [Nat.zero_add] at e1 e2
  exact ⟨e1, e2⟩
/-- .. and a number -/
theorem Held.matCell (h : Held w0 w (matT eR eI B b k N V :: Rs)) {i j : Nat} (hi : i < k) (hj : j < N) : w.cell? ⟨b i, j, none⟩ = some (.int .i64 (V i j : Int)) ∧ w.frozen? ⟨b i, j, none⟩ = false := by
  obtain ⟨F, ⟨_, h2, _⟩, _⟩ := h
  obtain ⟨g, off, hg, hc, hf, _⟩ := (h2 i hi).site (by omega)
  simp only [Option.some.injEq, Addr.mk.injEq, and_true] at hg
  obtain ⟨rfl, rfl⟩ := hg
  have e1 := hc j _ (rowL_get V N i j hj)
  have e2 := hf j
  rw [Nat.zero_add] at e1 e2
  exact ⟨e1, e2⟩
theorem Held.matApart (h : Held w0 w (matT eR eI B b k N V :: Rs)) {i : Nat} (hi : i < k) : b i ≠ B := by
  obtain ⟨F, ⟨_, _, h3, _⟩, _⟩ := h
  exact h3 i hi
theorem rowL_set (V : Nat → Nat → Nat) (N i j u : Nat) : (rowL V N i).set j (.int .i64 (u : Int)) = rowL (put2 V i j u) N i := by
  unfold rowL
  rw [nums_set]
  congr 1
  refine List.ext_getElem? fun y => ?_
  rw [List.getElem?_set]
  by_cases hy : y < N
  · by_cases e : j = y
    · subst e
      rw [if_pos rfl, if_pos (by simpa using hy)]
      simp [hy, put2]
    · rw [if_neg e]
      simp [hy, put2, show ¬ y = j from fun h => e h.symm]
  · by_cases e : j = y
    · subst e
      rw [if_pos rfl, if_neg (by simpa using hy), List.getElem?_eq_none (by simp; omega)]
    · rw [if_neg e]
      rw [List.getElem?_eq_none (by simp; omega), List.getElem?_eq_none (by simp; omega)]
theorem rowL_other (V : Nat → Nat → Nat) (N i x j u : Nat) (h : x ≠ i) : rowL (put2 V i j u) N x = rowL V N x := by
  unfold rowL
  congr 1
  refine List.map_congr_left fun y _ => ?_
  unfold put2
  rw [if_neg (fun e => h e.1)]
/-- a number stored -/
theorem Held.matSet (h : Held w0 w (matT eR eI B b k N V :: Rs)) {i j : Nat} (hi : i < k) (hj : j < N) (u : Nat) :
    Held w0 (w.setCell ⟨b i, j, none⟩ (.int .i64 (u : Int))) (matT eR eI B b k N (put2 V i j u) :: Rs) := by
  obtain ⟨F, ⟨h1, h2, h3, h4, h5⟩, h6, back⟩ := h.take
  have hM := Mod.set w (b i) j (.int .i64 (u : Int))
  refine back _ _ F ⟨h1.kept hM fun x hx => ?_, fun x hx => ?_, h3, h4, h5⟩ (hM.mono fun x _ hx => (h5 x).2 (.inr ⟨i, hi, hx⟩)) (fun x hx => .inl hx) (fun x hx => Nat.lt_of_lt_of_le (h6 x hx).2 hM.size)
  · have : B = x := by simpa [Value.ownBlock] using hx
    subst this
    exact fun e => h3 i hi e.symm
  · by_cases e : x = i
    · subst e
      obtain ⟨g, off, hg, _, _, hput⟩ := (h2 x hi).site (by omega)
      simp only [Option.some.injEq, Addr.mk.injEq, and_true] at hg
      obtain ⟨rfl, rfl⟩ := hg
      have := hput j (.int .i64 (u : Int)) hj
      rw [Nat.zero_add, rowL_set] at this
      exact this
    · rw [rowL_other V N i x j u e]
      refine (h2 x hx).kept hM fun y hy => ?_
      have : b x = y := by simpa [Value.ownBlock] using hy
      subst this
      exact fun e2 => e (h4 x i hx hi e2)
/-- a new row: an own slice of the call's becomes the next row -/
theorem Held.matGrow {c : Nat} {xs : List Value} (h : Held w0 w (matT eR eI B b k N V :: ownT eI 1 (.slice (some ⟨c, 0, none⟩) N N) N xs :: Rs)) (hk : k < N) (W : Nat → Nat) (hxs : xs = nums .i64 ((List.range N).map W)) :
    Held w0 (w.setCell ⟨B, k, none⟩ (.slice (some ⟨c, 0, none⟩) N N)) (matT eR eI B (atK b k c) (k + 1) N (addRow V k W) :: Rs) := by
  obtain ⟨F1, ⟨h1, h2, h3, h4, h5⟩, h6, F2, ⟨k1, k2⟩, k3, k4⟩ := h
  have hM := Mod.set w B k (.slice (some ⟨c, 0, none⟩) N N)
  have hF2 : ∀ x, F2 x ↔ x = c := fun x => by rw [k2 x]; simp [Value.ownBlock, eq_comm]
  have hcB : c ≠ B := fun e => (k3 c ((hF2 c).2 rfl)).2.2 (.inr ((h5 c).2 (.inl e)))
  have hcb : ∀ i, i < k → c ≠ b i := fun i hi e => (k3 c ((hF2 c).2 rfl)).2.2 (.inr ((h5 c).2 (.inr ⟨i, hi, e⟩)))
  have h7 := HeldU.step hM k4 (fun x hx _ => by subst hx; exact (h6 x ((h5 x).2 (.inl rfl))).1) (fun x hx _ => by subst hx; exact .inl (.inr ((h5 x).2 (.inl rfl))))
  refine ⟨fun x => F1 x ∨ F2 x, ⟨?_, fun i hi => ?_, fun i hi => ?_, fun i j hi hj e => ?_, fun x => ?_⟩, fun x hx => ?_, h7.less fun x hx => ?_⟩
  · obtain ⟨g, off, hg, _, _, hput⟩ := h1.site (by omega)
    simp only [Option.some.injEq, Addr.mk.injEq, and_true] at hg
    obtain ⟨rfl, rfl⟩ := hg
    have := hput k (.slice (some ⟨c, 0, none⟩) N N) hk
    rw [Nat.zero_add] at this
    have e : (rowsL b k N).set k (.slice (some ⟨c, 0, none⟩) N N) = rowsL (atK b k c) (k + 1) N := by
      refine List.ext_getElem? fun y => ?_
      rw [List.getElem?_set]
      by_cases hy : y < N
      · rw [rowsL_get _ _ _ _ hy, rowsL_get _ _ _ _ hy]
        by_cases e : k = y
        · subst e
          rw [if_pos rfl, if_pos (by simpa [rowsL] using hy)]
          simp [rowV, atK_self]
        · rw [if_neg e]
          unfold rowV
          by_cases hyk : y < k
          · rw [if_pos hyk, if_pos (by omega), atK_ne _ _ _ (fun h => e h.symm)]
          · rw [if_neg hyk, if_neg (by omega)]
      · rw [if_neg (by omega), List.getElem?_eq_none (by simp [rowsL]; omega), List.getElem?_eq_none (by simp [rowsL]; omega)]
    rw [← e]; exact this
  · by_cases e : i = k
    · subst e
      rw [atK_self]
      have e2 : rowL (addRow V i W) N i = xs := by
        rw [hxs]; unfold rowL; congr 1
        exact List.map_congr_left fun y _ => by simp [addRow]
      rw [e2]
      refine k1.kept hM fun y hy => ?_
      have : c = y := by simpa [Value.ownBlock] using hy
      subst this; exact hcB
    · rw [atK_ne _ _ _ e]
      have e2 : rowL (addRow V k W) N i = rowL V N i := by
        unfold rowL; congr 1
        exact List.map_congr_left fun y _ => by simp [addRow, e]
      rw [e2]
      refine (h2 i (by omega)).kept hM fun y hy => ?_
      have : b i = y := by simpa [Value.ownBlock] using hy
      subst this; exact h3 i (by omega)
  · by_cases e : i = k
    · rw [e, atK_self]; exact hcB
    · rw [atK_ne _ _ _ e]; exact h3 i (by omega)
  · by_cases e1 : i = k
    · by_cases e2 : j = k
      · omega
      · rw [e1, atK_self, atK_ne _ _ _ e2] at e
        exact absurd e (hcb j (by omega))
    · by_cases e2 : j = k
      · rw [e2, atK_self, atK_ne _ _ _ e1] at e
        exact absurd e.symm (hcb i (by omega))
      · rw [atK_ne _ _ _ e1, atK_ne _ _ _ e2] at e
        exact h4 i j (by omega) (by omega) e
  · show (F1 x ∨ F2 x) ↔ _
    rw [h5, hF2]
    constructor
    · rintro ((hx | ⟨i, hi, hx⟩) | hx)
      · exact .inl hx
      · exact .inr ⟨i, by omega, by rw [atK_ne _ _ _ (by omega)]; exact hx⟩
      · exact .inr ⟨k, by omega, by rw [atK_self]; exact hx⟩
    · rintro (hx | ⟨i, hi, hx⟩)
      · exact .inl (.inl hx)
      · by_cases e : i = k
        · rw [e, atK_self] at hx; exact .inr hx
        · rw [atK_ne _ _ _ e] at hx; exact .inl (.inr ⟨i, by omega, hx⟩)
  · rcases hx with hx | hx
    · exact ⟨(h6 x hx).1, Nat.lt_of_lt_of_le (h6 x hx).2.1 hM.size, fun h => h⟩
    · exact ⟨(k3 x hx).1, Nat.lt_of_lt_of_le (k3 x hx).2.1 hM.size, fun h => h⟩
  · rcases hx with hx | hx | hx
    · exact .inl (.inl hx)
    · exact .inl (.inr hx)
    · exact .inr hx
/-- no row yet -/
theorem Held.matStart (h : Held w0 w (ownT eR 1 (.slice (some ⟨B, 0, none⟩) N N) N (List.replicate N (.slice none 0 0)) :: Rs)) (b : Nat → Nat) (V : Nat → Nat → Nat) : Held w0 w (matT eR eI B b 0 N V :: Rs) := by
  obtain ⟨F, ⟨h1, h2⟩, h3, h4⟩ := h
  have e : rowsL b 0 N = List.replicate N (.slice none 0 0) := by
    refine List.ext_getElem? fun y => ?_
    by_cases hy : y < N
    · rw [rowsL_get _ _ _ _ hy, List.getElem?_replicate, if_pos hy]; simp [rowV]
    · rw [List.getElem?_eq_none (by simp [rowsL]; omega), List.getElem?_eq_none (by simp; omega)]
  refine ⟨F, ⟨by rw [e]; exact h1, fun i hi => by omega, fun i hi => by omega, fun i j hi => by omega, fun x => ?_⟩, h3, h4⟩
  rw [h2 x]
  simp [Value.ownBlock, eq_comm]
theorem Held.matCongr {V' : Nat → Nat → Nat} (h : Held w0 w (matT eR eI B b k N V :: Rs)) (hV : ∀ i j, i < k → j < N → V i j = V' i j) : Held w0 w (matT eR eI B b k N V' :: Rs) := by
  obtain ⟨F, ⟨h1, h2, h3, h4, h5⟩, h6, h7⟩ := h
  refine ⟨F, ⟨h1, fun i hi => ?_, h3, h4, h5⟩, h6, h7⟩
  have e : rowL V' N i = rowL V N i := by
    unfold rowL
    congr 1
    exact List.map_congr_left fun y hy => (hV i y hi (List.mem_range.1 hy)).symm
  rw [e]; exact h2 i hi
end
theorem made_cells (z : Value) (n : Nat) (hz : z.cells = #[z]) : (madeCells z.cells (n * 1)).toList = List.replicate n z := by
  rw [Nat.mul_one, hz]
  refine List.ext_getElem? fun j => ?_
  by_cases hj : j < n
  · simp [madeCells, hj, Nat.mod_one]
  · rw [List.getElem?_eq_none (by simp [madeCells]; omega), List.getElem?_eq_none (by simp; omega)]
theorem rowV_lt (b : Nat → Nat) (k N i : Nat) (h : i < k) : rowV b k N i = .slice (some ⟨b i, 0, none⟩) N N := by simp [rowV, h]
theorem zeros_row (N : Nat) : List.replicate N (Value.int .i64 0) = nums .i64 ((List.range N).map fun _ => 0) := by
  rw [show (List.range N).map (fun _ => (0 : Nat)) = List.replicate N 0 by simp [List.map_const'], nums_replicate]; rfl
end Go.Proofs.YthibpnkdhbkakaaGreatDoor
