/-
  Items sorted (the library's function, as the program calls it); two slices of items put together.
-/
import Derived.Test.YtcmfccooipnmeaaStable
import Derived.Test.YtcmfccooipnmeaaHeldApp
import Derived.Lib.AppendZerosOnto
namespace Go.Proofs.Ytcmfccooipnmeaa
open Go.RowKit

theorem infoItem : (Try.prog.info? 41).map (fun i => (i.zero, i.size, i.bytes)) = some (some (.agg #[.int .i64 0, .int .i64 0]), 2, 16) := by kernel_rfl
theorem sortfunc_any (n : Nat) (Z : List Itm) (v : Value) (w0 w : World) (Rs : List Thing) (h : Held w0 w (itmT v Z :: Rs)) (hn : Z.length = n) (hN2 : n ≤ 100000) :
    Calls Try.prog 27 #[v, cmpV] w fun e w' => e = .returned (.tuple #[]) ∧ Held w0 w' (itmT v (ssort Z) :: Rs) := by
  have HR := hid (stable_any n Z v w0 w Rs h hn hN2)
  obtain ⟨ao, cap, rfl, hc1, hc2⟩ := itm_form h
  unfold cmpV at *
  rw [hn] at HR hc1 ⊢
  clear h hn
  go_enter Try.func27, Try.ntmps27
  go_wp2_with fail
  refine HR.out.mono ?_
  rintro e w1 ⟨rfl, hh⟩
  have HH := hid hh
  clear hh HR
  go_wp2
  go_end0
  exact ⟨rfl, HH⟩
theorem sortrow_any (n : Nat) (Z : List Itm) (v : Value) (w0 w : World) (Rs : List Thing) (h : Held w0 w (itmT v Z :: Rs)) (hn : Z.length = n) (hN2 : n ≤ 100000) :
    Calls Try.prog 23 #[v] w fun e w' => e = .returned (.tuple #[]) ∧ Held w0 w' (itmT v (ssort Z) :: Rs) := by
  have HR := hid (sortfunc_any n Z v w0 w Rs h hn hN2)
  clear h hn
  unfold cmpV at *
  go_enter Try.func23, Try.ntmps23
  go_wp2_with fail
  refine HR.out.mono ?_
  rintro e w1 ⟨rfl, hh⟩
  have HH := hid hh
  clear hh HR
  go_wp2
  go_end0
  exact ⟨rfl, HH⟩
set_option maxHeartbeats 800000 in
theorem grow_nil (n : Nat) (w0 w : World) (Rs : List Thing) (h : Held w0 w Rs) (hn : 0 < n) (hN2 : n ≤ 100000) :
    Calls Try.prog 26 #[.slice none 0 0, .int .i64 (n : Int)] w fun e w' => ∃ v, e = .returned v ∧ Held w0 w' (itmT v [] :: Rs) := by
  obtain ⟨i, hi, hz0, hz1, hz2⟩ := info_parts infoItem
  obtain ⟨G, hG⟩ : ∃ G, G = grownCap w (0 + n) 0 41 := ⟨_, rfl⟩
  have hrz : ∀ ty, (Builtin.append_ #[38, 3] ty #[.slice none 0 0, .int .i64 (n : Int)]).run Try.prog w =
      .ok (.slice (some ⟨w.heap.size, 0, none⟩) n G) (w.drew.alloc (.cells (#[] ++ Builtin.zeroCells (#[.int .i64 0, .int .i64 0]) n ++ Builtin.zeroCells (#[.int .i64 0, .int .i64 0]) (G - n)) 41)) := fun ty => by
    have h := Lib.run_append_grow_zeros w 38 3 ty 41 i (.agg #[.int .i64 0, .int .i64 0]) .i64 .i64 Try.underlying38 Try.underlying3 hi hz0 none 0 0 [] (by simp [Builtin.firstCells]) n hn (by rw [hz1]; decide) (by omega) (by omega) (by rw [hz2]; omega) (growslice_fits (by omega) (by rw [hz2]; omega))
    rw [← hG, Nat.zero_add] at h
    exact h
  have hGn : n ≤ G := by rw [hG]; have := grownCap_ge w (0 + n) 0 41; omega
  have hGm : G ≤ maxLen := by rw [hG]; exact grownCap_le_maxLen w (0 + n) 0 _ (by unfold maxLen; omega)
  have H := hid h
  have h0 : (0 : Int) ≤ (n : Int) := Int.natCast_nonneg _
  have h1 : ¬ (n : Int) < 0 := by omega
  have h2 : (0 : Int) < (n : Int) := by omega
  clear h hG
  go_enter Try.func26, Try.ntmps26
  go_wp2_with (at_builtin; refine Lib.wpList_append_run _ rfl _ _ _ _ rfl _ _ rfl rfl _ _ (hrz _) ?_)
  go_ret
  refine ⟨_, rfl, ?_⟩
  have hown : Own ((w.alloc (.cells (Builtin.zeroCells #[.int .i64 0, .int .i64 0] n ++ Builtin.zeroCells #[.int .i64 0, .int .i64 0] (G - n)) 41)).drew) 41 2 (.slice (some ⟨w.heap.size, 0, none⟩) 0 G) 0 [] :=
    ⟨rfl, .inr ⟨w.heap.size, 0, G, _, rfl, heap_alloc_new w _, Nat.zero_le _, hGm, by simp [size_zeroCells]; omega, fun j u hu => by simp at hu⟩⟩
  exact H.out.pushOwn hown (((Mod.refl w _).alloc _).drew) (fun k hk => by simp [Value.ownBlock] at hk; omega)
set_option maxHeartbeats 1600000 in
theorem concat_any (n m B : Nat) (X Y : List Itm) (x y : Value) (w0 w : World) (Rs : List Thing) (h : Held w0 w (ownT 38 1 (.slice (some ⟨B, 0, none⟩) 2 2) 2 [x, y] :: itmT x X :: itmT y Y :: Rs)) (hn : X.length = n) (hm : Y.length = m) (hn0 : 0 < n) (hN2 : n + m ≤ 100000) :
    Calls Try.prog 22 #[.slice (some ⟨B, 0, none⟩) 2 2] w fun e w' => ∃ v, e = .returned v ∧ Held w0 w' (itmT v (X ++ Y) :: ownT 38 1 (.slice (some ⟨B, 0, none⟩) 2 2) 2 [x, y] :: itmT x X :: itmT y Y :: Rs) := by
  obtain ⟨i0, hi, hz0, hz1, hz2⟩ := info_parts infoItem
  obtain ⟨xo, xc, rfl, hx1, hx2⟩ := itm_form h.swap
  obtain ⟨yo, yc, rfl, hy1, hy2⟩ := itm_form h.third
  rw [hn] at h hx1 ⊢
  rw [hm] at h hy1 ⊢
  have HL : Hid (X.length = n ∧ Y.length = m) := hid ⟨hn, hm⟩
  have H := hid h
  have h0 : (0 : Int) ≤ (n : Int) := Int.natCast_nonneg _
  have h1 : (0 : Int) ≤ (m : Int) := Int.natCast_nonneg _
  clear h hn hm
  go_enter Try.func22, Try.ntmps22
  go_wp2
  go_loopg [3, 11] 3 (fun k t3 t11 wr => ∃ (i s : Nat), i ≤ 2 ∧ 2 - i < k ∧ t11 = .int .i64 (i : Int) ∧ t3 = .int .i64 (s : Int) ∧ Hid ((i = 0 ∧ 0 = s) ∨ (i = 1 ∧ n = s) ∨ (i = 2 ∧ n + m = s)) ∧ wr = w)
  case atStart => exact ⟨0, 0, by omega, by omega, rfl, rfl, hid (.inl ⟨rfl, rfl⟩), rfl⟩
  case round =>
    obtain ⟨i, s, hi2, hk, rfl, rfl, HS, rfl⟩ := hrel
    obtain ⟨g, off, hg, hcell, hfr, _⟩ := H.out.own.site (by omega)
    simp only [Option.some.injEq, Addr.mk.injEq, and_true] at hg
    obtain ⟨rfl, rfl⟩ := hg
    have c0 := hcell 0 _ rfl
    have c1 := hcell 1 _ rfl
    simp only [Nat.zero_add] at c0 c1
    clear hcell hfr
    rcases HS.out with ⟨rfl, rfl⟩ | ⟨rfl, rfl⟩ | ⟨rfl, rfl⟩
    · go_wp2
      go_roundg (gk - 1)
      case measure => omega
      case rel => exact ⟨1, n, by omega, by omega, by go_num, by go_num, hid (.inr (.inl ⟨rfl, rfl⟩)), rfl⟩
    · go_wp2
      go_roundg (gk - 1)
      case measure => omega
      case rel => exact ⟨2, n + m, by omega, by omega, by go_num, by go_num, hid (.inr (.inr ⟨rfl, rfl⟩)), rfl⟩
    · have HG := hid (grow_nil (n + m) w0 wr _ H.out (by omega) hN2)
      go_wp2_with fail
      refine HG.out.mono ?_
      rintro e w1 ⟨v, rfl, hh⟩
      have HH := hid hh
      clear hh HG c0 c1
      go_wp2
      go_loopg [6, 27] 3 (fun k t6 t27 wq => ∃ (i L : Nat) (ao : Option Addr) (cap : Nat) (Z : List Itm), i ≤ 2 ∧ 2 - i < k ∧ t27 = .int .i64 (i : Int) ∧ t6 = .slice ao L cap ∧ Hid (L = Z.length ∧ ((i = 0 ∧ Z = []) ∨ (i = 1 ∧ Z = X) ∨ (i = 2 ∧ Z = X ++ Y))) ∧
        Hid (Held w0 wq (ownT 41 2 (.slice ao L cap) L (cellsI Z) :: ownT 38 1 (.slice (some ⟨B, 0, none⟩) 2 2) 2 [.slice xo n xc, .slice yo m yc] :: itmT (.slice xo n xc) X :: itmT (.slice yo m yc) Y :: Rs)))
      case atStart =>
        obtain ⟨ao, cap, rfl, _, _⟩ := itm_form HH.out
        exact ⟨0, 0, ao, cap, [], by omega, by omega, rfl, rfl, hid ⟨rfl, .inl ⟨rfl, rfl⟩⟩, HH⟩
      case round =>
        obtain ⟨i, L, ao, cap, Z, hi2, hk2, rfl, rfl, HZ, HJ⟩ := hrel
        obtain ⟨g, off, hg, hcell, hfr, _⟩ := HJ.out.swap.own.site (by omega)
        simp only [Option.some.injEq, Addr.mk.injEq, and_true] at hg
        obtain ⟨rfl, rfl⟩ := hg
        have c0 := hcell 0 _ rfl
        have c1 := hcell 1 _ rfl
        simp only [Nat.zero_add] at c0 c1
        clear hcell hfr
        obtain ⟨hL, hz⟩ := HZ.out
        have hLL : L ≤ n + m := by
          have := HL.out
          rcases hz with ⟨_, rfl⟩ | ⟨_, rfl⟩ | ⟨_, rfl⟩
          · rw [hL]; simp
          · omega
          · rw [hL]; simp; omega
        rcases hz with ⟨rfl, hz⟩ | ⟨rfl, hz⟩ | ⟨rfl, hz⟩
        · have HRd : Hid (Rd wr 2 (.slice xo n xc) n (cellsI X)) := by
            have h := HJ.out.third.own.rd
            rw [HL.out.1] at h
            exact hid h
          have HZ2 : Hid (cellsI Z ++ cellsI X = cellsI (X) ∧ 0 + n = (X).length) := by
            rw [hz]
            have := HL.out
            refine hid ⟨by simp [cellsI], ?_⟩
            simp; omega
          have hL0 : L = 0 := by rw [hL, hz]; rfl
          clear hz hL HZ
          subst hL0
          go_wp2_with ((with_reducible show wpList _ _ _ (⟨some 33, _, _, _, _, _⟩ :: _) _ _); refine wpList_app_held rfl (.tmp 31) (.tmp 32) 38 rfl 41 i0 (.agg #[.int .i64 0, .int .i64 0]) 2 16 Try.underlying38 hi hz0 hz1 hz2 rfl (by decide) _ _ (cellsI Z) rfl HJ.out _ n (cellsI X) rfl HRd.out (cellsI_one X) (0 + n) rfl (by unfold maxLen; omega) (by omega) ?_; intro ao1 cap1 w1 h1; rw [HZ2.out.1] at h1; have HJ2 := hid h1; clear h1)
          go_roundg (gk - 1)
          case measure => omega
          case rel => exact ⟨1, n, ao1, cap1, X, by omega, by omega, by go_num, rfl, hid ⟨by have := HZ2.out.2; omega, .inr (.inl ⟨rfl, rfl⟩)⟩, by rw [Nat.zero_add] at HJ2; exact HJ2⟩
        · have HRd : Hid (Rd wr 2 (.slice yo m yc) m (cellsI Y)) := by
            have h := HJ.out.fourth.own.rd
            rw [HL.out.2] at h
            exact hid h
          have HZ2 : Hid (cellsI Z ++ cellsI Y = cellsI (X ++ Y) ∧ n + m = (X ++ Y).length) := by
            rw [hz]
            have := HL.out
            refine hid ⟨by simp [cellsI], ?_⟩
            simp; omega
          have hL0 : n = L := by rw [hL, hz]; exact HL.out.1.symm
          clear hz hL HZ
          subst hL0
          go_wp2_with ((with_reducible show wpList _ _ _ (⟨some 33, _, _, _, _, _⟩ :: _) _ _); refine wpList_app_held rfl (.tmp 31) (.tmp 32) 38 rfl 41 i0 (.agg #[.int .i64 0, .int .i64 0]) 2 16 Try.underlying38 hi hz0 hz1 hz2 rfl (by decide) _ _ (cellsI Z) rfl HJ.out _ m (cellsI Y) rfl HRd.out (cellsI_one Y) (n + m) rfl (by unfold maxLen; omega) (by omega) ?_; intro ao1 cap1 w1 h1; rw [HZ2.out.1] at h1; have HJ2 := hid h1; clear h1)
          go_roundg (gk - 1)
          case measure => omega
          case rel => exact ⟨2, n + m, ao1, cap1, X ++ Y, by omega, by omega, by go_num, rfl, hid ⟨HZ2.out.2, .inr (.inr ⟨rfl, rfl⟩)⟩, HJ2⟩
        · have HZ2 : Hid (Held w0 wr (itmT (.slice ao L cap) (X ++ Y) :: ownT 38 1 (.slice (some ⟨B, 0, none⟩) 2 2) 2 [.slice xo n xc, .slice yo m yc] :: itmT (.slice xo n xc) X :: itmT (.slice yo m yc) Y :: Rs)) := by
            have h := HJ.out
            rw [hz] at h hL
            unfold itmT
            rw [← hL]
            exact hid h
          clear hz hL HZ HJ
          go_wp2
          go_ret
          exact ⟨_, rfl, HZ2⟩
end Go.Proofs.Ytcmfccooipnmeaa
