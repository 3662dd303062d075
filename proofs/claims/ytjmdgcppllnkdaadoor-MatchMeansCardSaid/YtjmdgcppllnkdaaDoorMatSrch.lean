/-
  The landed finder's search: how many bytes are the same, the longer one of two matches, the place before one.
-/
import Derived.Test.YtjmdgcppllnkdaaDoorMatNear
namespace Go.Proofs.YtjmdgcppllnkdaaDoor
open Go.RowKit

section
variable {w0 w : World} {Rs : List Thing} {tr en la at' cut n B : Nat} {bs bk : List Nat} {g h : List Nat → Option Nat}
theorem farther_any (H : Held w0 w (rawF tr en la at' cut bs bk g h n B :: Rs)) (i d m : Nat) (hd : d ≤ i) (hi : i < 1000000000) (hm : bk[i - d]? = some m) (hm2 : m ≤ 32768) :
    Calls Tryd.prog 29 #[.pointer (some ⟨B, 3, none⟩), .int .i64 (i : Int), .int .i64 (d : Int)] w fun e w' => e = .returned (.int .i64 (((if m = 0 then 0 else reach 32768 (d + m)) : Nat) : Int)) ∧ w' = w := by
  obtain ⟨lv, bv, m1, m2, HF⟩ := unFin H
  obtain ⟨hB, _, hO, _, _⟩ := finAll HF
  obtain ⟨q, hq⟩ : ∃ q, q = i - d := ⟨_, rfl⟩
  rw [← hq] at hm
  obtain ⟨K, hK⟩ : ∃ K, K = bk.length := ⟨_, rfl⟩
  rw [← hK] at hO
  have hqK : q < K := by have := (List.getElem?_eq_some_iff.1 hm).1; omega
  obtain ⟨ao, cap, rfl, hnc, hcm⟩ := hO.form
  have c7 := hB.cell (i := 7) rfl
  obtain ⟨gg, off, rfl, hcell, _, _⟩ := hO.site (by omega)
  have e1 := hcell q (.int .u16 (m : Int)) (by rw [nums_get, hm]; rfl)
  have hqI : (i : Int) - (d : Int) = (q : Int) := by omega
  have hq0 : (0 : Int) ≤ (q : Int) := Int.natCast_nonneg _
  have hqK2 : (q : Int) < (K : Int) := by omega
  have hm0 : (0 : Int) ≤ (m : Int) := Int.natCast_nonneg _
  have hmw : IntKind.i64.wrap (m : Int) = (m : Int) := IntWalk.i64_in _ (by omega)
  have hqb : q < 1000000000 := by omega
  have HR := hid (reached_any (d + m) (by omega))
  clear hcell hB hO HF H hq hm hK
  rcases Nat.eq_zero_or_pos m with rfl | hp
  · go_enter Tryd.func29, Tryd.ntmps29
    go_wp2
    go_ret
    exact ⟨rfl, rfl⟩
  · have hmI : ¬ (m : Int) = 0 := by omega
    obtain ⟨r, hr⟩ : ∃ r, r = reach 32768 (d + m) := ⟨_, rfl⟩
    obtain ⟨D, hD⟩ : ∃ D, D = d + m := ⟨_, rfl⟩
    rw [if_neg (by omega)]
    rw [← hr]
    rw [← hr, ← hD] at HR
    have hDI : (d : Int) + (m : Int) = (D : Int) := by omega
    have hDb : D < 2000000000 := by omega
    clear hr hD
    go_enter Tryd.func29, Tryd.ntmps29
    go_wp2_with fail
    refine (HR.out _).mono ?_
    rintro e w5 ⟨rfl, rfl⟩
    go_wp2
    go_ret
    exact ⟨rfl, rfl⟩
end
theorem ret_obj {P : Program} {w : World} {fn : Func} {p : Tmp} {t : TypeId} (hf : fn.results = #[.cell p t]) {R : Ending → World → Prop} {a : Act}
    (d : TypeDesc) (n : Nat) (ht : P.underlying t = some d) (hd : isArr d = true) (hi : (P.info? t).map (·.size) = some n)
    (B : Nat) (cs : List Value) (T : TypeId) (hp : a.tmps.getD p undef = .pointer (some ⟨B, 0, none⟩)) (hl : cs.length = n) (hB : Blk w B cs T)
    (hdf : a.defers = []) (h : R (.returned (.agg cs.toArray)) w) : bodyPost P fn R .ret a w :=
  bodyPost_ret (v := .agg cs.toArray) (results_cell_row hf a.tmps w B T cs.toArray (0, 0) d hp hB ht (by cases d <;> simp_all [isArr]) (by rw [hi]; simp [hl])) hdf h
theorem infoTokM : (Tryd.prog.info? 32).map (·.size) = some 3 := by kernel_rfl
theorem longer_any (a l d a2 l2 d2 : Nat) (w : World) :
    Calls Tryd.prog 27 #[.agg #[.int .u8 (a : Int), .int .i64 (l : Int), .int .i64 (d : Int)], .agg #[.int .u8 (a2 : Int), .int .i64 (l2 : Int), .int .i64 (d2 : Int)]] w fun e w' =>
      e = .returned (if l < l2 then .agg #[.int .u8 (a2 : Int), .int .i64 (l2 : Int), .int .i64 (d2 : Int)] else .agg #[.int .u8 (a : Int), .int .i64 (l : Int), .int .i64 (d : Int)]) ∧ Mod w w' (fun _ => False) := by
  by_cases h : l < l2
  · have hI : (l : Int) < (l2 : Int) := by omega
    rw [if_pos h]
    clear h
    go_enter Tryd.func27, Tryd.ntmps27
    go_wp2
    refine ret_obj rfl _ 3 Tryd.underlying32 rfl infoTokM (w.heap.size + 1 + 1) [.int .u8 (a2 : Int), .int .i64 (l2 : Int), .int .i64 (d2 : Int)] 32 rfl rfl ?_ rfl ⟨rfl, ((((Mod.refl w _).alloc _).alloc _).alloc _)⟩
    have := Blk.new ((w.alloc (.cells #[.int .u8 (a : Int), .int .i64 (l : Int), .int .i64 (d : Int)] 32)).alloc (.cells #[.int .u8 (a2 : Int), .int .i64 (l2 : Int), .int .i64 (d2 : Int)] 32)) [.int .u8 (a2 : Int), .int .i64 (l2 : Int), .int .i64 (d2 : Int)] 32
    simpa using this
  · have hI : ¬ (l : Int) < (l2 : Int) := by omega
    rw [if_neg h]
    clear h
    go_enter Tryd.func27, Tryd.ntmps27
    go_wp2
    refine ret_obj rfl _ 3 Tryd.underlying32 rfl infoTokM (w.heap.size + 1 + 1) [.int .u8 (a : Int), .int .i64 (l : Int), .int .i64 (d : Int)] 32 rfl rfl ?_ rfl ⟨rfl, ((((Mod.refl w _).alloc _).alloc _).alloc _)⟩
    have := Blk.new ((w.alloc (.cells #[.int .u8 (a : Int), .int .i64 (l : Int), .int .i64 (d : Int)] 32)).alloc (.cells #[.int .u8 (a2 : Int), .int .i64 (l2 : Int), .int .i64 (d2 : Int)] 32)) [.int .u8 (a : Int), .int .i64 (l : Int), .int .i64 (d : Int)] 32
    simpa using this
set_option maxHeartbeats 1600000 in
theorem sameM_any (v u : Value) (n m : Nat) (a b : List Nat) (w : World) (hv : Rd w 1 v n (u8s a)) (hu : Rd w 1 u m (u8s b)) (hmn : m ≤ n) (hn : n < 1000000000) :
    Calls Tryd.prog 28 #[v, u] w fun e w' => e = .returned (.int .i64 ((same a b : Nat) : Int)) ∧ ∃ k, w' = w.drewN k := by
  obtain ⟨ao, cap, rfl, _, _⟩ := hv.form
  obtain ⟨bo, cap2, rfl, _, _⟩ := hu.form
  have hna : n = a.length := by have := hv.1; rw [u8s_length] at this; omega
  have hmb : m = b.length := by have := hu.1; rw [u8s_length] at this; omega
  have HN := hid (And.intro hna hmb)
  have HV := hid hv
  have HU := hid hu
  have hm0 : (0 : Int) ≤ (m : Int) := Int.natCast_nonneg _
  have hmnI : (m : Int) ≤ (n : Int) := by omega
  have hif : (if m < n then (m : Int) else (n : Int)) = (m : Int) := by split <;> omega
  clear hna hmb hv hu
  go_enter Tryd.func28, Tryd.ntmps28
  go_wp2
  go_loopg [5] (m + 2) (fun g t5 wr => ∃ j c : Nat, j ≤ m ∧ m - j < g ∧ t5 = .int .i64 (j : Int) ∧ wr = w.drewN c ∧ Hid (∀ k, k < j → a[k]? = b[k]?))
  case atStart => exact ⟨0, 0, by omega, by omega, rfl, rfl, hid (fun k hk => by omega)⟩
  case round =>
    obtain ⟨j, c, hj, hg, rfl, rfl, HJ⟩ := hrel
    have hj0 : (0 : Int) ≤ (j : Int) := Int.natCast_nonneg _
    by_cases hjm : j < m
    · have hjI : (j : Int) < (m : Int) := by omega
      have hjn : (j : Int) < (n : Int) := by omega
      have hB1 : decide ((j : Int) < (m : Int)) = true := decide_eq_true hjI
      have hB2 : decide (j < m) = true := decide_eq_true hjm
      obtain ⟨x, hx⟩ : ∃ x, a[j]? = some x := ⟨a[j]'(by have := HN.out.1; omega), List.getElem?_eq_getElem _⟩
      obtain ⟨y, hy⟩ : ∃ y, b[j]? = some y := ⟨b[j]'(by have := HN.out.2; omega), List.getElem?_eq_getElem _⟩
      obtain ⟨g1, off1, rfl, f1⟩ := HV.out.spot (by omega)
      have e1 := f1 j (.int .u8 (x : Int)) (by rw [u8s_get, hx]; rfl)
      obtain ⟨g2, off2, rfl, f2⟩ := HU.out.spot (by omega)
      have e2 := f2 j (.int .u8 (y : Int)) (by rw [u8s_get, hy]; rfl)
      clear f1 f2
      have HX := hid (And.intro hx hy)
      clear hx hy
      by_cases hxy : x = y
      · subst hxy
        go_wp2
        go_quiet (fail)
        go_wp2
        go_roundg (gk - 1)
        case measure => omega
        case rel =>
          refine ⟨j + 1, _, by omega, by omega, by go_num, rfl, hid fun k hk => ?_⟩
          by_cases e : k = j
          · subst e; rw [HX.out.1, HX.out.2]
          · exact HJ.out k (by omega)
      · have hE := hid (show same a b = j from same_is (by have := HN.out.1; omega) (by have := HN.out.2; omega) HJ.out (fun _ _ => by rw [HX.out.1, HX.out.2]; simpa using hxy))
        have hne : ((x : Int) == (y : Int)) = false := by simp; omega
        have hne2 : decide ((x : Int) = (y : Int)) = false := by simp; omega
        have hne3 : (x == y) = false := by simpa using hxy
        have hne4 : decide (x = y) = false := by simpa using hxy
        go_wp2
        go_quiet (fail)
        go_wp2
        go_ret
        exact ⟨by rw [hE.out]; rfl, _, World.drewN_drewN _ _ _⟩
    · obtain rfl : j = m := by omega
      have hE := hid (show same a b = j from same_is (by have := HN.out.1; omega) (by have := HN.out.2; omega) HJ.out (fun _ h2 => by have := HN.out.2; omega))
      have hjI : ¬ (j : Int) < (j : Int) := by omega
      have hB1 : decide ((j : Int) < (j : Int)) = false := decide_eq_false hjI
      have hB2 : decide (j < j) = false := decide_eq_false (by omega)
      go_wp2
      go_quiet (fail)
      go_wp2
      go_ret
      exact ⟨by rw [hE.out]; rfl, _, World.drewN_drewN _ _ _⟩
end Go.Proofs.YtjmdgcppllnkdaaDoor
