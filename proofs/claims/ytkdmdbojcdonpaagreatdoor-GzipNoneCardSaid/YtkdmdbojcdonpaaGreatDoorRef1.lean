/-
  The contracts of the reference package's functions on bits: Of, Number, Bits, Bytes, Even, Same.
-/
import Derived.Test.YtkdmdbojcdonpaaGreatDoorProg
import Derived.Test.YtkdmdbojcdonpaaGreatDoorOwn2
import Derived.Test.YtkdmdbojcdonpaaGreatDoorBitsMath
namespace Go.Proofs.YtkdmdbojcdonpaaGreatDoor
set_option maxRecDepth 5000
open Go.RowKit

theorem Tryz.infoByteR : (Tryz.prog.info? 5).map (fun i => (i.zero, i.size, i.bytes)) = some (some (.int .u8 0), 1, 1) := by kernel_rfl

/-- a slice of the call's own that holds these bytes -/
def Built (w w' : World) (v : Value) (l : List Nat) : Prop :=
  Own w' 5 1 v l.length (u8s l) ∧ Mod w w' (fun _ => False) ∧ ∀ k, v.ownBlock = some k → w.heap.size ≤ k
theorem Built.start (w : World) : Built w w (.slice none 0 0) [] := ⟨Own.nil _ _ _, Mod.refl _ _, by simp [Value.ownBlock]⟩
theorem Built.form {w w' : World} {v : Value} {l : List Nat} (h : Built w w' v l) : ∃ ao cap, v = .slice ao l.length cap := by
  obtain ⟨ao, cap, hv, _⟩ := h.1.form
  exact ⟨ao, cap, hv⟩
/-- one byte more -/
theorem Built.snoc {w wr w1 : World} {l : List Nat} {ao ao1 : Option Addr} {cap cap1 n : Nat} {o : Obj} {x : Int} {b : Nat} (h : Built w wr (.slice ao n cap) l) (hn : n = l.length) (hx : x = (b : Int))
    (hown1 : Own w1 5 1 (.slice ao1 (n + 1) cap1) (n + 1) (u8s l ++ [.int .u8 x])) (hgrow : (wr.alloc o).grownBy w1 (Value.ownBlock (.slice ao n cap)))
    (hat : Value.ownBlock (.slice ao1 (n + 1) cap1) = Value.ownBlock (.slice ao n cap) ∨ Value.ownBlock (.slice ao1 (n + 1) cap1) = some (wr.alloc o).heap.size) : Built w w1 (.slice ao1 (n + 1) cap1) (l ++ [b]) := by
  subst hn
  obtain ⟨h1, h2⟩ := fresh_app h.2.1 h.2.2 hgrow hat
  refine ⟨?_, h1, h2⟩
  rw [u8s_append, List.length_append, List.length_singleton]
  subst hx
  exact hown1

theorem ret_intR {k : IntKind} {a b : Int} (h : a = b) : Ending.returned (.int k a) = .returned (.int k b) := by rw [h]
theorem bit_val (b j : Nat) : ((b : Int) / 2 ^ j).tmod 2 = ((b / 2 ^ j % 2 : Nat) : Int) := by
  have h : ((2 : Int) ^ j) = ((2 ^ j : Nat) : Int) := by simp
  have e : (b : Int) / ((2 ^ j : Nat) : Int) = ((b / 2 ^ j : Nat) : Int) := (Int.natCast_ediv b (2 ^ j)).symm
  rw [h, e]
  generalize b / 2 ^ j = t
  rw [Int.tmod_eq_emod_of_nonneg (by omega)]; omega
theorem bitsOf_snoc (k v : Nat) : bitsOf (k + 1) v = bitsOf k v ++ [v / 2 ^ k % 2] := by
  rw [bitsOf_add]; rfl
theorem u8_bit (x : Nat) (h : x ≤ 1) : IntKind.u8.wrap (x : Int) = (x : Int) := IntWalk.u8_in _ (by omega)

theorem numOf_drop (l : List Nat) (i : Nat) (b : Nat) (h : l[i]? = some b) : numOf (l.drop i) = b + 2 * numOf (l.drop (i + 1)) := by
  have hi := (List.getElem?_eq_some_iff.1 h).1
  have hb := (List.getElem?_eq_some_iff.1 h).2
  rw [List.drop_eq_getElem_cons hi, hb]; rfl
set_option maxHeartbeats 400000 in
theorem number_any (v : Value) (l : List Nat) (w : World) (hv : Rd w 1 v l.length (u8s l)) (hb : isBits l) (hl : l.length ≤ 60) :
    Calls Tryz.prog 69 #[v] w fun e w' => e = .returned (.int .i64 ((numOf l : Nat) : Int)) ∧ w = w' := by
  obtain ⟨ao, cap, rfl, _, _⟩ := hv.form
  obtain ⟨n, hn⟩ : ∃ n, n = l.length := ⟨_, rfl⟩
  rw [← hn] at hv hl ⊢
  have HN := hid hn
  clear hn
  go_enter Tryz.func69, Tryz.ntmps69
  go_wp2
  go_loop [3, 4] (fun t3 t4 => ∃ k : Nat, k ≤ n ∧ t4 = .int .i64 ((k : Int) - 1) ∧ t3 = .int .i64 ((numOf (l.drop k) : Nat) : Int)) (fun _ t4 => (intOf t4 + 1).toNat)
  case atStart => exact ⟨n, Nat.le_refl _, rfl, by rw [HN.out, List.drop_eq_nil_of_le (Nat.le_refl _)]; rfl⟩
  case round =>
    obtain ⟨k, hk, rfl, rfl⟩ := hrel
    obtain ⟨q, hq⟩ : ∃ q, q = numOf (l.drop k) := ⟨_, rfl⟩
    have hqb : q < 2 ^ 60 := by
      rw [hq]; exact Nat.lt_of_lt_of_le (numOf_lt _ (isBits_drop hb k)) (Nat.pow_le_pow_right (by decide) (by rw [List.length_drop]; have := HN.out; omega))
    rw [← hq]
    have HQ := hid hq
    clear hq
    cases k with
    | zero =>
      have h0 : ((0 : Nat) : Int) - 1 < 0 := by omega
      go_wp2
      go_ret
      exact ⟨ret_intR (by rw [HQ.out]; rfl), rfl⟩
    | succ k =>
      obtain ⟨b, hbk⟩ : ∃ b, l[k]? = some b := ⟨l[k]'(by have := HN.out; omega), List.getElem?_eq_getElem _⟩
      have hb1 : b ≤ 1 := hb b (List.mem_of_getElem? hbk)
      obtain ⟨g, off, rfl, hcell⟩ := hv.spot (by omega)
      have hc : w.cell? ⟨g, off + k, none⟩ = some (.int .u8 (b : Int)) := hcell k _ (by rw [u8s_get, hbk]; rfl)
      have HB := hid (numOf_drop l k b hbk)
      clear hbk hcell
      rw [show (((k + 1 : Nat) : Int) - 1) = (k : Int) by omega]
      go_wp2
      go_round
      case rel => exact ⟨k, by omega, rfl, by rw [HB.out, ← HQ.out]; go_num⟩
      case measure => simp [intOf]

theorem number_of (v : Value) (n q : Nat) (xs : List Value) (l : List Nat) (w : World) (hv : Rd w 1 v n xs) (hx : xs = u8s l) (hb : isBits l) (hl : n ≤ 60) (hq : q = numOf l) :
    Calls Tryz.prog 69 #[v] w fun e w' => e = .returned (.int .i64 (q : Int)) ∧ w = w' := by
  have hn : n = l.length := by have := hv.1; rw [hx, u8s_length] at this; omega
  subst hx hq hn
  exact number_any v l w hv hb hl
theorem bits8_snoc (l : List Nat) (b : Nat) : bits8 (l ++ [b]) = bits8 l ++ bitsOf 8 b := by rw [bits8_append, bits8_cons, bits8_nil, List.append_nil]
theorem take_snoc' (l : List Nat) (k b : Nat) (h : l[k]? = some b) : l.take (k + 1) = l.take k ++ [b] := by
  have hi := (List.getElem?_eq_some_iff.1 h).1
  have hb := (List.getElem?_eq_some_iff.1 h).2
  rw [List.take_succ_eq_append_getElem hi, hb]
set_option maxHeartbeats 800000 in
theorem bits_any (v : Value) (l : List Nat) (w : World) (hv : Rd w 1 v l.length (u8s l)) (hb : ∀ b ∈ l, b < 256) (hl : l.length < 1000000000) :
    Calls Tryz.prog 48 #[v] w fun e w' => ∃ v', e = .returned v' ∧ Built w w' v' (bits8 l) := by
  obtain ⟨i, hi, hz0, hz1, hz2⟩ := info_parts Tryz.infoByteR
  obtain ⟨ao, cap, rfl, _, _⟩ := hv.form
  obtain ⟨n, hn⟩ : ∃ n, n = l.length := ⟨_, rfl⟩
  rw [← hn] at hv hl ⊢
  have HN := hid hn
  clear hn
  go_enter Tryz.func48, Tryz.ntmps48
  go_wp2
  go_loopw [3, 4, 5] (fun t3 t4 _ wr => ∃ k : Nat, k ≤ n ∧ t4 = .int .i64 (k : Int) ∧ Built w wr t3 (bits8 (l.take k))) (fun _ t4 _ _ => n - (intOf t4).toNat)
  case atStart => exact ⟨0, Nat.zero_le _, rfl, Built.start w⟩
  case round =>
    obtain ⟨k, hk, rfl, hB⟩ := hrel
    obtain ⟨ao3, cap3, rfl⟩ := hB.form
    by_cases hkn : k < n
    · obtain ⟨b, hbk⟩ : ∃ b, l[k]? = some b := ⟨l[k]'(by have := HN.out; omega), List.getElem?_eq_getElem _⟩
      have hb1 : b < 256 := hb b (List.mem_of_getElem? hbk)
      obtain ⟨g, off, rfl, hcell⟩ := hv.spot (by omega)
      have hc : w.cell? ⟨g, off + k, none⟩ = some (.int .u8 (b : Int)) := hcell k _ (by rw [u8s_get, hbk]; rfl)
      have hg : g < w.heap.size := World.block_lt_of_cell? w _ hc
      have HB := hid hbk
      have hB0 := hid hB
      obtain ⟨m, hm⟩ : ∃ m, m = (bits8 (l.take k)).length := ⟨_, rfl⟩
      have hmk : m = 8 * k := by rw [hm, bits8_length, List.length_take, ← HN.out]; omega
      rw [← hm]
      have HM := hid hmk
      have hmb : m < 8000000000 := by omega
      clear hm hmk hbk hcell hB
      obtain ⟨wo, hwo⟩ : ∃ wo : World, wo = wr := ⟨_, rfl⟩
      have HW := hid hwo
      clear hwo
      go_wp2
      go_loopw [3, 5] (fun t3 t5 wr' => ∃ j q : Nat, j ≤ 8 ∧ q = m + j ∧ t5 = .int .i64 (j : Int) ∧ ∃ a3 c3, t3 = .slice a3 q c3 ∧ Built w wr' (.slice a3 q c3) (bits8 (l.take k) ++ bitsOf j b)) (fun _ t5 _ => 8 - (intOf t5).toNat)
      case atStart => exact ⟨0, m, Nat.zero_le _, rfl, rfl, ao3, cap3, rfl, by rw [show bitsOf 0 b = [] from rfl, List.append_nil]; have h1 := hB0.out; rwa [show (bits8 (l.take k)).length = m by rw [bits8_length, List.length_take, ← HN.out, HM.out]; omega] at h1⟩
      case round =>
        obtain ⟨j, q, hj, hq, rfl, a3, c3, rfl, hB⟩ := hrel
        have hB' := hB
        have hown := hB.1
        have hlq : (bits8 (l.take k) ++ bitsOf j b).length = q := by
          rw [List.length_append, bitsOf_length, bits8_length, List.length_take, ← HN.out, hq, HM.out]; omega
        rw [hlq] at hown
        have hcw : (wr.cell? ⟨g, off + k, none⟩) = some (.int .u8 (b : Int)) := by rw [hB.2.1.cell hg (fun h => h)]; exact hc
        have HQ := hid hq
        have HLQ := hid hlq
        have hqb : q < 8000000008 := by omega
        clear hq hlq
        have hj0 : (0 : Int) ≤ (j : Int) := Int.natCast_nonneg _
        by_cases hj8 : j < 8
        · go_wp2_with (at_builtin; refine wpList_app1 rfl (.tmp 16) (.tmp 25) 25 rfl 5 i (.int .u8 0) 1 Tryz.underlying25 hi hz0 hz1 hz2 rfl (.slice a3 q c3) q (u8s (bits8 (l.take k) ++ bitsOf j b)) rfl hown rfl rfl (by unfold maxLen; omega) (by omega) ?_; intro ao1 cap1 w1 hown1 hgrow hat)
          go_roundw
          case rel =>
            refine ⟨j + 1, q + 1, by omega, by have := HQ.out; omega, by go_num, ao1, cap1, rfl, ?_⟩
            rw [bitsOf_snoc, ← List.append_assoc]
            exact hB'.snoc (b := b / 2 ^ j % 2) HLQ.out.symm (bit_val b j) hown1 hgrow hat
          case measure => simp [intOf]; omega
        · go_wp2
          go_roundw
          case rel =>
            refine ⟨k + 1, by omega, by go_num, ?_⟩
            rw [take_snoc' l k b HB.out, bits8_snoc, show 8 = j by omega]
            exact hB'
          case measure => simp [intOf]; omega
    · go_wp2
      go_ret
      rw [List.take_of_length_le (by have := HN.out; omega)] at hB ⊢
      exact ⟨_, rfl, hB⟩

/-! ### Bytes -/
theorem bytesOf_snoc (l : List Nat) (k : Nat) (h : 8 * k + 8 ≤ l.length) : (bytesOf l).take (k + 1) = (bytesOf l).take k ++ [numOf ((l.drop (8 * k)).take 8)] :=
  take_snoc' _ _ _ (bytesOf_get l k (by omega))
/-! ### Even -/
theorem evenN_step (l : List Nat) (j : Nat) : (l ++ List.replicate j 0) ++ [0] = l ++ List.replicate (j + 1) 0 := by
  rw [List.append_assoc, ← List.replicate_succ']
/-! ### Same -/
theorem same_len {a b : List Nat} (h : a.length ≠ b.length) : a ≠ b := fun e => h (by rw [e])
set_option maxHeartbeats 800000 in
theorem same_any (v u : Value) (a b : List Nat) (w : World) (hv : Rd w 1 v a.length (u8s a)) (hu : Rd w 1 u b.length (u8s b)) (hal : a.length < 8000000000) :
    Calls Tryz.prog 20 #[v, u] w fun e w' => e = .returned (.bool (decide (a = b))) ∧ ∃ n, w' = w.drewN n := by
  obtain ⟨ao, cap, rfl, _, _⟩ := hv.form
  obtain ⟨bo, cbp, rfl, _, _⟩ := hu.form
  by_cases hab : a.length = b.length
  · obtain ⟨n, hn⟩ : ∃ n, n = a.length := ⟨_, rfl⟩
    rw [← hab] at hu
    rw [← hn] at hv hu hal
    rw [← hab, ← hn]
    have HN := hid hn
    have HM := hid hab
    clear hn hab
    have hne : ((n : Int) != (n : Int)) = false := by simp
    go_enter Tryz.func20, Tryz.ntmps20
    go_wp2
    go_loopw [5] (fun t5 wr => ∃ k c : Nat, k ≤ n ∧ t5 = .int .i64 (k : Int) ∧ Hid (a.take k = b.take k) ∧ Hid (wr = w.drewN c)) (fun t5 _ => n - (intOf t5).toNat)
    case atStart => exact ⟨0, 0, Nat.zero_le _, rfl, rfl, rfl⟩
    case round =>
      obtain ⟨k, c, hk, rfl, HT, HW⟩ := hrel
      obtain rfl := HW.out
      by_cases hkn : k < n
      · obtain ⟨x, hx⟩ : ∃ x, a[k]? = some x := ⟨a[k]'(by have := HN.out; omega), List.getElem?_eq_getElem _⟩
        obtain ⟨y, hy⟩ : ∃ y, b[k]? = some y := ⟨b[k]'(by have := HN.out; have := HM.out; omega), List.getElem?_eq_getElem _⟩
        obtain ⟨g, off, rfl, hcell⟩ := hv.spot (by omega)
        obtain ⟨g2, off2, rfl, hcell2⟩ := hu.spot (by omega)
        have hc : w.cell? ⟨g, off + k, none⟩ = some (.int .u8 (x : Int)) := hcell k _ (by rw [u8s_get, hx]; rfl)
        have hc2 : w.cell? ⟨g2, off2 + k, none⟩ = some (.int .u8 (y : Int)) := hcell2 k _ (by rw [u8s_get, hy]; rfl)
        have hk0 : (0 : Int) ≤ (k : Int) := Int.natCast_nonneg _
        have hk1 : (k : Int) < (n : Int) := by omega
        have HX := hid hx
        have HY := hid hy
        clear hcell hcell2 hx hy
        by_cases hxy : x = y
        · have hd : ((x : Int) != (y : Int)) = false := by simp [hxy]
          have HXY := hid hxy
          clear hxy
          go_wp2
          go_quiet (fail)
          go_wp2
          go_roundw
          case rel => exact ⟨k + 1, _, by omega, by go_num, by rw [Hid, take_snoc' _ _ _ HX.out, take_snoc' _ _ _ HY.out, HT.out, HXY.out], rfl⟩
          case measure => simp [intOf]; omega
        · have hd : ((x : Int) != (y : Int)) = true := by simp; omega
          have HXY := hid hxy
          clear hxy
          go_wp2
          go_quiet (fail)
          go_wp2
          go_ret
          refine ⟨?_, _, World.drewN_drewN ..⟩
          rw [decide_eq_false]
          · rfl
          · intro e
            have h1 := HX.out
            rw [e, HY.out] at h1
            exact HXY.out (Option.some.inj h1).symm
      · go_wp2
        go_ret
        refine ⟨?_, _, rfl⟩
        have h1 := HT.out
        rw [List.take_of_length_le (by have := HN.out; omega), List.take_of_length_le (by have := HN.out; have := HM.out; omega)] at h1
        rw [decide_eq_true h1]
        rfl
  · have hd : ((a.length : Int) != (b.length : Int)) = true := by simp; omega
    have HN := hid hab
    clear hab
    go_enter Tryz.func20, Tryz.ntmps20
    go_wp2
    go_ret
    exact ⟨by rw [decide_eq_false (same_len HN.out)]; rfl, 0, rfl⟩
end Go.Proofs.YtkdmdbojcdonpaaGreatDoor
