/-
  The contracts of the reference package's functions on bits: Of, Number, Bits, Bytes, Even, Same.
-/
import Derived.Test.YtpecdappchkdiaaProg
import Derived.Test.YtpecdappchkdiaaOwn2
import Derived.Test.YtpecdappchkdiaaBitsMath
namespace Go.Proofs.Ytpecdappchkdiaa
open Go.RowKit

theorem Try.infoByteR : (Try.prog.info? 5).map (fun i => (i.zero, i.size, i.bytes)) = some (some (.int .u8 0), 1, 1) := by kernel_rfl

/-- a slice of the call's own that holds these bytes -/
def Built (w w' : World) (v : Value) (l : List Nat) : Prop :=
  Own w' 5 1 v l.length (u8s l) ∧ Mod w w' (fun _ => False) ∧ ∀ k, v.ownBlock = some k → w.heap.size ≤ k
theorem Built.start (w : World) : Built w w (.slice none 0 0) [] := ⟨Own.nil _ _ _, Mod.refl _ _, by simp [Value.ownBlock]⟩
theorem Built.form {w w' : World} {v : Value} {l : List Nat} (h : Built w w' v l) : ∃ ao cap, v = .slice ao l.length cap := by
  obtain ⟨ao, cap, hv, _⟩ := h.1.form
  exact ⟨ao, cap, hv⟩
/-- one byte more -/
theorem Built.snoc {w wr w1 : World} {l : List Nat} {ao ao1 : Option Addr} {cap cap1 n : Nat} {o : Obj} {x : Int} {b : Nat} (h : Built w wr (.slice ao n cap) l) (hn : n = l.length) (hx : x = (b : Int))
    (hown1 : Own w1 5 1 (.slice ao1 (n + 1) cap1) (n + 1) (u8s l ++ [.int .u8 x])) (hgrow : (wr.alloc o).grownBy w1 (Value.ownBlock (.slice ao n cap)))
    (hat : Value.ownBlock (.slice ao1 (n + 1) cap1) = Value.ownBlock (.slice ao n cap) ∨ Value.ownBlock (.slice ao1 (n + 1) cap1) = some (wr.alloc o).heap.size) : Built w w1 (.slice ao1 (n + 1) cap1) (l ++ [b]) := by
  subst hn
  obtain ⟨h1, h2⟩ := fresh_app h.2.1 h.2.2 hgrow hat
  refine ⟨?_, h1, h2⟩
  rw [u8s_append, List.length_append, List.length_singleton]
  subst hx
  exact hown1

theorem ret_intR {k : IntKind} {a b : Int} (h : a = b) : Ending.returned (.int k a) = .returned (.int k b) := by rw [h]
theorem bit_val (b j : Nat) : ((b : Int) / 2 ^ j).tmod 2 = ((b / 2 ^ j % 2 : Nat) : Int) := by
  have h : ((2 : Int) ^ j) = ((2 ^ j : Nat) : Int) := by simp
  have e : (b : Int) / ((2 ^ j : Nat) : Int) = ((b / 2 ^ j : Nat) : Int) := (Int.natCast_ediv b (2 ^ j)).symm
  rw [h, e]
  generalize b / 2 ^ j = t
  rw [Int.tmod_eq_emod_of_nonneg (by omega)]; omega
theorem bitsOf_snoc (k v : Nat) : bitsOf (k + 1) v = bitsOf k v ++ [v / 2 ^ k % 2] := by
  rw [bitsOf_add]; rfl
theorem u8_bit (x : Nat) (h : x ≤ 1) : IntKind.u8.wrap (x : Int) = (x : Int) := IntWalk.u8_in _ (by omega)

theorem numOf_drop (l : List Nat) (i : Nat) (b : Nat) (h : l[i]? = some b) : numOf (l.drop i) = b + 2 * numOf (l.drop (i + 1)) := by
  have hi := (List.getElem?_eq_some_iff.1 h).1
  have hb := (List.getElem?_eq_some_iff.1 h).2
  rw [List.drop_eq_getElem_cons hi, hb]; rfl
set_option maxHeartbeats 400000 in
theorem number_any (v : Value) (l : List Nat) (w : World) (hv : Rd w 1 v l.length (u8s l)) (hb : isBits l) (hl : l.length ≤ 60) :
    Calls Try.prog 37 #[v] w fun e w' => e = .returned (.int .i64 ((numOf l : Nat) : Int)) ∧ w = w' := by
  obtain ⟨ao, cap, rfl, _, _⟩ := hv.form
  obtain ⟨n, hn⟩ : ∃ n, n = l.length := ⟨_, rfl⟩
  rw [← hn] at hv hl ⊢
  have HN := hid hn
  clear hn
  go_enter Try.func37, Try.ntmps37
  go_wp2
  go_loop [3, 4] (fun t3 t4 => ∃ k : Nat, k ≤ n ∧ t4 = .int .i64 ((k : Int) - 1) ∧ t3 = .int .i64 ((numOf (l.drop k) : Nat) : Int)) (fun _ t4 => (intOf t4 + 1).toNat)
  case atStart => exact ⟨n, Nat.le_refl _, rfl, by rw [HN.out, List.drop_eq_nil_of_le (Nat.le_refl _)]; rfl⟩
  case round =>
    obtain ⟨k, hk, rfl, rfl⟩ := hrel
    obtain ⟨q, hq⟩ : ∃ q, q = numOf (l.drop k) := ⟨_, rfl⟩
    have hqb : q < 2 ^ 60 := by
      rw [hq]; exact Nat.lt_of_lt_of_le (numOf_lt _ (isBits_drop hb k)) (Nat.pow_le_pow_right (by decide) (by rw [List.length_drop]; have := HN.out; omega))
    rw [← hq]
    have HQ := hid hq
    clear hq
    cases k with
    | zero =>
      have h0 : ((0 : Nat) : Int) - 1 < 0 := by omega
      go_wp2
      go_ret
      exact ⟨ret_intR (by rw [HQ.out]; rfl), rfl⟩
    | succ k =>
      obtain ⟨b, hbk⟩ : ∃ b, l[k]? = some b := ⟨l[k]'(by have := HN.out; omega), List.getElem?_eq_getElem _⟩
      have hb1 : b ≤ 1 := hb b (List.mem_of_getElem? hbk)
      obtain ⟨g, off, rfl, hcell⟩ := hv.spot (by omega)
      have hc : w.cell? ⟨g, off + k, none⟩ = some (.int .u8 (b : Int)) := hcell k _ (by rw [u8s_get, hbk]; rfl)
      have HB := hid (numOf_drop l k b hbk)
      clear hbk hcell
      rw [show (((k + 1 : Nat) : Int) - 1) = (k : Int) by omega]
      go_wp2
      go_round
      case rel => exact ⟨k, by omega, rfl, by rw [HB.out, ← HQ.out]; go_num⟩
      case measure => simp [intOf]

theorem number_of (v : Value) (n q : Nat) (xs : List Value) (l : List Nat) (w : World) (hv : Rd w 1 v n xs) (hx : xs = u8s l) (hb : isBits l) (hl : n ≤ 60) (hq : q = numOf l) :
    Calls Try.prog 37 #[v] w fun e w' => e = .returned (.int .i64 (q : Int)) ∧ w = w' := by
  have hn : n = l.length := by have := hv.1; rw [hx, u8s_length] at this; omega
  subst hx hq hn
  exact number_any v l w hv hb hl
theorem bits8_snoc (l : List Nat) (b : Nat) : bits8 (l ++ [b]) = bits8 l ++ bitsOf 8 b := by rw [bits8_append, bits8_cons, bits8_nil, List.append_nil]
theorem take_snoc' (l : List Nat) (k b : Nat) (h : l[k]? = some b) : l.take (k + 1) = l.take k ++ [b] := by
  have hi := (List.getElem?_eq_some_iff.1 h).1
  have hb := (List.getElem?_eq_some_iff.1 h).2
  rw [List.take_succ_eq_append_getElem hi, hb]
set_option maxHeartbeats 800000 in
theorem bits_any (v : Value) (l : List Nat) (w : World) (hv : Rd w 1 v l.length (u8s l)) (hb : ∀ b ∈ l, b < 256) (hl : l.length < 1000000000) :
    Calls Try.prog 11 #[v] w fun e w' => ∃ v', e = .returned v' ∧ Built w w' v' (bits8 l) := by
  obtain ⟨i, hi, hz0, hz1, hz2⟩ := info_parts Try.infoByteR
  obtain ⟨ao, cap, rfl, _, _⟩ := hv.form
  obtain ⟨n, hn⟩ : ∃ n, n = l.length := ⟨_, rfl⟩
  rw [← hn] at hv hl ⊢
  have HN := hid hn
  clear hn
  go_enter Try.func11, Try.ntmps11
  go_wp2
  go_loopw [3, 4, 5] (fun t3 t4 _ wr => ∃ k : Nat, k ≤ n ∧ t4 = .int .i64 (k : Int) ∧ Built w wr t3 (bits8 (l.take k))) (fun _ t4 _ _ => n - (intOf t4).toNat)
  case atStart => exact ⟨0, Nat.zero_le _, rfl, Built.start w⟩
  case round =>
    obtain ⟨k, hk, rfl, hB⟩ := hrel
    obtain ⟨ao3, cap3, rfl⟩ := hB.form
    by_cases hkn : k < n
    · obtain ⟨b, hbk⟩ : ∃ b, l[k]? = some b := ⟨l[k]'(by have := HN.out; omega), List.getElem?_eq_getElem _⟩
      have hb1 : b < 256 := hb b (List.mem_of_getElem? hbk)
      obtain ⟨g, off, rfl, hcell⟩ := hv.spot (by omega)
      have hc : w.cell? ⟨g, off + k, none⟩ = some (.int .u8 (b : Int)) := hcell k _ (by rw [u8s_get, hbk]; rfl)
      have hg : g < w.heap.size := World.block_lt_of_cell? w _ hc
      have HB := hid hbk
      have hB0 := hid hB
      obtain ⟨m, hm⟩ : ∃ m, m = (bits8 (l.take k)).length := ⟨_, rfl⟩
      have hmk : m = 8 * k := by rw [hm, bits8_length, List.length_take, ← HN.out]; omega
      rw [← hm]
      have HM := hid hmk
      have hmb : m < 8000000000 := by omega
      clear hm hmk hbk hcell hB
      obtain ⟨wo, hwo⟩ : ∃ wo : World, wo = wr := ⟨_, rfl⟩
      have HW := hid hwo
      clear hwo
      go_wp2
      go_loopw [3, 5] (fun t3 t5 wr' => ∃ j q : Nat, j ≤ 8 ∧ q = m + j ∧ t5 = .int .i64 (j : Int) ∧ ∃ a3 c3, t3 = .slice a3 q c3 ∧ Built w wr' (.slice a3 q c3) (bits8 (l.take k) ++ bitsOf j b)) (fun _ t5 _ => 8 - (intOf t5).toNat)
      case atStart => exact ⟨0, m, Nat.zero_le _, rfl, rfl, ao3, cap3, rfl, by rw [show bitsOf 0 b = [] from rfl, List.append_nil]; have h1 := hB0.out; rwa [show (bits8 (l.take k)).length = m by rw [bits8_length, List.length_take, ← HN.out, HM.out]; omega] at h1⟩
      case round =>
        obtain ⟨j, q, hj, hq, rfl, a3, c3, rfl, hB⟩ := hrel
        have hB' := hB
        have hown := hB.1
        have hlq : (bits8 (l.take k) ++ bitsOf j b).length = q := by
          rw [List.length_append, bitsOf_length, bits8_length, List.length_take, ← HN.out, hq, HM.out]; omega
        rw [hlq] at hown
        have hcw : (wr.cell? ⟨g, off + k, none⟩) = some (.int .u8 (b : Int)) := by rw [hB.2.1.cell hg (fun h => h)]; exact hc
        have HQ := hid hq
        have HLQ := hid hlq
        have hqb : q < 8000000008 := by omega
        clear hq hlq
        have hj0 : (0 : Int) ≤ (j : Int) := Int.natCast_nonneg _
        by_cases hj8 : j < 8
        · go_wp2_with (at_builtin; refine wpList_app1 rfl (.tmp 16) (.tmp 25) 23 rfl 5 i (.int .u8 0) 1 Try.underlying23 hi hz0 hz1 hz2 rfl (.slice a3 q c3) q (u8s (bits8 (l.take k) ++ bitsOf j b)) rfl hown rfl rfl (by unfold maxLen; omega) (by omega) ?_; intro ao1 cap1 w1 hown1 hgrow hat)
          go_roundw
          case rel =>
            refine ⟨j + 1, q + 1, by omega, by have := HQ.out; omega, by go_num, ao1, cap1, rfl, ?_⟩
            rw [bitsOf_snoc, ← List.append_assoc]
            exact hB'.snoc (b := b / 2 ^ j % 2) HLQ.out.symm (bit_val b j) hown1 hgrow hat
          case measure => simp [intOf]; omega
        · go_wp2
          go_roundw
          case rel =>
            refine ⟨k + 1, by omega, by go_num, ?_⟩
            rw [take_snoc' l k b HB.out, bits8_snoc, show 8 = j by omega]
            exact hB'
          case measure => simp [intOf]; omega
    · go_wp2
      go_ret
      rw [List.take_of_length_le (by have := HN.out; omega)] at hB ⊢
      exact ⟨_, rfl, hB⟩

/-! ### Bytes -/
theorem bytesOf_snoc (l : List Nat) (k : Nat) (h : 8 * k + 8 ≤ l.length) : (bytesOf l).take (k + 1) = (bytesOf l).take k ++ [numOf ((l.drop (8 * k)).take 8)] :=
  take_snoc' _ _ _ (bytesOf_get l k (by omega))
set_option maxHeartbeats 800000 in
theorem bytes_any (v : Value) (l : List Nat) (w : World) (hv : Rd w 1 v l.length (u8s l)) (hb : isBits l) (hl : l.length < 8000000000) :
    Calls Try.prog 24 #[v] w fun e w' => ∃ v', e = .returned v' ∧ Built w w' v' (bytesOf l) := by
  obtain ⟨i, hi, hz0, hz1, hz2⟩ := info_parts Try.infoByteR
  obtain ⟨ao, cap, rfl, _, _⟩ := hv.form
  obtain ⟨n, hn⟩ : ∃ n, n = l.length := ⟨_, rfl⟩
  rw [← hn] at hv hl ⊢
  have HN := hid hn
  clear hn
  go_enter Try.func24, Try.ntmps24
  go_wp2
  go_loopw [3, 4] (fun t3 t4 wr => ∃ k i8 : Nat, i8 ≤ n ∧ Hid (i8 = 8 * k) ∧ t4 = .int .i64 (i8 : Int) ∧ Built w wr t3 ((bytesOf l).take k)) (fun _ t4 _ => n - (intOf t4).toNat)
  case atStart => exact ⟨0, 0, Nat.zero_le _, rfl, rfl, Built.start w⟩
  case round =>
    obtain ⟨k, i8, hk, HK, rfl, hB⟩ := hrel
    obtain ⟨ao3, cap3, rfl⟩ := hB.form
    by_cases hkn : i8 + 8 ≤ n
    · have hB' := hB
      have hown := hB.1
      have hlk : ((bytesOf l).take k).length = k := by rw [List.length_take, bytesOf_length, ← HN.out]; have := HK.out; omega
      rw [hlk] at hown ⊢
      have hvr := hv.kept hB.2.1 (fun _ _ h => h)
      have hkb : k < 8000000000 := by have := HK.out; omega
      have hkn' : (i8 : Int) + 8 ≤ (n : Int) := by omega
      obtain ⟨q, hq⟩ : ∃ q, q = numOf ((l.drop i8).take 8) := ⟨_, rfl⟩
      have hqb : q < 256 := by
        rw [hq]
        have h1 := numOf_lt ((l.drop i8).take 8) (isBits_take (isBits_drop hb _) _)
        have h2 : ((l.drop i8).take 8).length ≤ 8 := List.length_take_le _ _
        have h3 : 2 ^ ((l.drop i8).take 8).length ≤ 2 ^ 8 := Nat.pow_le_pow_right (by decide) h2
        omega
      have HQ := hid hq
      have HLK := hid hlk
      clear hq hlk
      go_wp2_with (first
        | ((with_reducible show wpList _ _ _ (⟨some 17, _, _, _, _, _⟩ :: _) _ _); refine wpList_cut_rd (w := wr) rfl 23 (.tmp 13) (some (.tmp 14)) (some (.tmp 16)) rfl 5 i 1 Try.underlying23 hi hz1 ao n cap i8 (i8 + 8) (u8s l) rfl hvr ⟨_, rfl⟩ ⟨_, rfl⟩ (by omega) hkn ?_; rw [show i8 + 8 - i8 = 8 by omega]; intro a' hrd' hbl')
        | (go_at_call 37; refine (number_of _ 8 q _ ((l.drop i8).take 8) wr (by assumption) (by simp [u8s]) (isBits_take (isBits_drop hb _) _) (by decide) HQ.out).mono ?_; rintro e w' ⟨rfl, rfl⟩)
        | (at_builtin; refine wpList_app1 rfl (.tmp 12) (.tmp 20) 23 rfl 5 i (.int .u8 0) 1 Try.underlying23 hi hz0 hz1 hz2 rfl (.slice ao3 k cap3) k (u8s ((bytesOf l).take k)) rfl hown rfl rfl (by unfold maxLen; omega) (by omega) ?_; intro ao1 cap1 w1 hown1 hgrow hat))
      go_roundw
      case rel =>
        refine ⟨k + 1, i8 + 8, hkn, by have := HK.out; rw [Hid]; omega, by go_num, ?_⟩
        have h1 := HK.out
        rw [bytesOf_snoc l k (by rw [← HN.out]; omega), ← h1, ← HQ.out]
        have h2 := HLK.out
        rw [h2] at hB'
        exact hB'.snoc h2.symm rfl hown1 hgrow hat
      case measure => simp [intOf]; omega
    · have hkn' : (n : Int) < (i8 : Int) + 8 := by omega
      go_wp2
      go_ret
      rw [List.take_of_length_le (by rw [bytesOf_length, ← HN.out]; have := HK.out; omega)] at hB ⊢
      exact ⟨_, rfl, hB⟩

/-! ### Even -/
theorem evenN_step (l : List Nat) (j : Nat) : (l ++ List.replicate j 0) ++ [0] = l ++ List.replicate (j + 1) 0 := by
  rw [List.append_assoc, ← List.replicate_succ']
set_option maxHeartbeats 800000 in
theorem even_any (v : Value) (l : List Nat) (w : World) (hv : Rd w 1 v l.length (u8s l)) (hl : l.length < 8000000000) :
    Calls Try.prog 25 #[v] w fun e w' => ∃ v', e = .returned v' ∧ Built w w' v' (evened l) := by
  obtain ⟨i, hi, hz0, hz1, hz2⟩ := info_parts Try.infoByteR
  obtain ⟨ao, cap, rfl, _, _⟩ := hv.form
  obtain ⟨n, hn⟩ : ∃ n, n = l.length := ⟨_, rfl⟩
  rw [← hn] at hv hl ⊢
  have HN := hid hn
  clear hn
  have hrd : Rd (w.alloc (.cells #[] 5)) 1 (.slice ao n cap) n (u8s l) := hv.kept (S := fun _ => False) ((Mod.refl w _).alloc _) (fun _ _ h => h)
  go_enter Try.func25, Try.ntmps25
  go_wp2_with (at_builtin; refine wpList_app _ rfl (.tmp 4) (.tmp 5) 23 rfl 5 i (.int .u8 0) 1 1 Try.underlying23 hi hz0 hz1 hz2 rfl (by decide) (.slice (some ⟨w.heap.size, 0, none⟩) 0 0) 0 [] rfl (Own.lit w [] 0 (by decide) rfl) (.slice ao n cap) n (u8s l) rfl hrd (u8s_one _) (by unfold maxLen; omega) (by omega) ?_; intro ao1 cap1 w1 hown1 hgrow hat; simp only [Nat.zero_add, List.nil_append] at hown1 hat)
  have hB1 : Built w w1 (.slice ao1 n cap1) l := by
    have h1 := fresh_app (w := w) (Mod.refl w _) (v := .slice (some ⟨w.heap.size, 0, none⟩) 0 0) (fun k hk => by simp [Value.ownBlock] at hk; omega) hgrow hat
    exact ⟨by rw [← HN.out]; exact hown1, h1.1, h1.2⟩
  clear hown1 hgrow hat
  go_loopw [3] (fun t3 wr => ∃ j q : Nat, j ≤ (8 - n % 8) % 8 ∧ q = n + j ∧ ∃ a3 c3, t3 = .slice a3 q c3 ∧ Built w wr t3 (l ++ List.replicate j 0)) (fun t3 _ => match t3 with | .slice _ q _ => n + 8 - q | _ => 0)
  case atStart => exact ⟨0, n, Nat.zero_le _, rfl, ao1, cap1, rfl, by simpa using hB1⟩
  case round =>
    obtain ⟨j, q, hj, hq, a3, c3, rfl, hB⟩ := hrel
    have hB' := hB
    have hown := hB.1
    have hlq : (l ++ List.replicate j 0).length = q := by rw [List.length_append, List.length_replicate, ← HN.out, hq]
    rw [hlq] at hown
    have hqb : q < 8000000008 := by omega
    have HQ := hid hq
    have HLQ := hid hlq
    by_cases hz : q % 8 = 0
    · have hz' : ¬ (0 : Int) < (q : Int) % 8 := by omega
      have hjj : j = (8 - n % 8) % 8 := by omega
      have HJ := hid hjj
      clear hq hlq hjj hj
      go_wp2
      go_ret
      refine ⟨_, rfl, ?_⟩
      rw [evened, ← HN.out, ← HJ.out]
      exact hB'
    · have hz' : (0 : Int) < (q : Int) % 8 := by omega
      have hjj : j + 1 ≤ (8 - n % 8) % 8 := by omega
      clear hq hlq
      go_wp2_with (at_builtin; refine wpList_app1 rfl (.tmp 11) (.tmp 12) 23 rfl 5 i (.int .u8 0) 1 Try.underlying23 hi hz0 hz1 hz2 rfl (.slice a3 q c3) q (u8s (l ++ List.replicate j 0)) rfl hown rfl rfl (by unfold maxLen; omega) (by omega) ?_; intro ao2 cap2 w2 hown2 hgrow hat)
      go_roundw
      case rel =>
        refine ⟨j + 1, q + 1, hjj, by have := HQ.out; omega, ao2, cap2, rfl, ?_⟩
        rw [← evenN_step]
        exact hB'.snoc HLQ.out.symm rfl hown2 hgrow hat
      case measure => have := HQ.out; simp; omega

/-! ### Same -/
theorem same_len {a b : List Nat} (h : a.length ≠ b.length) : a ≠ b := fun e => h (by rw [e])
set_option maxHeartbeats 800000 in
theorem same_any (v u : Value) (a b : List Nat) (w : World) (hv : Rd w 1 v a.length (u8s a)) (hu : Rd w 1 u b.length (u8s b)) (hal : a.length < 8000000000) :
    Calls Try.prog 23 #[v, u] w fun e w' => e = .returned (.bool (decide (a = b))) ∧ ∃ n, w' = w.drewN n := by
  obtain ⟨ao, cap, rfl, _, _⟩ := hv.form
  obtain ⟨bo, cbp, rfl, _, _⟩ := hu.form
  by_cases hab : a.length = b.length
  · obtain ⟨n, hn⟩ : ∃ n, n = a.length := ⟨_, rfl⟩
    rw [← hab] at hu
    rw [← hn] at hv hu hal
    rw [← hab, ← hn]
    have HN := hid hn
    have HM := hid hab
    clear hn hab
    have hne : ((n : Int) != (n : Int)) = false := by simp
    go_enter Try.func23, Try.ntmps23
    go_wp2
    go_loopw [5] (fun t5 wr => ∃ k c : Nat, k ≤ n ∧ t5 = .int .i64 (k : Int) ∧ Hid (a.take k = b.take k) ∧ Hid (wr = w.drewN c)) (fun t5 _ => n - (intOf t5).toNat)
    case atStart => exact ⟨0, 0, Nat.zero_le _, rfl, rfl, rfl⟩
    case round =>
      obtain ⟨k, c, hk, rfl, HT, HW⟩ := hrel
      obtain rfl := HW.out
      by_cases hkn : k < n
      · obtain ⟨x, hx⟩ : ∃ x, a[k]? = some x := ⟨a[k]'(by have := HN.out; omega), List.getElem?_eq_getElem _⟩
        obtain ⟨y, hy⟩ : ∃ y, b[k]? = some y := ⟨b[k]'(by have := HN.out; have := HM.out; omega), List.getElem?_eq_getElem _⟩
        obtain ⟨g, off, rfl, hcell⟩ := hv.spot (by omega)
        obtain ⟨g2, off2, rfl, hcell2⟩ := hu.spot (by omega)
        have hc : w.cell? ⟨g, off + k, none⟩ = some (.int .u8 (x : Int)) := hcell k _ (by rw [u8s_get, hx]; rfl)
        have hc2 : w.cell? ⟨g2, off2 + k, none⟩ = some (.int .u8 (y : Int)) := hcell2 k _ (by rw [u8s_get, hy]; rfl)
        have hk0 : (0 : Int) ≤ (k : Int) := Int.natCast_nonneg _
        have hk1 : (k : Int) < (n : Int) := by omega
        have HX := hid hx
        have HY := hid hy
        clear hcell hcell2 hx hy
        by_cases hxy : x = y
        · have hd : ((x : Int) != (y : Int)) = false := by simp [hxy]
          have HXY := hid hxy
          clear hxy
          go_wp2
          go_quiet (fail)
          go_wp2
          go_roundw
          case rel => exact ⟨k + 1, _, by omega, by go_num, by rw [Hid, take_snoc' _ _ _ HX.out, take_snoc' _ _ _ HY.out, HT.out, HXY.out], rfl⟩
          case measure => simp [intOf]; omega
        · have hd : ((x : Int) != (y : Int)) = true := by simp; omega
          have HXY := hid hxy
          clear hxy
          go_wp2
          go_quiet (fail)
          go_wp2
          go_ret
          refine ⟨?_, _, World.drewN_drewN ..⟩
          rw [decide_eq_false]
          · rfl
          · intro e
            have h1 := HX.out
            rw [e, HY.out] at h1
            exact HXY.out (Option.some.inj h1).symm
      · go_wp2
        go_ret
        refine ⟨?_, _, rfl⟩
        have h1 := HT.out
        rw [List.take_of_length_le (by have := HN.out; omega), List.take_of_length_le (by have := HN.out; have := HM.out; omega)] at h1
        rw [decide_eq_true h1]
        rfl
  · have hd : ((a.length : Int) != (b.length : Int)) = true := by simp; omega
    have HN := hid hab
    clear hab
    go_enter Try.func23, Try.ntmps23
    go_wp2
    go_ret
    exact ⟨by rw [decide_eq_false (same_len HN.out)]; rfl, 0, rfl⟩
end Go.Proofs.Ytpecdappchkdiaa
