/-
  Which tokens a block can have (writable); the lengths of the fixed codes.
-/
import Derived.Test.YthibpnkdhbkakaaGreatDoorZq04
import Derived.Test.YthibpnkdhbkakaaGreatDoorZq15
import Derived.Test.YthibpnkdhbkakaaGreatDoorZq10
import Derived.Test.YthibpnkdhbkakaaGreatDoorZq06
import Derived.Test.YthibpnkdhbkakaaGreatDoorZq02
import Derived.Test.YthibpnkdhbkakaaGreatDoorZq05
import Derived.Test.YthibpnkdhbkakaaGreatDoorZq07
namespace Go.Proofs.YthibpnkdhbkakaaGreatDoor
set_option maxRecDepth 5000
open Go.RowKit

def wrB (l : List Tok) : Bool := decide (l.length < 1048576) && l.all soundB
theorem wrB_iff (l : List Tok) : wrB l = true ↔ l.length < 1048576 ∧ ∀ t ∈ l, soundB t = true := by simp [wrB]
set_option maxHeartbeats 1600000 in
theorem writable_any (v : Value) (n : Nat) (l : List Tok) (w : World) (hv : Rd w 3 v n (toksV l)) (hn : n < 1000000000) :
    Calls Tryz.prog 39 #[v] w fun e w' => e = .returned (.bool (wrB l)) ∧ Mod w w' (fun _ => False) := by
  obtain ⟨ao, cap, rfl, _, _⟩ := hv.form
  have HL := hid hv.toks_len
  have HV := hid hv
  have hn0 : (0 : Int) ≤ (n : Int) := Int.natCast_nonneg _
  clear hv
  by_cases hbig : 1048576 ≤ n
  · have hb1 : decide ((1048575 : Int) < (n : Int)) = true := by simp; omega
    have hE : Hid (wrB l = false) := by
      unfold Hid wrB
      rw [decide_eq_false (by have := HL.out; omega)]; rfl
    go_enter Tryz.func39, Tryz.ntmps39
    go_wp2
    go_ret
    rw [hE.out]
    exact ⟨rfl, Mod.refl _ _⟩
  · have hb1 : decide ((1048575 : Int) < (n : Int)) = false := by simp; omega
    have hE : Hid (wrB l = l.all soundB) := by
      unfold Hid wrB
      rw [decide_eq_true (by have := HL.out; omega)]; rfl
    go_enter Tryz.func39, Tryz.ntmps39
    go_wp2
    go_loopg [10] (n + 1) (fun k t10 wr => ∃ i : Nat, i ≤ n ∧ n - i < k ∧ t10 = .int .i64 (i : Int) ∧ Hid ((l.take i).all soundB = true) ∧ Hid (Mod w wr (fun _ => False)))
    case atStart => exact ⟨0, by omega, by omega, rfl, hid rfl, hid (Mod.refl _ _)⟩
    case round =>
      obtain ⟨i, hi, hk, rfl, HS, HM⟩ := hrel
      have hi0 : (0 : Int) ≤ (i : Int) := Int.natCast_nonneg _
      by_cases hin : i < n
      · have hiI : (i : Int) < (n : Int) := by omega
        obtain ⟨⟨ta, tl, td⟩, ht⟩ : ∃ t, l[i]? = some t := ⟨l[i]'(by have := HL.out; omega), List.getElem?_eq_getElem _⟩
        obtain ⟨g, off, rfl, c0, c1, c2⟩ := (HV.out.kept HM.out (fun _ _ h => h)).tok ht
        have HT : Hid ((l.take (i + 1)).all soundB = soundB (ta, tl, td)) := hid (by
          rw [List.take_add_one, ht]
          simp [HS.out])
        have HT2 : Hid (soundB (ta, tl, td) = false → l.all soundB = false) := hid fun h => by
          refine Classical.byContradiction fun h2 => ?_
          have h3 : l.all soundB = true := by simpa using h2
          rw [List.all_eq_true.1 h3 _ (List.mem_of_getElem? ht)] at h
          cases h
        clear ht
        have HS1 := hid (sound_any (ta, tl, td))
        unfold tokV at HS1
        simp only at HS1
        generalize soundB (ta, tl, td) = b at HS1 HT HT2
        cases b with
        | false =>
          go_wp2_with fail
          refine (HS1.out _).mono ?_
          rintro e w3 ⟨rfl, hm⟩
          have HM3 := hid ((HM.out.alloc _).same hm)
          clear hm
          go_wp2
          go_ret
          rw [hE.out, HT2.out (by first | rfl | trivial)]
          exact ⟨rfl, HM3.out⟩
        | true =>
          go_wp2_with fail
          refine (HS1.out _).mono ?_
          rintro e w3 ⟨rfl, hm⟩
          have HM3 := hid ((HM.out.alloc _).same hm)
          clear hm
          go_wp2
          go_roundg (gk - 1)
          case measure => omega
          case rel => exact ⟨i + 1, by omega, by omega, by go_num, HT, HM3⟩
      · have hiI : ¬ (i : Int) < (n : Int) := by omega
        have hF : Hid (l.all soundB = true) := by
          have h := HS.out
          rw [List.take_of_length_le (by have := HL.out; omega)] at h
          exact hid h
        go_wp2
        go_ret
        rw [hE.out, hF.out]
        exact ⟨rfl, HM.out⟩

/-! ### The fixed codes -/
theorem fix_flat : [List.replicate 144 (8 : Int), List.replicate 112 9, List.replicate 24 7, List.replicate 8 8].flatten = fixLit := by decide +kernel
theorem Rd.lit1 (w : World) (v : Value) (e : TypeId) : Rd (w.alloc (.cells #[v] e)) 1 (.slice (some ⟨w.heap.size, 0, none⟩) 1 1) 1 [v] := Rd.lit w [v] e 1 1 (by decide) rfl
section
variable {w0 w : World} {Rs : List Thing}
theorem rep_at (h : Held w0 w Rs) (a : Int) (c : Nat) (hc : c = 144 ∨ c = 112 ∨ c = 24 ∨ c = 8 ∨ c = 32) :
    Calls Tryz.prog 37 #[.slice (some ⟨w.heap.size, 0, none⟩) 1 1, .int .i64 (c : Int)] (w.alloc (.cells #[.int .i64 a] 3)) fun e w' => ∃ ao cap, e = .returned (.slice ao c cap) ∧ Held w0 w' (ownT 3 1 (.slice ao c cap) c (ints (List.replicate c a)) :: Rs) :=
  (repeat_one _ a c _ (Rd.lit1 w (.int .i64 a) 3) hc).mono fun e w' ⟨v, he, hh⟩ => by
    obtain ⟨ao, cap, rfl, _, _⟩ := hh.own.form
    exact ⟨ao, cap, he, (h.alloc _).pushOwn hh.own hh.mod hh.fresh⟩
set_option maxHeartbeats 1600000 in
theorem fixedL_any (h : Held w0 w Rs) :
    Calls Tryz.prog 22 #[] w fun e w' => ∃ ao cap bo cap2, e = .returned (.tuple #[.slice ao 288 cap, .slice bo 32 cap2]) ∧ Held w0 w' (ownT 3 1 (.slice ao 288 cap) 288 (ints fixLit) :: ownT 3 1 (.slice bo 32 cap2) 32 (ints fixDist) :: Rs) := by
  have R1 := hid (rep_at h 8 144 (by decide))
  clear h
  go_enter Tryz.func22, Tryz.ntmps22
  go_wp2_with fail
  refine R1.out.mono ?_
  rintro e w1 ⟨a1, k1, rfl, h⟩
  have R2 := hid (rep_at h 9 112 (by decide))
  clear h R1
  go_wp2_with fail
  refine R2.out.mono ?_
  rintro e w2 ⟨a2, k2, rfl, h⟩
  have R3 := hid (rep_at h 7 24 (by decide))
  clear h R2
  go_wp2_with fail
  refine R3.out.mono ?_
  rintro e w3 ⟨a3, k3, rfl, h⟩
  have R4 := hid (rep_at h 8 8 (by decide))
  clear h R3
  go_wp2_with fail
  refine R4.out.mono ?_
  rintro e w4 ⟨a4, k4, rfl, h⟩
  have hL : (ints (List.replicate 8 (8 : Int))).length = 8 := rfl
  have H5 := h.lit 37 1 [.slice a1 144 k1, .slice a2 112 k2, .slice a3 24 k3, .slice a4 8 k4] 4 (by decide) rfl
  have HC := hid (concatI_any [.slice a1 144 k1, .slice a2 112 k2, .slice a3 24 k3, .slice a4 8 k4] [List.replicate 144 (8 : Int), List.replicate 112 9, List.replicate 24 7, List.replicate 8 8] _ 4 _ H5.own.rd rfl rfl (fun i v l hv hl => by
    match i, hv, hl with
    | 0, hv, hl => simp at hv hl; subst hv; subst hl; exact H5.drop.drop.drop.drop.own.rd
    | 1, hv, hl => simp at hv hl; subst hv; subst hl; exact H5.drop.drop.drop.own.rd
    | 2, hv, hl => simp at hv hl; subst hv; subst hl; exact H5.drop.drop.own.rd
    | 3, hv, hl => simp at hv hl; subst hv; subst hl; exact H5.drop.own.rd
    | i + 4, hv, hl => simp at hv) (by rw [fix_flat]; decide) (by rw [fix_flat]; decide) (by decide))
  rw [fix_flat] at HC
  have H6 := hid H5.drop.drop.drop.drop.drop
  clear R4 h H5
  go_wp2_with fail
  refine HC.out.mono ?_
  rintro e w5 ⟨v, rfl, hh⟩
  have hfl : fixLit.length = 288 := by decide
  rw [hfl] at hh
  obtain ⟨a5, k5, rfl, _, _⟩ := hh.own.form
  have R7 := hid (rep_at (H6.out.pushOwn hh.own hh.mod hh.fresh) 5 32 (by decide))
  clear hh HC H6
  go_wp2_with fail
  refine R7.out.mono ?_
  rintro e w6 ⟨a6, k6, rfl, h⟩
  have HE := hid h.swap
  clear h R7
  go_wp2
  go_ret2
  exact ⟨_, _, _, _, rfl, HE.out⟩
end
end Go.Proofs.YthibpnkdhbkakaaGreatDoor
/-
  What a call reads beside what it holds: 'Reads'. No program is named here.
-/
namespace Go.Proofs.YthibpnkdhbkakaaGreatDoor
set_option maxRecDepth 5000
open Go.RowKit

/-- a slice that lies in a thing, or in what is older than everything held -/
def Reads (w0 : World) (S : Thing) (size : Nat) (v : Value) (n : Nat) (xs : List Value) : Prop :=
  ∀ w F, Mod w0 w (fun _ => False) → S.res w F → Rd w size v n xs ∧ (0 < n → ∀ k, v.ownBlock = some k → k < w0.heap.size ∨ F k)
section
variable {w0 w : World} {S : Thing} {size : Nat} {v : Value} {n : Nat} {xs : List Value} {Rs : List Thing}
theorem Reads.old (h : Rd w0 size v n xs) (hs : 0 < size) : Reads w0 S size v n xs := fun _ _ hm _ => ⟨h.kept hm (fun _ _ h => h), fun hn k hk => .inl (h.lt hs hn k hk)⟩
theorem Reads.own (w0 : World) (e : TypeId) (size : Nat) (v : Value) (n : Nat) (xs : List Value) : Reads w0 (ownT e size v n xs) size v n xs := fun _ _ _ h => ⟨h.1.rd, fun _ k hk => .inr ((h.2 k).2 hk)⟩
theorem Reads.rd (h : Reads w0 S size v n xs) (hh : Held w0 w (S :: Rs)) : Rd w size v n xs := by
  obtain ⟨F, h1, _⟩ := id hh
  exact (h w F hh.mod h1).1
def nonT : Thing where
  res := fun _ F => ∀ k, ¬ F k
  loc := fun _ _ _ _ h _ _ => h
theorem Held.addNon (h : Held w0 w Rs) : Held w0 w (nonT :: Rs) := h.push _ (fun _ => False) (fun _ h => h) (Mod.refl w _) (fun _ h => h.elim)
theorem Held.take2 {R : Thing} (h : Held w0 w (R :: S :: Rs)) : ∃ F F2 : Nat → Prop, R.res w F ∧ S.res w F2 ∧ (∀ k, F2 k → ¬ F k) ∧ (∀ k, F k → w0.heap.size ≤ k ∧ k < w.heap.size) ∧
    ∀ (w' : World) (R' : Thing) (F' : Nat → Prop), R'.res w' F' → Mod w w' F → (∀ k, F' k → F k ∨ w.heap.size ≤ k) → (∀ k, F' k → k < w'.heap.size) → Held w0 w' (R' :: S :: Rs) := by
  obtain ⟨F, h1, h2, h3⟩ := h
  obtain ⟨F2, h4, h5, h6⟩ := id h3
  refine ⟨F, F2, h1, h4, fun k hk hf => (h5 k hk).2.2 (.inr hf), fun k hk => ⟨(h2 k hk).1, (h2 k hk).2.1⟩, fun w' R' F' hR hm hF hlt => ⟨F', hR, fun k hk => ⟨?_, hlt k hk, fun h => h⟩, ?_⟩⟩
  · rcases hF k hk with hf | hf
    · exact (h2 k hf).1
    · exact Nat.le_trans (HeldU.mod h3).size hf
  · have h4 := (h3.more (V := fun k => (False ∨ F k) ∨ F' k) fun k hk => by
      rcases hk with hk | hk
      · exact .inl hk
      · rcases hF k hk with hf | hf
        · exact .inl (.inr hf)
        · exact .inr hf).step hm (fun k hk _ => (h2 k hk).1) (fun k hk _ => .inl (.inr hk))
    exact h4.less fun k hk => by
      rcases hk with hk | hk
      · exact hk.elim
      · exact .inr hk
theorem Held.mid {A B C : Thing} (h : Held w0 w (A :: B :: C :: Rs)) : Held w0 w (A :: C :: B :: Rs) := h.perm ((List.Perm.swap C B Rs).cons A)
/-- A :: B :: C :: D: D to the second place -/
theorem Held.mid2 {A B C D : Thing} (h : Held w0 w (A :: B :: C :: D :: Rs)) : Held w0 w (A :: D :: B :: C :: Rs) :=
  h.perm ((((List.Perm.swap D C Rs).cons B).trans (List.Perm.swap D B (C :: Rs))).cons A)
theorem Held.mid2' {A B C D : Thing} (h : Held w0 w (A :: D :: B :: C :: Rs)) : Held w0 w (A :: B :: C :: D :: Rs) :=
  h.perm (((List.Perm.swap B D (C :: Rs)).trans ((List.Perm.swap C D Rs).cons B)).cons A)
end
end Go.Proofs.YthibpnkdhbkakaaGreatDoor
/-
  Symbols sorted by their codes, by counting; and how a code is read by counts, one bit after the other. No program is named here.
-/
namespace Go.Proofs.YthibpnkdhbkakaaGreatDoor
set_option maxRecDepth 5000

/-- how many symbols have shorter codes than z bits -/
def offC (l : List Int) : Nat → Nat
  | 0 => 0
  | 1 => 0
  | n + 2 => offC l (n + 1) + l.count ((n + 1 : Nat) : Int)
theorem offC_succ (l : List Int) (z : Nat) (h : 1 ≤ z) : offC l (z + 1) = offC l z + l.count (z : Int) := by
  obtain ⟨n, rfl⟩ : ∃ n, z = n + 1 := ⟨z - 1, by omega⟩
  rfl
theorem fstC_succ (l : List Int) (z : Nat) (h : 1 ≤ z) : fstC l (z + 1) = 2 * (fstC l z + l.count (z : Int)) := by
  obtain ⟨n, rfl⟩ : ∃ n, z = n + 1 := ⟨z - 1, by omega⟩
  rfl
theorem offC_mono (l : List Int) (z : Nat) (h : 1 ≤ z) : ∀ d, offC l z + l.count (z : Int) ≤ offC l (z + 1 + d)
  | 0 => by rw [Nat.add_zero, offC_succ l z h]; exact Nat.le_refl _
  | d + 1 => by
    have ih := offC_mono l z h d
    rw [← Nat.add_assoc, offC_succ l (z + 1 + d) (by omega)]; omega
theorem offC_app (l m : List Int) : ∀ z, offC (l ++ m) z = offC l z + offC m z
  | 0 => rfl
  | 1 => rfl
  | z + 2 => by
    rw [offC_succ _ (z + 1) (by omega), offC_succ _ (z + 1) (by omega), offC_succ _ (z + 1) (by omega), offC_app l m (z + 1), List.count_append]; omega
theorem offC_nil : ∀ z, offC [] z = 0
  | 0 => rfl
  | 1 => rfl
  | z + 2 => by rw [offC_succ _ (z + 1) (by omega), offC_nil (z + 1)]; simp
theorem offC_one (a : Int) : ∀ z, offC [a] z ≤ if a < (z : Int) then 1 else 0
  | 0 => Nat.zero_le _
  | 1 => Nat.zero_le _
  | z + 2 => by
    have ih := offC_one a (z + 1)
    rw [offC_succ _ (z + 1) (by omega), List.count_singleton]
    by_cases e : a = ((z + 1 : Nat) : Int)
    · have h1 : ¬ a < ((z + 1 : Nat) : Int) := by omega
      have h2 : a < ((z + 2 : Nat) : Int) := by omega
      rw [if_neg h1] at ih
      rw [if_pos h2, if_pos (by simpa using e)]; omega
    · rw [if_neg (by simpa using e)]
      by_cases h1 : a < ((z + 1 : Nat) : Int)
      · have h2 : a < ((z + 2 : Nat) : Int) := by omega
        rw [if_pos h1] at ih
        rw [if_pos h2]; omega
      · rw [if_neg h1] at ih
        omega
theorem offC_le (l : List Int) (z : Nat) : offC l z ≤ l.length := by
  induction l with
  | nil => rw [offC_nil]; exact Nat.zero_le _
  | cons a l ih =>
    have h := offC_app [a] l z
    have h1 := offC_one a z
    rw [List.singleton_append] at h
    rw [h, List.length_cons]
    split at h1 <;> omega
theorem offC_end (l : List Int) (z : Nat) (h : 1 ≤ z) : offC l z + l.count (z : Int) ≤ l.length := by
  rw [← offC_succ l z h]; exact offC_le l _
/-- the place of symbol i, of z bits, among the symbols -/
def posC (l : List Int) (i z : Nat) : Nat := offC l z + (l.take i).count (z : Int)
theorem count_here (l : List Int) (i z : Nat) (h : l[i]? = some (z : Int)) : (l.take i).count (z : Int) < l.count (z : Int) := by
  have h1 := count_take_succ l i (z : Int) (z : Int) h
  have h2 := count_take_le l (i + 1) (z : Int)
  rw [if_pos rfl] at h1; omega
theorem posC_lt (l : List Int) (i z : Nat) (h : l[i]? = some (z : Int)) (hz : 1 ≤ z) : posC l i z < l.length := by
  have h1 := count_here l i z h
  have h2 := offC_end l z hz
  unfold posC; omega
theorem posC_ne (l : List Int) (i k z y : Nat) (h : l[i]? = some (z : Int)) (h2 : l[k]? = some (y : Int)) (hz : 1 ≤ z) (hy : 1 ≤ y) (hne : i ≠ k) : posC l i z ≠ posC l k y := by
  have h3 := count_here l i z h
  have h4 := count_here l k y h2
  unfold posC
  rcases Nat.lt_trichotomy z y with hlt | rfl | hlt
  · have := offC_mono l z hz (y - (z + 1))
    rw [show z + 1 + (y - (z + 1)) = y by omega] at this; omega
  · rcases Nat.lt_or_gt_of_ne hne with hik | hik
    · have h5 := count_take_succ l i (z : Int) (z : Int) h
      have h6 := count_take_mono l (i + 1) k hik (z : Int)
      rw [if_pos rfl] at h5; omega
    · have h5 := count_take_succ l k (z : Int) (z : Int) h2
      have h6 := count_take_mono l (k + 1) i hik (z : Int)
      rw [if_pos rfl] at h5; omega
  · have := offC_mono l y hy (z - (y + 1))
    rw [show y + 1 + (z - (y + 1)) = z by omega] at this; omega
/-- The first k symbols are in their places. -/
def Placed (l : List Int) (k : Nat) (A : List Nat) : Prop := ∀ i z : Nat, i < k → l[i]? = some (z : Int) → 1 ≤ z → A[posC l i z]? = some i
theorem Placed.zero (l : List Int) (A : List Nat) : Placed l 0 A := fun _ _ h => by omega
theorem Placed.skip {l : List Int} {k : Nat} {A : List Nat} (h : Placed l k A) (hk : ∀ z : Nat, l[k]? = some (z : Int) → z = 0) : Placed l (k + 1) A := fun i z hi hz h1 => by
  by_cases e : i = k
  · subst e; have := hk z hz; omega
  · exact h i z (by omega) hz h1
theorem Placed.step {l : List Int} {k z : Nat} {A : List Nat} (h : Placed l k A) (hk : l[k]? = some (z : Int)) (hz : 1 ≤ z) (hA : l.length ≤ A.length) : Placed l (k + 1) (A.set (posC l k z) k) := fun i y hi hy h1 => by
  by_cases e : i = k
  · subst e
    rw [hk] at hy
    simp only [Option.some.injEq] at hy
    obtain rfl : z = y := by omega
    rw [List.getElem?_set_self (Nat.lt_of_lt_of_le (posC_lt l i z hk hz) hA)]
  · rw [List.getElem?_set_ne (posC_ne l k i z y hk hy hz h1 (fun h => e h.symm))]
    exact h i y (by omega) hy h1
theorem Placed.find {l : List Int} {A : List Nat} (h : Placed l l.length A) {z r : Nat} (hz : 1 ≤ z) (hz2 : z ≤ 15) (hr : r < l.count (z : Int)) : ∃ i, A[offC l z + r]? = some i ∧ l[i]? = some (z : Int) ∧ codeAt l i = fstC l z + r := by
  obtain ⟨i, hi, hc⟩ := nth_of_count l (z : Int) r hr
  refine ⟨i, ?_, hi, ?_⟩
  · have := h i z (List.getElem?_eq_some_iff.1 hi).1 hi hz
    rw [posC, hc] at this; exact this
  · rw [codeAt_len l i _ hi (by simp [isLen]; omega), Int.toNat_natCast, hc]

/-! ### reading by counts -/
/-- No code of fewer than z bits is at the front. -/
def Past (l : List Int) (bs : List Nat) (z : Nat) : Prop := ∀ i q, Hit l bs i q → z ≤ q
theorem Past.one (l : List Int) (bs : List Nat) : Past l bs 1 := fun _ _ h => h.2.1
theorem hit_code {l : List Int} {bs : List Nat} {i z : Nat} (h : Hit l bs i z) (hz : z ≤ 15) : hiN (bs.take z) = fstC l z + (l.take i).count (z : Int) ∧ hiN (bs.take z) < fstC l z + l.count (z : Int) := by
  have h1 := h.2.2.2
  have h2 := h.2.1
  rw [codeAt_len l i _ h.1 (by simp [isLen]; omega), Int.toNat_natCast] at h1
  have h3 := count_here l i z h.1
  exact ⟨h1, by omega⟩
theorem Past.next {l : List Int} {bs : List Nat} {z : Nat} (h : Past l bs z) (hz : z ≤ 15) (hv : fstC l z + l.count (z : Int) ≤ hiN (bs.take z)) : Past l bs (z + 1) := fun i q hh => by
  have h1 := h i q hh
  by_cases e : q = z
  · subst e; have := (hit_code hh hz).2; omega
  · omega
theorem over_next {l : List Int} {bs : List Nat} {z b : Nat} (hz : 1 ≤ z) (hv : fstC l z + l.count (z : Int) ≤ hiN (bs.take z)) (hb : bs[z]? = some b) : fstC l (z + 1) ≤ hiN (bs.take (z + 1)) := by
  rw [fstC_succ l z hz, hiN_take bs z b hb]; omega
theorem hit_at {l : List Int} {bs : List Nat} {z i : Nat} (hz : 1 ≤ z) (hzb : z ≤ bs.length) (hi : l[i]? = some (z : Int)) (hc : codeAt l i = hiN (bs.take z)) : Hit l bs i z := ⟨hi, hz, hzb, hc.symm⟩
theorem Placed.hit {l : List Int} {A bs : List Nat} (h : Placed l l.length A) {z : Nat} (hz : 1 ≤ z) (hz2 : z ≤ 15) (hzb : z ≤ bs.length) (h1 : fstC l z ≤ hiN (bs.take z)) (h2 : hiN (bs.take z) < fstC l z + l.count (z : Int)) :
    ∃ i, A[offC l z + (hiN (bs.take z) - fstC l z)]? = some i ∧ Hit l bs i z := by
  obtain ⟨i, ha, hi, hc⟩ := h.find hz hz2 (r := hiN (bs.take z) - fstC l z) (by omega)
  exact ⟨i, ha, hit_at hz hzb hi (by omega)⟩
theorem read_hit {l : List Int} {bs : List Nat} {i z : Nat} (h : Hit l bs i z) : ReadIs l bs i z 0 := .inl ⟨rfl, h⟩
theorem read_short {l : List Int} {bs : List Nat} {z : Nat} (h : Past l bs z) (hz : bs.length < z) (hl : z ≤ lng l) : ReadIs l bs 0 0 5 :=
  .inr ⟨rfl, rfl, fun i q hh => by have h1 := h i q hh; have := hh.2.2.1; omega, by rw [if_pos (.inl (by omega))]⟩
theorem read_empty (l : List Int) : ReadIs l [] 0 0 5 :=
  .inr ⟨rfl, rfl, fun i q hh => by have h1 := hh.2.1; have h2 := hh.2.2.1; simp at h2; omega, by rw [if_pos (.inr rfl)]⟩
theorem read_none {l : List Int} {bs : List Nat} {z : Nat} (h : Past l bs z) (hz : lng l < z) (hl : lng l ≤ bs.length) (hn : bs ≠ []) : ReadIs l bs 0 0 3 :=
  .inr ⟨rfl, rfl, fun i q hh => by have h1 := h i q hh; have := hh.long; omega, by rw [if_neg]; exact fun h => h.elim (fun h => by omega) hn⟩
/-- By a whole code bits are past no code. -/
theorem full_hit {l : List Int} (hl : ∀ a ∈ l, 0 ≤ a ∧ a ≤ 15) (hs : sumOf l = 32768) {bs : List Nat} (hb : isBits bs) {z : Nat} (h : Past l bs z) (hz : lng l < z) (hlen : lng l ≤ bs.length) : False := by
  obtain ⟨i, q, hh⟩ := Hit.whole hl hs hb hlen
  have := h i q hh
  have := hh.long
  omega
end Go.Proofs.YthibpnkdhbkakaaGreatDoor
/-
  The symbols of a code, a group for each number of bits. No program is named here.
-/
namespace Go.Proofs.YthibpnkdhbkakaaGreatDoor
set_option maxRecDepth 5000
open Go.RowKit

/-- those of the first k symbols that have codes of n bits -/
def grp (l : List Int) (k n : Nat) : List Nat := if n = 0 then [] else (List.range k).filter fun i => l[i]? == some (n : Int)
/-- the first code of a group -/
def grpF (l : List Int) (k n : Nat) : Nat := if grp l k n = [] then 0 else fstC l n
theorem grp_none (l : List Int) (n : Nat) : grp l 0 n = [] := by unfold grp; split <;> rfl
theorem grpF_none (l : List Int) (n : Nat) : grpF l 0 n = 0 := by unfold grpF; rw [if_pos (grp_none l n)]
theorem grp_in (l : List Int) (k z : Nat) (h : l[k]? = some (z : Int)) (hz : 1 ≤ z) : grp l (k + 1) z = grp l k z ++ [k] := by
  unfold grp
  rw [if_neg (by omega), if_neg (by omega), List.range_succ, List.filter_append]
  simp [h]
theorem grp_out (l : List Int) (k z n : Nat) (h : l[k]? = some (z : Int)) (hn : n ≠ z) : grp l (k + 1) n = grp l k n := by
  unfold grp
  by_cases h0 : n = 0
  · rw [if_pos h0, if_pos h0]
  · rw [if_neg h0, if_neg h0, List.range_succ, List.filter_append]
    have : ¬ z = n := fun e => hn e.symm
    simp [h]; omega
theorem grp_skip (l : List Int) (k n : Nat) (h : l[k]? = some 0) : grp l (k + 1) n = grp l k n := by
  by_cases h0 : n = 0
  · subst h0; unfold grp; rfl
  · exact grp_out l k 0 n h h0
theorem grp_spec (l : List Int) (n : Nat) : ∀ k, k ≤ l.length → ∀ r i : Nat, (grp l k n)[r]? = some i → l[i]? = some (n : Int) ∧ (l.take i).count (n : Int) = r ∧ i < k
  | 0, _, r, i, h => by rw [grp_none] at h; simp at h
  | k + 1, hk, r, i, h => by
    have ih := grp_spec l n k (by omega)
    by_cases h0 : n = 0
    · subst h0; simp [grp] at h
    obtain ⟨a, ha⟩ : ∃ a, l[k]? = some a := ⟨l[k]'(by omega), List.getElem?_eq_getElem _⟩
    by_cases e : a = (n : Int)
    · subst e
      rw [grp_in l k n ha (by omega), List.getElem?_append] at h
      split at h
      · obtain ⟨h1, h2, h3⟩ := ih r i h
        exact ⟨h1, h2, by omega⟩
      · rename_i hr
        have hr0 : r - (grp l k n).length = 0 := by
          by_cases hz : r - (grp l k n).length = 0
          · exact hz
          · rw [List.getElem?_eq_none (by simp; omega)] at h; cases h
        rw [hr0] at h
        simp only [List.getElem?_cons_zero, Option.some.injEq] at h
        subst h
        refine ⟨ha, ?_, by omega⟩
        have hlen : (grp l k n).length = (l.take k).count (n : Int) := by
          clear ih ha hr hr0
          have : ∀ m, m ≤ l.length → (grp l m n).length = (l.take m).count (n : Int) := by
            intro m
            induction m with
            | zero => intro _; rw [grp_none]; rfl
            | succ m ihm =>
              intro hm
              have hmm := ihm (by omega)
              obtain ⟨b, hb⟩ : ∃ b, l[m]? = some b := ⟨l[m]'(by omega), List.getElem?_eq_getElem _⟩
              rw [List.take_add_one, hb, List.count_append, ← hmm]
              by_cases eb : b = (n : Int)
              · subst eb
                rw [grp_in l m n hb (by omega)]; simp
              · have : grp l (m + 1) n = grp l m n := by
                  unfold grp
                  rw [if_neg h0, if_neg h0, List.range_succ, List.filter_append]
                  simp [hb, eb]
                rw [this]; simp [eb]
          exact this k (by omega)
        omega
    · have : grp l (k + 1) n = grp l k n := by
        unfold grp
        rw [if_neg h0, if_neg h0, List.range_succ, List.filter_append]
        simp [ha, e]
      rw [this] at h
      obtain ⟨h1, h2, h3⟩ := ih r i h
      exact ⟨h1, h2, by omega⟩
theorem grp_len (l : List Int) (n : Nat) (h0 : 1 ≤ n) : ∀ m, m ≤ l.length → (grp l m n).length = (l.take m).count (n : Int) := by
  intro m
  induction m with
  | zero => intro _; rw [grp_none]; rfl
  | succ m ihm =>
    intro hm
    have hmm := ihm (by omega)
    obtain ⟨b, hb⟩ : ∃ b, l[m]? = some b := ⟨l[m]'(by omega), List.getElem?_eq_getElem _⟩
    rw [List.take_add_one, hb, List.count_append, ← hmm]
    by_cases eb : b = (n : Int)
    · subst eb
      rw [grp_in l m n hb h0]; simp
    · have : grp l (m + 1) n = grp l m n := by
        unfold grp
        rw [if_neg (by omega), if_neg (by omega), List.range_succ, List.filter_append]
        simp [hb, eb]
      rw [this]; simp [eb]
theorem grp_all (l : List Int) (n : Nat) (h0 : 1 ≤ n) : (grp l l.length n).length = l.count (n : Int) := by
  rw [grp_len l n h0 _ (Nat.le_refl _), List.take_of_length_le (Nat.le_refl _)]
theorem grp_lt (l : List Int) (k n i r : Nat) (hk : k ≤ l.length) (h : (grp l k n)[r]? = some i) : i < l.length := by
  have := (grp_spec l n k hk r i h).2.2; omega
theorem grp_le (l : List Int) (k n : Nat) : (grp l k n).length ≤ k := by
  unfold grp
  split
  · exact Nat.zero_le _
  · have := List.length_filter_le (fun i => l[i]? == some (n : Int)) (List.range k)
    simpa using this
/-- a symbol joins its group: what its first code is then -/
theorem grpF_in (l : List Int) (k z : Nat) (h : l[k]? = some (z : Int)) (hz : 1 ≤ z) (hz2 : z ≤ 15) : grpF l (k + 1) z = if (grp l k z).length = 0 then codeAt l k else grpF l k z := by
  have hk := (List.getElem?_eq_some_iff.1 h).1
  unfold grpF
  rw [grp_in l k z h hz, if_neg (by simp)]
  by_cases e : grp l k z = []
  · rw [if_pos (by rw [e]; rfl)]
    have := grp_len l z hz k (by omega)
    rw [e] at this
    rw [codeAt_len l k _ h (by simp [isLen]; omega), Int.toNat_natCast, ← this]; rfl
  · rw [if_neg (fun h => e (List.eq_nil_of_length_eq_zero h)), if_neg e]
theorem grpF_out (l : List Int) (k z n : Nat) (h : l[k]? = some (z : Int)) (hn : n ≠ z) : grpF l (k + 1) n = grpF l k n := by
  unfold grpF; rw [grp_out l k z n h hn]
theorem grpF_skip (l : List Int) (k n : Nat) (h : l[k]? = some 0) : grpF l (k + 1) n = grpF l k n := by
  unfold grpF; rw [grp_skip l k n h]
/-- the member of a group is the symbol whose code that is -/
theorem grp_code (l : List Int) (n r i : Nat) (hn : 1 ≤ n) (hn2 : n ≤ 15) (h : (grp l l.length n)[r]? = some i) : l[i]? = some (n : Int) ∧ codeAt l i = fstC l n + r := by
  obtain ⟨h1, h2, _⟩ := grp_spec l n _ (Nat.le_refl _) r i h
  refine ⟨h1, ?_⟩
  rw [codeAt_len l i _ h1 (by simp [isLen]; omega), Int.toNat_natCast, h2]
/-- a code of less than the whole sum has no length above one -/
theorem lng_small0 (l : List Int) (hl : ∀ a ∈ l, 0 ≤ a ∧ a ≤ 15) (h : sumOf l ≤ 16384 * l.count 1) : lng l ≤ 1 := by
  induction l with
  | nil => exact Nat.zero_le _
  | cons a l ihl =>
    have ha := hl a List.mem_cons_self
    have hl2 : ∀ b ∈ l, 0 ≤ b ∧ b ≤ 15 := fun b hb => hl b (List.mem_cons_of_mem _ hb)
    have hb := (sum_bounds l hl2).1
    have ihl := ihl hl2
    rw [sum_cons, List.count_cons] at h
    show max a.toNat (lng l) ≤ 1
    by_cases h1 : a = 1
    · subst h1
      have hw : wtTo 15 1 = 16384 := by decide
      rw [hw, if_pos (by decide)] at h
      have ih := ihl (by omega)
      have : (1 : Int).toNat = 1 := rfl
      omega
    · rw [if_neg (by simpa using h1)] at h
      by_cases h0 : a = 0
      · subst h0
        have ih := ihl (by omega)
        have : (0 : Int).toNat = 0 := rfl
        omega
      · exfalso
        have hw : 1 ≤ wtTo 15 a := by
          unfold wtTo
          rw [if_pos (by omega)]
          exact Nat.pos_of_ne_zero (by simp)
        omega
theorem lng_small (l : List Int) (hl : ∀ a ∈ l, 0 ≤ a ∧ a ≤ 15) (h : sumOf l = 0 ∨ sumOf l = 16384 ∧ l.count 1 = 1) : lng l ≤ 1 :=
  lng_small0 l hl (by rcases h with h | ⟨h, h2⟩ <;> omega)
end Go.Proofs.YthibpnkdhbkakaaGreatDoor
/-
  The program's Check.
-/
namespace Go.Proofs.YthibpnkdhbkakaaGreatDoor
set_option maxRecDepth 5000
open Go.RowKit

set_option maxHeartbeats 800000 in
theorem within_any (v : Value) (l : List Int) (most : Int) (w : World) (hv : Rd w 1 v l.length (ints l)) (hl : l.length < 1000000) :
    Calls Tryz.prog 91 #[v, .int .i64 most] w fun e w' => e = .returned (.bool (allIn l most)) ∧ w = w' := by
  obtain ⟨ao, cap, rfl, _, _⟩ := hv.form
  obtain ⟨n, hn⟩ : ∃ n, n = l.length := ⟨_, rfl⟩
  rw [← hn] at hv hl
  have HN := hid hn
  clear hn
  have HGO : Hid (Rd w 1 (.slice ao n cap) n (ints l)) := hv
  rw [show l.length = n from HN.out.symm]
  go_enter Tryz.func91, Tryz.ntmps91
  go_wp2
  go_loopg [9] (n + 1) (fun k t9 wr => ∃ (i : Nat), i ≤ n ∧ n - i < k ∧ t9 = .int .i64 (i : Int) ∧ Hid (allIn (l.take i) most = true) ∧ wr = w)
  case atStart => exact ⟨0, by omega, by omega, rfl, rfl, rfl⟩
  case round =>
    obtain ⟨i, hi, hk, rfl, HA, rfl⟩ := hrel
    by_cases hin : i < n
    · obtain ⟨g, off, rfl, hcell⟩ := hv.spot (by omega)
      obtain ⟨a, hai⟩ : ∃ a, l[i]? = some a := ⟨l[i]'(by have := HN.out; omega), List.getElem?_eq_getElem _⟩
      have hc1 := hcell i _ (by rw [ints_get, hai]; rfl)
      have hi0 : (0 : Int) ≤ (i : Int) := Int.natCast_nonneg _
      have hi1 : (i : Int) < (n : Int) := by omega
      have HT := hid (take_snoc3 l i a hai)
      have h3 : a < 0 ∨ 0 ≤ a ∧ most < a ∨ 0 ≤ a ∧ a ≤ most := by omega
      rcases h3 with h | ⟨h, h2⟩ | ⟨h, h2⟩
      · have HF : Hid (allIn l most = false) := by unfold Hid; refine allIn_take l (i + 1) most ?_; rw [HT.out, allIn_snoc, HA.out]; simp; omega
        clear hcell hai
        go_wp2
        go_ret
        exact ⟨by rw [HF.out]; rfl, rfl⟩
      · have HF : Hid (allIn l most = false) := by unfold Hid; refine allIn_take l (i + 1) most ?_; rw [HT.out, allIn_snoc, HA.out]; simp; omega
        clear hcell hai
        go_wp2
        go_ret
        exact ⟨by rw [HF.out]; rfl, rfl⟩
      · have HF : Hid (allIn (l.take (i + 1)) most = true) := by unfold Hid; rw [HT.out, allIn_snoc, HA.out]; simp; omega
        clear hcell hai
        go_wp2
        go_roundg (gk - 1)
        case measure => omega
        case rel => exact ⟨i + 1, by omega, by omega, by go_num, HF, rfl⟩
    · have hi1 : ¬ (i : Int) < (n : Int) := by omega
      have HF : Hid (allIn l most = true) := by unfold Hid; have h := HA.out; rwa [List.take_of_length_le (by have := HN.out; omega)] at h
      go_wp2
      go_ret
      exact ⟨by rw [HF.out]; rfl, rfl⟩

set_option maxRecDepth 20000 in
set_option maxHeartbeats 1600000 in
theorem check_any (v : Value) (l : List Int) (most : Int) (w : World) (hv : Rd w 1 v l.length (ints l)) (hl : l.length < 1000000) :
    Calls Tryz.prog 77 #[v, .int .i64 most] w fun e w' => e = .returned (.int .i64 ((checkOf l most : Nat) : Int)) ∧ Mod w w' (fun _ => False) := by
  obtain ⟨ao, cap, rfl, _, _⟩ := hv.form
  have HCC := hid (count_any _ l w hv hl)
  have HWI := hid (within_any _ l most w hv hl)
  have HLN := hid hl
  obtain ⟨n, hn⟩ : ∃ n, n = l.length := ⟨_, rfl⟩
  rw [← hn] at hv hl HCC HWI
  rw [← hn]
  have HN := hid hn
  clear hn hv
  have hn0 : (0 : Int) ≤ (n : Int) := Int.natCast_nonneg _
  have h4 : most < 1 ∨ 1 ≤ most ∧ 15 < most ∨ 1 ≤ most ∧ most ≤ 15 ∧ 288 < n ∨ 1 ≤ most ∧ most ≤ 15 ∧ n ≤ 288 := by omega
  rcases h4 with h | ⟨h, h2⟩ | ⟨h, h2, h3⟩ | ⟨h, h2, h3⟩
  · have HF : Hid (checkOf l most = 1) := by unfold Hid checkOf; rw [if_pos]; simp [argBad]; omega
    go_enter Tryz.func77, Tryz.ntmps77
    go_wp2
    go_ret
    exact ⟨by rw [HF.out]; rfl, Mod.refl _ _⟩
  · have HF : Hid (checkOf l most = 1) := by unfold Hid checkOf; rw [if_pos]; simp [argBad]; omega
    go_enter Tryz.func77, Tryz.ntmps77
    go_wp2
    go_ret
    exact ⟨by rw [HF.out]; rfl, Mod.refl _ _⟩
  · have HF : Hid (checkOf l most = 1) := by unfold Hid checkOf; rw [if_pos]; have := HN.out; simp [argBad]; omega
    have h3I : (288 : Int) < (n : Int) := by omega
    go_enter Tryz.func77, Tryz.ntmps77
    go_wp2
    go_ret
    exact ⟨by rw [HF.out]; rfl, Mod.refl _ _⟩
  · have h3I : ¬ (288 : Int) < (n : Int) := by omega
    have h15 : ¬ 15 < most := by omega
    have h1 : ¬ most < 1 := by omega
    have HA1 : Hid (argBad l most = !allIn l most) := by
      unfold Hid argBad
      have := HN.out
      rw [decide_eq_false (by omega)]; rfl
    cases hA : allIn l most with
    | false =>
      rw [hA] at HWI
      have HF : Hid (checkOf l most = 1) := by unfold Hid checkOf; rw [HA1.out, hA]; rfl
      clear hA
      go_enter Tryz.func77, Tryz.ntmps77
      go_wp2_with fail
      refine HWI.out.mono ?_
      rintro e w1 ⟨rfl, rfl⟩
      go_wp2
      go_ret
      exact ⟨by rw [HF.out]; rfl, Mod.refl _ _⟩
    | true =>
      rw [hA] at HWI
      have HF : Hid (checkOf l most = if sumOf l = 0 ∨ sumOf l = 32768 ∨ sumOf l = 16384 ∧ l.count 1 = 1 then 0 else 3) := by
        unfold Hid checkOf; rw [HA1.out, hA]; rfl
      clear hA
      have HL := hid (cnts_length l)
      have HL0 := hid (cnts_length [])
      go_enter Tryz.func77, Tryz.ntmps77
      go_wp2_with fail
      refine HWI.out.mono ?_
      rintro e w0 ⟨rfl, rfl⟩
      go_wp2_with fail
      refine HCC.out.mono ?_
      rintro e w1 ⟨rfl, hM1⟩
      have HH0 := hid (((Held.start w).same hM1).newObj (nums .i64 (cnts [])) 121)
      clear hM1
      go_wp2_with (first
        | refine wpList_alloc_arr rfl _ rfl .i64 _ infoCz ?_
        | (refine wpList_store_arr rfl _ _ _ rfl 16 infoCs _ .i64 (cnts []) (cnts l) _ rfl rfl HL0.out HL.out HH0.out.obj ?_; intro w3 hB3 hM3; have HB3 := hid hB3; have HM3 := hid hM3; clear hM3)
        | refine wpList_load_arr rfl _ _ rfl _ 16 (by rfl) rfl infoCs w1.heap.size .i64 (cnts l) _ rfl HL.out HB3.out ?_)
      refine (csum_any l w3 HLN.out).mono ?_
      rintro e w4 ⟨rfl, hM4⟩
      have HH := hid ((HH0.out.putObj HB3.out HM3.out).same hM4)
      have hcell := HH.out.obj.cell (i := 1) (v := .int .i64 ((l.count 1 : Nat) : Int)) (by rw [nums_get, cnts_get _ 1 (by omega) (by omega)]; rfl)
      clear hM4 hB3
      obtain ⟨s, hs⟩ : ∃ s, s = sumOf l := ⟨_, rfl⟩
      obtain ⟨c, hc⟩ : ∃ c, c = l.count 1 := ⟨_, rfl⟩
      rw [← hc] at HF hcell
      rw [← hs] at HF ⊢
      clear hs hc
      have h5 : s = 0 ∨ s = 32768 ∨ s = 16384 ∧ c = 1 ∨ s = 16384 ∧ c ≠ 1 ∨ s ≠ 0 ∧ s ≠ 32768 ∧ s ≠ 16384 := by omega
      rcases h5 with rfl | rfl | ⟨rfl, rfl⟩ | ⟨rfl, hc1⟩ | ⟨hs0, hs1, hs2⟩
      · go_wp2
        go_ret
        exact ⟨by rw [HF.out]; rfl, HH.out.mod⟩
      · go_wp2
        go_ret
        exact ⟨by rw [HF.out]; rfl, HH.out.mod⟩
      · go_wp2
        go_ret
        exact ⟨by rw [HF.out]; rfl, HH.out.mod⟩
      · have hcI : ¬ (c : Int) = 1 := by omega
        go_wp2
        go_ret
        exact ⟨by rw [HF.out, if_neg (by omega)]; rfl, HH.out.mod⟩
      · have hcI : ¬ (s : Int) = 0 := by omega
        have hcI2 : ¬ (s : Int) = 32768 := by omega
        have hcI3 : ¬ (s : Int) = 16384 := by omega
        go_wp2
        go_ret
        exact ⟨by rw [HF.out, if_neg (by omega)]; rfl, HH.out.mod⟩
end Go.Proofs.YthibpnkdhbkakaaGreatDoor
