/-
  The landed PrintHeader: the byte of flags, numbers.
-/
import Derived.Test.YtkdmdbojcdonpaaGreatDoorHdrW
import Derived.Test.YtkdmdbojcdonpaaGreatDoorHeldApp
import Derived.Test.YtkdmdbojcdonpaaGreatDoorPlace
namespace Go.Proofs.YtkdmdbojcdonpaaGreatDoor
set_option maxRecDepth 5000
open Go.RowKit

section
variable {w0 w : World} {Rs : List Thing} {S : Thing}
def orIf (set : Bool) (V m : Nat) : Nat := if set = true then V ||| m else V
theorem addF_any (set : Bool) (V m : Nat) (hV : V < 256) (hm : m < 256) (mi : Int) (hmi : mi = (m : Int)) (B : Nat) (h : Held w0 w (objT B [.int .u8 (V : Int)] 5 :: Rs)) :
    Calls Tryz.prog 59 #[.bool set, .int .u8 mi, .pointer (some ⟨B, 0, none⟩)] w fun e w' => e = .returned (.tuple #[]) ∧ Held w0 w' (objT B [.int .u8 ((orIf set V m : Nat) : Int)] 5 :: Rs) := by
  subst hmi
  have c0 := h.obj.cell0 rfl
  have f0 := h.obj.frozen0
  have hor := hid ((bits_nat .u8 8 (by decide) (fun n h0 h1 => IntWalk.u8_in n (by omega)) V m (by omega) (by omega)).2)
  unfold orIf
  cases set with
  | true =>
    have H2 := hid (h.setObj 0 (.int .u8 ((V ||| m : Nat) : Int)))
    rw [if_pos rfl]
    clear h
    go_enter Tryz.func59, Tryz.ntmps59
    go_wp2
    go_end0
    rw [hor.out]
    exact ⟨rfl, H2.out⟩
  | false =>
    have H2 := hid h
    rw [if_neg (by decide)]
    clear h hor
    go_enter Tryz.func59, Tryz.ntmps59
    go_wp2
    go_end0
    exact ⟨rfl, H2.out⟩
theorem orIf_lt (set : Bool) {V m : Nat} (hV : V < 256) (hm : m < 256) : orIf set V m < 256 := by
  unfold orIf
  split
  · exact Nat.or_lt_two_pow (n := 8) hV hm
  · exact hV
def flagsL (x : Hdr) : Nat := orIf x.hasNote (orIf x.hasName (orIf x.hasExtra (orIf x.sum (orIf x.text 0 1) 2) 4) 8) 16
theorem flagsL_is (x : Hdr) : flagsL x = flagsOf x := by
  obtain ⟨a, b, t, fl, sy, ex, c, nm, nt, d, g⟩ := x
  cases a <;> cases b <;> cases c <;> cases d <;> cases g <;> simp [flagsL, flagsOf, orIf, b2n]
set_option maxRecDepth 100000 in
set_option maxHeartbeats 6400000 in
theorem flagsW_any (x : Hdr) (ao : Option Addr) (n cap : Nat) (h : Held w0 w Rs) :
    Calls Tryz.prog 38 #[hdrV x (.slice ao n cap)] w fun e w' => e = .returned (.int .u8 ((flagsOf x : Nat) : Int)) ∧ Held w0 w' Rs := by
  rw [← flagsL_is]
  obtain ⟨a, b, t, fl, sy, ex, c, nm, nt, d, g⟩ := x
  have h1 := (h.newObj (hdrC ⟨a, b, t, fl, sy, ex, c, nm, nt, d, g⟩ (.slice ao n cap)) 29).newObj [.int .u8 ((0 : Nat) : Int)] 5
  have hsz : (w.alloc (.cells (hdrC ⟨a, b, t, fl, sy, ex, c, nm, nt, d, g⟩ (.slice ao n cap)).toArray 29)).heap.size = w.heap.size + 1 := by simp
  rw [hsz] at h1
  have h1 : Held w0 ((w.alloc (.cells (hdrC ⟨a, b, t, fl, sy, ex, c, nm, nt, d, g⟩ (.slice ao n cap)).toArray 29)).alloc (.cells #[.int .u8 0] 5)) _ := h1
  have H1 := hid h1
  have HA := hid (addF_any a 0 1 (by decide) (by decide) 1 rfl _ h1)
  unfold flagsL
  dsimp only
  clear h h1 hsz
  unfold hdrC strV at HA H1
  unfold hdrV hdrC strV
  generalize strB nm = snm at HA H1 ⊢
  generalize strB nt = snt at HA H1 ⊢
  go_enter Tryz.func38, Tryz.ntmps38
  have c0 := H1.out.swap.obj.cell0 rfl
  have c1 := H1.out.swap.obj.cell (i := 1) rfl
  go_wp2_with fail
  with_reducible refine HA.out.mono ?_
  rintro e w2 ⟨rfl, h2⟩
  have d1 := h2.swap.obj.cell (i := 1) rfl
  have HB := hid (addF_any b _ 2 (orIf_lt a (by decide) (by decide)) (by decide) 2 rfl _ h2)
  have l1 := orIf_lt a (V := 0) (m := 1) (by decide) (by decide)
  obtain ⟨V1, hV1⟩ : ∃ V1, V1 = orIf a 0 1 := ⟨_, rfl⟩
  rw [← hV1] at HB l1
  have EV1 := hid hV1
  clear hV1
  clear h2 HA H1 c0 c1
  go_wp2_with fail
  with_reducible refine HB.out.mono ?_
  rintro e w3 ⟨rfl, h2⟩
  have d6 := h2.swap.obj.cell (i := 6) rfl
  have HC := hid (addF_any c _ 4 (orIf_lt b l1 (by decide)) (by decide) 4 rfl _ h2)
  have l2 := orIf_lt b (V := V1) (m := 2) l1 (by decide)
  obtain ⟨V2, hV2⟩ : ∃ V2, V2 = orIf b V1 2 := ⟨_, rfl⟩
  rw [← hV2] at HC l2
  have EV2 := hid hV2
  clear hV2
  clear h2 HB l1
  go_wp2_with fail
  with_reducible refine HC.out.mono ?_
  rintro e w4 ⟨rfl, h2⟩
  have d9 := h2.swap.obj.cell (i := 9) rfl
  have HD := hid (addF_any d _ 8 (orIf_lt c l2 (by decide)) (by decide) 8 rfl _ h2)
  have l3 := orIf_lt c (V := V2) (m := 4) l2 (by decide)
  obtain ⟨V3, hV3⟩ : ∃ V3, V3 = orIf c V2 4 := ⟨_, rfl⟩
  rw [← hV3] at HD l3
  have EV3 := hid hV3
  clear hV3
  clear h2 HC l2
  go_wp2_with fail
  with_reducible refine HD.out.mono ?_
  rintro e w5 ⟨rfl, h2⟩
  have d10 := h2.swap.obj.cell (i := 10) rfl
  have HE := hid (addF_any g _ 16 (orIf_lt d l3 (by decide)) (by decide) 16 rfl _ h2)
  have l4 := orIf_lt d (V := V3) (m := 8) l3 (by decide)
  obtain ⟨V4, hV4⟩ : ∃ V4, V4 = orIf d V3 8 := ⟨_, rfl⟩
  rw [← hV4] at HE l4
  have EV4 := hid hV4
  clear hV4
  clear h2 HD l3
  go_wp2_with fail
  with_reducible refine HE.out.mono ?_
  rintro e w6 ⟨rfl, h2⟩
  have e0 := h2.obj.cell0 rfl
  have H2 := hid h2.drop.drop
  clear h2 HE
  go_wp2
  go_ret
  refine ⟨?_, H2.out⟩
  rw [EV4.out, EV3.out, EV2.out, EV1.out]
  rfl
theorem leB_snoc : ∀ (k v : Nat), leB (k + 1) v = leB k v ++ [v / 256 ^ k % 256]
  | 0, v => by simp [leB]
  | k + 1, v => by
    rw [leB, leB_snoc k (v / 256), leB, Nat.div_div_eq_div_mul, Nat.pow_succ, Nat.mul_comm 256]
    rfl
set_option maxRecDepth 100000 in
set_option maxHeartbeats 1600000 in
theorem appNum_any (bv : Value) (m V k : Nat) (xs : List Nat) (h : Held w0 w (ownT 5 1 bv m (u8s xs) :: Rs)) (hV : V < 4294967296) (hk : k ≤ 4) (hm : m < 900000000) (ki : Int) (hki : ki = (k : Int)) :
    Calls Tryz.prog 39 #[bv, .int .u32 (V : Int), .int .i64 ki] w fun e w' => ∃ y, e = .returned y ∧ Held w0 w' (ownT 5 1 y (m + k) (u8s (xs ++ leB k V)) :: Rs) := by
  subst hki
  obtain ⟨i0, hi0, hz0, hz1, hz2⟩ := info_parts infoByte13
  have hmx : 1000000000 ≤ maxLen := by decide
  obtain ⟨ao, cap, rfl, _, _⟩ := h.own.form
  have H := hid h
  clear h
  go_enter Tryz.func39, Tryz.ntmps39
  go_wp2
  go_loopg [0, 1, 8] (k + 2) (fun g t0 t1 t8 wr => ∃ (i : Nat) (ao : Option Addr) (cap : Nat), i ≤ k ∧ k - i < g ∧ t0 = .slice ao (m + i) cap ∧ t1 = .int .u32 ((V / 256 ^ i : Nat) : Int) ∧ t8 = .int .i64 (i : Int) ∧ Hid (Held w0 wr (ownT 5 1 (.slice ao (m + i) cap) (m + i) (u8s (xs ++ leB i V)) :: Rs)))
  case atStart =>
    refine ⟨0, ao, cap, Nat.zero_le _, by omega, rfl, by rw [Nat.pow_zero, Nat.div_one], rfl, hid ?_⟩
    rw [leB, List.append_nil]
    exact H.out
  case round =>
    obtain ⟨i, bo, bc, hi, hg, rfl, rfl, rfl, H2⟩ := hrel
    clear H
    have hii : (0 : Int) ≤ (i : Int) := Int.natCast_nonneg _
    by_cases hik : i < k
    · have hikI : (i : Int) < (k : Int) := by omega
      obtain ⟨U, hU⟩ : ∃ U, U = V / 256 ^ i := ⟨_, rfl⟩
      have hnext : V / 256 ^ (i + 1) = U / 256 := by rw [hU, Nat.pow_succ, Nat.div_div_eq_div_mul]
      have hU32 : U < 4294967296 := by
        have := Nat.div_le_self V (256 ^ i)
        omega
      obtain ⟨b, hb⟩ : ∃ b, b = U % 256 := ⟨_, rfl⟩
      have hbw : IntKind.u8.wrap (U : Int) = (b : Int) := by rw [hb]; show (U : Int) % 256 = _; omega
      have hsn : leB (i + 1) V = leB i V ++ [b] := by rw [leB_snoc, ← hU, hb]
      rw [← hU]
      obtain ⟨Q, hQ⟩ : ∃ Q, Q = U / 256 := ⟨_, rfl⟩
      have hQI : (U : Int) / 256 = (Q : Int) := by omega
      have HS := hid (And.intro hnext (And.intro hsn hQ))
      obtain ⟨N, hN⟩ : ∃ N, N = m + i + 1 := ⟨_, rfl⟩
      have hNb : N < 1000000000 := by omega
      have HN := hid hN
      have H3 : Hid (Held w0 (wr.alloc (.cells #[.int .u8 (b : Int)] 5)) (ownT 5 1 (.slice bo (m + i) bc) (m + i) (u8s (xs ++ leB i V)) :: Rs)) := hid (H2.out.alloc _)
      have H4 : Hid (Rd (wr.alloc (.cells #[.int .u8 (b : Int)] 5)) 1 (.slice (some ⟨wr.heap.size, 0, none⟩) 1 1) 1 (u8s [b])) := hid (Rd.lit wr (u8s [b]) 5 1 1 (by decide) rfl)
      clear hN
      clear hU hnext hsn hb hQ
      go_wp2_with ((with_reducible show wpList _ _ _ (⟨some 14, _, _, _, _, _⟩ :: _) _ _); go_must (refine wpList_app_held rfl (.tmp 10) (.tmp 13) 25 rfl 5 i0 (.int .u8 0) 1 1 Tryz.underlying25 hi0 hz0 hz1 hz2 rfl (by decide) _ (m + i) (u8s (xs ++ leB i V)) rfl H3.out _ 1 (u8s [b]) rfl H4.out (u8s_one _) N HN.out (by omega) (by omega) ?_); intro yo yc w7 h7; have H7 := hid h7; clear h7)
      go_roundg (gk - 1)
      case measure => omega
      case rel =>
        refine ⟨i + 1, yo, yc, by omega, by omega, by rw [HN.out, Nat.add_assoc], by rw [HS.out.1, ← HS.out.2.2], by go_num, hid ?_⟩
        rw [HS.out.2.1, ← Nat.add_assoc, ← HN.out]
        have h8 := H7.out
        unfold u8s at h8 ⊢
        rw [← List.map_append, List.append_assoc] at h8
        exact h8
    · have hikI : ¬ (i : Int) < (k : Int) := by omega
      obtain rfl : i = k := by omega
      go_wp2
      go_ret
      exact ⟨_, rfl, H2.out⟩
end
end Go.Proofs.YtkdmdbojcdonpaaGreatDoor
