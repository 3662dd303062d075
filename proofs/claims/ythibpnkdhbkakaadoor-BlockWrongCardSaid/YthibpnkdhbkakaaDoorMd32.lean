/-
  Contents written: stored bytes, the head of a dynamic block; how many bits they are.
-/
import Derived.Test.YthibpnkdhbkakaaDoorMd31
import Derived.Handy
import Derived.Test.YthibpnkdhbkakaaDoorMd12
import Derived.Test.YthibpnkdhbkakaaDoorMd14
import Derived.Test.YthibpnkdhbkakaaDoorMd17
import Derived.Test.YthibpnkdhbkakaaDoorMd08
import Derived.Test.YthibpnkdhbkakaaDoorMd03
import Derived.StillTailTactics
import Derived.Lib.SlBytesConst
namespace Go.Proofs.YthibpnkdhbkakaaDoor
set_option maxRecDepth 5000
open Go.RowKit

theorem evened_pad (l : List Nat) : evened l = l ++ List.replicate (evenF l.length - l.length) 0 := by
  unfold evened
  congr 2
  unfold evenF
  omega
theorem evened_even {l : List Nat} (h : l.length % 8 = 0) : evened l = l := by
  unfold evened
  rw [h]
  simp
theorem u32_of (z : Nat) (h : z < 4294967296) : IntKind.u32.wrap (z : Int) = (z : Int) := by
  unfold IntKind.wrap; simp [IntKind.bits, IntKind.signed]; omega
theorem inv_bits (n : Nat) (h : n ≤ 65535) : bitsOf 16 (4294967295 - n) = bitsOf 16 (65535 - n) := by
  rw [← bitsOf_mod 16 (4294967295 - n), ← bitsOf_mod 16 (65535 - n)]
  congr 1
  omega
theorem xor_all (n : Nat) (h : n ≤ 65535) : bits .xor .u32 IntKind.u32.max (n : Int) = ((4294967295 - n : Nat) : Int) := by
  have h1 := u32_xor_nat 4294967295 n (by decide) (by omega)
  rw [show IntKind.u32.max = ((4294967295 : Nat) : Int) from rfl, h1]
  congr 1
  refine Nat.eq_of_testBit_eq fun i => ?_
  rw [show 4294967295 - n = 2 ^ 32 - (n + 1) by omega, Nat.testBit_two_pow_sub_succ (by omega : n < 2 ^ 32), Nat.testBit_xor, show 4294967295 = 2 ^ 32 - 1 by rfl, Nat.testBit_two_pow_sub_one]
  by_cases hi : i < 32
  · simp [hi]
  · have : n.testBit i = false := Nat.testBit_lt_two_pow (Nat.lt_of_lt_of_le (by omega : n < 2 ^ 32) (Nat.pow_le_pow_right (by decide) (by omega)))
    simp [hi, this]
section
variable {w0 w : World} {Rs : List Thing}
theorem stored_size (u : Option Addr) (n cap : Nat) (hn : n < 1000000000) :
    Calls Tryd.prog 98 #[.slice u n cap] w fun e w' => e = .returned (.int .i64 ((37 + 8 * n : Nat) : Int)) ∧ w' = w := by
  have h0 : (0 : Int) ≤ (n : Int) := Int.natCast_nonneg _
  go_enter Tryd.func98, Tryd.ntmps98
  go_wp2
  go_ret
  exact ⟨ret_int (by go_num), rfl⟩
theorem coded_size (lo : Option Addr) (ln lc B1 B2 bits : Nat) :
    Calls Tryd.prog 102 #[codV (.slice lo ln lc) B1 B2 bits] w fun e w' => e = .returned (.int .i64 (bits : Int)) ∧ Mod w w' (fun _ => False) := by
  unfold codV
  go_enter Tryd.func102, Tryd.ntmps102
  go_wp2
  go_ret
  exact ⟨rfl, (Mod.refl _ _).alloc _⟩
set_option maxHeartbeats 1600000 in
theorem stored_write {Bw n : Nat} {acc raw : List Nat} {S : Thing} (u : Option Addr) (cap : Nat) (h : Held w0 w (wrT Bw acc :: S :: Rs)) (hr : Reads w0 S 1 (.slice u n cap) n (u8s raw)) (hb : ∀ b ∈ raw, b < 256) (hn : n ≤ 65535) (hacc : acc.length < 10000000000) :
    Calls Tryd.prog 99 #[.slice u n cap, .pointer (some ⟨Bw, 0, none⟩)] w fun e w' => e = .returned (.tuple #[]) ∧ Held w0 w' (wrT Bw (acc ++ storedBits acc.length raw) :: S :: Rs) := by
  have hrl : n = raw.length := by have := (hr.rd h.swap).1; rw [u8s_length] at this; omega
  have HR := hid hr
  have HB := hid hb
  have hE1 : evened acc = acc ++ List.replicate (evenF acc.length - acc.length) 0 := evened_pad acc
  have hle := evened_le acc
  have hev := evened_length acc
  have HAL := hid (h_walign h (by omega))
  have hw1 : IntKind.u32.wrap (n : Int) = (n : Int) := u32_of n (by omega)
  have HF : Hid (evened (evened acc ++ bitsOf 16 n ++ bitsOf 16 (4294967295 - n)) ++ bits8 raw = acc ++ storedBits acc.length raw) := by
    rw [evened_even (by simp only [List.length_append, bitsOf_length]; omega), inv_bits n hn, hE1, storedBits, ← hrl]
    exact hid (by simp)
  have HL := hid hle
  have HX : bits .xor .u32 IntKind.u32.max (n : Int) = ((4294967295 - n : Nat) : Int) := xor_all n hn
  clear hr h hb hE1 hle hev hrl
  go_enter Tryd.func99, Tryd.ntmps99
  go_wp2_with fail
  with_reducible refine HAL.out.mono ?_
  rintro e w1 ⟨rfl, h1⟩
  have HP1 := hid (h_put h1 n 16 (by omega) (by omega) (by have := HL.out; omega))
  rw [show ((16 : Nat) : Int) = 16 from rfl] at HP1
  clear h1 HAL
  go_wp2_with fail
  with_reducible refine HP1.out.mono ?_
  rintro e w2 ⟨rfl, h2⟩
  have HP2 := hid (h_put h2 (4294967295 - n) 16 (by omega) (by omega) (by have := HL.out; rw [List.length_append, bitsOf_length]; omega))
  rw [show ((16 : Nat) : Int) = 16 from rfl] at HP2
  clear h2 HP1
  go_wp2_with fail
  with_reducible refine HP2.out.mono ?_
  rintro e w3 ⟨rfl, h3⟩
  have HW := hid (h_write_reads h3 HR.out HB.out (by omega) (by have := HL.out; simp only [List.length_append, bitsOf_length]; omega))
  rw [HF.out] at HW
  clear h3 HP2
  go_wp2_with fail
  with_reducible refine HW.out.mono ?_
  rintro e w4 ⟨rfl, h4⟩
  have HE := hid h4
  clear h4 HW
  go_wp2
  go_end0
  exact ⟨rfl, HE.out⟩
set_option maxHeartbeats 3200000 in
theorem head_write {Bw B n1 n2 N m Bt bits : Nat} {acc : List Nat} {hd : List Int} {xs : List Item} (io ha : Option Addr) (ic hc : Nat) (h : Held w0 w (wrT Bw acc :: objT B (headL n1 n2 (.slice io m ic) (.slice ha N hc) (.pointer (some ⟨Bt, 0, none⟩)) bits) 96 :: ownT 100 3 (.slice io m ic) m (itemsV xs) :: ownT 3 1 (.slice ha N hc) N (ints ((inOrd hd).take N)) :: tabT hd Bt :: Rs))
    (hl : hd.length = 19) (hA : ∀ a ∈ hd, 0 ≤ a ∧ a ≤ 7) (hF : Fine hd) (hx : ∀ x ∈ xs, HasSym hd x.1 ∧ x.1 < 19 ∧ x.2.1 ≤ 7 ∧ x.2.2 < 2 ^ x.2.1) (hn1 : 257 ≤ n1 ∧ n1 ≤ 286) (hn2 : 1 ≤ n2 ∧ n2 ≤ 30) (hN : 4 ≤ N ∧ N ≤ 19) (hm : m ≤ 1000) (hml : m = xs.length) (hacc : acc.length < 10000000000) :
    Calls Tryd.prog 109 #[.pointer (some ⟨B, 0, none⟩), .pointer (some ⟨Bw, 0, none⟩)] w fun e w' => e = .returned (.tuple #[]) ∧
      Held w0 w' (wrT Bw (acc ++ (bitsOf 5 (n1 - 257) ++ (bitsOf 5 (n2 - 1) ++ (bitsOf 4 (N - 4) ++ (headBits hd N ++ itemsB hd xs))))) :: objT B (headL n1 n2 (.slice io m ic) (.slice ha N hc) (.pointer (some ⟨Bt, 0, none⟩)) bits) 96 :: ownT 100 3 (.slice io m ic) m (itemsV xs) :: ownT 3 1 (.slice ha N hc) N (ints ((inOrd hd).take N)) :: tabT hd Bt :: Rs) := by
  unfold headL at h ⊢
  have HH := hid (And.intro hl (And.intro hA (And.intro hF (And.intro hx hml))))
  have i1 : (n1 : Int) - 257 = ((n1 - 257 : Nat) : Int) := by omega
  have i2 : (n2 : Int) - 1 = ((n2 - 1 : Nat) : Int) := by omega
  have i3 : (N : Int) - 4 = ((N - 4 : Nat) : Int) := by omega
  have u1 : IntKind.u32.wrap ((n1 - 257 : Nat) : Int) = ((n1 - 257 : Nat) : Int) := u32_of _ (by omega)
  have u2 : IntKind.u32.wrap ((n2 - 1 : Nat) : Int) = ((n2 - 1 : Nat) : Int) := u32_of _ (by omega)
  have u3 : IntKind.u32.wrap ((N - 4 : Nat) : Int) = ((N - 4 : Nat) : Int) := u32_of _ (by omega)
  have k0 := h.drop.obj.cell (i := 0) rfl
  have HP1 := hid (h_put h (n1 - 257) 5 (by omega) (by omega) (by omega))
  rw [show ((5 : Nat) : Int) = 5 from rfl] at HP1
  clear h hl hA hF hx hml
  go_enter Tryd.func109, Tryd.ntmps109
  go_wp2_with fail
  with_reducible refine HP1.out.mono ?_
  rintro e w1 ⟨rfl, h1⟩
  have k1 := h1.drop.obj.cell (i := 1) rfl
  have HP2 := hid (h_put h1 (n2 - 1) 5 (by omega) (by omega) (by rw [List.length_append, bitsOf_length]; omega))
  rw [show ((5 : Nat) : Int) = 5 from rfl] at HP2
  clear h1 HP1 k0
  go_wp2_with fail
  with_reducible refine HP2.out.mono ?_
  rintro e w2 ⟨rfl, h2⟩
  have k3 := h2.drop.obj.cell (i := 3) rfl
  have HP3 := hid (h_put h2 (N - 4) 4 (by omega) (by omega) (by simp only [List.length_append, bitsOf_length]; omega))
  rw [show ((4 : Nat) : Int) = 4 from rfl] at HP3
  clear h2 HP2 k1
  go_wp2_with fail
  with_reducible refine HP3.out.mono ?_
  rintro e w3 ⟨rfl, h3⟩
  obtain ⟨A, hAd⟩ : ∃ A, A = acc ++ bitsOf 5 (n1 - 257) ++ bitsOf 5 (n2 - 1) ++ bitsOf 4 (N - 4) := ⟨_, rfl⟩
  rw [← hAd] at h3
  have hAl : A.length ≤ acc.length + 14 := by rw [hAd]; simp only [List.length_append, bitsOf_length]; omega
  have HAD := hid hAd
  have j3 := h3.drop.obj.cell (i := 3) rfl
  have H3 := hid h3
  clear h3 HP3 k3 hAd i1 i2 i3 u1 u2 u3
  have hN0 : (0 : Int) ≤ (N : Int) := Int.natCast_nonneg _
  go_wp2
  clear j3
  go_loopg [38] (N + 1) (fun k t38 wr => ∃ i : Nat, i ≤ N ∧ N - i < k ∧ t38 = .int .i64 (i : Int) ∧ Hid (Held w0 wr (wrT Bw (A ++ headBits hd i) :: objT B [.int .i64 (n1 : Int), .int .i64 (n2 : Int), .slice io m ic, .slice ha N hc, .pointer (some ⟨Bt, 0, none⟩), .int .i64 (bits : Int)] 96 :: ownT 100 3 (.slice io m ic) m (itemsV xs) :: ownT 3 1 (.slice ha N hc) N (ints ((inOrd hd).take N)) :: tabT hd Bt :: Rs)))
  case atStart =>
    refine ⟨0, by omega, by omega, rfl, ?_⟩
    rw [headBits, List.append_nil]
    exact H3
  case round =>
    obtain ⟨i, hi, hk, rfl, HI⟩ := hrel
    have hi0 : (0 : Int) ≤ (i : Int) := Int.natCast_nonneg _
    by_cases hin : i < N
    · have hiI : (i : Int) < (N : Int) := by omega
      obtain ⟨v, hv⟩ : ∃ v, hd[orderAt i]? = some v := ⟨hd[orderAt i]'(by have := orderAt_lt i (by omega); have := HH.out.1; omega), List.getElem?_eq_getElem _⟩
      have hva := HH.out.2.1 v (List.mem_of_getElem? hv)
      obtain ⟨z, rfl⟩ := Int.eq_ofNat_of_zero_le hva.1
      have hz : z ≤ 7 := by omega
      have hio : ((inOrd hd).take N)[i]? = some (z : Int) := by rw [List.getElem?_take, if_pos hin, inOrd_get hd (by omega), hv]; rfl
      obtain ⟨g, off, rfl, hcell⟩ := HI.out.drop.drop.drop.own.rd.spot (by omega)
      have c1 := hcell i _ (by rw [ints_get, hio]; rfl)
      have hw : IntKind.u32.wrap (z : Int) = (z : Int) := u32_of _ (by omega)
      have HP := hid (h_put HI.out z 3 (by omega) (by omega) (by rw [List.length_append, headBits_length]; omega))
      have hE : A ++ headBits hd i ++ bitsOf 3 z = A ++ headBits hd (i + 1) := by
        rw [headBits, hv]
        simp
      rw [hE, show ((3 : Nat) : Int) = 3 from rfl] at HP
      clear hcell hio hv hva hE
      go_wp2_with fail
      with_reducible refine HP.out.mono ?_
      rintro e w5 ⟨rfl, hh⟩
      have H5 := hid hh
      clear hh HP c1
      go_wp2
      go_roundg (gk - 1)
      case measure => omega
      case rel => exact ⟨i + 1, by omega, by omega, by go_num, H5⟩
    · have hiI : ¬ (i : Int) < (N : Int) := by omega
      obtain rfl : i = N := by omega
      have k2 := HI.out.drop.obj.cell (i := 2) rfl
      have hm0 : (0 : Int) ≤ (m : Int) := Int.natCast_nonneg _
      have hAl2 : (A ++ headBits hd i).length ≤ acc.length + 100 := by rw [List.length_append, headBits_length]; omega
      obtain ⟨A2, hA2⟩ : ∃ A2, A2 = A ++ headBits hd i := ⟨_, rfl⟩
      rw [← hA2] at HI hAl2
      have HA2 := hid hA2
      clear hA2
      go_wp2
      clear k2
      go_loopg [52] (m + 1) (fun k t52 wr => ∃ j : Nat, j ≤ m ∧ m - j < k ∧ t52 = .int .i64 (j : Int) ∧ Hid (Held w0 wr (wrT Bw (A2 ++ itemsB hd (xs.take j)) :: objT B [.int .i64 (n1 : Int), .int .i64 (n2 : Int), .slice io m ic, .slice ha i hc, .pointer (some ⟨Bt, 0, none⟩), .int .i64 (bits : Int)] 96 :: ownT 100 3 (.slice io m ic) m (itemsV xs) :: ownT 3 1 (.slice ha i hc) i (ints ((inOrd hd).take i)) :: tabT hd Bt :: Rs)))
      case atStart =>
        refine ⟨0, by omega, by omega, rfl, ?_⟩
        rw [List.take_zero, itemsB, List.flatMap_nil, List.append_nil]
        exact HI
      case round =>
        obtain ⟨j, hj, hk2, rfl, HJ⟩ := hrel
        have hj0 : (0 : Int) ≤ (j : Int) := Int.natCast_nonneg _
        have hsl : Hid ((A2 ++ itemsB hd (xs.take j)).length < 100000000000) := by
          have h1 := itemsB_short (hd := hd) HH.out.2.1 (xs := xs.take j) fun x hx => (HH.out.2.2.2.1 x (List.mem_of_mem_take hx)).2.2.1
          have h2 : (xs.take j).length ≤ j := by simp; omega
          rw [List.length_append]
          exact hid (by omega)
        by_cases hjn : j < m
        · have hjI : (j : Int) < (m : Int) := by omega
          obtain ⟨⟨sy, ex, va⟩, ht⟩ : ∃ t, xs[j]? = some t := ⟨xs[j]'(by have := HH.out.2.2.2.2; omega), List.getElem?_eq_getElem _⟩
          obtain ⟨hsy, hs19, hex, hva⟩ := HH.out.2.2.2.1 _ (List.mem_of_getElem? ht)
          simp only at hsy hs19 hex hva
          have hv7 : 2 ^ ex ≤ 2 ^ 7 := Nat.pow_le_pow_right (by decide) hex
          obtain ⟨g, off, rfl, c0, c1, c2⟩ := HJ.out.drop.drop.own.rd.item ht
          have h5 := HJ.out.newObj [.int .i64 (sy : Int), .int .i64 (ex : Int), .int .i64 (va : Int)] 100
          have t0 := h5.obj.cell (i := 0) rfl
          have k4 := h5.drop.drop.obj.cell (i := 4) rfl
          have hw : IntKind.u32.wrap (va : Int) = (va : Int) := u32_of _ (by omega)
          have hE : Hid (A2 ++ itemsB hd (xs.take j) ++ symBits hd sy ++ bitsOf ex va = A2 ++ itemsB hd (xs.take (j + 1))) := by
            rw [List.take_add_one, ht]
            unfold itemsB
            simp only [Option.toList_some, List.flatMap_append, List.flatMap_cons, List.flatMap_nil, List.append_nil, List.append_assoc]
            exact hid rfl
          have H5 := hid h5
          have HSY := hid hsy
          clear h5 ht hsy
          go_wp2
          generalize wr.alloc (.cells #[.int .i64 (sy : Int), .int .i64 (ex : Int), .int .i64 (va : Int)] 100) = w5 at t0 k4 H5 ⊢
          go_still_tail 7, (by kernel_rfl)
          change wpList _ _ _ _ _ (World.drew _)
          have h6 := H5.out.drew.swap.perm (List.Perm.cons _ ((List.perm_append_comm (l₁ := [_, _, _, _]) (l₂ := [_])).append_right Rs))
          have HW := hid (h_sym sy h6 HH.out.2.2.1 HSY.out (by have := hsl.out; omega))
          clear h6 t0 k4 H5
          go_wp2_with fail
          with_reducible refine HW.out.mono ?_
          rintro e w6 ⟨rfl, h7⟩
          have t1 := h7.third.obj.cell (i := 1) rfl
          have t2 := h7.third.obj.cell (i := 2) rfl
          have HP := hid (h_put h7 va ex (by omega) (by omega) (by have := hsl.out; have := lenAt_le (m := 7) HH.out.2.1 sy; rw [List.length_append, symBits_length]; omega))
          rw [hE.out] at HP
          clear h7 HW
          go_wp2_with fail
          with_reducible refine HP.out.mono ?_
          rintro e w7 ⟨rfl, h8⟩
          have H8 := hid (h8.third.drop.perm (List.Perm.cons _ ((List.perm_append_comm (l₁ := [_]) (l₂ := [_, _, _])).append_right Rs)))
          clear h8 HP t1 t2 c0 c1 c2
          go_wp2
          go_roundg (gk - 1)
          case measure => omega
          case rel => exact ⟨j + 1, by omega, by omega, by go_num, H8⟩
        · have hjI : ¬ (j : Int) < (m : Int) := by omega
          have hE : Hid (A2 ++ itemsB hd (xs.take j) = acc ++ (bitsOf 5 (n1 - 257) ++ (bitsOf 5 (n2 - 1) ++ (bitsOf 4 (i - 4) ++ (headBits hd i ++ itemsB hd xs))))) := by
            rw [List.take_of_length_le (by have := HH.out.2.2.2.2; omega), HA2.out, HAD.out]
            exact hid (by simp)
          have HJ2 := HJ.out
          rw [hE.out] at HJ2
          have HK := hid HJ2
          clear HJ2 hE
          go_wp2
          go_end0
          exact ⟨rfl, HK.out⟩
set_option maxHeartbeats 3200000 in
theorem dyn_size (lo : Option Addr) (ln lc Bh B1 B2 bits hb : Nat) (hc : w.cell? ⟨Bh, 5, none⟩ = some (.int .i64 (hb : Int))) (h1 : bits < 1000000000000) (h2 : hb < 1000000000000) :
    Calls Tryd.prog 110 #[dynV Bh (.slice lo ln lc) B1 B2 bits] w fun e w' => e = .returned (.int .i64 ((hb + bits : Nat) : Int)) ∧ Mod w w' (fun _ => False) := by
  have hA := (Held.start w).newObj [.pointer (some ⟨Bh, 0, none⟩), .slice lo ln lc, .pointer (some ⟨B1, 0, none⟩), .pointer (some ⟨B2, 0, none⟩), .int .i64 (bits : Int)] 54
  have c5 : (w.alloc (.cells #[.pointer (some ⟨Bh, 0, none⟩), .slice lo ln lc, .pointer (some ⟨B1, 0, none⟩), .pointer (some ⟨B2, 0, none⟩), .int .i64 (bits : Int)] 54)).cell? ⟨Bh, 5, none⟩ = some (.int .i64 (hb : Int)) := by
    rw [hA.mod.cell (World.block_lt_of_cell? w _ hc) (fun h => h)]; exact hc
  have HA := hid hA
  unfold dynV
  go_enter Tryd.func110, Tryd.ntmps110
  go_wp2
  generalize w.alloc (.cells #[.pointer (some ⟨Bh, 0, none⟩), .slice lo ln lc, .pointer (some ⟨B1, 0, none⟩), .pointer (some ⟨B2, 0, none⟩), .int .i64 (bits : Int)] 54) = w1 at c5 HA ⊢
  have k0 := HA.out.obj.cell (i := 0) rfl
  have k1 := HA.out.obj.cell (i := 1) rfl
  have k2 := HA.out.obj.cell (i := 2) rfl
  have k3 := HA.out.obj.cell (i := 3) rfl
  have k4 := HA.out.obj.cell (i := 4) rfl
  have HC := hid (fun k => coded_size (w := w1.drewN k) lo ln lc B1 B2 bits)
  unfold codV at HC
  clear hA hc
  go_region_held3 (fun w' => w'.cell? ⟨Bh, 5, none⟩ = some (.int .i64 (hb : Int)) ∧ w'.cell? ⟨w.heap.size, 0, none⟩ = some (.pointer (some ⟨Bh, 0, none⟩)) ∧ w'.cell? ⟨w.heap.size, 1, none⟩ = some (.slice lo ln lc) ∧ w'.cell? ⟨w.heap.size, 2, none⟩ = some (.pointer (some ⟨B1, 0, none⟩)) ∧ w'.cell? ⟨w.heap.size, 3, none⟩ = some (.pointer (some ⟨B2, 0, none⟩)) ∧ w'.cell? ⟨w.heap.size, 4, none⟩ = some (.int .i64 (bits : Int)))
    (first | exact ⟨d5, e0, e1, e2, e3, e4⟩ | exact ⟨c5, k0, k1, k2, k3, k4⟩ | go_keep)
    ((first
      | (go_at_call 102; refine (HC.out 1).mono ?_; rintro e w5 ⟨rfl, hm⟩; have HA5 := hid (HA.out.drewN 1 |>.same hm); have e0 := HA5.out.obj.cell (i := 0) rfl; have e1 := HA5.out.obj.cell (i := 1) rfl; have e2 := HA5.out.obj.cell (i := 2) rfl; have e3 := HA5.out.obj.cell (i := 3) rfl; have e4 := HA5.out.obj.cell (i := 4) rfl; have d5 : w5.cell? ⟨Bh, 5, none⟩ = some (.int .i64 (hb : Int)) := by (rw [hm.cell (World.block_lt_of_cell? w1 _ c5) (fun h => h)]; exact c5))))
  all_goals
    go_wp2
    go_ret
    exact ⟨ret_int (by rw [← Int.natCast_add]; exact wrap_nat _ (by omega)), HA5.out.mod⟩
set_option maxHeartbeats 1600000 in
theorem dyn_write {Bw n : Nat} {acc : List Nat} {l : List Tok} {S : Thing} (lo : Option Addr) (lc Bh Bt B1 B2 bits : Nat) (iv hv : Value) (h : Held w0 w (wrT Bw acc :: S :: (dynTs l Bh Bt B1 B2 iv hv ++ Rs))) (hr : Reads w0 S 3 (.slice lo n lc) n (toksV l)) (hs : ∀ t ∈ l, soundB t = true) (hb : byteOK l) (hn : n < 1048576) (hacc : acc.length < 1000000000) :
    Calls Tryd.prog 111 #[dynV Bh (.slice lo n lc) B1 B2 bits, .pointer (some ⟨Bw, 0, none⟩)] w fun e w' => e = .returned (.tuple #[]) ∧ Held w0 w' (wrT Bw (acc ++ blkF lensF 2 l [] 0) :: S :: (dynTs l Bh Bt B1 B2 iv hv ++ Rs)) := by
  obtain ⟨lit, hlit⟩ : ∃ lit, lit = litC lensF l := ⟨_, rfl⟩
  obtain ⟨dist, hdist⟩ : ∃ dist, dist = dstL lensF l := ⟨_, rfl⟩
  obtain ⟨xs, hxs⟩ : ∃ xs, xs = itemsOf lit dist := ⟨_, rfl⟩
  obtain ⟨hd, hhd⟩ : ∃ hd, hd = headC lensF xs := ⟨_, rfl⟩
  have a1 := lit_len lensF_LensOK l
  have a2 := dst_len lensF_LensOK l
  have a3 := lit_check lensF_LensOK l
  have a4 := dst_check lensF_LensOK l
  have a5 := covers_dyn lensF_LensOK hs hb
  have a6 := all_app (lit_all lensF_LensOK l) (dst_all lensF_LensOK l)
  have a7 : (blkF lensF 2 l [] 0) = headB (litC lensF l) (dstL lensF l) (headC lensF (itemsOf (litC lensF l) (dstL lensF l))) (itemsOf (litC lensF l) (dstL lensF l)) ++ toksB (litC lensF l) (dstL lensF l) l := rfl
  have b1 := headC_len lensF_LensOK xs
  have b2 := headC_all lensF_LensOK xs
  have b3 := headC_check lensF_LensOK xs
  have b4 : 4 ≤ headN hd := cutN_ge _ (by decide)
  have b5 : headN hd ≤ 19 := cutN_le _
  unfold dynTs at h ⊢
  rw [a7]
  rw [← hlit, ← hdist] at a6 a5 h ⊢
  rw [← hlit] at a1 a3
  rw [← hdist] at a2 a4
  rw [← hxs] at h ⊢
  rw [← hhd] at b1 b2 b3 h ⊢
  have b6 : ∀ x ∈ xs, HasSym hd x.1 ∧ x.1 < 19 ∧ x.2.1 ≤ 7 ∧ x.2.2 < 2 ^ x.2.1 := fun x hx => by
    have h1 := itemsF_sym a6 (lit ++ dist).length 0 x (by rw [hxs] at hx; exact hx)
    exact ⟨by rw [hhd]; exact headC_has lensF_LensOK hx h1.1, h1⟩
  have b7 : xs.length ≤ 1000 := by
    have h1 := itemsF_length (all := lit ++ dist) (lit ++ dist).length 0
    have h2 : xs.length ≤ (lit ++ dist).length := by rw [hxs]; exact h1
    rw [List.length_append] at h2
    omega
  have hE : Hid (headB lit dist hd xs = bitsOf 5 (lit.length - 257) ++ (bitsOf 5 (dist.length - 1) ++ (bitsOf 4 (headN hd - 4) ++ (headBits hd (headN hd) ++ itemsB hd xs)))) := hid rfl
  obtain ⟨N, hN⟩ : ∃ N, N = headN hd := ⟨_, rfl⟩
  rw [← hN] at b4 b5 h hE ⊢
  have hsh : (headB lit dist hd xs).length ≤ 20000 := by
    have h1 := headB_length lit dist hd xs
    have h2 := itemsB_short (hd := hd) b2 (xs := xs) fun x hx => (b6 x hx).2.2.1
    rw [← hN] at h1
    omega
  have HH := hid (And.intro a3 (And.intro a4 (And.intro a5 (And.intro hr (And.intro hs hb)))))
  obtain ⟨io, ic, rfl, _, _⟩ := (h.drop.drop.drop.drop.drop.own).form
  obtain ⟨ha, hc, rfl, _, _⟩ := (h.drop.drop.drop.drop.drop.drop.own).form
  have h1 := (h.newObj [.pointer (some ⟨Bh, 0, none⟩), .slice lo n lc, .pointer (some ⟨B1, 0, none⟩), .pointer (some ⟨B2, 0, none⟩), .int .i64 (bits : Int)] 54).swap.perm (List.Perm.cons _ ((List.perm_append_comm (l₁ := [_, _, _, _]) (l₂ := [_, _, _, _])).append_right Rs))
  have k0 := h1.drop.drop.drop.drop.drop.obj.cell (i := 0) rfl
  have HW := hid (head_write io ha ic hc h1 b1 b2 (fine_of b3) b6 ⟨a1.1, a1.2⟩ ⟨a2.1, a2.2⟩ ⟨b4, b5⟩ b7 rfl (by omega))
  rw [← hE.out] at HW
  clear h h1 hr hs hb a1 a2 a3 a4 a5 a6 a7 b1 b2 b3 b4 b5 b6 b7 hE hN hlit hdist hxs hhd
  have HSH := hid hsh
  clear hsh
  unfold dynV
  go_enter Tryd.func111, Tryd.ntmps111
  go_wp2_with fail
  with_reducible refine HW.out.mono ?_
  rintro e w2 ⟨rfl, h2⟩
  have j1 := h2.drop.drop.drop.drop.drop.obj.cell (i := 1) rfl
  have j2 := h2.drop.drop.drop.drop.drop.obj.cell (i := 2) rfl
  have j3 := h2.drop.drop.drop.drop.drop.obj.cell (i := 3) rfl
  have j4 := h2.drop.drop.drop.drop.drop.obj.cell (i := 4) rfl
  have h3 := (h2.perm (List.Perm.cons _ ((List.perm_append_comm (l₁ := [_, _, _, _, _, _]) (l₂ := [_, _])).append_right Rs))).perm (List.Perm.cons _ (List.Perm.cons _ (List.Perm.cons _ ((List.perm_append_comm (l₁ := [_, _, _, _, _]) (l₂ := [_])).append_right Rs))))
  have HC := hid (cwrite_any (bits := bits) (.slice lo n lc) l h3 HH.out.2.2.2.1 (fine_of HH.out.1) (fine_of HH.out.2.1) HH.out.2.2.2.2.1 HH.out.2.2.2.2.2 HH.out.2.2.1 hn (by have := HSH.out; rw [List.length_append]; omega))
  unfold codV at HC
  clear h2 h3 HW k0
  go_wp2_with fail
  with_reducible refine HC.out.mono ?_
  rintro e w3 ⟨rfl, h4⟩
  rw [List.append_assoc] at h4
  have H5 := hid ((h4.perm ((List.perm_append_comm (l₁ := [_, _, _, _, _, _, _, _]) (l₂ := [_])).append_right Rs)).drop.perm (List.Perm.cons _ ((List.perm_append_comm (l₁ := [_, _]) (l₂ := [_])).append_right _)))
  clear h4 HC j1 j2 j3 j4
  go_wp2
  go_end0
  exact ⟨rfl, H5.out⟩
end
end Go.Proofs.YthibpnkdhbkakaaDoor
/-
  What a program that writes blocks is to do, as a statement that the program's own text must show ('BlockOK', for some bits of a block behind its first three); the laws' own example.
-/
namespace Go.Proofs.YthibpnkdhbkakaaDoor
set_option maxRecDepth 5000
open Go.RowKit

def allSound (l : List Tok) : Prop := ∀ t ∈ l, soundB t = true
/-- what may be written as a block of that kind -/
def mayK (kind : Int) (l : List Tok) (raw : List Nat) : Prop := kind = 0 ∧ raw.length ≤ 65535 ∨ (kind = 1 ∨ kind = 2) ∧ allSound l ∧ l.length < 1048576
instance (l : List Tok) : Decidable (allSound l) := by unfold allSound; infer_instance
instance (kind : Int) (l : List Tok) (raw : List Nat) : Decidable (mayK kind l raw) := by unfold mayK; infer_instance
section
variable (F : Nat → List Tok → List Nat → Nat → List Nat)
/-- a block that begins at a place -/
def blkBits (kind : Nat) (l : List Tok) (raw : List Nat) (last : Bool) (a : Nat) : List Nat := bitsOf 3 ((if last then 1 else 0) + 2 * kind) ++ F kind l raw (a + 3)
def costK (kind : Int) (l : List Tok) (raw : List Nat) : Int := if mayK kind l raw then ((3 + (F kind.toNat l raw 3).length : Nat) : Int) else -1
/-- the kind of the lowest cost, the first of equal ones; -1 if there is none -/
def bestStep (b : Int × Int) (k c : Int) : Int × Int := if 0 ≤ c ∧ (b.1 < 0 ∨ c < b.2) then (k, c) else b
def bestK (l : List Tok) (raw : List Nat) : Int × Int :=
  bestStep (bestStep (bestStep (-1, 0) 0 (costK F 0 l raw)) 1 (costK F 1 l raw)) 2 (costK F 2 l raw)
structure BlockOK (Lv : World → Prop) : Prop where
  good : ∀ (kind : Nat) (l : List Tok) (raw : List Nat) (a : Nat), mayK kind l raw → byteOK l → (∀ b ∈ raw, b < 256) → BlockBits l raw a kind (F kind l raw a)
  place : ∀ (kind : Nat) (l : List Tok) (raw : List Nat) (a b : Nat), a % 8 = b % 8 → F kind l raw a = F kind l raw b
  short : ∀ (kind : Nat) (l : List Tok) (raw : List Nat) (a : Nat), mayK kind l raw → (F kind l raw a).length < 1000000 + 100 * l.length
  write : ∀ (kind : Nat) (l : List Tok) (raw acc : List Nat) (last : Bool) (v u : Value) (n m B : Nat) (w0 w : World) (S : Thing) (Rs : List Thing), Lv w0 → Held w0 w (wrT B acc :: S :: Rs) → Reads w0 S 3 v n (toksV l) → Reads w0 S 1 u m (u8s raw) → byteOK l → (∀ b ∈ raw, b < 256) → n < 1000000000 → m < 1000000000 → acc.length < 900000000 → mayK kind l raw →
    Calls Tryd.prog 7 #[.pointer (some ⟨B, 0, none⟩), .int .i64 (kind : Int), v, u, .bool last] w fun e w' => e = .returned (.bool true) ∧ Held w0 w' (wrT B (acc ++ blkBits F kind l raw last acc.length) :: S :: Rs)
  writeNo : ∀ (kind : Int) (l : List Tok) (raw acc : List Nat) (last : Bool) (v u : Value) (n m B : Nat) (w0 w : World) (Rs : List Thing), Lv w0 → Held w0 w (wrT B acc :: Rs) → Rd w 3 v n (toksV l) → Rd w 1 u m (u8s raw) → byteOK l → (∀ b ∈ raw, b < 256) → n < 1000000000 → m < 1000000000 → acc.length < 1000000000 → ¬ mayK kind l raw →
    Calls Tryd.prog 7 #[.pointer (some ⟨B, 0, none⟩), .int .i64 kind, v, u, .bool last] w fun e w' => e = .returned (.bool false) ∧ Held w0 w' (wrT B acc :: Rs)
  cost : ∀ (kind : Int) (l : List Tok) (raw : List Nat) (v u : Value) (n m : Nat) (w0 w : World) (Rs : List Thing), Lv w0 → Held w0 w Rs → Rd w 3 v n (toksV l) → Rd w 1 u m (u8s raw) → byteOK l → (∀ b ∈ raw, b < 256) → n < 1000000000 → m < 1000000000 →
    Calls Tryd.prog 9 #[.int .i64 kind, v, u] w fun e w' => e = .returned (.int .i64 (costK F kind l raw)) ∧ Held w0 w' Rs
  best : ∀ (l : List Tok) (raw acc : List Nat) (last : Bool) (v u : Value) (n m B : Nat) (w0 w : World) (S : Thing) (Rs : List Thing), Lv w0 → Held w0 w (wrT B acc :: S :: Rs) → Reads w0 S 3 v n (toksV l) → Reads w0 S 1 u m (u8s raw) → byteOK l → (∀ b ∈ raw, b < 256) → n < 1000000000 → m < 1000000000 → acc.length < 900000000 →
    Calls Tryd.prog 10 #[.pointer (some ⟨B, 0, none⟩), v, u, .bool last] w fun e w' => e = .returned (.int .i64 (bestK F l raw).1) ∧ Held w0 w' (wrT B (if (bestK F l raw).1 < 0 then acc else acc ++ blkBits F (bestK F l raw).1.toNat l raw last acc.length) :: S :: Rs)
  fixed : ∀ (w0 w : World) (Rs : List Thing), Held w0 w Rs →
    Calls Tryd.prog 22 #[] w fun e w' => ∃ v u, e = .returned (.tuple #[v, u]) ∧ Held w0 w' (ownT 3 1 v 288 (ints fixLit) :: ownT 3 1 u 32 (ints fixDist) :: Rs)
end
section
variable {F : Nat → List Tok → List Nat → Nat → List Nat} {Lv : World → Prop} {w0 w : World} {Rs : List Thing}
theorem BlockBits.fixed_nil {raw bs : List Nat} {a : Nat} (h : BlockBits [] raw a 1 bs) : bs = [0, 0, 0, 0, 0, 0, 0] := by
  generalize hk : 1 = k at h
  cases h with
  | stored => omega
  | fixed bs h =>
    cases h
    decide +kernel
  | dynamic => omega
theorem mayK_fix : mayK 1 [] [] := by decide
theorem BlockOK.empty (H : BlockOK F Lv) (a : Nat) : F 1 [] [] a = [0, 0, 0, 0, 0, 0, 0] :=
  (H.good 1 [] [] a mayK_fix (fun _ h => by cases h) (fun _ h => by cases h)).fixed_nil
theorem BlockOK.empty_last (H : BlockOK F Lv) (a : Nat) : blkBits F 1 [] [] true a = [1, 1, 0, 0, 0, 0, 0, 0, 0, 0] := by
  unfold blkBits
  rw [H.empty]
  decide
/-- what is read is older than all -/
theorem BlockOK.write_old (H : BlockOK F Lv) (kind : Nat) (l : List Tok) (raw acc : List Nat) (last : Bool) (v u : Value) (n m B : Nat) (w0 w : World) (Rs : List Thing) (hL : Lv w0) (h : Held w0 w (wrT B acc :: Rs)) (hv : Rd w0 3 v n (toksV l)) (hu : Rd w0 1 u m (u8s raw)) (hb : byteOK l) (hr : ∀ b ∈ raw, b < 256) (hn : n < 1000000000) (hm : m < 1000000000) (ha : acc.length < 900000000) (hk : mayK kind l raw) :
    Calls Tryd.prog 7 #[.pointer (some ⟨B, 0, none⟩), .int .i64 (kind : Int), v, u, .bool last] w fun e w' => e = .returned (.bool true) ∧ Held w0 w' (wrT B (acc ++ blkBits F kind l raw last acc.length) :: Rs) :=
  (H.write kind l raw acc last v u n m B w0 w nonT Rs hL h.addNon.swap (Reads.old hv (by decide)) (Reads.old hu (by decide)) hb hr hn hm ha hk).mono fun _ _ ⟨h1, h2⟩ => ⟨h1, h2.swap.drop⟩
theorem eg_bytes : bytesOf (evened ([] ++ [1, 1, 0, 0, 0, 0, 0, 0, 0, 0])) = [3, 0] := by decide
theorem h_equal10 (h : Held w0 w Rs) (v u : Value) (a : List Nat) (n : Nat) (hv : Rd w 1 v n (u8s a)) (hu : Rd w 1 u n (u8s a)) (hal : n < 8000000000) :
    Calls Tryd.prog 12 #[v, u] w fun e w' => e = .returned (.bool true) ∧ Held w0 w' Rs := by
  have hn : n = a.length := by have := hv.1; rw [u8s_length] at this; omega
  subst hn
  exact (same_any v u a a w hv hu hal).mono fun _ _ ⟨h1, k, h2⟩ => ⟨by rw [h1]; simp, by rw [h2]; exact h.drewN k⟩
set_option maxHeartbeats 1600000 in
theorem h_answers10 (HB : BlockOK F Lv) (HLV : Lv w0) (h : Held w0 w Rs) :
    Calls Tryd.prog 4 #[] w fun e w' => e = .returned (.bool true) ∧ Held w0 w' Rs := by
  have HN := hid (h_newW h)
  clear h
  go_enter Tryd.func4, Tryd.ntmps4
  go_wp2_with fail
  refine HN.out.mono ?_
  rintro e w1 ⟨B, rfl, hh⟩
  have HW := hid (HB.write_old 1 [] [] [] true (.slice none 0 0) (.slice none 0 0) 0 0 B w0 w1 Rs HLV hh ⟨rfl, none, 0, rfl, Nat.le_refl _, by decide, fun _ => rfl, .inl rfl⟩ ⟨rfl, none, 0, rfl, Nat.le_refl _, by decide, fun _ => rfl, .inl rfl⟩ (fun _ h => by cases h) (fun _ h => by cases h) (by decide) (by decide) (by decide) mayK_fix)
  rw [HB.empty_last] at HW
  clear HN hh
  go_wp2_with fail
  refine HW.out.mono ?_
  rintro e w2 ⟨rfl, hh⟩
  have HA := hid (h_walign hh (by decide))
  clear HW hh
  go_wp2_with fail
  refine HA.out.mono ?_
  rintro e w3 ⟨rfl, hh⟩
  have HT := hid (h_take hh)
  rw [eg_bytes] at HT
  clear HA hh
  go_wp2_with fail
  refine HT.out.mono ?_
  rintro e w4 ⟨d, rfl, hh⟩
  obtain ⟨ao, cap, rfl, _, _⟩ := hh.own.form
  clear HT
  have HE := hid (h_equal10 (hh.lit 5 1 (u8s [3, 0]) 2 (by decide) rfl) (.slice ao 2 cap) (.slice (some ⟨w4.heap.size, 0, none⟩) 2 2) [3, 0] 2 (hh.lit 5 1 (u8s [3, 0]) 2 (by decide) rfl).drop.own.rd (hh.lit 5 1 (u8s [3, 0]) 2 (by decide) rfl).own.rd (by decide))
  clear hh
  go_wp2_with fail
  refine HE.out.mono ?_
  rintro e w5 ⟨rfl, hh⟩
  have HF := hid hh.drop.drop.drop
  clear hh HE
  go_wp2
  go_ret
  exact ⟨rfl, HF.out⟩
end
end Go.Proofs.YthibpnkdhbkakaaDoor
