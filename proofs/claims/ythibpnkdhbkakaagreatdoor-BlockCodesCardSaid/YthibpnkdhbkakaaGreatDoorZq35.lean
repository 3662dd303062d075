/-
  The law BlockCheap, by what a writer of blocks is to do ('BlockOK').
-/
import Derived.Test.YthibpnkdhbkakaaGreatDoorZq34
import Derived.Test.YthibpnkdhbkakaaGreatDoorZq32
import Derived.Test.YthibpnkdhbkakaaGreatDoorRows
import Derived.Test.YthibpnkdhbkakaaGreatDoorZq22
import Derived.ProofKit
import Derived.LaidMore
import Derived.OpenShut
import Derived.Deep.Strs
import Derived.Stop.Joined
namespace Go.Proofs.YthibpnkdhbkakaaGreatDoor
set_option maxRecDepth 5000
open Go.RowKit

section
variable {F : Nat → List Tok → List Nat → Nat → List Nat} {Lv : World → Prop} {w0 w : World} {Rs : List Thing}
def bestN (F : Nat → List Tok → List Nat → Nat → List Nat) (l : List Tok) (raw : List Nat) : Nat → Int × Int
  | 0 => (-1, 0)
  | i + 1 => bestStep (bestN F l raw i) (i : Int) (costK F (i : Int) l raw)
theorem bestN_best (F : Nat → List Tok → List Nat → Nat → List Nat) (l : List Tok) (raw : List Nat) : bestN F l raw 3 = bestK F l raw := rfl
theorem expT_byte : ∀ (l : List Tok) (acc : List Nat), byteOK l → (∀ b ∈ acc, b < 256) → ∀ b ∈ (expT acc l).2, b < 256
  | [], _, _, h => h
  | t :: r, acc, hl, h => by
    rw [expT_cons]
    split
    · refine expT_byte r _ (fun x hx => hl x (List.mem_cons_of_mem _ hx)) ?_
      have h0 := hl t (List.mem_cons_self ..)
      unfold stepT
      split
      · intro b hb; cases hb
      · split
        · split
          · intro b hb; cases hb
          · intro b hb
            rcases List.mem_append.1 hb with hb | hb
            · exact h b hb
            · have := List.mem_singleton.1 hb
              omega
        · split
          · intro b hb; cases hb
          · split
            · intro b hb; cases hb
            · exact ext_lt acc _ h _
    · intro b hb; cases hb
set_option maxRecDepth 100000 in
set_option maxHeartbeats 3200000 in
theorem blockCheap_from (HB : BlockOK F Lv) (v : Value) (l : List Tok) (last : Bool) (w : World) (HLV : Lv w) (hok : byteOK l) (hv : Rd w 3 v l.length (toksV l)) :
    Calls Tryz.prog 4 #[v, .bool last] w fun e w' => e = .returned (.bool true) ∧ Below w.heap.size w w' := by
  obtain ⟨n, hn⟩ : ∃ n, n = l.length := ⟨_, rfl⟩
  rw [← hn] at hv
  obtain ⟨ao, cap, rfl, _, _⟩ := hv.form
  have HV := hid hv
  have HN := hid hn
  have HK := hid hok
  have HX := hid HB
  have hn0 : (0 : Int) ≤ (n : Int) := Int.natCast_nonneg _
  have HA := hid (fun (w' : World) (Rs : List Thing) (h : Held w w' Rs) => h_answers10 HB HLV h)
  have HS := hid (h_sound10 (Held.start w) (.slice ao n cap) n l hv hok)
  clear hv hn hok HB
  by_cases h1 : 400 < n
  · have h1I : (400 : Int) < (n : Int) := by omega
    go_enter Tryz.func4, Tryz.ntmps4
    go_wp2_with fail
    refine (HA.out _ _ (Held.start w)).mono ?_
    rintro e w1 ⟨rfl, hh⟩
    have H1 := hid hh.mod.toBelow
    clear hh
    go_wp2
    go_ret
    exact ⟨rfl, H1.out⟩
  · have h1I : ¬ (400 : Int) < (n : Int) := by omega
    go_enter Tryz.func4, Tryz.ntmps4
    go_wp2_with fail
    refine (HS.out (by omega)).mono ?_
    rintro e w1 ⟨rfl, hh⟩
    have H1 := hid hh
    clear hh HS
    by_cases hs : (expT [] l).1 = 0
    · rw [decide_eq_true hs]
      have hsnd := expT_sound l [] hs
      have he : expT [] l = (0, (expT [] l).2) := Prod.ext hs rfl
      have hXm : (expT [] l).2.length ≤ 16777216 := expT_le l [] (Nat.zero_le _)
      have hXb : ∀ b ∈ (expT [] l).2, b < 256 := expT_byte l [] HK.out (fun _ h => by cases h)
      have HR := hid (refexpand_any (.slice ao n cap) n l w1 (H1.out.old HV.out) HK.out (by omega))
      generalize (expT [] l).2 = X at *
      obtain ⟨m, hm⟩ : ∃ m, m = X.length := ⟨_, rfl⟩
      rw [← hm] at HR hXm
      have HM := hid hm
      clear hm
      go_wp2_with fail
      refine HR.out.mono ?_
      rintro e w2 ⟨u, rfl, hh⟩
      obtain ⟨bo, bcap, rfl, _, _⟩ := hh.own.form
      have H2 := hid (H1.out.frame hh)
      clear hh HR H1
      have HW := hid (h_newW H2.out)
      go_wp2_with fail
      refine HW.out.mono ?_
      rintro e w3 ⟨B, rfl, hh⟩
      have hch := best_chosen (F := F) (raw := X) hsnd (by have := HN.out; omega)
      have HBE := hid (HX.out.best l X [] last (.slice ao n cap) (.slice bo m bcap) n m B w w3 _ _ HLV hh (Reads.old HV.out (by decide)) (Reads.own w _ 1 _ _ _) HK.out hXb (by omega) (by omega) (by decide))
      clear hh HW H2
      go_wp2_with fail
      refine HBE.out.mono ?_
      rintro e w4 ⟨rfl, hh⟩
      have H4 := hid hh
      clear hh HBE
      have HC := hid (fun (i : Nat) (w' : World) (Rs : List Thing) (u : Value) (h : Held w w' Rs) (hu : Rd w' 1 u m (u8s X)) => HX.out.cost (i : Int) l X (.slice ao n cap) u n m w w' Rs HLV h (h.old HV.out) hu HK.out hXb (by omega) (by omega))
      have HTH := hid H4.out
      generalize hL : wrT B (if (bestK F l X).1 < 0 then [] else [] ++ blkBits F (bestK F l X).1.toNat l X last ([] : List Nat).length) = WT at *
      have HLL := hid hL
      clear hL HTH
      go_wp2
      go_loopg [9, 10, 11] 5 (fun k t9 t10 t11 wr => ∃ i : Nat, i ≤ 3 ∧ 3 - i < k ∧ t11 = .int .i64 (i : Int) ∧ t9 = .int .i64 (bestN F l X i).1 ∧ t10 = .int .i64 (bestN F l X i).2 ∧ Hid (Held w wr [WT, ownT 5 1 (.slice bo m bcap) m (u8s X)]))
      case atStart => exact ⟨0, by omega, by omega, rfl, rfl, rfl, H4⟩
      case round =>
        obtain ⟨i, hi, hkk, rfl, rfl, rfl, HH⟩ := hrel
        have hi0 : (0 : Int) ≤ (i : Int) := Int.natCast_nonneg _
        by_cases hin : i < 3
        · have hiI : (i : Int) < 3 := by omega
          have HC2 := hid (HC.out i _ _ (.slice bo m bcap) HH.out HH.out.swap.own.rd)
          have hst : bestN F l X (i + 1) = bestStep (bestN F l X i) (i : Int) (costK F (i : Int) l X) := rfl
          obtain ⟨b1, b2, hbn⟩ : ∃ b1 b2, bestN F l X i = (b1, b2) := ⟨_, _, rfl⟩
          rw [hbn] at hst ⊢
          unfold bestStep at hst
          generalize costK F (i : Int) l X = cst at hst HC2
          dsimp only at hst ⊢
          clear hbn
          go_wp2_with fail
          refine HC2.out.mono ?_
          rintro e w5 ⟨rfl, hh⟩
          have H5 := hid hh
          clear hh HC2
          by_cases c1 : (0 : Int) ≤ cst
          · by_cases c2 : b1 < 0
            · rw [if_pos ⟨c1, .inl c2⟩] at hst
              have HST := hid hst
              clear hst
              go_wp2
              go_roundg (gk - 1)
              case measure => omega
              case rel => exact ⟨i + 1, by omega, by omega, by go_num, by rw [HST.out], by rw [HST.out], H5⟩
            · by_cases c3 : cst < b2
              · rw [if_pos ⟨c1, .inr c3⟩] at hst
                have HST := hid hst
                clear hst
                go_wp2
                go_roundg (gk - 1)
                case measure => omega
                case rel => exact ⟨i + 1, by omega, by omega, by go_num, by rw [HST.out], by rw [HST.out], H5⟩
              · rw [if_neg (fun h => by rcases h.2 with h | h <;> contradiction)] at hst
                have HST := hid hst
                clear hst
                go_wp2
                go_roundg (gk - 1)
                case measure => omega
                case rel => exact ⟨i + 1, by omega, by omega, by go_num, by rw [HST.out], by rw [HST.out], H5⟩
          · rw [if_neg (fun h => c1 h.1)] at hst
            have HST := hid hst
            clear hst
            go_wp2
            go_roundg (gk - 1)
            case measure => omega
            case rel => exact ⟨i + 1, by omega, by omega, by go_num, by rw [HST.out], by rw [HST.out], H5⟩
        · obtain rfl : i = 3 := by omega
          rw [bestN_best]
          have hLL := HLL.out
          obtain ⟨kk, e1, hmy, e2⟩ := hch
          have hk3 := mayK_kind hmy
          rw [e1, if_neg (by omega), Int.toNat_natCast, List.nil_append, List.length_nil] at hLL
          rw [e1, e2]
          obtain rfl := hLL
          have hshort := HX.out.short kk l X 3 hmy
          have hout : outOf kk X [] X = X := by unfold outOf; split <;> simp
          have hgood := HX.out.good kk l X 3 hmy HK.out hXb
          have hbl : (blkBits F kk l X last 0).length = 3 + (F kk l X 3).length := by rw [blkBits, List.length_append, bitsOf_length]
          have hbb : isBits (blkBits F kk l X last 0) := isBits_append (bitsOf_isBits _ _) hgood.isBits
          have h9 : ∀ {w' : World} {Z1 Z2 Z3 Z4 Z5 Z6 Z7 Z8 : Thing}, Held w w' [Z1, Z2, Z3, Z4, Z5, Z6, Z7, Z8, ownT 5 1 (.slice bo m bcap) m (u8s X)] → Rd w' 1 (.slice bo m bcap) m (u8s X) := fun h => h.drop.drop.drop.drop.drop.drop.drop.drop.own.rd
          go_wp2_with fail
          refine (HA.out _ _ HH.out).mono ?_
          rintro e w6 ⟨rfl, hh⟩
          have HB3 := hid (h_wbits hh (by have := HN.out; omega))
          rw [hbl] at HB3
          clear hh
          go_wp2_with fail
          refine HB3.out.mono ?_
          rintro e w7 ⟨rfl, hh⟩
          clear HB3
          cases last
          · have H7 := hid hh
            have HW2 := hid (HX.out.write_old 1 [] [] _ true (.slice none 0 0) (.slice none 0 0) 0 0 B w w7 _ HLV hh ⟨rfl, none, 0, rfl, Nat.le_refl _, by decide, fun _ => rfl, .inl rfl⟩ ⟨rfl, none, 0, rfl, Nat.le_refl _, by decide, fun _ => rfl, .inl rfl⟩ (fun _ h => by cases h) (fun _ h => by cases h) (by decide) (by decide) (by have := HN.out; omega) mayK_fix)
            obtain ⟨p, tk, ks, ss, hread⟩ := cheap_read (M := 16777216) HX.out hmy HK.out hXb he (by have := HM.out; omega) (by have := HM.out; omega) rfl
            have hAl : (blkBits F kk l X false 0 ++ blkBits F 1 [] [] true (blkBits F kk l X false 0).length).length = 13 + (F kk l X 3).length := by rw [List.length_append, HX.out.empty_last, hbl]; simp; omega
            have hAb : isBits (blkBits F kk l X false 0 ++ blkBits F 1 [] [] true (blkBits F kk l X false 0).length) := isBits_append hbb (by rw [HX.out.empty_last]; unfold isBits; decide)
            clear hh
            generalize blkBits F kk l X false 0 ++ blkBits F 1 [] [] true (blkBits F kk l X false 0).length = A at *
            have hYl : (bytesOf (evened A)).length < 400000 := by rw [evened_octets, hAl]; have := HN.out; omega
            have e16 : (16777216 : Int).toNat = 16777216 := rfl
            have HI := hid (fun (w' : World) (Rs : List Thing) (d : Value) (h : Held w w' (rdT 1 d (bytesOf (evened A)).length (u8s (bytesOf (evened A))) :: Rs)) => inflate_any d (bytesOf (evened A)) 16777216 h (bytesOf_lt _ (evened_isBits hAb)) hYl (by decide) (by decide))
            simp only [bits8_bytesOf _ (evened_isBits hAb) (evened_length A), e16, hread] at HI
            clear hread
            go_wp2_with fail
            refine HW2.out.mono ?_
            rintro e w75 ⟨rfl, hh⟩
            clear HW2 H7
            have HAL := hid (h_walign hh (by have := HN.out; omega))
            clear hh
            go_wp2_with fail
            refine HAL.out.mono ?_
            rintro e w8 ⟨rfl, hh⟩
            have HT := hid (h_take hh)
            generalize bytesOf (evened A) = Y at *
            obtain ⟨ny, hny⟩ : ∃ ny, ny = Y.length := ⟨_, rfl⟩
            rw [← hny] at HT HI hYl
            have HNY := hid hny
            clear hh hny
            go_wp2_with fail
            refine HT.out.mono ?_
            rintro e w9 ⟨d, rfl, hh⟩
            obtain ⟨dbo, dcap, rfl, _, _⟩ := hh.own.form
            have HI2 := hid (HI.out _ _ _ hh.toRd)
            clear hh HI HT
            go_wp2_with fail
            refine HI2.out.mono ?_
            rintro e w10 ⟨B2, rfl, sb, sc, sm, sa, hsm, oo, oc, k, ko, kc, nk, so, stc, ns, tt, tc, nt, li, di, lc, dc, hk, hnk, hns, hnt, hh⟩
            dsimp only at hk hnk hns hnt hh
            unfold ptrV
            rw [hout] at hk hh
            obtain rfl : k = m := hk.trans HM.out.symm
            have H10 := hid hh
            clear hh HI2 hk hnk hns hnt
            have HQ := hid (h_equal10 H10.out (.slice oo k oc) (.slice bo k bcap) X k H10.out.third.own.rd (h9 H10.out) (by omega))
            have q0 := H10.out.obj.cell (i := 0) rfl
            have q1 := H10.out.obj.cell (i := 1) rfl
            go_wp2_with fail
            refine HQ.out.mono ?_
            rintro e w11 ⟨rfl, hh⟩
            have H11 := hid hh.mod.toBelow
            clear hh HQ
            go_wp2
            go_ret
            exact ⟨rfl, H11.out⟩
          · obtain ⟨p, ss, hread⟩ := means_read (a := 0) (M := 16777216) HX.out hmy HK.out hXb he (by have := HM.out; omega) (by have := HM.out; omega)
            rw [show gaps 0 ++ blkBits F kk l X true (gaps 0).length = blkBits F kk l X true 0 from rfl] at hread
            have hAl := hbl
            have hAb := hbb
            generalize blkBits F kk l X true 0 = A at *
            have hYl : (bytesOf (evened A)).length < 400000 := by rw [evened_octets, hAl]; have := HN.out; omega
            have e16 : (16777216 : Int).toNat = 16777216 := rfl
            have HI := hid (fun (w' : World) (Rs : List Thing) (d : Value) (h : Held w w' (rdT 1 d (bytesOf (evened A)).length (u8s (bytesOf (evened A))) :: Rs)) => inflate_any d (bytesOf (evened A)) 16777216 h (bytesOf_lt _ (evened_isBits hAb)) hYl (by decide) (by decide))
            simp only [bits8_bytesOf _ (evened_isBits hAb) (evened_length A), e16, hread] at HI
            clear hread
            have HAL := hid (h_walign hh (by have := HN.out; omega))
            clear hh
            go_wp2_with fail
            refine HAL.out.mono ?_
            rintro e w8 ⟨rfl, hh⟩
            have HT := hid (h_take hh)
            generalize bytesOf (evened A) = Y at *
            obtain ⟨ny, hny⟩ : ∃ ny, ny = Y.length := ⟨_, rfl⟩
            rw [← hny] at HT HI hYl
            have HNY := hid hny
            clear hh hny
            go_wp2_with fail
            refine HT.out.mono ?_
            rintro e w9 ⟨d, rfl, hh⟩
            obtain ⟨dbo, dcap, rfl, _, _⟩ := hh.own.form
            have HI2 := hid (HI.out _ _ _ hh.toRd)
            clear hh HI HT
            go_wp2_with fail
            refine HI2.out.mono ?_
            rintro e w10 ⟨B2, rfl, sb, sc, sm, sa, hsm, oo, oc, k, ko, kc, nk, so, stc, ns, tt, tc, nt, li, di, lc, dc, hk, hnk, hns, hnt, hh⟩
            dsimp only at hk hnk hns hnt hh
            unfold ptrV
            rw [hout] at hk hh
            obtain rfl : k = m := hk.trans HM.out.symm
            have H10 := hid hh
            clear hh HI2 hk hnk hns hnt
            have HQ := hid (h_equal10 H10.out (.slice oo k oc) (.slice bo k bcap) X k H10.out.third.own.rd (h9 H10.out) (by omega))
            have q0 := H10.out.obj.cell (i := 0) rfl
            have q1 := H10.out.obj.cell (i := 1) rfl
            go_wp2_with fail
            refine HQ.out.mono ?_
            rintro e w11 ⟨rfl, hh⟩
            have H11 := hid hh.mod.toBelow
            clear hh HQ
            go_wp2
            go_ret
            exact ⟨rfl, H11.out⟩
    · rw [decide_eq_false hs]
      go_wp2_with fail
      refine (HA.out _ _ H1.out).mono ?_
      rintro e w2 ⟨rfl, hh⟩
      have H2 := hid hh.mod.toBelow
      clear hh
      go_wp2
      go_ret
      exact ⟨rfl, H2.out⟩
end
end Go.Proofs.YthibpnkdhbkakaaGreatDoor
/-
  The laws BlockMeans and BlockCheap over the landed package.
-/
namespace Go.Proofs.YthibpnkdhbkakaaGreatDoor
set_option maxRecDepth 5000
open Go.RowKit

def shRaw1 : Shape Tryz.prog Int := shInt 5 .u8 Tryz.underlying5 (by kernel_rfl)
def shRaw : Shape Tryz.prog (List Int) := shSlice shRaw1 23 Tryz.underlying23 (by kernel_rfl) (by decide)
theorem raw_of {w : World} {v : Value} {l : List Int} (h : shRaw.good w [v] l) : ∃ bs : List Nat, (∀ b ∈ bs, b < 256) ∧ Rd w 1 v bs.length (u8s bs) := by
  obtain ⟨v', hv, hs⟩ := h
  obtain rfl : v = v' := by simpa using hv
  obtain ⟨b, _, h1, h2⟩ := hs.bytes
  exact ⟨b, h1, h2⟩
theorem blockMeans_at (kind : Int) (v : Value) (l : List Tok) (u : Value) (b : List Int) (ahead : Int) (w : World) (HLV : Ordr w) (hk : (Lit.int .i64 kind).wf = true) (hg : shToks.good w [v] l) (hgb : shRaw.good w [u] b) (ha : (Lit.int .u8 ahead).wf = true) :
    Calls Tryz.prog 3 #[.int .i64 kind, v, u, .int .u8 ahead] w fun e w' => e = .returned (.bool true) ∧ Below w.heap.size w w' := by
  obtain ⟨hok, hv⟩ := toks_of hg
  obtain ⟨raw, hr, hu⟩ := raw_of hgb
  exact blockMeans_from blockOK kind v l u raw ahead w HLV hk hok hv hr hu (Go.bounds_u8 ha)
theorem blockCheap_at (v : Value) (l : List Tok) (last : Bool) (w : World) (HLV : Ordr w) (hg : shToks.good w [v] l) :
    Calls Tryz.prog 4 #[v, .bool last] w fun e w' => e = .returned (.bool true) ∧ Below w.heap.size w w' := by
  obtain ⟨hok, hv⟩ := toks_of hg
  exact blockCheap_from blockOK v l last w HLV hok hv
end Go.Proofs.YthibpnkdhbkakaaGreatDoor
/-
  From the row's condition on the package-level array of the order of lengths to the array's cells; a start that meets it.
-/
namespace Go.Proofs.YthibpnkdhbkakaaGreatDoor
set_option maxRecDepth 5000
open Go.ChangeShapes Go.WideShapes Go.ChangeAt Go.RowKit

def laidOrd : List (String × DataW Unit) := [("concertina/block.order", Rows.laid_concertina_block_order)]
theorem gOrd : Tryz.prog.globalNamed "concertina/block.order" = some 0 := by kernel_rfl
theorem tOrd : (Tryz.prog.globals[0]?).map (·.type) = some 127 := by kernel_rfl
theorem cells_intO : Tryz.prog.cellsOf 3 = 1 := by kernel_rfl
theorem ord_met (os : Os) (args : Array Value) : laidMetH Tryz.prog laidOrd ((World.doorLaid Tryz.prog 400 os).forCall (fun _ _ => 0) ⟨#[], args, []⟩).memory :=
  laidMetH_of_parts3 (fuel := 8) (laidMet_of_run' 8 (by kernel_rfl) (by kernel_rfl)) (by kernel_rfl) (by kernel_rfl)
section
variable {H : Type} {enc : TypeId × Value → H} {W : World} {base : Nat} {sp : Nat → Bool} {held : Bool}
theorem ord_int {m : Nat} {cs : List Value} {y : DataW H × List MemPlace} {a : Int} (h : DataW.trod enc Tryz.prog W base sp held m 3 cs = some y) (hy : y.1 = .lit (.int .i64 a)) : cs = [.int .i64 a] := by
  obtain ⟨n, e1, e2, _⟩ := DataW.trod_int Tryz.underlying3 h
  rw [e2] at hy
  have : n = a := by simpa using hy
  rw [← this]; exact e1
theorem ord_of_laid (h : laidMetH Tryz.prog laidOrd W) : Ordr W := by
  rw [MakeChecks.laidMetH_plain _ _ _ (by kernel_rfl)] at h
  obtain ⟨ps, ⟨g0, t0, cs, f0, p0, q0, hg0, ht0, hv0, hd0, _, _⟩, _, _⟩ := h
  obtain rfl := Option.some.inj (gOrd.symm.trans hg0)
  obtain rfl := Option.some.inj (tOrd.symm.trans ht0)
  obtain ⟨xs, m, _, hx, hlen, hn, hel⟩ := DataW.trod_array Tryz.underlying127 hd0
  have hxs : xs.map (·.1) = orderF.map fun (t : Nat) => DataW.lit (.int .i64 (t : Int)) := by
    have e := congrArg Prod.fst hx
    exact (DataW.agg.inj e).symm
  intro i v hv
  have hi : i < 19 := (List.getElem?_eq_some_iff.1 hv).1
  have hcell := World.var?_cell hg0 hv0 i
  rw [hcell]
  have h1 := hel i hi
  rw [cells_intO] at h1
  have h2 : xs[i]? = some (xs[i]'(by omega)) := List.getElem?_eq_getElem _
  rw [h2] at h1
  obtain ⟨o, ho⟩ : ∃ o, orderF[i]? = some o := ⟨orderF[i]'hi, List.getElem?_eq_getElem _⟩
  have h3 := congrArg (fun l => l[i]?) hxs
  simp only [List.getElem?_map] at h3
  rw [h2, ho] at h3
  have h4 := ord_int h1 (by simpa using h3)
  have h5 := congrArg (fun l => l[0]?) h4
  simp only [List.getElem?_take, List.getElem?_drop] at h5
  rw [Nat.mul_one] at h5
  simp at h5
  have h6 : v = .int .i64 (o : Int) := by
    simp [nums, ho] at hv
    exact hv.symm
  rw [h6, h5]
end
end Go.Proofs.YthibpnkdhbkakaaGreatDoor
