/-
  An append to an own slice, among what a call holds. No program is named here.
-/
import Derived.Test.YtmmfkppkmgjljaaDoorZE04
import Derived.Test.YtmmfkppkmgjljaaDoorZE06
import Derived.Test.YtmmfkppkmgjljaaDoorZE03
import Derived.StillTailTactics
import Derived.Deep.DeepMust
namespace Go.Proofs.YtmmfkppkmgjljaaDoor
set_option maxRecDepth 5000
open Go.RowKit
theorem wpList_app_held {P : Program} {w0 w : World} {Rs : List Thing} {ops : Array Oper} {rest : List Oper} {o : Oper} {a : Act} {Q : Exit → Act → World → Prop} (hgd : o.guard = none) (s x : Operand) (t : TypeId)
    (ho : o.op = .call { callee := .builtin .append, args := #[s, x], argTypes := #[t, t] })
    (e : TypeId) (i : TypeInfo) (z : Value) (size bytes : Nat) (ht : P.underlying t = some (.slice e)) (hi : P.info? e = some i) (hz : i.zero = some z)
    (hsize : i.size = size) (hby : i.bytes = bytes) (hzs : z.cells.size = size) (hsz : 0 < size)
    (v : Value) (n : Nat) (xs : List Value) (hs : a.eval s = v) (hh : Held w0 w (ownT e size v n xs :: Rs))
    (y : Value) (m : Nat) (news : List Value) (hx : a.eval x = y) (hsrc : Rd w size y m news) (h1 : ∀ u ∈ news, u.oneCell' = true) (N : Nat) (hN : N = n + m)
    (h63 : N ≤ maxLen) (hbytes : N * bytes ≤ 140737488355328)
    (h : ∀ ao cap w', Held w0 w' (ownT e size (.slice ao N cap) N (xs ++ news) :: Rs) → wpList P ops Q rest (a.put o.dst (.slice ao N cap)) w') : wpList P ops Q (o :: rest) a w := by
  subst hN
  exact wpList_app _ hgd s x t ho e i z size bytes ht hi hz hsize hby hzs hsz v n xs hs hh.own y m news hx hsrc h1 h63 hbytes fun ao cap w' h2 h3 h4 => h ao cap w' (hh.app h2 h3 h4)
end Go.Proofs.YtmmfkppkmgjljaaDoor
/-
  The reference's Read and Bits.
-/
namespace Go.Proofs.YtmmfkppkmgjljaaDoor
set_option maxRecDepth 5000
open Go.RowKit
theorem lng_snoc (l : List Int) (a : Int) : lng (l ++ [a]) = max (lng l) a.toNat := by
  induction l with
  | nil => simp [lng]
  | cons b l ih =>
    show max b.toNat (lng (l ++ [a])) = max (max b.toNat (lng l)) a.toNat
    rw [ih]; omega
theorem infoC16 : (Tryd.prog.info? 90).map (·.zero) = some (some (arrV .i64 (cnts []))) := by kernel_rfl
theorem count_lt (l : List Int) (i n : Nat) (h : l[i]? = some (n : Int)) : (l.take i).count (n : Int) < l.count (n : Int) := by
  have h1 := count_take_succ l i (n : Int) (n : Int) h
  have h2 := count_take_le l (i + 1) (n : Int)
  rw [if_pos rfl] at h1; omega
set_option maxRecDepth 100000 in
set_option maxHeartbeats 3200000 in
theorem refread_any (v u x : Value) (l : List Int) (all : List Nat) (a n m : Nat) (w : World) (hv : Rd w 1 v n (ints l)) (hu : Rd w 1 u n (nums .u32 (codesOf l))) (hx : Rd w 1 x m (u8s all)) (hn : n = l.length) (hm : m = all.length)
    (hl : ∀ y ∈ l, 0 ≤ y ∧ y ≤ 15) (hn2 : n ≤ 288) (hb : isBits all) (ha : a ≤ m) (hm2 : m < 1000000000) :
    Calls Tryd.prog 47 #[v, u, x, .int .i64 (a : Int)] w fun e w' => ∃ k q er : Nat, e = .returned (.tuple #[.int .i64 (k : Int), .int .i64 (q : Int), .int .i64 (er : Int)]) ∧ Mod w w' (fun _ => False) ∧ Hid (ReadIs l (all.drop a) k q er) := by
  obtain ⟨ao, ac, rfl, _, _⟩ := hv.form
  obtain ⟨uo, uc, rfl, _, _⟩ := hu.form
  obtain ⟨xo, xc, rfl, _, _⟩ := hx.form
  have HL := hid (And.intro hn (And.intro hm (And.intro hl hb)))
  obtain ⟨bs, hbs⟩ : ∃ bs, bs = all.drop a := ⟨_, rfl⟩
  have hbl : bs.length = m - a := by rw [hbs, List.length_drop, hm]
  have hbb : isBits bs := by rw [hbs]; exact isBits_drop hb a
  have HBS := hid (And.intro hbs (And.intro hbl hbb))
  rw [← hbs]
  have hn0 : (0 : Int) ≤ (n : Int) := Int.natCast_nonneg _
  have hm0 : (0 : Int) ≤ (m : Int) := Int.natCast_nonneg _
  have ha0 : (0 : Int) ≤ (a : Int) := Int.natCast_nonneg _
  clear hn hm hl hb hbs hbl hbb
  go_enter Tryd.func47, Tryd.ntmps47
  go_wp2_with (refine wpList_alloc_arr rfl _ rfl .i64 _ infoC16 ?_)
  have hH0 : Held w (w.alloc (.cells (nums .i64 (cnts [])).toArray 90)) [objT w.heap.size (nums .i64 (cnts [])) 90] := (Held.start w).newObj (nums .i64 (cnts [])) 90
  have HH0 := hid hH0
  clear hH0
  generalize w.heap.size = B at HH0 ⊢
  go_loopg [12, 13] (n + 1) (fun k t12 t13 wr => ∃ (i g : Nat), i ≤ n ∧ n - i < k ∧ t13 = .int .i64 (i : Int) ∧ t12 = .int .i64 (g : Int) ∧ g ≤ 15 ∧ Hid (g = lng (l.take i)) ∧ Hid (Held w wr [objT B (nums .i64 (cnts (l.take i))) 90]))
  case atStart => exact ⟨0, 0, by omega, by omega, rfl, rfl, by omega, rfl, HH0⟩
  case round =>
    obtain ⟨i, g, hi, hk, rfl, rfl, hg, HG, HH⟩ := hrel
    have hi0 : (0 : Int) ≤ (i : Int) := Int.natCast_nonneg _
    have hg0 : (0 : Int) ≤ (g : Int) := Int.natCast_nonneg _
    by_cases hin : i < n
    · have hi1 : (i : Int) < (n : Int) := by omega
      obtain ⟨b, off, rfl, hcell⟩ := (HH.out.old hv).spot (by omega)
      obtain ⟨y, hyi⟩ : ∃ y, l[i]? = some y := ⟨l[i]'(by have := HL.out.1; omega), List.getElem?_eq_getElem _⟩
      have hyr := HL.out.2.2.1 y (List.mem_of_getElem? hyi)
      have hc1 := hcell i _ (by rw [ints_get, hyi]; rfl)
      obtain ⟨p, rfl⟩ := Int.eq_ofNat_of_zero_le hyr.1
      have hp15 : p ≤ 15 := by omega
      have HT := hid (take_snoc3 l i _ hyi)
      have HM : Hid (lng (l.take (i + 1)) = max g p) := by rw [HT.out, lng_snoc, ← HG.out]; exact hid rfl
      clear hcell hyi hyr
      have hp0 : (0 : Int) ≤ (p : Int) := Int.natCast_nonneg _
      by_cases hpz : p = 0
      · subst hpz
        have HR : Hid (cnts (l.take (i + 1)) = cnts (l.take i)) := by rw [HT.out]; exact hid (cnts_skip _ _ (by simp [isLen]))
        have hgz : ¬ (g : Int) < 0 := by omega
        go_wp2
        go_roundg (gk - 1)
        case measure => omega
        case rel => exact ⟨i + 1, g, by omega, by omega, by go_num, rfl, by omega, by rw [HM.out]; exact hid (by omega), by rw [HR.out]; exact HH⟩
      · have hpp : (0 : Int) < (p : Int) := by omega
        have hp16 : (p : Int) < 16 := by omega
        obtain ⟨c, hc⟩ : ∃ c, c = (l.take i).count ((p : Nat) : Int) := ⟨_, rfl⟩
        have hcn : c ≤ n := by rw [hc]; exact Nat.le_trans List.count_le_length (by simp; have := HL.out.1; omega)
        have hc2 := HH.out.obj.cell (i := p) (v := .int .i64 (c : Int)) (by rw [nums_get, cnts_get _ p (by omega) (by omega), hc]; rfl)
        have hfr := HH.out.obj.frozen p
        have HS := hid (HH.out.setObj p (.int .i64 ((c + 1 : Nat) : Int)))
        have HR : Hid (nums .i64 ((cnts (l.take i)).set p (c + 1)) = nums .i64 (cnts (l.take (i + 1)))) := by rw [HT.out, ← cnts_snoc _ p (by omega) (by omega), hc]; exact hid rfl
        have hov := hv
        clear hc
        have HS2 : Hid (Held w (wr.setCell ⟨B, p, none⟩ (.int .i64 ((c : Int) + 1))) [objT B (nums .i64 (cnts (l.take (i + 1)))) 90]) := by
          have h := HS.out
          rw [nums_set, HR.out] at h
          exact hid (by simpa using h)
        obtain ⟨b', off', hb', hcell'⟩ := (HS2.out.old hv).spot (by omega)
        simp only [Option.some.injEq, Addr.mk.injEq, and_true] at hb'
        obtain ⟨rfl, rfl⟩ := hb'
        have hc3 : (wr.setCell ⟨B, p, none⟩ (.int .i64 ((c : Int) + 1))).cell? ⟨b, off + i, none⟩ = some (.int .i64 (p : Int)) := by
          have hyi2 : l[i]? = some (p : Int) := by
            have h := HT.out
            rw [List.take_add_one] at h
            have h2 := List.append_cancel_left h
            cases hh : l[i]? with
            | none => rw [hh] at h2; cases h2
            | some y => rw [hh] at h2; simpa using h2
          exact hcell' i _ (by rw [ints_get, hyi2]; rfl)
        clear hcell' hov HS
        by_cases hgp : g < p
        · have hgpI : (g : Int) < (p : Int) := by omega
          go_wp2
          go_roundg (gk - 1)
          case measure => omega
          case rel => exact ⟨i + 1, p, by omega, by omega, by go_num, rfl, by omega, by rw [HM.out]; exact hid (by omega), HS2⟩
        · have hgpI : ¬ (g : Int) < (p : Int) := by omega
          go_wp2
          go_roundg (gk - 1)
          case measure => omega
          case rel => exact ⟨i + 1, g, by omega, by omega, by go_num, rfl, by omega, by rw [HM.out]; exact hid (by omega), HS2⟩
    · have hi1 : ¬ (i : Int) < (n : Int) := by omega
      have HG2 : Hid (g = lng l) := by
        have h := HG.out
        rw [List.take_of_length_le (by have := HL.out.1; omega)] at h
        exact hid h
      have HC : Hid (Held w wr [objT B (nums .i64 (cnts l)) 90]) := by
        have h := HH.out
        rw [List.take_of_length_le (by have := HL.out.1; omega)] at h
        exact hid h
      clear HH HG
      go_wp2
      go_loopg [14, 15, 16] (g + 2) (fun k t14 t15 t16 wq => ∃ (z f v : Nat), 1 ≤ z ∧ z ≤ g + 1 ∧ g + 1 - z < k ∧ t16 = .int .i64 (z : Int) ∧ t15 = .int .i64 (f : Int) ∧ t14 = .int .i64 (v : Int) ∧ v ≤ 65536 ∧ f ≤ 5000000 ∧ a + (z - 1) ≤ m ∧
        Hid (2 * f = fstC l z ∧ v = hiN (bs.take (z - 1)) ∧ ∀ i q, Hit l bs i q → z ≤ q) ∧ wq = wr)
      case atStart => exact ⟨1, 0, 0, by omega, by omega, by omega, rfl, rfl, rfl, by omega, by omega, by omega, hid ⟨rfl, rfl, fun i q h => h.2.1⟩, rfl⟩
      case round =>
        obtain ⟨z, f, v, hz1, hz2, hk2, rfl, rfl, rfl, hv2, hf2, haz, HZ, rfl⟩ := hrel
        obtain ⟨gx, rfl⟩ : ∃ g, g = gk := ⟨gk, rfl⟩
        have hz0 : (0 : Int) ≤ (z : Int) := Int.natCast_nonneg _
        have hf0 : (0 : Int) ≤ (f : Int) := Int.natCast_nonneg _
        have hv0 : (0 : Int) ≤ (v : Int) := Int.natCast_nonneg _
        by_cases hzg : z ≤ g
        · have hzgI : (z : Int) ≤ (g : Int) := by omega
          by_cases hend : m < a + z
          · have hendI : (m : Int) < (a : Int) + (z : Int) := by omega
            have HD : Hid (ReadIs l bs 0 0 5) := by
              refine hid (.inr ⟨rfl, rfl, fun i q h => ?_, ?_⟩)
              · have h1 := HZ.out.2.2 i q h
                have h2 := h.2.2.1
                have h3 := HBS.out.2.1
                omega
              · rw [if_pos]
                left
                have h3 := HBS.out.2.1
                have h4 := HG2.out
                omega
            have HM := hid HC.out.mod
            go_wp2
            go_ret3
            exact ⟨0, 0, 5, rfl, HM.out, HD⟩
          · have hendI : ¬ (m : Int) < (a : Int) + (z : Int) := by omega
            obtain ⟨b, hbz⟩ : ∃ b, bs[z - 1]? = some b := ⟨bs[z - 1]'(by have := HBS.out.2.1; omega), List.getElem?_eq_getElem _⟩
            have hb1 := HBS.out.2.2 b (List.mem_of_getElem? hbz)
            have HV : Hid (hiN (bs.take z) = 2 * v + b) := by
              have h := hiN_take bs (z - 1) b hbz
              rw [show z - 1 + 1 = z by omega] at h
              rw [h, ← HZ.out.2.1]; exact hid rfl
            have hvb : 2 * v + b ≤ 65536 := by
              have h := hiN_lt bs HBS.out.2.2 z
              rw [HV.out] at h
              have h2 : 2 ^ z ≤ 2 ^ 15 := Nat.pow_le_pow_right (by decide) (by omega)
              omega
            obtain ⟨c, hc⟩ : ∃ c, c = l.count ((z : Nat) : Int) := ⟨_, rfl⟩
            have hcn : c ≤ n := by rw [hc]; exact Nat.le_trans List.count_le_length (by have := HL.out.1; omega)
            have hcc := HC.out.obj.cell (i := z) (v := .int .i64 (c : Int)) (by rw [nums_get, cnts_get _ z (by omega) (by omega), hc]; rfl)
            have hz16 : (z : Int) < 16 := by omega
            have hpos : (a : Int) + (z : Int) - 1 = ((a + z - 1 : Nat) : Int) := by omega
            have hp0 : (0 : Int) ≤ ((a + z - 1 : Nat) : Int) := Int.natCast_nonneg _
            have hpm : ((a + z - 1 : Nat) : Int) < (m : Int) := by omega
            obtain ⟨xb, xof, rfl, hxc⟩ := (HC.out.old hx).spot (by omega)
            have hbc := hxc (a + z - 1) (.int .u8 (b : Int)) (by
              have h := hbz
              rw [HBS.out.1, List.getElem?_drop, show a + (z - 1) = a + z - 1 by omega] at h
              rw [u8s_get, h]; rfl)
            have hFL : 2 * f ≤ 16384 * n := by
              have h := fst_le l z (by omega)
              rw [HZ.out.1, HL.out.1]; exact h
            have HCN := hid hc
            clear hxc hc hbz
            have HNX : Hid (2 * (2 * f + c) = fstC l (z + 1)) := by
              obtain ⟨y, rfl⟩ : ∃ y, z = y + 1 := ⟨z - 1, by omega⟩
              show Hid (2 * (2 * f + c) = 2 * (fstC l (y + 1) + l.count ((y + 1 : Nat) : Int)))
              rw [HZ.out.1, HCN.out]; exact hid rfl
            have HQ : Hid (∀ i q, Hit l bs i q → q = z → 2 * v + b < 2 * f + c ∧ l[i]? = some (z : Int) ∧ codeAt l i = 2 * v + b) := by
              refine hid fun i q h e => ?_
              subst e
              have h1 := h.2.2.2
              have h2 := codeAt_len l i (q : Int) h.1 (by simp [isLen]; omega)
              have h3 := count_lt l i q h.1
              rw [Int.toNat_natCast] at h2
              rw [HV.out] at h1
              have h4 := HZ.out.1
              have h5 := HCN.out
              exact ⟨by omega, h.1, by omega⟩
            by_cases hlt : 2 * v + b < 2 * f + c
            · have hltI : (v : Int) * 2 + (b : Int) < (f : Int) * 2 + (c : Int) := by omega
              go_wp2
              go_loopg [17] (n + 1) (fun k t17 wq => ∃ (i : Nat), i ≤ n ∧ n - i < k ∧ t17 = .int .i64 (i : Int) ∧ Hid (∀ j, j < i → l[j]? = some (z : Int) → codeAt l j ≠ 2 * v + b) ∧ wq = wr)
              case atStart => exact ⟨0, by omega, by omega, rfl, hid fun j hj => by omega, rfl⟩
              case round =>
                obtain ⟨i, hi2, hk3, rfl, HJ, rfl⟩ := hrel
                have hi0 : (0 : Int) ≤ (i : Int) := Int.natCast_nonneg _
                by_cases hin : i < n
                · have hinI : (i : Int) < (n : Int) := by omega
                  obtain ⟨g1, off1, rfl, hcell⟩ := (HC.out.old hv).spot (by omega)
                  obtain ⟨y, hyi⟩ : ∃ y, l[i]? = some y := ⟨l[i]'(by have := HL.out.1; omega), List.getElem?_eq_getElem _⟩
                  have hyr := HL.out.2.2.1 y (List.mem_of_getElem? hyi)
                  have hc1 := hcell i _ (by rw [ints_get, hyi]; rfl)
                  obtain ⟨p, rfl⟩ := Int.eq_ofNat_of_zero_le hyr.1
                  obtain ⟨g2, off2, rfl, hcell2⟩ := (HC.out.old hu).spot (by omega)
                  obtain ⟨cd, hcd⟩ : ∃ cd, cd = codeAt l i := ⟨_, rfl⟩
                  have hc2 := hcell2 i (.int .u32 (cd : Int)) (by rw [nums_get, codesOf_get l i (by have := HL.out.1; omega), hcd]; rfl)
                  have hcdl : cd ≤ 16385 * n := by rw [hcd, HL.out.1]; exact codeAt_le l i
                  have HY := hid hyi
                  have HCD := hid hcd
                  have hcd0 : (0 : Int) ≤ (cd : Int) := Int.natCast_nonneg _
                  clear hcell hcell2 hyi hyr hcd
                  by_cases hpz : p = z
                  · subst hpz
                    have hb1' : ((p : Int) == (p : Int)) = true := by simp
                    by_cases hcv : cd = 2 * v + b
                    · have hcvI : (cd : Int) = (v : Int) * 2 + (b : Int) := by omega
                      have hb2 : ((cd : Int) == (v : Int) * 2 + (b : Int)) = true := by simp; omega
                      have HD : Hid (ReadIs l bs i p 0) := by
                        refine hid (.inl ⟨rfl, HY.out, by omega, ?_, ?_⟩)
                        · have := HBS.out.2.1; omega
                        · rw [HV.out, ← HCD.out]; exact hcv.symm
                      have HM := hid HC.out.mod
                      clear hcvI
                      go_wp2
                      go_ret3
                      exact ⟨i, p, 0, rfl, HM.out, HD⟩
                    · have hb2 : ((cd : Int) == (v : Int) * 2 + (b : Int)) = false := by simp; omega
                      have hcvI : ¬ (cd : Int) = (v : Int) * 2 + (b : Int) := by omega
                      go_wp2
                      go_roundg (gk - 1)
                      case measure => omega
                      case rel =>
                        refine ⟨i + 1, by omega, by omega, by go_num, hid fun j hj hjl => ?_, rfl⟩
                        by_cases e : j = i
                        · subst e; rw [← HCD.out]; exact hcv
                        · exact HJ.out j (by omega) hjl
                  · have hb1' : ((p : Int) == (z : Int)) = false := by simp; omega
                    have hpzI : ¬ (p : Int) = (z : Int) := by omega
                    go_wp2
                    go_roundg (gk - 1)
                    case measure => omega
                    case rel =>
                      refine ⟨i + 1, by omega, by omega, by go_num, hid fun j hj hjl => ?_, rfl⟩
                      by_cases e : j = i
                      · subst e
                        have h := HY.out.symm.trans hjl
                        simp only [Option.some.injEq] at h
                        exact absurd h hpzI
                      · exact HJ.out j (by omega) hjl
                · have hinI : ¬ (i : Int) < (n : Int) := by omega
                  go_wp2
                  go_roundg (gx - 1)
                  case measure => omega
                  case rel =>
                    refine ⟨z + 1, 2 * f + c, 2 * v + b, by omega, by omega, by omega, by go_num, by go_num, by go_num, by omega, by omega, by omega, hid ⟨HNX.out, by rw [Nat.add_sub_cancel]; exact HV.out.symm, fun j q h => ?_⟩, rfl⟩
                    have h1 := HZ.out.2.2 j q h
                    by_cases e : q = z
                    · obtain ⟨_, h2, h3⟩ := HQ.out j q h e
                      have hjl := (List.getElem?_eq_some_iff.1 h2).1
                      exact absurd h3 (HJ.out j (by have := HL.out.1; omega) h2)
                    · omega
            · have hltI : ¬ (v : Int) * 2 + (b : Int) < (f : Int) * 2 + (c : Int) := by omega
              go_wp2
              go_roundg (gx - 1)
              case measure => omega
              case rel =>
                refine ⟨z + 1, 2 * f + c, 2 * v + b, by omega, by omega, by omega, by go_num, by go_num, by go_num, by omega, by omega, by omega, hid ⟨HNX.out, by rw [Nat.add_sub_cancel]; exact HV.out.symm, fun i q h => ?_⟩, rfl⟩
                have h1 := HZ.out.2.2 i q h
                by_cases e : q = z
                · exact absurd (HQ.out i q h e).1 hlt
                · omega
        · have hzgI : ¬ (z : Int) ≤ (g : Int) := by omega
          have HNO : Hid (∀ i q, ¬ Hit l bs i q) := by
            refine hid fun i q h => ?_
            have h1 := HZ.out.2.2 i q h
            have h2 := h.long
            have h3 := HG2.out
            omega
          have HM := hid HC.out.mod
          by_cases hg0 : g = 0
          · have hgb : ((g : Int) == 0) = true := by simp; omega
            have hgI : (g : Int) = 0 := by omega
            by_cases hma : m ≤ a
            · have hmaI : decide ((m : Int) ≤ (a : Int)) = true := by simp; omega
              have hmaN : decide (m ≤ a) = true := by simp; omega
              have HD : Hid (ReadIs l bs 0 0 5) := by
                refine hid (.inr ⟨rfl, rfl, HNO.out, ?_⟩)
                rw [if_pos]
                right
                exact List.eq_nil_of_length_eq_zero (by have := HBS.out.2.1; omega)
              go_wp2
              go_ret3
              exact ⟨0, 0, 5, rfl, HM.out, HD⟩
            · have hmaI : decide ((m : Int) ≤ (a : Int)) = false := by simp; omega
              have hmaN : decide (m ≤ a) = false := by simp; omega
              have HD : Hid (ReadIs l bs 0 0 3) := by
                refine hid (.inr ⟨rfl, rfl, HNO.out, ?_⟩)
                have h3 := HBS.out.2.1
                have h4 := HG2.out
                rw [if_neg]
                rintro (h | h)
                · omega
                · rw [h] at h3; simp at h3; omega
              go_wp2
              go_ret3
              exact ⟨0, 0, 3, rfl, HM.out, HD⟩
          · have hgb : ((g : Int) == 0) = false := by simp; omega
            have hgI : ¬ (g : Int) = 0 := by omega
            have HD : Hid (ReadIs l bs 0 0 3) := by
              refine hid (.inr ⟨rfl, rfl, HNO.out, ?_⟩)
              have h3 := HBS.out.2.1
              have h4 := HG2.out
              rw [if_neg]
              rintro (h | h)
              · omega
              · rw [h] at h3; simp at h3; omega
            go_wp2
            go_ret3
            exact ⟨0, 0, 3, rfl, HM.out, HD⟩
end Go.Proofs.YtmmfkppkmgjljaaDoor
/-
  Things side by side, as many as a list names, as one thing; one of them taken out and put back. No program is named here.
-/
namespace Go.Proofs.YtmmfkppkmgjljaaDoor
set_option maxRecDepth 5000
open Go.RowKit
def noT : Thing where
  res := fun _ F => ∀ k, ¬ F k
  loc := fun _ _ _ _ h _ _ => h
def allT : List Thing → Thing
  | [] => noT
  | R :: L => andT R (allT L)
section
variable {w0 w : World}
theorem Held.noT {Rs : List Thing} (h : Held w0 w Rs) : Held w0 w (noT :: Rs) := h.push _ (fun _ => False) (fun _ h => h) (Mod.refl w _) (fun _ h => h.elim)
theorem Held.all : ∀ {L Rs : List Thing}, Held w0 w (L ++ Rs) → Held w0 w (allT L :: Rs)
  | [], _, h => h.noT
  | R :: L, Rs, h => by
    have h1 : Held w0 w (L ++ R :: Rs) := h.perm List.perm_middle.symm
    exact (Held.all h1).swap.pair
theorem Held.unall : ∀ {L Rs : List Thing}, Held w0 w (allT L :: Rs) → Held w0 w (L ++ Rs)
  | [], _, h => h.drop
  | R :: L, Rs, h => by
    have h1 : Held w0 w (L ++ R :: Rs) := Held.unall (Held.unpair h).swap
    exact h1.perm List.perm_middle
theorem allT_perm {L L' Rs : List Thing} (h : Held w0 w (allT L :: Rs)) (hp : L.Perm L') : Held w0 w (allT L' :: Rs) :=
  Held.all (h.unall.perm (hp.append_right Rs))
theorem eraseIdx_perm {R : Thing} : ∀ (L : List Thing) (i : Nat), L[i]? = some R → (R :: L.eraseIdx i).Perm L
  | [], i, h => by simp at h
  | a :: L, 0, h => by
    simp only [List.getElem?_cons_zero, Option.some.injEq] at h
    subst h; exact List.Perm.refl _
  | a :: L, i + 1, h => by
    have ih := eraseIdx_perm L i (by simpa using h)
    exact (List.Perm.swap a R _).trans (List.Perm.cons a ih)
theorem Held.allOut {L Rs : List Thing} {i : Nat} {R : Thing} (h : Held w0 w (allT L :: Rs)) (hi : L[i]? = some R) : Held w0 w (R :: allT (L.eraseIdx i) :: Rs) := by
  exact Held.unpair (allT_perm (L' := R :: L.eraseIdx i) h (eraseIdx_perm L i hi).symm)
theorem Held.allBack {L Rs : List Thing} {i : Nat} {R : Thing} (h : Held w0 w (R :: allT (L.eraseIdx i) :: Rs)) (hi : i < L.length) : Held w0 w (allT (L.set i R) :: Rs) := by
  have h1 : Held w0 w (allT (R :: L.eraseIdx i) :: Rs) := h.pair
  have h2 := eraseIdx_perm (L.set i R) i (List.getElem?_set_self hi)
  rw [List.eraseIdx_set_eq] at h2
  exact allT_perm h1 h2
theorem HeldU.frame {w w' : World} {Rs : List Thing} (h : Held w0 w Rs) : ∀ {Ts : List Thing} {U V : Nat → Prop}, HeldU w w' U Ts → (∀ k, V k → U k) → (∀ k, V k → w.heap.size ≤ k) → HeldU w0 w' V (Ts ++ Rs)
  | [], _, _, hm, _, hw => by
    have hM : Mod w w' (fun _ => False) := hm
    exact (HeldU.more h (fun k hk => .inr (hw k hk))).step hM (fun _ h => h.elim) (fun _ h => h.elim)
  | _ :: _, _, _, ⟨F, h1, h2, h3⟩, hv, hw =>
    ⟨F, h1, fun k hk => ⟨Nat.le_trans h.mod.size (h2 k hk).1, (h2 k hk).2.1, fun hV => (h2 k hk).2.2 (hv k hV)⟩,
      HeldU.frame h h3 (fun k hk => hk.imp (hv k) id) (fun k hk => hk.elim (hw k) fun hf => (h2 k hf).1)⟩
theorem Held.frame {w w' : World} {Rs Ts : List Thing} (h : Held w0 w Rs) (h2 : Held w w' Ts) : Held w0 w' (Ts ++ Rs) := HeldU.frame h h2 (fun _ h => h) (fun _ h => h.elim)
theorem Held.litN {w : World} {Rs : List Thing} (h : Held w0 w Rs) (e : TypeId) (size : Nat) (cs : List Value) (n : Nat) (hm : n ≤ maxLen) (hs : cs.length = n * size) (N : Nat) (hN : w.heap.size = N) :
    Held w0 (w.alloc (.cells cs.toArray e)) (ownT e size (.slice (some ⟨N, 0, none⟩) n n) n cs :: Rs) := by
  subst hN
  exact h.lit e size cs n hm hs
end
end Go.Proofs.YtmmfkppkmgjljaaDoor
/-
  The reference's Expand.
-/
namespace Go.Proofs.YtmmfkppkmgjljaaDoor
set_option maxRecDepth 5000
open Go.RowKit
end Go.Proofs.YtmmfkppkmgjljaaDoor
/-
  The reference's stream in memory; its take, emit.
-/
namespace Go.Proofs.YtmmfkppkmgjljaaDoor
set_option maxRecDepth 5000
open Go.RowKit
def rdT (size : Nat) (v : Value) (n : Nat) (xs : List Value) : Thing where
  res := fun w F => Rd w size v n xs ∧ ∀ k, v.ownBlock = some k → F k
  loc := fun _ _ _ _ h hm hS => ⟨h.1.kept hm (fun k hk => hS k (h.2 k hk)), h.2⟩
def rd2T (size : Nat) (v : Value) (n : Nat) (xs : List Value) (v2 : Value) (n2 : Nat) (xs2 : List Value) : Thing where
  res := fun w F => (Rd w size v n xs ∧ ∀ k, v.ownBlock = some k → F k) ∧ (Rd w size v2 n2 xs2 ∧ ∀ k, v2.ownBlock = some k → F k)
  loc := fun _ _ _ _ h hm hS => ⟨⟨h.1.1.kept hm (fun k hk => hS k (h.1.2 k hk)), h.1.2⟩, ⟨h.2.1.kept hm (fun k hk => hS k (h.2.2 k hk)), h.2.2⟩⟩
section
variable {w0 w : World} {Rs : List Thing}
theorem Held.rdv {size n : Nat} {v : Value} {xs : List Value} (h : Held w0 w (rdT size v n xs :: Rs)) : Rd w size v n xs := by
  obtain ⟨F, h1, _⟩ := h
  exact h1.1
theorem Held.rdv2 {size n n2 : Nat} {v v2 : Value} {xs xs2 : List Value} (h : Held w0 w (rd2T size v n xs v2 n2 xs2 :: Rs)) : Rd w size v n xs ∧ Rd w size v2 n2 xs2 := by
  obtain ⟨F, h1, _⟩ := h
  exact ⟨h1.1.1, h1.2.1⟩
theorem Held.toRd {e : TypeId} {size n : Nat} {v : Value} {xs : List Value} (h : Held w0 w (ownT e size v n xs :: Rs)) : Held w0 w (rdT size v n xs :: Rs) := by
  obtain ⟨F, h1, h2⟩ := h
  exact ⟨F, ⟨h1.1.rd, fun k hk => (h1.2 k).2 hk⟩, h2⟩
def strT (B : Nat) (o : Value) (e : Nat) (r k s b : Value) (a : Nat) (M : Int) (li di lc dc tk : Value) : Thing :=
  objT B [o, .int .i64 (e : Int), r, k, s, b, .int .i64 (a : Int), .int .i64 M, li, di, lc, dc, tk] 32
def ptrV (B : Nat) : Value := .pointer (some ⟨B, 0, none⟩)
theorem infoByte10 : (Tryd.prog.info? 5).map (fun i => (i.zero, i.size, i.bytes)) = some (some (.int .u8 0), 1, 1) := by kernel_rfl
theorem take_some {bs : List Nat} {a n v : Nat} (h : takeM bs a n = some v) : a + n ≤ bs.length ∧ v = numOf ((bs.drop a).take n) := by
  unfold takeM at h
  split at h
  · rename_i hc
    simp only [Option.some.injEq] at h
    exact ⟨hc, h.symm⟩
  · cases h
theorem take_none {bs : List Nat} {a n : Nat} (h : takeM bs a n = none) : bs.length < a + n := by
  unfold takeM at h
  split at h
  · cases h
  · omega
set_option maxHeartbeats 1600000 in
theorem take_no (B : Nat) (o : Value) (e : Nat) (r k s : Value) (bo : Option Addr) (bc m a n : Nat) (M : Int) (li di lc dc tk : Value) (all : List Nat) (h : Held w0 w (strT B o e r k s (.slice bo m bc) a M li di lc dc tk :: rdT 1 (.slice bo m bc) m (u8s all) :: Rs)) (ht : takeM all a n = none) (ha : a ≤ 2000000000) (hn : n ≤ 64) :
    Calls Tryd.prog 20 #[ptrV B, .int .i64 (n : Int)] w fun e' w' => e' = .returned (.tuple #[.int .i64 0, .bool false]) ∧ Held w0 w' (strT B o 5 r k s (.slice bo m bc) a M li di lc dc tk :: rdT 1 (.slice bo m bc) m (u8s all) :: Rs) := by
  have hm : m = all.length := by have := h.drop.rdv.1; rw [u8s_length] at this; omega
  have hlt := take_none ht
  rw [← hm] at hlt
  unfold ptrV
  unfold strT at h ⊢
  have hb := h.obj
  have c1 := hb.cell (i := 1) rfl
  have c5 := hb.cell (i := 5) rfl
  have c6 := hb.cell (i := 6) rfl
  have f1 := hb.frozen 1
  have ha0 : (0 : Int) ≤ (a : Int) := Int.natCast_nonneg _
  have hn0 : (0 : Int) ≤ (n : Int) := Int.natCast_nonneg _
  obtain ⟨z, hz⟩ : ∃ z, z = a + n := ⟨_, rfl⟩
  have hzI : (a : Int) + (n : Int) = (z : Int) := by omega
  have hz0 : (0 : Int) ≤ (z : Int) := Int.natCast_nonneg _
  have hzm : (m : Int) < (z : Int) := by omega
  have hzm2 : m < z := by omega
  have hzw : IntKind.i64.wrap ((a : Int) + (n : Int)) = (z : Int) := by rw [hzI]; exact IntWalk.i64_in _ (by omega)
  have H := hid h
  clear h hb hm ht hlt hz
  go_enter Tryd.func20, Tryd.ntmps20
  go_wp2
  go_quiet (fail)
  go_wp2
  go_ret2
  exact ⟨rfl, (H.out.drewN nq).setObj 1 _⟩
theorem front_run10 (xo : Option Addr) (m xc a e : Nat) (h1 : a ≤ e) (h2 : e ≤ m) (h3 : m ≤ xc) (wg : World) :
    (Instr.sliceAt 22 (.slice xo m xc) (some (.int .i64 (a : Int))) (some (.int .i64 (e : Int))) none).run Tryd.prog wg = .ok (sliced xo a e xc 1) wg := by
  obtain ⟨i, hi, hz0, hz1, hz2⟩ := info_parts infoByte10
  exact run_cut (P := Tryd.prog) (w := wg) 22 5 i 1 Tryd.underlying22 hi hz1 xo m xc a e (some (.int .i64 (a : Int))) (some (.int .i64 (e : Int))) ⟨_, rfl⟩ ⟨_, rfl⟩ h1 (by omega)
set_option maxHeartbeats 1600000 in
theorem take_yes (B : Nat) (o : Value) (e : Nat) (r k s : Value) (bo : Option Addr) (bc m a n v : Nat) (M : Int) (li di lc dc tk : Value) (all : List Nat) (h : Held w0 w (strT B o e r k s (.slice bo m bc) a M li di lc dc tk :: rdT 1 (.slice bo m bc) m (u8s all) :: Rs)) (ht : takeM all a n = some v) (hbits : isBits all) (hm2 : m ≤ 2000000000) (hn : n ≤ 60) :
    Calls Tryd.prog 20 #[ptrV B, .int .i64 (n : Int)] w fun e' w' => e' = .returned (.tuple #[.int .i64 (v : Int), .bool true]) ∧ Held w0 w' (strT B o e r k s (.slice bo m bc) (a + n) M li di lc dc tk :: rdT 1 (.slice bo m bc) m (u8s all) :: Rs) := by
  have hm : m = all.length := by have := h.drop.rdv.1; rw [u8s_length] at this; omega
  obtain ⟨hlt, hv⟩ := take_some ht
  rw [← hm] at hlt
  unfold ptrV
  unfold strT at h ⊢
  have hb := h.obj
  have c1 := hb.cell (i := 1) rfl
  have c5 := hb.cell (i := 5) rfl
  have c6 := hb.cell (i := 6) rfl
  have f6 := hb.frozen 6
  have ha0 : (0 : Int) ≤ (a : Int) := Int.natCast_nonneg _
  have hn0 : (0 : Int) ≤ (n : Int) := Int.natCast_nonneg _
  obtain ⟨z, hz⟩ : ∃ z, z = a + n := ⟨_, rfl⟩
  rw [← hz] at hlt ⊢
  have hzI : (a : Int) + (n : Int) = (z : Int) := by omega
  have hz0 : (0 : Int) ≤ (z : Int) := Int.natCast_nonneg _
  have hzm : ¬ (m : Int) < (z : Int) := by omega
  have hzm2 : decide (m < z) = false := decide_eq_false (by omega)
  have hzm3 : decide ((m : Int) < (z : Int)) = false := decide_eq_false hzm
  have haz : (a : Int) ≤ (z : Int) := by omega
  have hzm4 : (z : Int) ≤ (m : Int) := by omega
  have hrd0 := h.drop.rdv
  obtain ⟨_, _, hbe, hbc, _⟩ := hrd0.form
  simp only [Value.slice.injEq, true_and] at hbe
  obtain ⟨rfl, rfl⟩ := hbe
  have hcut := front_run10 bo m bc a z (by omega) hlt hbc
  have hrd := hrd0.cut (L := a) (H := z) (by omega) hlt
  have e2 : ((u8s all).drop (a * 1)).take ((z - a) * 1) = u8s ((all.drop a).take n) := by
    rw [Nat.mul_one, Nat.mul_one, show z - a = n by omega]
    simp [u8s, List.map_drop, List.map_take]
  rw [e2] at hrd
  have hl : ((all.drop a).take n).length = z - a := by rw [List.length_take, List.length_drop]; omega
  unfold sliced at hcut hrd
  rw [← hl] at hcut hrd
  generalize (if bc = a then bo else bo.map fun (x : Addr) => x.add (a * 1)) = a' at hcut hrd
  have HN := hid (fun w1 (hr : Rd w1 1 (.slice a' ((all.drop a).take n).length (bc - a)) ((all.drop a).take n).length (u8s ((all.drop a).take n))) => number_any _ _ w1 hr (isBits_take (isBits_drop hbits a) n) (by rw [hl]; omega))
  rw [← hv] at HN
  generalize ((all.drop a).take n).length = L at *
  have HRD := hid hrd
  have H := hid h
  have hzw : IntKind.i64.wrap ((a : Int) + (n : Int)) = (z : Int) := by rw [hzI]; exact IntWalk.i64_in _ (by omega)
  have hzw2 : IntKind.i64.wrap (z : Int) = (z : Int) := IntWalk.i64_in _ (by omega)
  clear h hb hm ht hlt hz hv e2 hl hrd hrd0
  go_enter Tryd.func20, Tryd.ntmps20
  go_wp2
  go_quiet (fail)
  have H1 := hid (H.out.drewN nq)
  have HRD1 := hid (show Rd (w.drewN nq) 1 _ _ _ from HRD.out)
  generalize w.drewN nq = w1 at H1 HRD1 ⊢
  have hb := H1.out.obj
  have d5 := hb.cell (i := 5) rfl
  have d6 := hb.cell (i := 6) rfl
  have g6 := hb.frozen 6
  have hd6 : ∀ k, (w1.drewN k).cell? ⟨B, 6, none⟩ = some (.int .i64 (a : Int)) := fun k => d6
  have HX := hid (fun k => HN.out (w1.drewN k) HRD1.out)
  clear c1 c5 c6 f6 H hb
  go_wp2
  go_quiet ((go_at_call 34; go_must (exact (HX.out _).mono fun _ _ h => ⟨h.1, _, h.2.symm⟩)))
  go_wp2
  go_ret2
  exact ⟨rfl, (H1.out.drewN nq).setObj 6 _⟩
set_option maxHeartbeats 1600000 in
theorem emit_no (B : Nat) (oo : Option Addr) (oc m e : Nat) (r k s b : Value) (a : Nat) (M c : Int) (li di lc dc tk : Value) (out : List Nat) (h : Held w0 w (strT B (.slice oo m oc) e r k s b a M li di lc dc tk :: ownT 5 1 (.slice oo m oc) m (u8s out) :: Rs)) (hM : M ≤ (m : Int)) :
    Calls Tryd.prog 35 #[ptrV B, .int .u8 c] w fun e' w' => e' = .returned (.bool false) ∧ Held w0 w' (strT B (.slice oo m oc) 6 r k s b a M li di lc dc tk :: ownT 5 1 (.slice oo m oc) m (u8s out) :: Rs) := by
  unfold ptrV
  unfold strT at h ⊢
  have hb := h.obj
  have c0 := hb.cell (i := 0) rfl
  have c1 := hb.cell (i := 1) rfl
  have c7 := hb.cell (i := 7) rfl
  have f1 := hb.frozen 1
  have H := hid h
  clear h hb
  go_enter Tryd.func35, Tryd.ntmps35
  go_wp2
  go_quiet (fail)
  go_wp2
  go_ret
  exact ⟨rfl, (H.out.drewN nq).setObj 1 _⟩
set_option maxHeartbeats 1600000 in
theorem emit_yes (B : Nat) (oo : Option Addr) (oc m e : Nat) (r k s b : Value) (a : Nat) (M : Int) (c : Nat) (li di lc dc tk : Value) (out : List Nat) (h : Held w0 w (strT B (.slice oo m oc) e r k s b a M li di lc dc tk :: ownT 5 1 (.slice oo m oc) m (u8s out) :: Rs)) (hM : (m : Int) < M) (hm : m ≤ 1000000000) :
    Calls Tryd.prog 35 #[ptrV B, .int .u8 (c : Int)] w fun e' w' => e' = .returned (.bool true) ∧ ∃ oo' oc', Held w0 w' (strT B (.slice oo' (m + 1) oc') e r k s b a M li di lc dc tk :: ownT 5 1 (.slice oo' (m + 1) oc') (m + 1) (u8s (out ++ [c])) :: Rs) := by
  obtain ⟨i0, hi0, hz0, hz1, hz2⟩ := info_parts infoByte10
  unfold ptrV
  unfold strT at h ⊢
  have hb := h.obj
  have c0 := hb.cell (i := 0) rfl
  have c7 := hb.cell (i := 7) rfl
  have hMn : ¬ M ≤ (m : Int) := by omega
  have H := hid h
  clear h hb
  go_enter Tryd.func35, Tryd.ntmps35
  go_wp2
  go_quiet (fail)
  have H1 := hid (H.out.drewN nq)
  generalize w.drewN nq = w1 at H1 ⊢
  have hb := H1.out.obj
  have d0 := hb.cell (i := 0) rfl
  clear c0 c7 H hb
  go_wp2_with (refine wpList_app_held rfl (.tmp 22) (.tmp 24) 22 rfl 5 i0 (.int .u8 0) 1 1 Tryd.underlying22 hi0 hz0 hz1 hz2 rfl (by decide) _ m (u8s out) rfl (H1.out.swap.alloc _) _ 1 (u8s [c]) rfl (Rd.lit _ [_] _ 1 1 (by decide) rfl) (u8s_one [c]) (m + 1) rfl (by unfold maxLen; omega) (by omega) ?_; intro oo' oc' w4 h4; rw [← u8s_append] at h4; have hb := h4.swap.obj; have e0 := hb.cell (i := 0) rfl; have g0 := hb.frozen 0; have H4 := hid (h4.swap.setObj 0 (.slice oo' (m + 1) oc')); clear h4 hb)
  go_ret
  exact ⟨rfl, _, _, H4.out⟩
end
end Go.Proofs.YtmmfkppkmgjljaaDoor
