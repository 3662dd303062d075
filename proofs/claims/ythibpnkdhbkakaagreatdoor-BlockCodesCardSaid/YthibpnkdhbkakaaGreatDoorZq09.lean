/-
  Things side by side, as many as a list names, as one thing; one of them taken out and put back. No program is named here.
-/
import Derived.Test.YthibpnkdhbkakaaGreatDoorZq02
import Derived.Test.YthibpnkdhbkakaaGreatDoorZq06
import Derived.Test.YthibpnkdhbkakaaGreatDoorZq03
import Derived.Test.YthibpnkdhbkakaaGreatDoorZq08
import Derived.StillTailTactics
import Derived.Deep.DeepMust
namespace Go.Proofs.YthibpnkdhbkakaaGreatDoor
set_option maxRecDepth 5000
open Go.RowKit

def noT : Thing where
  res := fun _ F => ∀ k, ¬ F k
  loc := fun _ _ _ _ h _ _ => h
def allT : List Thing → Thing
  | [] => noT
  | R :: L => andT R (allT L)
section
variable {w0 w : World}
theorem Held.noT {Rs : List Thing} (h : Held w0 w Rs) : Held w0 w (noT :: Rs) := h.push _ (fun _ => False) (fun _ h => h) (Mod.refl w _) (fun _ h => h.elim)
theorem Held.all : ∀ {L Rs : List Thing}, Held w0 w (L ++ Rs) → Held w0 w (allT L :: Rs)
  | [], _, h => h.noT
  | R :: L, Rs, h => by
    have h1 : Held w0 w (L ++ R :: Rs) := h.perm List.perm_middle.symm
    exact (Held.all h1).swap.pair
theorem Held.unall : ∀ {L Rs : List Thing}, Held w0 w (allT L :: Rs) → Held w0 w (L ++ Rs)
  | [], _, h => h.drop
  | R :: L, Rs, h => by
    have h1 : Held w0 w (L ++ R :: Rs) := Held.unall (Held.unpair h).swap
    exact h1.perm List.perm_middle
theorem allT_perm {L L' Rs : List Thing} (h : Held w0 w (allT L :: Rs)) (hp : L.Perm L') : Held w0 w (allT L' :: Rs) :=
  Held.all (h.unall.perm (hp.append_right Rs))
theorem eraseIdx_perm {R : Thing} : ∀ (L : List Thing) (i : Nat), L[i]? = some R → (R :: L.eraseIdx i).Perm L
  | [], i, h => by simp at h
  | a :: L, 0, h => by
    simp only [List.getElem?_cons_zero, Option.some.injEq] at h
    subst h; exact List.Perm.refl _
  | a :: L, i + 1, h => by
    have ih := eraseIdx_perm L i (by simpa using h)
    exact (List.Perm.swap a R _).trans (List.Perm.cons a ih)
theorem Held.allOut {L Rs : List Thing} {i : Nat} {R : Thing} (h : Held w0 w (allT L :: Rs)) (hi : L[i]? = some R) : Held w0 w (R :: allT (L.eraseIdx i) :: Rs) := by
  exact Held.unpair (allT_perm (L' := R :: L.eraseIdx i) h (eraseIdx_perm L i hi).symm)
theorem Held.allBack {L Rs : List Thing} {i : Nat} {R : Thing} (h : Held w0 w (R :: allT (L.eraseIdx i) :: Rs)) (hi : i < L.length) : Held w0 w (allT (L.set i R) :: Rs) := by
  have h1 : Held w0 w (allT (R :: L.eraseIdx i) :: Rs) := h.pair
  have h2 := eraseIdx_perm (L.set i R) i (List.getElem?_set_self hi)
  rw [List.eraseIdx_set_eq] at h2
  exact allT_perm h1 h2
/-- What was made since a world, beside what was held there. -/
theorem HeldU.frame {w w' : World} {Rs : List Thing} (h : Held w0 w Rs) : ∀ {Ts : List Thing} {U V : Nat → Prop}, HeldU w w' U Ts → (∀ k, V k → U k) → (∀ k, V k → w.heap.size ≤ k) → HeldU w0 w' V (Ts ++ Rs)
  | [], _, _, hm, _, hw => by
    have hM : Mod w w' (fun _ => False) := hm
    exact (HeldU.more h (fun k hk => .inr (hw k hk))).step hM (fun _ h => h.elim) (fun _ h => h.elim)
  | _ :: _, _, _, ⟨F, h1, h2, h3⟩, hv, hw =>
    ⟨F, h1, fun k hk => ⟨Nat.le_trans h.mod.size (h2 k hk).1, (h2 k hk).2.1, fun hV => (h2 k hk).2.2 (hv k hV)⟩,
      HeldU.frame h h3 (fun k hk => hk.imp (hv k) id) (fun k hk => hk.elim (hw k) fun hf => (h2 k hf).1)⟩
theorem Held.frame {w w' : World} {Rs Ts : List Thing} (h : Held w0 w Rs) (h2 : Held w w' Ts) : Held w0 w' (Ts ++ Rs) := HeldU.frame h h2 (fun _ h => h) (fun _ h => h.elim)
/-- something new at an address that is told by a number -/
theorem Held.litN {w : World} {Rs : List Thing} (h : Held w0 w Rs) (e : TypeId) (size : Nat) (cs : List Value) (n : Nat) (hm : n ≤ maxLen) (hs : cs.length = n * size) (N : Nat) (hN : w.heap.size = N) :
    Held w0 (w.alloc (.cells cs.toArray e)) (ownT e size (.slice (some ⟨N, 0, none⟩) n n) n cs :: Rs) := by
  subst hN
  exact h.lit e size cs n hm hs
end
end Go.Proofs.YthibpnkdhbkakaaGreatDoor
/-
  The reference's Expand.
-/
namespace Go.Proofs.YthibpnkdhbkakaaGreatDoor
set_option maxRecDepth 5000
open Go.RowKit

theorem infoByte8r : (Tryz.prog.info? 5).map (fun i => (i.zero, i.size, i.bytes)) = some (some (.int .u8 0), 1, 1) := by kernel_rfl
set_option maxRecDepth 100000 in
set_option maxHeartbeats 3200000 in
theorem refexpand_any (v : Value) (n : Nat) (l : List Tok) (w : World) (hv : Rd w 3 v n (toksV l)) (hok : byteOK l) (hn : n < 1000000000) :
    Calls Tryz.prog 15 #[v] w fun e w' => ∃ u, e = .returned (.tuple #[u, .int .i64 (((expT [] l).1 : Nat) : Int)]) ∧ Held w w' [ownT 5 1 u (expT [] l).2.length (u8s (expT [] l).2)] := by
  obtain ⟨i0, hi0, hz0, hz1, hz2⟩ := info_parts infoByte8r
  obtain ⟨ao, cap, rfl, _, _⟩ := hv.form
  have HL := hid hv.toks_len
  have HV := hid hv
  have HOK := hid hok
  have hn0 : (0 : Int) ≤ (n : Int) := Int.natCast_nonneg _
  have H1 := hid (Held.start w)
  clear hv hok
  go_enter Tryz.func15, Tryz.ntmps15
  go_wp2
  go_loopg [4, 5] (n + 2) (fun k t4 t5 wr => ∃ (i m : Nat) (A : List Nat) (a4 : Option Addr) (c4 : Nat), i ≤ n ∧ n - i < k ∧ t5 = .int .i64 (i : Int) ∧ t4 = .slice a4 m c4 ∧ Hid (m = A.length) ∧ m ≤ 16777216 ∧ Hid (∀ b ∈ A, b < 256) ∧ Hid (expT [] l = expT A (l.drop i)) ∧
    Hid (Held w wr [ownT 5 1 (.slice a4 m c4) m (u8s A)]))
  case atStart => exact ⟨0, 0, [], none, 0, by omega, by omega, rfl, rfl, rfl, by omega, hid (by simp), rfl, hid (H1.out.nil 5 1)⟩
  case round =>
    obtain ⟨i, m, A, a4, c4, hi, hk, rfl, rfl, HM, hm, HA, HE, HH⟩ := hrel
    obtain ⟨gx, rfl⟩ : ∃ g, g = gk := ⟨gk, rfl⟩
    have hi0' : (0 : Int) ≤ (i : Int) := Int.natCast_nonneg _
    have hm0 : (0 : Int) ≤ (m : Int) := Int.natCast_nonneg _
    by_cases hin : i < n
    · have hiI : (i : Int) < (n : Int) := by omega
      obtain ⟨⟨ta, tl, td⟩, ht⟩ : ∃ t, l[i]? = some t := ⟨l[i]'(by have := HL.out; omega), List.getElem?_eq_getElem _⟩
      obtain ⟨g, off, rfl, c0, c1, c2⟩ := (HH.out.old HV.out).tok ht
      have HT := hid ht
      have hta := HOK.out _ (List.mem_of_getElem? ht)
      simp only at hta
      clear ht
      have HS := hid (refSound_any (ta, tl, td))
      unfold tokV at HS
      simp only at HS
      have HTD := hid (expT_drop A l i (ta, tl, td) HT.out)
      have hml : A.length ≤ most := by rw [← HM.out]; exact hm
      have HML := hid hml
      clear hml
      by_cases hsb : soundB (ta, tl, td) = true
      · rw [hsb] at HS
        have HSB := hid hsb
        clear hsb
        by_cases h0 : tl = 0
        · subst h0
          by_cases hc : 16777216 ≤ m
          · have HF : Hid (expT [] l = (6, [])) := hid (by rw [HE.out, HTD.out, stepT_litCap HSB.out rfl (by rw [← HM.out]; exact hc)]; rfl)
            have hb1 : decide ((16777216 : Int) ≤ (m : Int)) = true := decide_eq_true (by omega)
            have hb2 : decide (16777216 ≤ m) = true := decide_eq_true hc
            clear hc
            go_wp2_with fail
            refine (HS.out _).mono ?_
            rintro e w2 ⟨rfl, hm⟩
            have hh := HH.out.same hm
            have HN := hid (hh.nil 5 1).one
            obtain ⟨g', off', he, c0, c1, c2⟩ := (hh.old HV.out).tok HT.out
            simp only [Option.some.injEq, Addr.mk.injEq, and_true] at he
            obtain ⟨rfl, rfl⟩ := he
            clear hm hh
            go_wp2
            go_ret2
            refine ⟨_, by rw [HF.out]; rfl, ?_⟩
            rw [HF.out]
            exact HN.out
          · have hb1 : decide ((16777216 : Int) ≤ (m : Int)) = false := decide_eq_false (by omega)
            have hb2 : decide (16777216 ≤ m) = false := decide_eq_false hc
            have hb3 : decide ((16777216 : Int) < (m : Int)) = false := decide_eq_false (by omega)
            have hb4 : decide (16777216 < m) = false := decide_eq_false (by omega)
            have hst := stepT_lit (acc := A) HSB.out rfl (by rw [← HM.out]; exact hc)
            have HTD2 : Hid (expT [] l = expT (A ++ [ta.toNat]) (l.drop (i + 1))) := hid (by rw [HE.out, HTD.out, hst]; rfl)
            have HBY := hid (stepT_bytes A (ta, 0, td) HA.out hta)
            rw [hst] at HBY
            obtain ⟨a, rfl⟩ := Int.eq_ofNat_of_zero_le hta.1
            have hm1 : m + 1 ≤ 16777216 := by omega
            clear hc hst
            go_wp2_with fail
            refine (HS.out _).mono ?_
            rintro e w2 ⟨rfl, hm⟩
            have hh := HH.out.same hm
            obtain ⟨g', off', he, c0, c1, c2⟩ := (hh.old HV.out).tok HT.out
            simp only [Option.some.injEq, Addr.mk.injEq, and_true] at he
            obtain ⟨rfl, rfl⟩ := he
            have H2 := hid hh
            clear hm hh
            go_wp2_with (refine wpList_app_held rfl (.tmp 47) (.tmp 53) 23 rfl 5 i0 (.int .u8 0) 1 1 Tryz.underlying23 hi0 hz0 hz1 hz2 rfl (by decide) _ m (u8s A) rfl (H2.out.alloc _) _ 1 (u8s [a]) rfl (Rd.lit _ [_] _ 1 1 (by decide) rfl) (u8s_one [a]) (m + 1) rfl (by unfold maxLen; omega) (by omega) ?_; intro ao1 cap1 w4 h4; have H4 := hid h4; clear h4)
            go_roundg (gx - 1)
            case measure => omega
            case rel =>
              refine ⟨i + 1, m + 1, A ++ [a], ao1, cap1, by omega, by omega, by go_num, rfl, hid (by rw [List.length_append, ← HM.out]; rfl), hm1, HBY.out, HTD2, hid ?_⟩
              rw [u8s_append]
              exact H4.out
        · obtain ⟨hz, ⟨h1, h2⟩, h3, h4⟩ := sound_match HSB.out h0
          simp only at hz h1 h2 h3 h4
          subst hz
          obtain ⟨L, rfl⟩ := Int.eq_ofNat_of_zero_le (show 0 ≤ tl by omega)
          obtain ⟨d, rfl⟩ := Int.eq_ofNat_of_zero_le (show 0 ≤ td by omega)
          have hL0 : (0 : Int) ≤ (L : Int) := Int.natCast_nonneg _
          have hd0 : (0 : Int) ≤ (d : Int) := Int.natCast_nonneg _
          have hL3 : 3 ≤ L := by omega
          have hL258 : L ≤ 258 := by omega
          have hd1 : 1 ≤ d := by omega
          have hd3 : d ≤ 32768 := by omega
          have hLz : ((L : Int) == 0) = false := by simp; omega
          have hLz2 : (L == 0) = false := by simp; omega
          have hLz3 : decide (L = 0) = false := decide_eq_false (by omega)
          obtain ⟨z, hz⟩ : ∃ z, z = m + L := ⟨_, rfl⟩
          have hzI : (m : Int) + (L : Int) = (z : Int) := by omega
          have hzb : z ≤ 16780000 := by omega
          have HZ := hid hz
          have H0 := hid h0
          clear h1 h2 h3 h4 hz h0
          by_cases hc : 16777216 < z
          · have HF : Hid (expT [] l = (6, [])) := hid (by rw [HE.out, HTD.out, stepT_matchCap HSB.out H0.out (by rw [← HM.out, Int.toNat_natCast, ← HZ.out]; exact hc)]; rfl)
            have hb1 : decide ((16777216 : Int) < (z : Int)) = true := decide_eq_true (by omega)
            have hb2 : decide (16777216 < z) = true := decide_eq_true hc
            clear hc
            go_wp2_with fail
            refine (HS.out _).mono ?_
            rintro e w2 ⟨rfl, hm⟩
            have hh := HH.out.same hm
            have HN := hid (hh.nil 5 1).one
            obtain ⟨g', off', he, c0, c1, c2⟩ := (hh.old HV.out).tok HT.out
            simp only [Option.some.injEq, Addr.mk.injEq, and_true] at he
            obtain ⟨rfl, rfl⟩ := he
            clear hm hh
            go_wp2
            go_ret2
            refine ⟨_, by rw [HF.out]; rfl, ?_⟩
            rw [HF.out]
            exact HN.out
          · have hb1 : decide ((16777216 : Int) < (z : Int)) = false := decide_eq_false (by omega)
            have hb2 : decide (16777216 < z) = false := decide_eq_false hc
            have HZ2 : Hid (¬ most < A.length + (L : Int).toNat) := hid (by rw [← HM.out, Int.toNat_natCast, ← HZ.out]; exact hc)
            have hz16 : z ≤ 16777216 := by omega
            clear hc
            by_cases hd : m < d
            · have HF : Hid (expT [] l = (3, [])) := hid (by rw [HE.out, HTD.out, stepT_far HSB.out H0.out HZ2.out (by rw [← HM.out, Int.toNat_natCast]; exact hd)]; rfl)
              have hdI : (m : Int) < (d : Int) := by omega
              go_wp2_with fail
              refine (HS.out _).mono ?_
              rintro e w2 ⟨rfl, hm⟩
              have hh := HH.out.same hm
              have HN := hid (hh.nil 5 1).one
              obtain ⟨g', off', he, c0, c1, c2⟩ := (hh.old HV.out).tok HT.out
              simp only [Option.some.injEq, Addr.mk.injEq, and_true] at he
              obtain ⟨rfl, rfl⟩ := he
              clear hm hh
              go_wp2
              go_ret2
              refine ⟨_, by rw [HF.out]; rfl, ?_⟩
              rw [HF.out]
              exact HN.out
            · have hdI : decide ((m : Int) < (d : Int)) = false := decide_eq_false (by omega)
              have hdI2 : decide (m < d) = false := decide_eq_false hd
              have hdm : d ≤ m := by omega
              have hst := stepT_match HSB.out H0.out HZ2.out (by rw [← HM.out, Int.toNat_natCast]; exact hd)
              have HTD2 : Hid (expT [] l = expT (ext A d L) (l.drop (i + 1))) := hid (by rw [HE.out, HTD.out, hst]; rfl)
              have HBY := hid (ext_lt A d HA.out L)
              clear hst hd
              go_wp2_with fail
              refine (HS.out _).mono ?_
              rintro e w2 ⟨rfl, hm⟩
              have hh := HH.out.same hm
              obtain ⟨g', off', he, c0, c1, c2⟩ := (hh.old HV.out).tok HT.out
              simp only [Option.some.injEq, Addr.mk.injEq, and_true] at he
              obtain ⟨rfl, rfl⟩ := he
              have H2 := hid hh
              clear hm hh
              go_wp2
              go_loopg [4, 6] (L + 2) (fun k t4 t6 wq => ∃ (j : Nat) (a4 : Option Addr) (c4 : Nat), j ≤ L ∧ L - j < k ∧ t6 = .int .i64 (j : Int) ∧ t4 = .slice a4 (m + j) c4 ∧ Hid (Held w wq [ownT 5 1 (.slice a4 (m + j) c4) (m + j) (u8s (ext A d j))]))
              case atStart => exact ⟨0, a4, c4, by omega, by omega, rfl, rfl, H2⟩
              case round =>
                obtain ⟨j, a5, c5, hj, hk2, rfl, rfl, HQ⟩ := hrel
                have hj0 : (0 : Int) ≤ (j : Int) := Int.natCast_nonneg _
                obtain ⟨g', off', he, d0, d1, d2⟩ := (HQ.out.old HV.out).tok HT.out
                simp only [Option.some.injEq, Addr.mk.injEq, and_true] at he
                obtain ⟨rfl, rfl⟩ := he
                by_cases hjL : j < L
                · have hjI : (j : Int) < (L : Int) := by omega
                  obtain ⟨q, hq⟩ : ∃ q, q = m + j := ⟨_, rfl⟩
                  rw [← hq] at HQ ⊢
                  obtain ⟨p, hp⟩ : ∃ p, p = q - d := ⟨_, rfl⟩
                  have hel : (ext A d j).length = q := by rw [ext_length, ← HM.out, hq]
                  obtain ⟨x, hx⟩ : ∃ x, (ext A d j)[p]? = some x := ⟨(ext A d j)[p]'(by omega), List.getElem?_eq_getElem _⟩
                  have hES : u8s (ext A d j) ++ u8s [x] = u8s (ext A d (j + 1)) := by
                    rw [← u8s_append, ext, ← HM.out, show m + j - d = p by omega, hx]; rfl
                  obtain ⟨b, o, rfl, hcell, _, _⟩ := HQ.out.own.site (by omega)
                  have e1 := hcell p (.int .u8 (x : Int)) (by rw [u8s_get, hx]; rfl)
                  have hpI : (q : Int) - (d : Int) = (p : Int) := by omega
                  have hp0 : (0 : Int) ≤ (p : Int) := Int.natCast_nonneg _
                  have hq0 : (0 : Int) ≤ (q : Int) := Int.natCast_nonneg _
                  have hpq : (p : Int) < (q : Int) := by omega
                  have hqb : q < 16777216 := by have := HZ.out; omega
                  have HES := hid hES
                  have HQM := hid hq
                  clear hcell hx hES hp hel hq
                  go_wp2_with (refine wpList_app_held rfl (.tmp 72) (.tmp 84) 23 rfl 5 i0 (.int .u8 0) 1 1 Tryz.underlying23 hi0 hz0 hz1 hz2 rfl (by decide) _ q (u8s (ext A d j)) rfl (HQ.out.alloc _) _ 1 (u8s [x]) rfl (Rd.lit _ [_] _ 1 1 (by decide) rfl) (u8s_one [x]) (q + 1) rfl (by unfold maxLen; omega) (by omega) ?_; intro ao1 cap1 w4 h4; have H4 := hid h4; clear h4)
                  go_roundg (gk - 1)
                  case measure => omega
                  case rel =>
                    have hq1 : q + 1 = m + (j + 1) := by have := HQM.out; omega
                    refine ⟨j + 1, ao1, cap1, by omega, by omega, by go_num, by rw [← hq1], hid ?_⟩
                    rw [← hq1, ← HES.out]
                    exact H4.out
                · obtain rfl : j = L := by omega
                  have hjI : ¬ (j : Int) < (j : Int) := by omega
                  go_wp2
                  go_roundg (gx - 1)
                  case measure => omega
                  case rel => exact ⟨i + 1, m + j, ext A d j, a5, c5, by omega, by omega, by go_num, rfl, hid (by rw [ext_length, ← HM.out]), by have := HZ.out; omega, HBY, HTD2, HQ⟩
      · have hsb : soundB (ta, tl, td) = false := by simpa using hsb
        rw [hsb] at HS
        have HF : Hid (expT [] l = (1, [])) := hid (by rw [HE.out, HTD.out, stepT_bad hsb]; rfl)
        clear hsb
        go_wp2_with fail
        refine (HS.out _).mono ?_
        rintro e w2 ⟨rfl, hm⟩
        have HN := hid ((HH.out.same hm).nil 5 1).one
        clear hm
        go_wp2
        go_ret2
        refine ⟨_, by rw [HF.out]; rfl, ?_⟩
        rw [HF.out]
        exact HN.out
    · have hiI : ¬ (i : Int) < (n : Int) := by omega
      have HF : Hid (expT [] l = (0, A)) := hid (by rw [HE.out, List.drop_of_length_le (by have := HL.out; omega)]; rfl)
      go_wp2
      go_ret2
      refine ⟨_, by rw [HF.out]; rfl, ?_⟩
      have h1 := HH.out.one
      rw [HF.out]
      rw [← HM.out]
      exact h1
end Go.Proofs.YthibpnkdhbkakaaGreatDoor
/-
  The reference's stream in memory; its take, emit.
-/
namespace Go.Proofs.YthibpnkdhbkakaaGreatDoor
set_option maxRecDepth 5000
open Go.RowKit

/-- A slice that is read alone, in blocks of the call's own. -/
def rdT (size : Nat) (v : Value) (n : Nat) (xs : List Value) : Thing where
  res := fun w F => Rd w size v n xs ∧ ∀ k, v.ownBlock = some k → F k
  loc := fun _ _ _ _ h hm hS => ⟨h.1.kept hm (fun k hk => hS k (h.2 k hk)), h.2⟩
/-- two of them, which may share their memory -/
def rd2T (size : Nat) (v : Value) (n : Nat) (xs : List Value) (v2 : Value) (n2 : Nat) (xs2 : List Value) : Thing where
  res := fun w F => (Rd w size v n xs ∧ ∀ k, v.ownBlock = some k → F k) ∧ (Rd w size v2 n2 xs2 ∧ ∀ k, v2.ownBlock = some k → F k)
  loc := fun _ _ _ _ h hm hS => ⟨⟨h.1.1.kept hm (fun k hk => hS k (h.1.2 k hk)), h.1.2⟩, ⟨h.2.1.kept hm (fun k hk => hS k (h.2.2 k hk)), h.2.2⟩⟩
section
variable {w0 w : World} {Rs : List Thing}
theorem Held.rdv {size n : Nat} {v : Value} {xs : List Value} (h : Held w0 w (rdT size v n xs :: Rs)) : Rd w size v n xs := by
  obtain ⟨F, h1, _⟩ := h
  exact h1.1
theorem Held.rdv2 {size n n2 : Nat} {v v2 : Value} {xs xs2 : List Value} (h : Held w0 w (rd2T size v n xs v2 n2 xs2 :: Rs)) : Rd w size v n xs ∧ Rd w size v2 n2 xs2 := by
  obtain ⟨F, h1, _⟩ := h
  exact ⟨h1.1.1, h1.2.1⟩
theorem Held.toRd {e : TypeId} {size n : Nat} {v : Value} {xs : List Value} (h : Held w0 w (ownT e size v n xs :: Rs)) : Held w0 w (rdT size v n xs :: Rs) := by
  obtain ⟨F, h1, h2⟩ := h
  exact ⟨F, ⟨h1.1.rd, fun k hk => (h1.2 k).2 hk⟩, h2⟩
/-- a reference's stream: its cells -/
def strT (B : Nat) (o : Value) (e : Nat) (r k s b : Value) (a : Nat) (M : Int) (li di lc dc tk : Value) : Thing :=
  objT B [o, .int .i64 (e : Int), r, k, s, b, .int .i64 (a : Int), .int .i64 M, li, di, lc, dc, tk] 40
def ptrV (B : Nat) : Value := .pointer (some ⟨B, 0, none⟩)
theorem infoByte10 : (Tryz.prog.info? 5).map (fun i => (i.zero, i.size, i.bytes)) = some (some (.int .u8 0), 1, 1) := by kernel_rfl
theorem take_some {bs : List Nat} {a n v : Nat} (h : takeM bs a n = some v) : a + n ≤ bs.length ∧ v = numOf ((bs.drop a).take n) := by
  unfold takeM at h
  split at h
  · rename_i hc
    simp only [Option.some.injEq] at h
    exact ⟨hc, h.symm⟩
  · cases h
theorem take_none {bs : List Nat} {a n : Nat} (h : takeM bs a n = none) : bs.length < a + n := by
  unfold takeM at h
  split at h
  · cases h
  · omega
set_option maxHeartbeats 1600000 in
theorem take_no (B : Nat) (o : Value) (e : Nat) (r k s : Value) (bo : Option Addr) (bc m a n : Nat) (M : Int) (li di lc dc tk : Value) (all : List Nat) (h : Held w0 w (strT B o e r k s (.slice bo m bc) a M li di lc dc tk :: rdT 1 (.slice bo m bc) m (u8s all) :: Rs)) (ht : takeM all a n = none) (ha : a ≤ 2000000000) (hn : n ≤ 64) :
    Calls Tryz.prog 28 #[ptrV B, .int .i64 (n : Int)] w fun e' w' => e' = .returned (.tuple #[.int .i64 0, .bool false]) ∧ Held w0 w' (strT B o 5 r k s (.slice bo m bc) a M li di lc dc tk :: rdT 1 (.slice bo m bc) m (u8s all) :: Rs) := by
  have hm : m = all.length := by have := h.drop.rdv.1; rw [u8s_length] at this; omega
  have hlt := take_none ht
  rw [← hm] at hlt
  unfold ptrV
  unfold strT at h ⊢
  have hb := h.obj
  have c1 := hb.cell (i := 1) rfl
  have c5 := hb.cell (i := 5) rfl
  have c6 := hb.cell (i := 6) rfl
  have f1 := hb.frozen 1
  have ha0 : (0 : Int) ≤ (a : Int) := Int.natCast_nonneg _
  have hn0 : (0 : Int) ≤ (n : Int) := Int.natCast_nonneg _
  obtain ⟨z, hz⟩ : ∃ z, z = a + n := ⟨_, rfl⟩
  have hzI : (a : Int) + (n : Int) = (z : Int) := by omega
  have hz0 : (0 : Int) ≤ (z : Int) := Int.natCast_nonneg _
  have hzm : (m : Int) < (z : Int) := by omega
  have hzm2 : m < z := by omega
  have hzw : IntKind.i64.wrap ((a : Int) + (n : Int)) = (z : Int) := by rw [hzI]; exact IntWalk.i64_in _ (by omega)
  have H := hid h
  clear h hb hm ht hlt hz
  go_enter Tryz.func28, Tryz.ntmps28
  go_wp2
  go_quiet (fail)
  go_wp2
  go_ret2
  exact ⟨rfl, (H.out.drewN nq).setObj 1 _⟩
theorem front_run10 (xo : Option Addr) (m xc a e : Nat) (h1 : a ≤ e) (h2 : e ≤ m) (h3 : m ≤ xc) (wg : World) :
    (Instr.sliceAt 23 (.slice xo m xc) (some (.int .i64 (a : Int))) (some (.int .i64 (e : Int))) none).run Tryz.prog wg = .ok (sliced xo a e xc 1) wg := by
  obtain ⟨i, hi, hz0, hz1, hz2⟩ := info_parts infoByte10
  exact run_cut (P := Tryz.prog) (w := wg) 23 5 i 1 Tryz.underlying23 hi hz1 xo m xc a e (some (.int .i64 (a : Int))) (some (.int .i64 (e : Int))) ⟨_, rfl⟩ ⟨_, rfl⟩ h1 (by omega)
set_option maxHeartbeats 1600000 in
theorem take_yes (B : Nat) (o : Value) (e : Nat) (r k s : Value) (bo : Option Addr) (bc m a n v : Nat) (M : Int) (li di lc dc tk : Value) (all : List Nat) (h : Held w0 w (strT B o e r k s (.slice bo m bc) a M li di lc dc tk :: rdT 1 (.slice bo m bc) m (u8s all) :: Rs)) (ht : takeM all a n = some v) (hbits : isBits all) (hm2 : m ≤ 2000000000) (hn : n ≤ 60) :
    Calls Tryz.prog 28 #[ptrV B, .int .i64 (n : Int)] w fun e' w' => e' = .returned (.tuple #[.int .i64 (v : Int), .bool true]) ∧ Held w0 w' (strT B o e r k s (.slice bo m bc) (a + n) M li di lc dc tk :: rdT 1 (.slice bo m bc) m (u8s all) :: Rs) := by
  have hm : m = all.length := by have := h.drop.rdv.1; rw [u8s_length] at this; omega
  obtain ⟨hlt, hv⟩ := take_some ht
  rw [← hm] at hlt
  unfold ptrV
  unfold strT at h ⊢
  have hb := h.obj
  have c1 := hb.cell (i := 1) rfl
  have c5 := hb.cell (i := 5) rfl
  have c6 := hb.cell (i := 6) rfl
  have f6 := hb.frozen 6
  have ha0 : (0 : Int) ≤ (a : Int) := Int.natCast_nonneg _
  have hn0 : (0 : Int) ≤ (n : Int) := Int.natCast_nonneg _
  obtain ⟨z, hz⟩ : ∃ z, z = a + n := ⟨_, rfl⟩
  rw [← hz] at hlt ⊢
  have hzI : (a : Int) + (n : Int) = (z : Int) := by omega
  have hz0 : (0 : Int) ≤ (z : Int) := Int.natCast_nonneg _
  have hzm : ¬ (m : Int) < (z : Int) := by omega
  have hzm2 : decide (m < z) = false := decide_eq_false (by omega)
  have hzm3 : decide ((m : Int) < (z : Int)) = false := decide_eq_false hzm
  have haz : (a : Int) ≤ (z : Int) := by omega
  have hzm4 : (z : Int) ≤ (m : Int) := by omega
  have hrd0 := h.drop.rdv
  obtain ⟨_, _, hbe, hbc, _⟩ := hrd0.form
  simp only [Value.slice.injEq, true_and] at hbe
  obtain ⟨rfl, rfl⟩ := hbe
  have hcut := front_run10 bo m bc a z (by omega) hlt hbc
  have hrd := hrd0.cut (L := a) (H := z) (by omega) hlt
  have e2 : ((u8s all).drop (a * 1)).take ((z - a) * 1) = u8s ((all.drop a).take n) := by
    rw [Nat.mul_one, Nat.mul_one, show z - a = n by omega]
    simp [u8s, List.map_drop, List.map_take]
  rw [e2] at hrd
  have hl : ((all.drop a).take n).length = z - a := by rw [List.length_take, List.length_drop]; omega
  unfold sliced at hcut hrd
  rw [← hl] at hcut hrd
  generalize (if bc = a then bo else bo.map fun (x : Addr) => x.add (a * 1)) = a' at hcut hrd
  have HN := hid (fun w1 (hr : Rd w1 1 (.slice a' ((all.drop a).take n).length (bc - a)) ((all.drop a).take n).length (u8s ((all.drop a).take n))) => number_any _ _ w1 hr (isBits_take (isBits_drop hbits a) n) (by rw [hl]; omega))
  rw [← hv] at HN
  generalize ((all.drop a).take n).length = L at *
  have HRD := hid hrd
  have H := hid h
  have hzw : IntKind.i64.wrap ((a : Int) + (n : Int)) = (z : Int) := by rw [hzI]; exact IntWalk.i64_in _ (by omega)
  have hzw2 : IntKind.i64.wrap (z : Int) = (z : Int) := IntWalk.i64_in _ (by omega)
  clear h hb hm ht hlt hz hv e2 hl hrd hrd0
  go_enter Tryz.func28, Tryz.ntmps28
  go_wp2
  go_quiet (fail)
  have H1 := hid (H.out.drewN nq)
  have HRD1 := hid (show Rd (w.drewN nq) 1 _ _ _ from HRD.out)
  generalize w.drewN nq = w1 at H1 HRD1 ⊢
  have hb := H1.out.obj
  have d5 := hb.cell (i := 5) rfl
  have d6 := hb.cell (i := 6) rfl
  have g6 := hb.frozen 6
  have hd6 : ∀ k, (w1.drewN k).cell? ⟨B, 6, none⟩ = some (.int .i64 (a : Int)) := fun k => d6
  have HX := hid (fun k => HN.out (w1.drewN k) HRD1.out)
  clear c1 c5 c6 f6 H hb
  go_wp2
  go_quiet ((go_at_call 43; go_must (exact (HX.out _).mono fun _ _ h => ⟨h.1, _, h.2.symm⟩)))
  go_wp2
  go_ret2
  exact ⟨rfl, (H1.out.drewN nq).setObj 6 _⟩
set_option maxHeartbeats 1600000 in
theorem emit_no (B : Nat) (oo : Option Addr) (oc m e : Nat) (r k s b : Value) (a : Nat) (M c : Int) (li di lc dc tk : Value) (out : List Nat) (h : Held w0 w (strT B (.slice oo m oc) e r k s b a M li di lc dc tk :: ownT 5 1 (.slice oo m oc) m (u8s out) :: Rs)) (hM : M ≤ (m : Int)) :
    Calls Tryz.prog 44 #[ptrV B, .int .u8 c] w fun e' w' => e' = .returned (.bool false) ∧ Held w0 w' (strT B (.slice oo m oc) 6 r k s b a M li di lc dc tk :: ownT 5 1 (.slice oo m oc) m (u8s out) :: Rs) := by
  unfold ptrV
  unfold strT at h ⊢
  have hb := h.obj
  have c0 := hb.cell (i := 0) rfl
  have c1 := hb.cell (i := 1) rfl
  have c7 := hb.cell (i := 7) rfl
  have f1 := hb.frozen 1
  have H := hid h
  clear h hb
  go_enter Tryz.func44, Tryz.ntmps44
  go_wp2
  go_quiet (fail)
  go_wp2
  go_ret
  exact ⟨rfl, (H.out.drewN nq).setObj 1 _⟩
set_option maxHeartbeats 1600000 in
theorem emit_yes (B : Nat) (oo : Option Addr) (oc m e : Nat) (r k s b : Value) (a : Nat) (M : Int) (c : Nat) (li di lc dc tk : Value) (out : List Nat) (h : Held w0 w (strT B (.slice oo m oc) e r k s b a M li di lc dc tk :: ownT 5 1 (.slice oo m oc) m (u8s out) :: Rs)) (hM : (m : Int) < M) (hm : m ≤ 1000000000) :
    Calls Tryz.prog 44 #[ptrV B, .int .u8 (c : Int)] w fun e' w' => e' = .returned (.bool true) ∧ ∃ oo' oc', Held w0 w' (strT B (.slice oo' (m + 1) oc') e r k s b a M li di lc dc tk :: ownT 5 1 (.slice oo' (m + 1) oc') (m + 1) (u8s (out ++ [c])) :: Rs) := by
  obtain ⟨i0, hi0, hz0, hz1, hz2⟩ := info_parts infoByte10
  unfold ptrV
  unfold strT at h ⊢
  have hb := h.obj
  have c0 := hb.cell (i := 0) rfl
  have c7 := hb.cell (i := 7) rfl
  have hMn : ¬ M ≤ (m : Int) := by omega
  have H := hid h
  clear h hb
  go_enter Tryz.func44, Tryz.ntmps44
  go_wp2
  go_quiet (fail)
  have H1 := hid (H.out.drewN nq)
  generalize w.drewN nq = w1 at H1 ⊢
  have hb := H1.out.obj
  have d0 := hb.cell (i := 0) rfl
  clear c0 c7 H hb
  go_wp2_with (refine wpList_app_held rfl (.tmp 22) (.tmp 24) 23 rfl 5 i0 (.int .u8 0) 1 1 Tryz.underlying23 hi0 hz0 hz1 hz2 rfl (by decide) _ m (u8s out) rfl (H1.out.swap.alloc _) _ 1 (u8s [c]) rfl (Rd.lit _ [_] _ 1 1 (by decide) rfl) (u8s_one [c]) (m + 1) rfl (by unfold maxLen; omega) (by omega) ?_; intro oo' oc' w4 h4; rw [← u8s_append] at h4; have hb := h4.swap.obj; have e0 := hb.cell (i := 0) rfl; have g0 := hb.frozen 0; have H4 := hid (h4.swap.setObj 0 (.slice oo' (m + 1) oc')); clear h4 hb)
  go_ret
  exact ⟨rfl, _, _, H4.out⟩
end
end Go.Proofs.YthibpnkdhbkakaaGreatDoor
