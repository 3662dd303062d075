/-
  The landed decoder: a whole stream; one that is none.
-/
import Derived.Test.YtbkbkmgogbgofaaDoorZh20
import Derived.Test.YtbkbkmgogbgofaaDoorZh03
import Derived.Test.YtbkbkmgogbgofaaDoorZh02
import Derived.Deep.Slices
import Derived.OpenShut
import Derived.ProofKit
import Derived.Test.YtbkbkmgogbgofaaDoorZh07
import Derived.Test.YtbkbkmgogbgofaaDoorZh10
import Derived.Deep.DeepCutAuto
import Derived.Test.YtbkbkmgogbgofaaDoorZh23
import Derived.Test.YtbkbkmgogbgofaaDoorRows
import Derived.Test.YtbkbkmgogbgofaaDoorZh16
import Derived.LaidMore
import Derived.Deep.Strs
import Derived.Stop.Joined
namespace Go.Proofs.YtbkbkmgogbgofaaDoor
set_option maxRecDepth 5000
open Go.RowKit
section
variable {w0 w : World} {Rs : List Thing} {p : Place} {M : Nat}
/-! ### A decoder that is none -/
end
end Go.Proofs.YtbkbkmgogbgofaaDoor
/-
  What a law is handed, opened: numbers, bools, strings, slices of any of these, structs. A 'Shape' says what the cells of a type hold; no program is named here.
-/
namespace Go.Proofs.YtbkbkmgogbgofaaDoor
set_option maxRecDepth 5000
open Go.RowKit
section
variable {P : Program}
end
end Go.Proofs.YtbkbkmgogbgofaaDoor
/-
  The laws' own example; a decoder that may let out nothing.
-/
namespace Go.Proofs.YtbkbkmgogbgofaaDoor
set_option maxRecDepth 5000
open Go.RowKit
section
variable {w0 w : World} {Rs : List Thing}
end
end Go.Proofs.YtbkbkmgogbgofaaDoor
/-
  The laws' own example; what a decoder that was fed is about to let out.
-/
namespace Go.Proofs.YtbkbkmgogbgofaaDoor
set_option maxRecDepth 5000
open Go.RowKit
theorem ans_symZ : symF fixLit ((bits8 [3, 0, 0, 0, 0, 1]).drop 3) = (256, 7, 0) := by
  have h := sym_read (good_of fix_check.1) (k := 256) ⟨7, by kernel_rfl, by decide⟩ (post := (bits8 [3, 0, 0, 0, 0, 1]).drop 10) (fun b hb => bits8_isBits _ b (List.mem_of_mem_drop hb))
  rw [show symBits fixLit 256 ++ (bits8 [3, 0, 0, 0, 0, 1]).drop 10 = (bits8 [3, 0, 0, 0, 0, 1]).drop 3 by decide +kernel] at h
  exact h
theorem ans_endsZ (M : Nat) : Ends M .hd (bits8 [3, 0, 0, 0, 0, 1]) [] 8 ((bits8 [3, 0, 0, 0, 0, 1]).drop 10) [] := by
  refine .go (p1 := .tok true fixLit fixDist) (l1 := (bits8 [3, 0, 0, 0, 0, 1]).drop 3) (o1 := []) (by kernel_rfl) (.done ?_)
  show tokR M true fixLit fixDist _ [] (symF fixLit ((bits8 [3, 0, 0, 0, 0, 1]).drop 3)) = _
  rw [ans_symZ]
  rfl
theorem ans_file : ZEnds true 5 [120, 156, 3, 0, 0, 0, 0, 1] [] 8 := .inr ⟨by decide, 8, _, ans_endsZ 5, .inr ⟨rfl, by
  rw [show restOf ((bits8 [3, 0, 0, 0, 0, 1]).drop 10) = [0, 0, 0, 1] by decide +kernel]
  decide +kernel⟩⟩
section
variable {w0 w : World} {Rs : List Thing} {D M : Nat} {st : ZSt} {l out : List Nat} {e : Nat}
theorem zat_end (hM : M < 100000000) (hF : FedZ M l st) (hg : ZEnds true M l out e) (h : Held w0 w (zT D false M st :: Rs)) :
    Calls Tryd.prog 8 #[.pointer (some ⟨D, 0, none⟩)] w fun en w' => en = .returned (.tuple #[]) ∧ ZAt w0 w' Rs D out e :=
  (zendT_any h).mono fun _ _ ⟨h1, h2⟩ => ⟨h1, true, M, st, hM, hF.2 _ _ _ hg, hF.1, h2⟩
theorem zat_fed (hM : M < 100000000) (hF : FedZ M l st) (hg : ZEnds false M l out e) (h : Held w0 w (zT D false M st :: Rs)) : ZAt w0 w Rs D out e := ⟨false, M, st, hM, hF.2 _ _ _ hg, hF.1, h⟩
theorem ZAt.held (h : ZAt w0 w Rs D out e) : ∃ T, Held w0 w (T :: Rs) := by
  obtain ⟨_, _, _, _, _, _, h⟩ := h
  exact ⟨_, h⟩
set_option maxRecDepth 100000 in
set_option maxHeartbeats 1600000 in
theorem h_answers14 (hG : GlobI w0) (h : Held w0 w Rs) :
    Calls Tryd.prog 5 #[] w fun e w' => e = .returned (.bool true) ∧ Held w0 w' Rs := by
  have HN := hid (znew_any (M := 5) 5 rfl h)
  have HG := hid hG
  clear h hG
  go_enter Tryd.func5, Tryd.ntmps5
  go_wp2_with fail
  with_reducible refine HN.out.mono ?_
  rintro e w2 ⟨D, rfl, h2⟩
  have hl : Held w0 (w2.alloc (.cells #[.int .u8 120, .int .u8 156, .int .u8 3, .int .u8 0, .int .u8 0, .int .u8 0, .int .u8 0, .int .u8 1] 5)) (ownT 5 1 (.slice (some ⟨w2.heap.size, 0, none⟩) 8 8) 8 (u8s [120, 156, 3, 0, 0, 0, 0, 1]) :: _) := h2.lit 5 1 (u8s [120, 156, 3, 0, 0, 0, 0, 1]) 8 (by decide) rfl
  have HF := hid (zfeed_any (M := 5) (.slice (some ⟨w2.heap.size, 0, none⟩) 8 8) [120, 156, 3, 0, 0, 0, 0, 1] hl.swap (fun w' h => h.own.rd) (by decide) (by decide) (by decide))
  clear h2 hl HN
  go_wp2_with fail
  with_reducible refine HF.out.mono ?_
  rintro e w3 ⟨rfl, st, hF, h3⟩
  have HE := hid (zat_end (by decide) hF ans_file h3)
  clear hF h3 HF
  go_wp2_with fail
  with_reducible refine HE.out.mono ?_
  rintro e w4 ⟨rfl, h4⟩
  have HT := hid (zat_take HG.out 1 1 rfl (by decide) h4 (by decide))
  clear h4 HE
  go_wp2_with fail
  with_reducible refine HT.out.mono ?_
  rintro e w5 ⟨x, t, er, o2, rfl, ho, hc, h5⟩
  obtain rfl : t = [] := (List.append_eq_nil_iff.1 ho.symm).1
  obtain rfl : er = 8 := by
    rcases hc with ⟨_, h1⟩ | ⟨_, _, h1⟩
    · cases h1
    · rwa [if_pos rfl] at h1
  obtain ⟨T, h6⟩ := h5.held
  have H6 := hid h6.drop.drop.drop
  clear h5 h6 HT ho hc
  go_wp2
  go_ret
  exact ⟨rfl, H6.out⟩
end
end Go.Proofs.YtbkbkmgogbgofaaDoor
/-
  The law ZlibHeads.
-/
namespace Go.Proofs.YtbkbkmgogbgofaaDoor
set_option maxRecDepth 5000
open Go.RowKit
theorem one_head (a : Nat) : ZEnds false 9 [a] [] (if fstB a then 5 else 2) := by
  refine .inl ⟨?_, rfl, rfl⟩
  show (if fstB a then 5 else 2) ≠ 0
  split <;> decide
theorem two_heads (a b : Nat) : ZEnds false 9 [a, b] [] (if fstB a && sndB a b then 5 else 2) := by
  by_cases h : (fstB a && sndB a b) = true
  · rw [if_pos h]
    refine .inr ⟨by show (if fstB a && sndB a b then 0 else 2) = 0; rw [if_pos h], 5, [], .err ?_, .inl ⟨by decide, rfl⟩⟩
    rfl
  · rw [if_neg h]
    refine .inl ⟨?_, ?_, rfl⟩
    · show (if fstB a && sndB a b then 0 else 2) ≠ 0
      rw [if_neg h]
      decide
    · show 2 = (if fstB a && sndB a b then 0 else 2)
      rw [if_neg h]
section
variable {w0 w : World} {Rs : List Thing} {D e : Nat}
theorem zat_none (hG : GlobI w0) (h : ZAt w0 w Rs D [] e) : Calls Tryd.prog 7 #[.pointer (some ⟨D, 0, none⟩), .int .i64 1] w fun en w' => ∃ x, en = .returned (.tuple #[x, .int .i64 (e : Int)]) ∧ ∃ T, Held w0 w' (T :: ownT 5 1 x 0 (u8s []) :: Rs) := by
  refine (zat_take hG 1 1 rfl (by decide) h (by decide)).mono ?_
  rintro en w5 ⟨x, t, er, o2, rfl, ho, hc, h5⟩
  obtain rfl : t = [] := (List.append_eq_nil_iff.1 ho.symm).1
  obtain rfl : er = e := by
    rcases hc with ⟨_, h1⟩ | ⟨_, _, h1⟩
    · cases h1
    · rwa [if_pos rfl] at h1
  exact ⟨x, rfl, h5.held⟩
end
set_option maxRecDepth 100000 in
set_option maxHeartbeats 3200000 in
theorem zlibHeads_at (aI bI : Int) (w : World) (hG : GlobI w) (hga : (Lit.int .u8 aI).wf = true) (hgb : (Lit.int .u8 bI).wf = true) :
    Calls Tryd.prog 3 #[.int .u8 aI, .int .u8 bI] w fun e w' => e = .returned (.bool true) ∧ Below w.heap.size w w' := by
  have h8a := bounds_u8 hga
  have h8b := bounds_u8 hgb
  obtain ⟨a, rfl⟩ : ∃ a : Nat, aI = (a : Int) := ⟨aI.toNat, by omega⟩
  obtain ⟨b, rfl⟩ : ∃ b : Nat, bI = (b : Int) := ⟨bI.toNat, by omega⟩
  have ha : a < 256 := by omega
  have hb : b < 256 := by omega
  have HN := hid (znew_any (M := 9) 9 rfl (Held.start w))
  have HG := hid hG
  have HAB := hid (And.intro ha hb)
  clear hga hgb h8a h8b hG
  obtain ⟨e1, he1⟩ : ∃ e1 : Nat, e1 = if fstB a then 5 else 2 := ⟨_, rfl⟩
  obtain ⟨e2, he2⟩ : ∃ e2 : Nat, e2 = if fstB a && sndB a b then 5 else 2 := ⟨_, rfl⟩
  have HO := hid (one_head a)
  have HT := hid (two_heads a b)
  rw [← he1] at HO
  rw [← he2] at HT
  have HE := hid (And.intro he1 he2)
  clear he1 he2 ha hb
  go_enter Tryd.func3, Tryd.ntmps3
  go_wp2_with fail
  with_reducible refine HN.out.mono ?_
  rintro en w1 ⟨D, rfl, h1⟩
  have HN2 := hid (znew_any (M := 9) 9 rfl h1)
  clear h1 HN
  go_wp2_with fail
  with_reducible refine HN2.out.mono ?_
  rintro en w2 ⟨X, rfl, h2⟩
  have HA := hid (h_answers14 HG.out h2)
  clear h2 HN2
  go_wp2_with fail
  with_reducible refine HA.out.mono ?_
  rintro en w3 ⟨rfl, h3⟩
  have hl : Held w (w3.alloc (.cells #[.int .u8 (a : Int)] 5)) (ownT 5 1 (.slice (some ⟨w3.heap.size, 0, none⟩) 1 1) 1 (u8s [a]) :: _) := h3.lit 5 1 (u8s [a]) 1 (by decide) rfl
  have HF := hid (zfeed_any (M := 9) (.slice (some ⟨w3.heap.size, 0, none⟩) 1 1) [a] hl.third (fun w' h => h.own.rd) (fun c hc => by simp at hc; rw [hc]; exact HAB.out.1) (by show 1 < 1000000; decide) (by decide))
  clear h3 hl HA
  go_wp2_with fail
  with_reducible refine HF.out.mono ?_
  rintro en w4 ⟨rfl, st, hF, h4⟩
  have HTK := hid (zat_none HG.out (zat_fed (by decide) hF HO.out h4))
  clear hF h4 HF
  go_wp2_with fail
  with_reducible refine HTK.out.mono ?_
  rintro en w5 ⟨x, rfl, T, h5⟩
  have hl : Held w (w5.alloc (.cells #[.int .u8 (a : Int), .int .u8 (b : Int)] 5)) (ownT 5 1 (.slice (some ⟨w5.heap.size, 0, none⟩) 2 2) 2 (u8s [a, b]) :: _) := (h5.drop.drop.swap).lit 5 1 (u8s [a, b]) 2 (by decide) rfl
  have HF := hid (zfeed_any (M := 9) (.slice (some ⟨w5.heap.size, 0, none⟩) 2 2) [a, b] hl.swap (fun w' h => h.own.rd) (fun c hc => by simp at hc; rcases hc with hc | hc <;> rw [hc]; exact HAB.out.1; exact HAB.out.2) (by show 2 < 1000000; decide) (by decide))
  clear h5 hl HTK
  go_wp2_with fail
  with_reducible refine HF.out.mono ?_
  rintro en w6 ⟨rfl, st, hF, h6⟩
  have HTK := hid (zat_none HG.out (zat_fed (by decide) hF HT.out h6))
  clear hF h6 HF
  go_wp2_with fail
  with_reducible refine HTK.out.mono ?_
  rintro en w7 ⟨x2, rfl, T2, h7⟩
  have H7 := hid h7.mod.toBelow
  clear h7 HTK HO HT
  obtain ⟨he1, he2⟩ := HE.out
  have ha := HAB.out.1
  have hb := HAB.out.2
  have hm16 : (a : Int).tmod 16 = ((a % 16 : Nat) : Int) := rfl
  have hd16 : (a : Int).tdiv 16 = ((a / 16 : Nat) : Int) := rfl
  have hq16 : ((a / 16 : Nat) : Int) % 256 = ((a / 16 : Nat) : Int) := by omega
  have hd32 : (b : Int).tdiv 32 = ((b / 32 : Nat) : Int) := rfl
  have hq32 : ((b / 32 : Nat) : Int) % 256 = ((b / 32 : Nat) : Int) := by omega
  have hm2 : ((b / 32 : Nat) : Int).tmod 2 = ((b / 32 % 2 : Nat) : Int) := rfl
  have hw1 : IntKind.i64.wrap (a : Int) = (a : Int) := IntWalk.i64_in _ (by omega)
  have hw2 : IntKind.i64.wrap (b : Int) = (b : Int) := IntWalk.i64_in _ (by omega)
  have hw3 : IntKind.i64.wrap (256 * (a : Int)) = 256 * (a : Int) := IntWalk.i64_in _ (by omega)
  have hw4 : IntKind.i64.wrap (256 * (a : Int) + (b : Int)) = 256 * (a : Int) + (b : Int) := IntWalk.i64_in _ (by omega)
  have hw5 : (256 * (a : Int) + (b : Int)).tmod 31 = (((256 * a + b) % 31 : Nat) : Int) := by
    rw [show 256 * (a : Int) + (b : Int) = ((256 * a + b : Nat) : Int) by push_cast; omega]
    rfl
  by_cases h16 : a % 16 = 8
  · rw [h16] at hm16
    by_cases h7 : a / 16 ≤ 7
    · have hf : fstB a = true := decide_eq_true ⟨h16, h7⟩
      rw [hf] at he1 he2
      rw [if_pos rfl] at he1
      have h7I : ((a / 16 : Nat) : Int) ≤ 7 := by omega
      by_cases h31 : (256 * a + b) % 31 = 0
      · rw [h31] at hw5
        by_cases h32 : b / 32 % 2 = 0
        · rw [h32] at hm2
          have hs : sndB a b = true := decide_eq_true ⟨h31, h32⟩
          rw [hs, if_pos (by decide)] at he2
          subst he1
          subst he2
          clear hf hs h16 h7 h31 h32 HE ha hb
          generalize ((a / 16 : Nat) : Int) = q at hd16 h7I hq16
          generalize ((b / 32 : Nat) : Int) = q2 at hd32 hm2 hq32
          go_wp2
          go_ret
          exact ⟨rfl, H7.out⟩
        · have h321 : b / 32 % 2 = 1 := by omega
          rw [h321] at hm2
          have hs : sndB a b = false := decide_eq_false fun h => h32 h.2
          rw [hs, if_neg (by decide)] at he2
          subst he1
          subst he2
          clear hf hs h16 h7 h31 h32 HE ha hb h321
          generalize ((a / 16 : Nat) : Int) = q at hd16 h7I hq16
          generalize ((b / 32 : Nat) : Int) = q2 at hd32 hm2 hq32
          go_wp2
          go_ret
          exact ⟨rfl, H7.out⟩
      · have hs : sndB a b = false := decide_eq_false fun h => h31 h.1
        rw [hs, if_neg (by decide)] at he2
        have h31I : ¬ (((256 * a + b) % 31 : Nat) : Int) = 0 := by omega
        subst he1
        subst he2
        clear hf hs h16 h7 h31 HE ha hb
        generalize (((256 * a + b) % 31 : Nat) : Int) = q3 at hw5 h31I
        generalize ((a / 16 : Nat) : Int) = q at hd16 h7I hq16
        generalize ((b / 32 : Nat) : Int) = q2 at hd32 hm2 hq32
        go_wp2
        go_ret
        exact ⟨rfl, H7.out⟩
    · have hf : fstB a = false := decide_eq_false fun h => h7 h.2
      rw [hf, if_neg (by decide)] at he1
      rw [hf, Bool.false_and, if_neg (by decide)] at he2
      have h7I : ¬ ((a / 16 : Nat) : Int) ≤ 7 := by omega
      subst he1
      subst he2
      clear hf h16 h7 HE ha hb
      generalize ((a / 16 : Nat) : Int) = q at hd16 h7I hq16
      go_wp2
      go_ret
      exact ⟨rfl, H7.out⟩
  · have hf : fstB a = false := decide_eq_false fun h => h16 h.1
    rw [hf, if_neg (by decide)] at he1
    rw [hf, Bool.false_and, if_neg (by decide)] at he2
    have h16I : ¬ ((a % 16 : Nat) : Int) = 8 := by omega
    have hq17 : ((a % 16 : Nat) : Int) % 256 = ((a % 16 : Nat) : Int) := by omega
    subst he1
    subst he2
    clear hf h16 HE ha hb
    generalize ((a % 16 : Nat) : Int) = q5 at hm16 h16I hq17
    go_wp2
    go_ret
    exact ⟨rfl, H7.out⟩
theorem zlibHeads_by (aI bI : Int) (w : World) (hL : GlobI w) (hga : (Lit.int .u8 aI).wf = true) (hgb : (Lit.int .u8 bI).wf = true) :
    Calls Tryd.prog 3 #[.int .u8 aI, .int .u8 bI] w fun e w' => e = .returned (.bool true) ∧ Below w.heap.size w w' :=
  zlibHeads_at aI bI w hL hga hgb
end Go.Proofs.YtbkbkmgogbgofaaDoor
/-
  From the row's condition on the decoder's two package-level arrays to their cells; a start that meets it.
-/
namespace Go.Proofs.YtbkbkmgogbgofaaDoor
set_option maxRecDepth 5000
open Go.ChangeShapes Go.WideShapes Go.ChangeAt Go.RowKit
def laidInf : List (String × DataW Unit) := [("concertina/inflate.order", Rows.laid_concertina_inflate_order), ("concertina/inflate.runs", Rows.laid_concertina_inflate_runs)]
theorem gIno : Tryd.prog.globalNamed "concertina/inflate.order" = some 0 := by kernel_rfl
theorem tIno : (Tryd.prog.globals[0]?).map (·.type) = some 79 := by kernel_rfl
theorem gInr : Tryd.prog.globalNamed "concertina/inflate.runs" = some 1 := by kernel_rfl
theorem tInr : (Tryd.prog.globals[1]?).map (·.type) = some 111 := by kernel_rfl
theorem cells_run : Tryd.prog.cellsOf 110 = 2 := by kernel_rfl
theorem cells_intI : Tryd.prog.cellsOf 3 = 1 := by kernel_rfl
theorem inf_met (os : Os) (args : Array Value) : laidMetH Tryd.prog laidInf ((World.doorLaid Tryd.prog 400 os).forCall (fun _ _ => 0) ⟨#[], args, []⟩).memory :=
  laidMetH_of_parts3 (fuel := 8) (laidMet_of_run' 8 (by kernel_rfl) (by kernel_rfl)) (by kernel_rfl) (by kernel_rfl)
theorem laidMet_partsI {P : Program} {x : String × DataW Unit} {r : List (String × DataW Unit)} {W : World} (h : laidMet P (x :: r) W) : laidMet P [x] W ∧ laidMet P r W := by
  obtain ⟨n, d⟩ := x
  obtain ⟨ps, ⟨g, t, cs, fuel, p, q, h1, h2, h3, h4, h5, rfl⟩, hn, hc⟩ := h
  refine ⟨⟨_, ⟨g, t, cs, fuel, p, [], h1, h2, h3, h4, rfl, rfl⟩, ?_, fun b off hm => hc b off ?_⟩, q, h5, (List.nodup_append.1 hn).2.1, fun b off hm => hc b off (List.mem_append_right _ hm)⟩
  · rw [List.append_nil]; exact (List.nodup_append.1 hn).1
  · rw [List.append_nil] at hm; exact List.mem_append_left _ hm
section
variable {H : Type} {enc : TypeId × Value → H} {W : World} {base : Nat} {sp : Nat → Bool} {held : Bool}
theorem inf_int {m : Nat} {cs : List Value} {y : DataW H × List MemPlace} {a : Int} (h : DataW.trod enc Tryd.prog W base sp held m 3 cs = some y) (hy : y.1 = .lit (.int .i64 a)) : cs = [.int .i64 a] := by
  obtain ⟨n, e1, e2, _⟩ := DataW.trod_int Tryd.underlying3 h
  rw [e2] at hy
  have : n = a := by simpa using hy
  rw [← this]; exact e1
theorem inf_run {m : Nat} {cs : List Value} {y : DataW H × List MemPlace} {a b : Int} (h : DataW.trod enc Tryd.prog W base sp held m 110 cs = some y) (hy : y.1 = .agg [.lit (.int .i64 a), .lit (.int .i64 b)]) : cs = [.int .i64 a, .int .i64 b] := by
  obtain ⟨y0, y1, n, rfl, hl, h0, h1⟩ := trod_struct2 Tryd.underlying110 h
  simp only [DataW.agg.injEq, List.cons.injEq, and_true] at hy
  rw [cells_run] at hl
  have k0 := inf_int h0 hy.1
  have k1 := inf_int h1 hy.2
  simp only [cells_intI] at k0 k1
  match cs, hl with
  | [c0, c1], _ =>
    simp at k0 k1
    rw [k0, k1]
theorem ino_of_laid (h : laidMet Tryd.prog [("concertina/inflate.order", Rows.laid_concertina_inflate_order)] W) (i : Nat) (v : Value) (hv : (nums .i64 orderF)[i]? = some v) : W.cell? ⟨0, i, none⟩ = some v := by
  obtain ⟨ps, ⟨g0, t0, cs, f0, p0, q0, hg0, ht0, hv0, hd0, _, _⟩, _, _⟩ := h
  obtain rfl := Option.some.inj (gIno.symm.trans hg0)
  obtain rfl := Option.some.inj (tIno.symm.trans ht0)
  obtain ⟨xs, m, _, hx, hlen, hn, hel⟩ := DataW.trod_array Tryd.underlying79 hd0
  have hxs : xs.map (·.1) = orderF.map fun (t : Nat) => DataW.lit (.int .i64 (t : Int)) := by
    have e := congrArg Prod.fst hx
    exact (DataW.agg.inj e).symm
  have hi : i < 19 := (List.getElem?_eq_some_iff.1 hv).1
  have hcell := World.var?_cell hg0 hv0 i
  rw [hcell]
  have h1 := hel i hi
  rw [cells_intI] at h1
  have h2 : xs[i]? = some (xs[i]'(by omega)) := List.getElem?_eq_getElem _
  rw [h2] at h1
  obtain ⟨o, ho⟩ : ∃ o, orderF[i]? = some o := ⟨orderF[i]'hi, List.getElem?_eq_getElem _⟩
  have h3 := congrArg (fun l => l[i]?) hxs
  simp only [List.getElem?_map] at h3
  rw [h2, ho] at h3
  have h4 := inf_int h1 (by simpa using h3)
  have h5 := congrArg (fun l => l[0]?) h4
  simp only [List.getElem?_take, List.getElem?_drop] at h5
  rw [Nat.mul_one] at h5
  simp at h5
  have h6 : v = .int .i64 (o : Int) := by
    simp [nums, ho] at hv
    exact hv.symm
  rw [h6, h5]
def runsL : List (Nat × Nat) := [(2, 3), (3, 3), (7, 11)]
theorem runs_cells : ∀ k, k < 3 → (nums .i64 runsF)[k * 2]? = some (.int .i64 (((runsL[k]?.getD (0, 0)).1 : Nat) : Int)) ∧ (nums .i64 runsF)[k * 2 + 1]? = some (.int .i64 (((runsL[k]?.getD (0, 0)).2 : Nat) : Int)) := by
  intro k hk
  match k, hk with
  | 0, _ | 1, _ | 2, _ => exact ⟨rfl, rfl⟩
  | k + 3, h => omega
theorem inr_of_laid (h : laidMet Tryd.prog [("concertina/inflate.runs", Rows.laid_concertina_inflate_runs)] W) (i : Nat) (v : Value) (hv : (nums .i64 runsF)[i]? = some v) : W.cell? ⟨1, i, none⟩ = some v := by
  obtain ⟨ps, ⟨g0, t0, cs, f0, p0, q0, hg0, ht0, hv0, hd0, _, _⟩, _, _⟩ := h
  obtain rfl := Option.some.inj (gInr.symm.trans hg0)
  obtain rfl := Option.some.inj (tInr.symm.trans ht0)
  obtain ⟨xs, m, _, hx, hlen, hn, hel⟩ := DataW.trod_array Tryd.underlying111 hd0
  have hxs : xs.map (·.1) = runsL.map fun t => DataW.agg [.lit (.int .i64 (t.1 : Int)), .lit (.int .i64 (t.2 : Int))] := by
    have e := congrArg Prod.fst hx
    exact (DataW.agg.inj e).symm
  have hcs : ∀ k, k < 3 → (cs.toList.drop (k * 2)).take 2 = [.int .i64 (((runsL[k]?.getD (0, 0)).1 : Nat) : Int), .int .i64 (((runsL[k]?.getD (0, 0)).2 : Nat) : Int)] := by
    intro k hk
    have h1 := hel k hk
    rw [cells_run] at h1
    have h2 : xs[k]? = some (xs[k]'(by omega)) := List.getElem?_eq_getElem _
    rw [h2] at h1
    refine inf_run h1 ?_
    have h3 := congrArg (fun l => l[k]?) hxs
    simp only [List.getElem?_map] at h3
    rw [h2] at h3
    have hk2 : k < runsL.length := hk
    rw [List.getElem?_eq_getElem hk2] at h3 ⊢
    simpa using h3
  have hi : i < 6 := (List.getElem?_eq_some_iff.1 hv).1
  have hcell := World.var?_cell hg0 hv0 i
  rw [hcell]
  obtain ⟨k, j, hij, hk, hj⟩ : ∃ k j, i = k * 2 + j ∧ k < 3 ∧ j < 2 := ⟨i / 2, i % 2, by omega, by omega, by omega⟩
  have h1 := hcs k hk
  have h2 := runs_cells k hk
  have h3 := congrArg (fun l => l[j]?) h1
  simp only [List.getElem?_take, if_pos hj, List.getElem?_drop] at h3
  rw [← hij, Array.getElem?_toList] at h3
  rw [h3]
  rw [hij] at hv
  match j, hj with
  | 0, _ => rw [Nat.add_zero, h2.1] at hv; exact hv
  | 1, _ => rw [h2.2] at hv; exact hv
theorem inf_of_laid (h : laidMetH Tryd.prog laidInf W) : GlobI W := by
  rw [MakeChecks.laidMetH_plain _ _ _ (by kernel_rfl)] at h
  obtain ⟨h1, h2⟩ := laidMet_partsI h
  exact ⟨ino_of_laid h1, inr_of_laid h2⟩
end
end Go.Proofs.YtbkbkmgogbgofaaDoor
