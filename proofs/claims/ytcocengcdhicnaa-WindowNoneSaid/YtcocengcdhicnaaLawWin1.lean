/-
  The law WindowNone, of WindowOK.
-/
import Derived.Test.YtcocengcdhicnaaLawWin0
namespace Go.Proofs.Ytcocengcdhicnaa
open Go.RowKit

set_option maxHeartbeats 1600000 in
theorem windowNone_from {W : List Nat → Nat → Thing} (HW : WindowOK W) (u : Value) (b : List Int) (n d : Int) (w : World) (hb : shWinBytes.good w [u] b) (_ : (Lit.int .i64 n).wf = true) (_ : (Lit.int .i64 d).wf = true) :
    Calls Try.prog 5 #[u, .int .i64 n, .int .i64 d] w fun e w' => e = .returned (.bool true) ∧ Below w.heap.size w w' := by
  obtain ⟨bs, _, hb256, hu⟩ := winBytes_of hb
  clear hb
  have HA := hid (HW.addNil u _ bs w w [] (Held.start w) hu)
  clear hu
  go_enter Try.func5, Try.ntmps5
  go_wp2_with fail
  refine HA.out.mono ?_
  rintro e w1 ⟨rfl, hh⟩
  have HC := hid (HW.copyNil n d w w1 [] hh)
  clear hh HA
  go_wp2_with fail
  refine HC.out.mono ?_
  rintro e w2 ⟨v, rfl, hv, hh⟩
  obtain ⟨vo, vc, rfl, _, _⟩ := hv.form
  have HN := hid (h_answers7 HW hh)
  clear hh HC hv
  go_wp2_with fail
  refine HN.out.mono ?_
  rintro e w3 ⟨rfl, hh⟩
  have HL := hid (HW.lenNil w w3 [] hh)
  clear hh HN
  go_wp2_with fail
  refine HL.out.mono ?_
  rintro e w4 ⟨rfl, hh⟩
  have HT := hid (HW.lastNil n w w4 [] hh)
  clear hh HL
  go_wp2_with fail
  refine HT.out.mono ?_
  rintro e w5 ⟨x, rfl, hx, hh⟩
  obtain ⟨xo, xc, rfl, _, _⟩ := hx.form
  have HE := hid hh.below
  clear hh HT hx
  go_wp2
  go_ret
  exact ⟨rfl, HE.out⟩
end Go.Proofs.Ytcocengcdhicnaa
