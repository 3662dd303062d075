/-
  SameHeader at two headers that are the same.
-/
import Derived.Test.YtkdmdbojcdonpaaGreatDoorHdrP3
import Derived.Test.YtkdmdbojcdonpaaGreatDoorRef1
namespace Go.Proofs.YtkdmdbojcdonpaaGreatDoor
set_option maxRecDepth 5000
open Go.RowKit

section
variable {w0 w : World} {Rs : List Thing}
theorem hsame_yes (h : Held w0 w Rs) (v u : Value) (a : List Nat) (n : Nat) (hv : Rd w 1 v n (u8s a)) (hu : Rd w 1 u n (u8s a)) (hal : n < 8000000000) :
    Calls Tryz.prog 20 #[v, u] w fun e w' => e = .returned (.bool true) ∧ Held w0 w' Rs := by
  have hn : n = a.length := by have := hv.1; rw [u8s_length] at this; omega
  subst hn
  exact (same_any v u a a w hv hu hal).mono fun _ _ ⟨h1, n, h2⟩ => ⟨by rw [h1]; simp, by rw [h2]; exact h.drewN n⟩
set_option maxRecDepth 100000 in
set_option maxHeartbeats 6400000 in
theorem sameHdr_any (x : Hdr) (u v : Value) (h : Held w0 w Rs) (hu : ∀ w', Held w0 w' Rs → Rd w' 1 u x.extra.length (u8s x.extra)) (hv : ∀ w', Held w0 w' Rs → Rd w' 1 v x.extra.length (u8s x.extra)) (hl : x.extra.length < 8000000000) :
    Calls Tryz.prog 21 #[hdrV x u, hdrV x v] w fun e w' => e = .returned (.bool true) ∧ Held w0 w' Rs := by
  obtain ⟨a, b, t, fl, sy, ex, c, nm, nt, d, g⟩ := x
  obtain ⟨uo, uc, rfl, _, _⟩ := (hu w h).form
  obtain ⟨vo, vc, rfl, _, _⟩ := (hv w h).form
  dsimp only at hu hv hl ⊢
  obtain ⟨n, hn⟩ : ∃ n, n = ex.length := ⟨_, rfl⟩
  rw [← hn] at hu hv hl ⊢
  have h1 := (h.newObj (hdrC ⟨a, b, t, fl, sy, ex, c, nm, nt, d, g⟩ (.slice uo n uc)) 29).newObj (hdrC ⟨a, b, t, fl, sy, ex, c, nm, nt, d, g⟩ (.slice vo n vc)) 29
  have HS := hid (hsame_yes h1 (.slice uo n uc) (.slice vo n vc) ex n (hu _ h1.drop.drop) (hv _ h1.drop.drop) hl)
  clear hn hu hv hl h h1
  unfold hdrV hdrC strV at HS
  unfold hdrV hdrC strV
  generalize strB nm = snm at HS ⊢
  generalize strB nt = snt at HS ⊢
  go_enter Tryz.func21, Tryz.ntmps21
  go_wp2_with fail
  with_reducible refine HS.out.mono ?_
  rintro e w2 ⟨rfl, h2⟩
  have H2 := hid h2.drop.drop
  clear h2 HS
  go_wp2
  go_ret
  exact ⟨rfl, H2.out⟩
end
end Go.Proofs.YtkdmdbojcdonpaaGreatDoor
