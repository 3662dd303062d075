/-
  The landed finder keeps MatchOK: finOK.
-/
import Derived.Test.YtjmdgcppllnkdaaDoorMatDone
namespace Go.Proofs.YtjmdgcppllnkdaaDoor
open Go.RowKit

/-- what is known of a finder beside its bytes: where its list begins, how far it is learned -/
structure FinFact (s : FinS) (cut P a gone : Nat) : Prop where
  le : cut ≤ s.at_
  some : s.tr ≠ 0 → gone = cut ∧ InpOK s.x cut P a ∧ P ≤ s.at_ ∧ (cut = 0 ∨ cut + 32768 ≤ s.at_)
  none : s.tr = 0 → cut = s.at_ ∧ P = 0 ∧ a = 0 ∧ gone = 0
def finR (s : FinS) (cut P a gone B : Nat) : Thing := rawF s.tr s.en s.la (s.at_ - cut) gone (s.x.drop cut) (backs s.x cut P) (mLast s.x a P) (mOlder 32768 s.x a) P B
def finT (s : FinS) (B : Nat) : Thing := exT fun r : Nat × Nat × Nat × Nat => factT (FinFact s r.1 r.2.1 r.2.2.1 r.2.2.2) (finR s r.1 r.2.1 r.2.2.1 r.2.2.2 B)
section
variable {w0 w : World} {Rs : List Thing}
theorem unT {s : FinS} {B : Nat} (H : Held w0 w (finT s B :: Rs)) : ∃ cut P a gone, FinFact s cut P a gone ∧ Held w0 w (finR s cut P a gone B :: Rs) := by
  obtain ⟨⟨cut, P, a, gone⟩, h1⟩ := H.ex
  obtain ⟨hf, h2⟩ := h1.fact
  exact ⟨cut, P, a, gone, hf, h2⟩
theorem mkT {s : FinS} {B : Nat} (cut P a gone : Nat) (hf : FinFact s cut P a gone) (H : Held w0 w (finR s cut P a gone B :: Rs)) : Held w0 w (finT s B :: Rs) :=
  Held.mk (R := fun r : Nat × Nat × Nat × Nat => factT (FinFact s r.1 r.2.1 r.2.2.1 r.2.2.2) (finR s r.1 r.2.1 r.2.2.1 r.2.2.2 B)) (cut, P, a, gone) (Held.mkFact hf H)
theorem finNew (lev : Int) (hl : Levs w0) (h : Held w0 w Rs) :
    Calls Tryd.prog 13 #[.int .i64 lev] w fun e w' => ∃ B, e = .returned (.pointer (some ⟨B, 0, none⟩)) ∧ Held w0 w' (finT (finM.start lev) B :: Rs) :=
  (new_any lev hl h).mono fun e w' ⟨B, he, h1⟩ => ⟨B, he, mkT 0 0 0 0 ⟨Nat.le_refl _, fun _ => ⟨rfl, ⟨Nat.le_refl _, .inl rfl, Nat.le_refl _, by omega, rfl, .inr rfl⟩, Nat.le_refl _, .inl rfl⟩, fun _ => ⟨rfl, rfl, rfl, rfl⟩⟩ (by
    show Held w0 w' (rawF (lvl lev).1 (lvl lev).2.1 (lvl lev).2.2 0 0 [] (backs [] 0 0) (mLast [] 0 0) (mOlder 32768 [] 0) 0 B :: Rs)
    rw [mLast_zero, mOlder_zero]
    exact h1)⟩
theorem finWrite (s : FinS) (B : Nat) (v : Value) (n : Nat) (bs : List Nat) (H : Held w0 w (finT s B :: Rs)) (hs : FinOk s) (hv : Rd w 1 v n (u8s bs)) (hlen : s.x.length + n < 1000000000) :
    Calls Tryd.prog 14 #[.pointer (some ⟨B, 0, none⟩), v] w fun e w' => e = .returned (.tuple #[]) ∧ Held w0 w' (finT (finM.write s bs) B :: Rs) := by
  obtain ⟨cut, P, a, gone, hf, h1⟩ := unT H
  have hP : P = 0 ∨ P + 2 ≤ s.x.length := by
    by_cases c : s.tr = 0
    · exact .inl (hf.none c).2.1
    · exact (hf.some c).2.1.room
  have haP : a ≤ P := by
    by_cases c : s.tr = 0
    · have := hf.none c; omega
    · exact (hf.some c).2.1.a_le
  refine (writeM_any h1 v n bs hv (by rw [List.length_drop]; omega)).mono fun e w' ⟨he, h2⟩ => ⟨he, mkT cut P a gone ⟨hf.le, fun h => ?_, fun h => hf.none h⟩ ?_⟩
  · obtain ⟨k1, k2, k3, k4⟩ := hf.some h
    exact ⟨k1, ⟨k2.cut_le, k2.room.imp id (fun h => by show P + 2 ≤ (s.x ++ bs).length; rw [List.length_append]; omega), k2.a_le, k2.le_a, k2.mod, k2.some⟩, k3, k4⟩
  · show Held w0 w' (rawF s.tr s.en s.la (s.at_ - cut) gone ((s.x ++ bs).drop cut) (backs (s.x ++ bs) cut P) (mLast (s.x ++ bs) a P) (mOlder 32768 (s.x ++ bs) a) P B :: Rs)
    rw [backs_app _ _ _ _ hP, mLast_app _ _ _ _ hP, mOlder_app _ _ _ _ P hP haP, List.drop_append_of_le_length (by have := hf.le; have := hs.le; omega)]
    exact h2
theorem finWaiting (s : FinS) (B : Nat) (H : Held w0 w (finT s B :: Rs)) (hs : FinOk s) :
    Calls Tryd.prog 16 #[.pointer (some ⟨B, 0, none⟩)] w fun e w' => e = .returned (.int .i64 ((s.x.length - s.at_ : Nat) : Int)) ∧ Held w0 w' (finT s B :: Rs) := by
  obtain ⟨cut, P, a, gone, hf, h1⟩ := unT H
  have h2 := waiting_any h1 (by rw [List.length_drop]; have := hs.le; omega) (by rw [List.length_drop]; have := hs.len; omega)
  rw [List.length_drop, show s.x.length - cut - (s.at_ - cut) = s.x.length - s.at_ by have := hf.le; omega] at h2
  exact h2.mono fun e w' ⟨he, k, hw⟩ => ⟨he, by rw [hw]; exact H.drewN k⟩
theorem tokens_any0 {tr en la at' gone n B : Nat} {bs bk : List Nat} {g h : List Nat → Option Nat} (e : Bool) (h0 : tr = 0) (H : Held w0 w (rawF tr en la at' gone bs bk g h n B :: Rs)) (hlen : bs.length < 1000000000) :
    Calls Tryd.prog 15 #[.pointer (some ⟨B, 0, none⟩), .bool e] w fun e' w' => ∃ v, e' = .returned v ∧ Held w0 w' (tokT v (litsT bs) :: rawF tr en la at' gone [] bk g h n B :: Rs) := by
  subst h0
  obtain ⟨lv, bv, m1, m2, HF⟩ := unFin H
  have c0 := (finAll HF).1.cell (i := 0) rfl
  have HL := hid (literals_any H hlen)
  have htr : (((0 : Nat) : Int) == 0) = true := rfl
  clear HF H
  go_enter Tryd.func15, Tryd.ntmps15
  go_wp2_with fail
  refine HL.out.mono ?_
  rintro e w1 ⟨v, rfl, h1⟩
  unfold tokT at h1
  obtain ⟨ao, cap, rfl, _, _⟩ := h1.own.form
  have H1 := hid h1
  clear h1 HL
  go_wp2
  go_ret
  exact ⟨_, rfl, H1.out⟩
theorem finToks (s : FinS) (B : Nat) (e : Bool) (H : Held w0 w (finT s B :: Rs)) (hs : FinOk s) :
    Calls Tryd.prog 15 #[.pointer (some ⟨B, 0, none⟩), .bool e] w fun e' w' => ∃ v, e' = .returned v ∧ Held w0 w' (tokT v (told s e).1 :: finT (finM.toks s e).1 B :: Rs) := by
  obtain ⟨cut, P, a, gone, hf, h1⟩ := unT H
  by_cases c : s.tr = 0
  · obtain ⟨k1, k2, k3, k4⟩ := hf.none c
    refine (tokens_any0 e c h1 (by rw [List.length_drop]; have := hs.len; omega)).mono fun e' w' ⟨v, he, h2⟩ => ⟨v, he, ?_⟩
    have e1 : told s e = (litsT (s.x.drop s.at_), s.x.length) := by unfold told; rw [if_pos c]
    rw [k1] at h2
    rw [e1]
    refine (mkT (s := (finM.toks s e).1) (B := B) s.x.length 0 0 0 ⟨by show s.x.length ≤ (told s e).2; rw [e1]; exact Nat.le_refl _, fun h => absurd c h, fun _ => ⟨by show s.x.length = (told s e).2; rw [e1], rfl, rfl, rfl⟩⟩ ?_).swap
    show Held w0 w' (rawF s.tr s.en s.la ((told s e).2 - s.x.length) 0 (s.x.drop s.x.length) (backs s.x s.x.length 0) (mLast s.x 0 0) (mOlder 32768 s.x 0) 0 B :: tokT v (litsT (s.x.drop s.at_)) :: Rs)
    rw [e1, Nat.sub_self, List.drop_length]
    have h3 := h2.swap
    rw [Nat.sub_self, k2, k3, k4] at h3
    rw [show backs s.x s.x.length 0 = [] by simp [backs]]
    rw [show backs s.x s.at_ 0 = [] by simp [backs]] at h3
    exact h3
  · obtain ⟨k1, k2, k3, k4⟩ := hf.some c
    subst k1
    have e1 : told s e = parse 32768 258 s.x s.tr s.en s.la (if e then 0 else 261) s.at_ := by unfold told; rw [if_neg c]
    refine (tokens_any1 s.at_ e _ rfl h1 k2 k3 hs.le hf.le k4 hs.len hs.bytes (by have := hs.tries; omega) (by omega)).mono fun e' w' ⟨v, cut2, P2, a2, he, q1, q2, q3, q4, h2⟩ => ⟨v, he, ?_⟩
    rw [← e1] at q1 q2 q3 h2
    exact (mkT (s := (finM.toks s e).1) (B := B) cut2 P2 a2 cut2 ⟨q1, fun _ => ⟨rfl, q4, q2, q3⟩, fun h => absurd h c⟩ h2.swap).swap
set_option maxHeartbeats 1600000 in
theorem finOne (v : Value) (n : Nat) (bs : List Nat) (lev : Int) (hl : Levs w0) (h : Held w0 w Rs) (hv : Rd w 1 v n (u8s bs)) (hb : ∀ b ∈ bs, b < 256) (hn : n < 1000000000) :
    Calls Tryd.prog 10 #[v, .int .i64 lev] w fun e w' => ∃ u, e = .returned u ∧ Held w0 w' (tokT u (finM.one bs lev) :: Rs) := by
  obtain ⟨vo, vc, rfl, _, _⟩ := hv.form
  have hnb : n = bs.length := by have := hv.1; rw [u8s_length] at this; omega
  have hok := finLaws.ok_write _ bs (finLaws.ok_start lev) hb (by show 0 + bs.length < _; omega)
  have hone := finLaws.one_is lev _ hok (finLaws.clean_write _ _ bs (finLaws.clean_start lev))
  have hone2 : (told (finM.write (finM.start lev) bs) true).1 = finM.one bs lev := hone
  have HN := hid (finNew lev (hl.kept h.mod) (Held.start w))
  have HW := hid (fun (w1 : World) (B : Nat) (h1 : Held w w1 [finT (finM.start lev) B]) => finWrite (finM.start lev) B (.slice vo n vc) n bs h1 (finLaws.ok_start lev) (h1.old hv) (by show 0 + n < _; omega))
  have HT := hid (fun (w1 : World) (B : Nat) (h1 : Held w w1 [finT (finM.write (finM.start lev) bs) B]) => finToks _ B true h1 hok)
  rw [hone2] at HT
  have HF : Hid (∀ w1 u, Held w w1 [tokT u (finM.one bs lev)] → Held w0 w1 (tokT u (finM.one bs lev) :: Rs)) := hid fun w1 u h1 => h.frame h1
  generalize finM.one bs lev = ol at HT HF ⊢
  clear hv hok hone hone2 h hl hnb hb
  go_enter Tryd.func10, Tryd.ntmps10
  go_wp2_with fail
  refine HN.out.mono ?_
  rintro e w1 ⟨B, rfl, h1⟩
  have H1 := hid h1
  clear h1 HN
  go_wp2_with fail
  refine (HW.out _ _ H1.out).mono ?_
  rintro e w2 ⟨rfl, h2⟩
  have H2 := hid h2
  clear h2 HW H1
  go_wp2_with fail
  refine (HT.out _ _ H2.out).mono ?_
  rintro e w3 ⟨u, rfl, h3⟩
  have H3 := hid (HF.out _ _ h3.swap.drop)
  unfold tokT at h3
  obtain ⟨uo, uc, rfl, _, _⟩ := h3.own.form
  clear h3 HT H2 HF
  go_wp2
  go_ret
  exact ⟨_, rfl, H3.out⟩
end
theorem finOK : MatchOK finM finT Levs where
  laws := finLaws
  new lev w0 w Rs hl h := finNew lev hl h
  write s B v n bs w0 w Rs h hs hv _ hlen := finWrite s B v n bs h hs hv hlen
  toks s B b w0 w Rs h hs _ := finToks s B b h hs
  waiting s B w0 w Rs h hs _ := finWaiting s B h hs
  one v n bs lev w0 w Rs hl h hv hb hn := finOne v n bs lev hl h hv hb hn
  writeNil v n bs w0 w Rs h _ := (writeNil_any v w).mono fun e w' ⟨he, hw⟩ => ⟨he, by rw [hw]; exact h⟩
  toksNil b w0 w Rs h := (tokensNil_any b w).mono fun e w' ⟨he, hw⟩ => ⟨_, he, Rd.nil w' 3, by rw [hw]; exact h⟩
  waitNil w0 w Rs h := (waitingNil_any w).mono fun e w' ⟨he, hw⟩ => ⟨he, by rw [hw]; exact h⟩
end Go.Proofs.YtjmdgcppllnkdaaDoor
