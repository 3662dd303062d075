/-
  The landed encoder as a thing in memory: its finder, its data, its tokens and its writer, all in one object.
-/
import Derived.Test.YtdmnfjicjjlnnaaGreatDoorDm10
import Derived.Test.YtdmnfjicjjlnnaaGreatDoorDm13
import Derived.Test.YtdmnfjicjjlnnaaGreatDoorDm25
namespace Go.Proofs.YtdmnfjicjjlnnaaGreatDoor
set_option maxRecDepth 5000
open Go.RowKit
theorem blkLaw : BlkLaw (blkF lensF) where
  good kind l raw a hm hb hr := blkF_good lensF_LensOK kind l raw a (by
    rcases hm with ⟨h1, h2⟩ | ⟨h1, h2, h3⟩
    · exact .inl ⟨by omega, h2⟩
    · exact .inr ⟨by omega, h2⟩) hb hr
  same kind l raw a b hk := by
    unfold blkF
    rw [if_neg hk, if_neg hk]
  place kind l raw a b h := blkF_place kind l raw a b h
def subP (p : Place) (n : Nat) (A B : List Value) (h : A.length = n) : Place := ⟨p.b, p.o + n, p.pre ++ A, B ++ p.post, p.T, by rw [List.length_append, p.len, h]⟩
theorem objP_sub (p : Place) (n : Nat) (A B C : List Value) (h : A.length = n) : objP (subP p n A B h) C = objP p (A ++ (C ++ B)) := by
  unfold objP subP
  simp only [List.append_assoc]
section
variable {w0 w : World} {Rs : List Thing}
/-! ### A writer's parts -/
structure WrFact (acc bs : List Nat) (c sp : Nat) : Prop where
  low : c < 8
  fits : sp < 2 ^ c
  byt : ∀ b ∈ bs, b < 256
  is : acc = bits8 bs ++ bitsOf c sp
theorem wr_pack {q : Place} {d : Value} {acc bs : List Nat} {c sp : Nat} (hf : WrFact acc bs c sp) (h : Held w0 w (objP q [d, .int .u64 (sp : Int), .int .i64 (c : Int)] :: ownT 5 1 d bs.length (u8s bs) :: Rs)) : Held w0 w (wrT q acc :: Rs) := by
  obtain ⟨F, ⟨F1, F2, h1, h2, hd, hF⟩, h3, h4⟩ := h.pair
  refine ⟨F, ⟨d, ⟨bs, sp, c, ⟨h1.1, h2.1, fun e => hd q.b ((h1.2 q.b).2 rfl) ((h2.2 q.b).2 e), hf.fits, hf.byt⟩, hf.low, hf.is⟩, fun k => ?_⟩, h3, h4⟩
  rw [hF, h1.2, h2.2]
  exact Iff.rfl
theorem wr_unpack {q : Place} {acc : List Nat} (h : Held w0 w (wrT q acc :: Rs)) : ∃ d sp c bs, WrFact acc bs c sp ∧ Held w0 w (objP q [d, .int .u64 (sp : Int), .int .i64 (c : Int)] :: ownT 5 1 d bs.length (u8s bs) :: Rs) := by
  obtain ⟨F, ⟨d, ⟨bs, sp, c, ⟨h1, h2, h3, h4, h5⟩, h6, h7⟩, h8⟩, h9, h10⟩ := h
  refine ⟨d, sp, c, bs, ⟨h6, h4, h5, h7⟩, Held.unpair ⟨F, ⟨fun k => k = q.b, fun k => d.ownBlock = some k, ⟨h1, fun _ => Iff.rfl⟩, ⟨h2, fun _ => Iff.rfl⟩, fun k hk e => h3 (by rw [← show k = q.b from hk]; exact e), fun k => h8 k⟩, h9, h10⟩⟩
/-! ### A finder's parts -/
theorem Held.tailOut {R : Thing} {L : List Thing} (h : Held w0 w (R :: (L ++ Rs))) : Held w0 w (L ++ R :: Rs) := h.perm List.perm_middle.symm
theorem Held.tailIn {R : Thing} {L : List Thing} (h : Held w0 w (L ++ R :: Rs)) : Held w0 w (R :: (L ++ Rs)) := h.perm List.perm_middle
theorem fin_open {s : FinS} {p : Place} {R : List Value} (H : Held w0 w (finT s (subP p 0 [] R rfl) :: Rs)) :
    ∃ (tr en la : Nat) (lv : Value) (gone m1 m2 : Nat) (bv : Value) (at' : Nat) (X : Thing), Held w0 w (objP p (finV tr en la lv gone (.map (some m1)) (.map (some m2)) bv at' ++ R) :: X :: Rs) ∧ (∃ a n c, lv = .slice a n c) ∧ (∃ a n c, bv = .slice a n c) ∧
      ∀ (p' : Place) (R' : List Value) (w' : World) (Rs' : List Thing), Held w0 w' (objP p' (finV tr en la lv gone (.map (some m1)) (.map (some m2)) bv at' ++ R') :: X :: Rs') → Held w0 w' (finT s (subP p' 0 [] R' rfl) :: Rs') := by
  obtain ⟨cut, P, a, gone, hf, h1⟩ := unT H
  obtain ⟨lv, bv, m1, m2, h2⟩ := unFin h1
  have h3 : Held w0 w (objP (subP p 0 [] R rfl) (finV s.tr s.en s.la lv gone (.map (some m1)) (.map (some m2)) bv (s.at_ - cut)) :: ([_, _, _, _] ++ Rs)) := h2
  rw [objP_sub] at h3
  obtain ⟨a1, c1, e1, _⟩ := (finAll h2).2.1.form
  obtain ⟨a2, c2, e2, _⟩ := (finAll h2).2.2.1.form
  refine ⟨s.tr, s.en, s.la, lv, gone, m1, m2, bv, s.at_ - cut, _, (Held.all h3.tailOut).swap, ⟨_, _, _, e1⟩, ⟨_, _, _, e2⟩, fun p' R' w' Rs' h4 => ?_⟩
  have h5 := (Held.unall h4.swap).tailIn
  refine mkT cut P a gone hf (mkFin lv bv m1 m2 ?_)
  show Held w0 w' (objP (subP p' 0 [] R' rfl) _ :: ([_, _, _, _] ++ Rs'))
  rw [objP_sub]
  exact h5
/-! ### The encoder -/
def restV (rv lv : Value) (told : Nat) (d : Value) (sp c : Nat) (packs : Bool) : List Value := [rv, lv, .int .i64 (told : Int), d, .int .u64 (sp : Int), .int .i64 (c : Int), .bool packs, .bool false]
structure EncQ where
  rv : Value
  lv : Value
  d : Value
  sp : Nat
  c : Nat
  bs : List Nat
def encL (s : EncS FinS) (p : Place) (q : EncQ) : List Thing := [finT s.f (subP p 0 [] (restV q.rv q.lv s.told q.d q.sp q.c s.packs) rfl), ownT 5 1 q.rv s.raw.length (u8s s.raw), ownT 80 3 q.lv s.list.length (toksV s.list), ownT 5 1 q.d q.bs.length (u8s q.bs)]
def encT (s : EncS FinS) (p : Place) : Thing := exT fun q : EncQ => factT (WrFact s.acc q.bs q.c q.sp) (allT (encL s p q))
theorem enc_fin {s : EncS FinS} {p : Place} (H : Held w0 w (encT s p :: Rs)) : ∃ q : EncQ, WrFact s.acc q.bs q.c q.sp ∧ Held w0 w (finT s.f (subP p 0 [] (restV q.rv q.lv s.told q.d q.sp q.c s.packs) rfl) :: ownT 5 1 q.rv s.raw.length (u8s s.raw) :: ownT 80 3 q.lv s.list.length (toksV s.list) :: ownT 5 1 q.d q.bs.length (u8s q.bs) :: Rs) := by
  obtain ⟨q, h1⟩ := H.ex
  obtain ⟨hf, h2⟩ := h1.fact
  exact ⟨q, hf, h2.unall⟩
theorem enc_mk {s : EncS FinS} {p : Place} (q : EncQ) (hf : WrFact s.acc q.bs q.c q.sp) (H : Held w0 w (finT s.f (subP p 0 [] (restV q.rv q.lv s.told q.d q.sp q.c s.packs) rfl) :: ownT 5 1 q.rv s.raw.length (u8s s.raw) :: ownT 80 3 q.lv s.list.length (toksV s.list) :: ownT 5 1 q.d q.bs.length (u8s q.bs) :: Rs)) : Held w0 w (encT s p :: Rs) :=
  Held.mk (R := fun q : EncQ => factT (WrFact s.acc q.bs q.c q.sp) (allT (encL s p q))) q (Held.mkFact hf (Held.all (L := encL s p q) H))
structure FinC where
  tr : Nat
  en : Nat
  la : Nat
  l0 : Value
  gone : Nat
  m1 : Nat
  m2 : Nat
  b0 : Value
  at_ : Nat
def FinC.V (C : FinC) : List Value := finV C.tr C.en C.la C.l0 C.gone (.map (some C.m1)) (.map (some C.m2)) C.b0 C.at_
def encO (p : Place) (C : FinC) (X : Thing) (raw : List Nat) (list : List Tok) (told : Nat) (bs : List Nat) (rv lv d : Value) (sp c : Nat) (packs : Bool) (Rs : List Thing) : List Thing :=
  objP p (C.V ++ restV rv lv told d sp c packs) :: ownT 5 1 rv raw.length (u8s raw) :: ownT 80 3 lv list.length (toksV list) :: ownT 5 1 d bs.length (u8s bs) :: X :: Rs
def EncBack (f : FinS) (p : Place) (C : FinC) (X : Thing) (packs : Bool) (w0 : World) : Prop :=
  ∀ (raw : List Nat) (list : List Tok) (told : Nat) (acc bs : List Nat) (rv lv d : Value) (sp c : Nat) (w : World) (Rs : List Thing), WrFact acc bs c sp → Held w0 w (encO p C X raw list told bs rv lv d sp c packs Rs) → Held w0 w (encT ⟨f, raw, list, told, acc, packs⟩ p :: Rs)
theorem Held.last5 {R1 R2 R3 R4 R5 : Thing} (h : Held w0 w (R1 :: R2 :: R3 :: R4 :: R5 :: Rs)) : Held w0 w (R1 :: R3 :: R4 :: R5 :: R2 :: Rs) := h.perm (List.Perm.cons _ (List.perm_middle (l₁ := [R3, R4, R5])).symm)
theorem Held.first5 {R1 R2 R3 R4 R5 : Thing} (h : Held w0 w (R1 :: R3 :: R4 :: R5 :: R2 :: Rs)) : Held w0 w (R1 :: R2 :: R3 :: R4 :: R5 :: Rs) := h.perm (List.Perm.cons _ (List.perm_middle (l₁ := [R3, R4, R5])))
theorem enc_open {s : EncS FinS} {p : Place} (H : Held w0 w (encT s p :: Rs)) : ∃ (C : FinC) (X : Thing) (bs : List Nat) (rv lv d : Value) (sp c : Nat), WrFact s.acc bs c sp ∧ Held w0 w (encO p C X s.raw s.list s.told bs rv lv d sp c s.packs Rs) ∧ EncBack s.f p C X s.packs w0 := by
  obtain ⟨q, hf, h1⟩ := enc_fin H
  obtain ⟨tr, en, la, l0, gone, m1, m2, b0, at', X, h2, _, _, back⟩ := fin_open h1
  refine ⟨⟨tr, en, la, l0, gone, m1, m2, b0, at'⟩, X, q.bs, q.rv, q.lv, q.d, q.sp, q.c, hf, h2.last5, fun raw list told acc bs rv lv d sp c w' Rs' hf' h3 => ?_⟩
  exact enc_mk (s := ⟨s.f, raw, list, told, acc, s.packs⟩) ⟨rv, lv, d, sp, c, bs⟩ hf' (back _ _ _ _ (Held.first5 h3))
theorem out_len (C : FinC) (rv lv : Value) (told : Nat) : (C.V ++ [rv, lv, .int .i64 (told : Int)]).length = 12 := rfl
def outP (p : Place) (C : FinC) (rv lv : Value) (told : Nat) (packs : Bool) : Place := subP p 12 (C.V ++ [rv, lv, .int .i64 (told : Int)]) [.bool packs, .bool false] (out_len C rv lv told)
theorem out_obj (p : Place) (C : FinC) (rv lv : Value) (told : Nat) (packs : Bool) (d : Value) (sp c : Nat) : objP (outP p C rv lv told packs) [d, .int .u64 (sp : Int), .int .i64 (c : Int)] = objP p (C.V ++ restV rv lv told d sp c packs) :=
  (objP_sub p 12 _ _ _ (out_len C rv lv told)).trans (by unfold restV; simp)
theorem enc_out {p : Place} {C : FinC} {X : Thing} {raw acc : List Nat} {list : List Tok} {told : Nat} {bs : List Nat} {rv lv d : Value} {sp c : Nat} {packs : Bool} (hf : WrFact acc bs c sp) (h : Held w0 w (encO p C X raw list told bs rv lv d sp c packs Rs)) :
    Held w0 w (wrT (outP p C rv lv told packs) acc :: ownT 5 1 rv raw.length (u8s raw) :: ownT 80 3 lv list.length (toksV list) :: X :: Rs) := by
  refine wr_pack (d := d) hf ?_
  rw [out_obj]
  exact h.perm (List.Perm.cons _ (List.perm_middle (l₁ := [_, _])))
theorem enc_in {p : Place} {C : FinC} {X : Thing} {raw acc : List Nat} {list : List Tok} {told : Nat} {rv lv : Value} {packs : Bool}
    (h : Held w0 w (wrT (outP p C rv lv told packs) acc :: ownT 5 1 rv raw.length (u8s raw) :: ownT 80 3 lv list.length (toksV list) :: X :: Rs)) :
    ∃ (bs : List Nat) (d : Value) (sp c : Nat), WrFact acc bs c sp ∧ Held w0 w (encO p C X raw list told bs rv lv d sp c packs Rs) := by
  obtain ⟨d, sp, c, bs, hf, h1⟩ := wr_unpack h
  refine ⟨bs, d, sp, c, hf, ?_⟩
  rw [out_obj] at h1
  exact h1.perm (List.Perm.cons _ (List.perm_middle (l₁ := [_, _])).symm)
/-! ### What the finder and the writer do inside an encoder -/
theorem Held.rot5 {R1 R2 R3 R4 R5 : Thing} (h : Held w0 w (R1 :: R2 :: R3 :: R4 :: R5 :: Rs)) : Held w0 w (R5 :: R1 :: R2 :: R3 :: R4 :: Rs) := h.perm (List.perm_middle (l₁ := [R1, R2, R3, R4]))
theorem enc_fwrite {s : EncS FinS} {p : Place} {S : Thing} (H : Held w0 w (encT s p :: S :: Rs)) (v : Value) (n : Nat) (b : List Nat) (hv : Reads w0 S 1 v n (u8s b)) (hs : FinOk s.f) (hlen : s.f.x.length + n < 1000000000) :
    Calls Tryz.prog 39 #[.pointer (some ⟨p.b, p.o, none⟩), v] w fun e w' => e = .returned (.tuple #[]) ∧ Held w0 w' (encT { s with f := finM.write s.f b } p :: S :: Rs) := by
  obtain ⟨q, hf, h1⟩ := enc_fin H
  exact (finWrite s.f _ v n b h1 hs (hv.rd (Held.rot5 h1)) hlen).mono fun _ _ ⟨h2, h3⟩ => ⟨h2, enc_mk (s := { s with f := finM.write s.f b }) q hf h3⟩
theorem enc_ftoks {s : EncS FinS} {p : Place} (H : Held w0 w (encT s p :: Rs)) (e : Bool) (hs : FinOk s.f) :
    Calls Tryz.prog 50 #[.pointer (some ⟨p.b, p.o, none⟩), .bool e] w fun e' w' => ∃ v, e' = .returned v ∧ Held w0 w' (tokT v (finM.toks s.f e).2 :: encT { s with f := (finM.toks s.f e).1 } p :: Rs) := by
  obtain ⟨q, hf, h1⟩ := enc_fin H
  exact (finToks s.f _ e h1 hs).mono fun _ _ ⟨v, h2, h3⟩ => ⟨v, h2, (enc_mk (s := { s with f := (finM.toks s.f e).1 }) q hf (h3.perm (List.perm_middle (l₁ := [_, _, _, _])).symm)).swap⟩
theorem enc_writer {p : Place} {X : Thing} {C : FinC} {rv lv : Value} {acc : List Nat} {raw : List Nat} {list : List Tok} {told : Nat} {packs : Bool} {f : FinS} (back : EncBack f p C X packs w0)
    (h : Held w0 w (wrT (outP p C rv lv told packs) acc :: ownT 5 1 rv raw.length (u8s raw) :: ownT 80 3 lv list.length (toksV list) :: X :: Rs)) : Held w0 w (encT ⟨f, raw, list, told, acc, packs⟩ p :: Rs) := by
  obtain ⟨bs, d, sp, c, hf, h1⟩ := enc_in h
  exact back raw list told acc bs rv lv d sp c w Rs hf h1
theorem enc_walign {s : EncS FinS} {p : Place} (H : Held w0 w (encT s p :: Rs)) (hl : s.acc.length < 1099511600000) :
    Calls Tryz.prog 29 #[.pointer (some ⟨p.b, p.o + 12, none⟩)] w fun e w' => e = .returned (.tuple #[]) ∧ Held w0 w' (encT { s with acc := evened s.acc } p :: Rs) := by
  obtain ⟨C, X, bs, rv, lv, d, sp, c, hf, h1, back⟩ := enc_open H
  exact (h_walign (enc_out hf h1) hl).mono fun _ _ ⟨h2, h3⟩ => ⟨h2, enc_writer back h3⟩
theorem enc_take {s : EncS FinS} {p : Place} (H : Held w0 w (encT s p :: Rs)) :
    Calls Tryz.prog 28 #[.pointer (some ⟨p.b, p.o + 12, none⟩)] w fun e w' => ∃ d, e = .returned d ∧ Held w0 w' (ownT 5 1 d (bytesOf s.acc).length (u8s (bytesOf s.acc)) :: encT (encTake s) p :: Rs) := by
  obtain ⟨C, X, bs, rv, lv, d, sp, c, hf, h1, back⟩ := enc_open H
  exact (h_take (enc_out hf h1)).mono fun _ _ ⟨d, h2, h3⟩ => ⟨d, h2, (enc_writer back (h3.perm (List.perm_middle (l₁ := [_, _, _, _])).symm)).swap⟩
end
end Go.Proofs.YtdmnfjicjjlnnaaGreatDoor
/-
  The landed encoder's finder: add, tokens, tell.
-/
namespace Go.Proofs.YtdmnfjicjjlnnaaGreatDoor
set_option maxRecDepth 5000
open Go.RowKit
theorem infoTokD : (Tryz.prog.info? 80).map (fun i => (i.zero, i.size, i.bytes)) = some (some (.agg #[.int .u8 0, .int .i64 0, .int .i64 0]), 3, 24) := by kernel_rfl
theorem infoByteD : (Tryz.prog.info? 5).map (fun i => (i.zero, i.size, i.bytes)) = some (some (.int .u8 0), 1, 1) := by kernel_rfl
section
variable {w0 w : World} {Rs : List Thing} {S : Thing}
set_option maxHeartbeats 1600000 in
theorem dadd_any {s : EncS FinS} {p : Place} (H : Held w0 w (encT s p :: S :: Rs)) (v : Value) (n : Nat) (b : List Nat) (hv : Reads w0 S 1 v n (u8s b)) (hs : FinOk s.f) (hlen : s.f.x.length + n < 1000000000) (hr : s.raw.length < 1000000000) :
    Calls Tryz.prog 24 #[.pointer (some ⟨p.b, p.o, none⟩), v] w fun e w' => e = .returned (.tuple #[]) ∧ Held w0 w' (encT (encAdd finM s b) p :: S :: Rs) := by
  obtain ⟨i0, hi0, hz0, hz1, hz2⟩ := info_parts infoByteD
  have hrd := hv.rd H.swap
  have hnb : n = b.length := by have := hrd.1; rw [u8s_length] at this; omega
  obtain ⟨vo, vc, rfl, _, _⟩ := hrd.form
  have HW := hid (enc_fwrite H (.slice vo n vc) n b hv hs hlen)
  have HV := hid hv
  have HN := hid hnb
  clear H hrd hv hs hnb
  go_enter Tryz.func24, Tryz.ntmps24
  go_wp2_with fail
  with_reducible refine HW.out.mono ?_
  rintro e w1 ⟨rfl, h2⟩
  obtain ⟨C, X, bs, rv, lv, d, sp, c, hf, h3, back⟩ := enc_open h2
  have HF := hid hf
  have HB := hid back
  have H3 := hid h3
  obtain ⟨L, hL⟩ : ∃ L, L = s.raw.length := ⟨_, rfl⟩
  have hh3 := h3
  unfold encO at hh3
  rw [← hL] at hr
  have HLL := hid hL
  have hR : Rd w1 1 (.slice vo n vc) n (u8s b) := HV.out.rd (show Held w0 w1 (encT { s with f := finM.write s.f b } p :: S :: Rs) from h2).swap
  have HR := hid hR
  have h4 : Held w0 w1 (ownT 5 1 rv L (u8s s.raw) :: objP p (C.V ++ restV rv lv s.told d sp c s.packs) :: ownT 80 3 lv s.list.length (toksV s.list) :: ownT 5 1 d bs.length (u8s bs) :: X :: S :: Rs) := by
    rw [hL]; exact hh3.swap
  obtain ⟨ro, rc, rfl, _, _⟩ := h4.own.form
  have H4 := hid h4
  have hb := h4.swap.objp
  have c9 := hb.cell (i := 9) rfl
  clear h2 h3 hh3 h4 hb hf back hL hR HW H3
  go_wp2_with (refine wpList_app_held rfl (.tmp 13) (.tmp 14) 22 rfl 5 i0 (.int .u8 0) 1 1 Tryz.underlying22 hi0 hz0 hz1 hz2 rfl (by decide) _ L (u8s s.raw) rfl H4.out _ n (u8s b) rfl HR.out (u8s_one b) (L + n) rfl (by unfold maxLen; omega) (by omega) ?_; intro ao1 cap1 w2 h5; have H5 := hid h5.swap; have f9 := H5.out.objp.frozen 9; have c9' := H5.out.objp.cell (i := 9) rfl; clear h5)
  go_end0
  refine ⟨rfl, ?_⟩
  have h6 := H5.out.setObjP 9 (.slice ao1 (L + n) cap1)
  refine HB.out (s.raw ++ b) s.list s.told s.acc bs (.slice ao1 (L + n) cap1) lv d sp c _ _ HF.out ?_
  unfold encO
  rw [List.length_append, ← HLL.out, ← HN.out, u8s_append]
  exact h6
theorem dtokens_any {s : EncS FinS} {p : Place} (H : Held w0 w (encT s p :: Rs)) (b : Bool) (hs : FinOk s.f) :
    Calls Tryz.prog 40 #[.pointer (some ⟨p.b, p.o, none⟩), .bool b] w fun e w' => ∃ v, e = .returned v ∧ Held w0 w' (tokT v (finM.toks s.f b).2 :: encT { s with f := (finM.toks s.f b).1 } p :: Rs) := by
  have HT := hid (enc_ftoks H b hs)
  clear H hs
  go_enter Tryz.func40, Tryz.ntmps40
  go_wp2_with fail
  with_reducible refine HT.out.mono ?_
  rintro e w1 ⟨v, rfl, h1⟩
  unfold tokT at h1
  obtain ⟨ao, cap, rfl, _, _⟩ := h1.own.form
  have H1 := hid h1
  clear h1 HT
  go_wp2
  go_ret
  exact ⟨_, rfl, H1.out⟩
set_option maxHeartbeats 1600000 in
theorem dtell_any {s : EncS FinS} {p : Place} (H : Held w0 w (encT s p :: Rs)) (t : Tok) (hn : 0 ≤ t.2.1 ∧ t.2.1 ≤ 258) (hl : s.list.length < 1000000000) (ht : s.told < 1000000000) :
    Calls Tryz.prog 41 #[.pointer (some ⟨p.b, p.o, none⟩), tokV t] w fun e w' => e = .returned (.tuple #[]) ∧ Held w0 w' (encT (encTell s t) p :: Rs) := by
  obtain ⟨i3, hi3, hz0, hz1, hz2⟩ := info_parts infoTokD
  obtain ⟨a, n, d⟩ := t
  obtain ⟨C, X, bs, rv, lv, dv, sp, c, hf, h1, back⟩ := enc_open H
  obtain ⟨m, rfl⟩ := Int.eq_ofNat_of_zero_le hn.1
  have hm258 : m ≤ 258 := by have : (m : Int) ≤ 258 := hn.2; omega
  obtain ⟨q, hq⟩ : ∃ q, q = adv (a, (m : Int), d) := ⟨_, rfl⟩
  have hq2 : q = max m 1 := hq
  have hqb : q ≤ 258 := by omega
  have hmax : (if (m : Int) < 1 then 1 else (m : Int)) = (q : Int) := by split <;> omega
  obtain ⟨u, hu⟩ : ∃ u, u = s.told + q := ⟨_, rfl⟩
  have huI : (s.told : Int) + (q : Int) = (u : Int) := by omega
  obtain ⟨K, hK⟩ : ∃ K, K = s.list.length := ⟨_, rfl⟩
  rw [← hK] at hl
  have h3 := (Held.newObj h1 [.int .u8 a, .int .i64 (m : Int), .int .i64 d] 80)
  have hO : Held w0 w (ownT 80 3 lv K (toksV s.list) :: objP p (C.V ++ restV rv lv s.told dv sp c s.packs) :: ownT 5 1 rv s.raw.length (u8s s.raw) :: ownT 5 1 dv bs.length (u8s bs) :: X :: Rs) := by
    rw [hK]; exact Held.third h1
  obtain ⟨lo, lc, rfl, _, _⟩ := hO.own.form
  have HF := hid hf
  have HB := hid back
  have HQ := hid (And.intro hq (And.intro hu hK))
  have H3 : Hid (Held w0 (w.alloc (.cells #[.int .u8 a, .int .i64 (m : Int), .int .i64 d] 80)) (objP p (C.V ++ restV rv (.slice lo K lc) s.told dv sp c s.packs) :: ownT 80 3 (.slice lo K lc) K (toksV s.list) :: objT w.heap.size [.int .u8 a, .int .i64 (m : Int), .int .i64 d] 80 :: ownT 5 1 rv s.raw.length (u8s s.raw) :: ownT 5 1 dv bs.length (u8s bs) :: X :: Rs)) := hid (by
    have h4 := hO.swap.newObj [.int .u8 a, .int .i64 (m : Int), .int .i64 d] 80
    exact h4.swap.mid)
  have hu0 : u < 2000000000 := by omega
  clear h1 h3 hO hf back hq hq2 hu hK hn H
  unfold tokV
  simp only
  go_enter Tryz.func41, Tryz.ntmps41
  go_wp2
  generalize hwA : w.alloc (.cells #[.int .u8 a, .int .i64 (m : Int), .int .i64 d] 80) = wA at H3 ⊢
  generalize w.heap.size = N at H3 ⊢
  have hb := H3.out.objp
  have HA := H3.out.apartP
  have c10 := hb.cell (i := 10) rfl
  have f10 := hb.frozen 10
  have fa : ∀ o, (wA.alloc o).frozen? ⟨p.b, p.o + 10, none⟩ = false := fun o => (hb.alloc o).frozen 10
  have ca10 : ∀ o, (wA.alloc o).cell? ⟨p.b, p.o + 10, none⟩ = some (.slice lo K lc) := fun o => (hb.alloc o).cell (i := 10) rfl
  have hown := H3.out.swap.own
  have t0 := H3.out.third.obj.cell (i := 0) rfl
  have t1 := H3.out.third.obj.cell (i := 1) rfl
  have t2 := H3.out.third.obj.cell (i := 2) rfl
  go_region_law
    ((refine step_app _ (by rfl) (.tmp 8) (.tmp 10) 34 (by rfl) 80 i3 (.agg #[.int .u8 0, .int .i64 0, .int .i64 0]) 3 24 Tryz.underlying34 hi3 hz0 hz1 hz2 (by rfl) (by decide) (.slice lo K lc) K (toksV s.list) (by rfl) (by exact (hown.alloc _).drew) (.slice (some ⟨wA.heap.size, 0, none⟩) 1 1) 1 [.int .u8 a, .int .i64 (m : Int), .int .i64 d] (by rfl) (by exact (Rd.lit _ [_, _, _] _ 3 1 (by decide) rfl).drew) (by intro u hu; simp at hu; rcases hu with rfl | rfl | rfl <;> rfl) (by unfold maxLen; omega) (by omega) ?_; intro ao1 cap1 w2 hown1 hgrow hat; have hb2 := (hb.alloc _).drew.grown hgrow HA; have c10' := hb2.cell (i := 10) rfl; have f10' := hb2.frozen 10; have c11' := hb2.cell (i := 11) rfl; have f11' := hb2.frozen 11; have H5 := hid ((((H3.out.alloc _).drew).swap.app hown1 hgrow hat).swap.setObjP 10 (.slice ao1 (K + 1) cap1)); clear hgrow hat hown1))
  all_goals
    have hb5 := H5.out.objp
    have d11 := hb5.cell (i := 11) rfl
    have g11 := hb5.frozen 11
    have u1 := H5.out.third.obj.cell (i := 1) rfl
    have H6 := hid (H5.out.drew.setObjP 11 (.int .i64 (u : Int)))
    clear hb hb2 hb5 c10 f10 c10' f10' c11' f11' fa ca10 hown t0 t1 t2 HA H3 H5
    go_wp2
    go_region
    all_goals
      go_end0
      refine ⟨rfl, HB.out s.raw (s.list ++ [(a, (m : Int), d)]) (s.told + adv (a, (m : Int), d)) s.acc bs rv (.slice ao1 (K + 1) cap1) dv sp c _ _ HF.out ?_⟩
      unfold encO
      rw [← HQ.out.1, ← HQ.out.2.1, List.length_append, ← HQ.out.2.2, toksV_app]
      exact H6.out.third.drop.mid
end
end Go.Proofs.YtdmnfjicjjlnnaaGreatDoor
/-
  The landed encoder's blocks: cut, writeBlock.
-/
namespace Go.Proofs.YtdmnfjicjjlnnaaGreatDoor
set_option maxRecDepth 5000
open Go.RowKit
def bothT (v : Value) (n : Nat) (xs : List Value) (u : Value) (m : Nat) (ys : List Value) : Thing where
  res := fun w F => Own w 5 1 v n xs ∧ (Rd w 1 u m ys ∧ ∀ k, u.ownBlock = some k → F k) ∧ ∀ k, F k ↔ v.ownBlock = some k
  loc := fun _ _ _ _ h hm hS => ⟨h.1.kept hm (fun k hk => hS k ((h.2.2 k).2 hk)), ⟨h.2.1.1.kept hm (fun k hk => hS k (h.2.1.2 k hk)), h.2.1.2⟩, h.2.2⟩
theorem Rd.shrink {w : World} {size n cap c : Nat} {a : Option Addr} {xs : List Value} (h : Rd w size (.slice a n cap) n xs) (h1 : n ≤ c) (h2 : c ≤ cap) : Rd w size (.slice a n c) n xs := by
  obtain ⟨hl, ao, cap', hv, hn, hm, h0, hr⟩ := h
  simp only [Value.slice.injEq, true_and] at hv
  obtain ⟨rfl, rfl⟩ := hv
  exact ⟨hl, a, c, rfl, h1, by omega, fun e => by have := h0 e; omega, hr⟩
theorem add_zero_addr (a : Option Addr) (k : Nat) : (a.map fun (x : Addr) => x.add (0 * k)) = a := by
  cases a with
  | none => rfl
  | some x => simp [Addr.add]
theorem run_cut3 {P : Program} {w : World} (t e : TypeId) (i : TypeInfo) (ht : P.underlying t = some (.slice e)) (hi : P.info? e = some i) (a : Option Addr) (len cap H : Nat) (h : H ≤ cap) :
    (Instr.sliceAt t (.slice a len cap) none (some (.int .i64 (H : Int))) (some (.int .i64 (H : Int)))).run P w = .ok (.slice a H H) w := by
  have hel : P.elem t = e := by simp [Program.elem, ht]
  have ht' : P.underlying t = some (.slice (P.elem t)) := by rw [hel]; exact ht
  have hsz : (sizeOf (P.elem t)).run P w = .ok i.size w := by rw [hel]; simp [sizeOf, typeInfo, hi]
  rw [run_sliceAt_slice w t _ _ _ _ ht', run_slice_hm w t a len cap ht' .i64 .i64 (H : Int) (H : Int) (by omega) (Int.le_refl _) (by omega), hsz]
  simp only [Result.andThen, sliced, Int.toNat_natCast, Nat.sub_zero]
  rw [add_zero_addr, ite_self]
section
variable {w0 w : World} {Rs : List Thing} {S : Thing}
theorem Held.both {v u : Value} {n m : Nat} {xs ys : List Value} (h : Held w0 w (bothT v n xs u m ys :: Rs)) : Own w 5 1 v n xs ∧ Rd w 1 u m ys := by
  obtain ⟨F, h1, _⟩ := h
  exact ⟨h1.1, h1.2.1.1⟩
theorem Held.bothOwn {v u : Value} {n m : Nat} {xs ys : List Value} (h : Held w0 w (bothT v n xs u m ys :: Rs)) : Held w0 w (ownT 5 1 v n xs :: Rs) := by
  obtain ⟨F, h1, h2, h3⟩ := h
  exact ⟨F, ⟨h1.1, h1.2.2⟩, h2, h3⟩
theorem Held.mkBoth {v v' u : Value} {n n' m : Nat} {xs xs' ys : List Value} (h : Held w0 w (ownT 5 1 v n xs :: Rs)) (ho : Own w 5 1 v' n' xs') (hu : Rd w 1 u m ys) (e1 : v'.ownBlock = v.ownBlock) (e2 : u.ownBlock = v.ownBlock) : Held w0 w (bothT v' n' xs' u m ys :: Rs) := by
  obtain ⟨F, h1, h2, h3⟩ := h
  exact ⟨F, ⟨ho, ⟨hu, fun k hk => (h1.2 k).2 (e2 ▸ hk)⟩, fun k => by rw [e1]; exact h1.2 k⟩, h2, h3⟩
set_option maxHeartbeats 1600000 in
theorem dcut_any {p : Place} {C : FinC} {X : Thing} {raw : List Nat} {list : List Tok} {told : Nat} {bs : List Nat} {rv lv d : Value} {sp c : Nat} {packs : Bool} (H : Held w0 w (encO p C X raw list told bs rv lv d sp c packs Rs)) (ht : told ≤ raw.length) (hr : raw.length < 1000000000) :
    Calls Tryz.prog 42 #[.pointer (some ⟨p.b, p.o, none⟩)] w fun e w' => ∃ rv' u, e = .returned (.tuple #[lv, u]) ∧
      Held w0 w' (objP p (C.V ++ restV rv' (.slice none 0 0) 0 d sp c packs) :: bothT rv' (raw.drop told).length (u8s (raw.drop told)) u told (u8s (raw.take told)) :: ownT 80 3 lv list.length (toksV list) :: ownT 5 1 d bs.length (u8s bs) :: X :: Rs) := by
  obtain ⟨i0, hi0, hz0, hz1, hz2⟩ := info_parts infoByteD
  unfold encO at H
  obtain ⟨L, hL⟩ : ∃ L, L = raw.length := ⟨_, rfl⟩
  rw [← hL] at hr ht
  have hb := H.objp
  have hO := H.swap.own
  have hT := H.third.own
  rw [← hL] at hO
  obtain ⟨ro, rc, rfl, hLc, hcm⟩ := hO.form
  obtain ⟨lo, lc, rfl, _, _⟩ := hT.form
  have hc3 : ∀ wg, (Instr.sliceAt 22 (.slice ro L rc) none (some (.int .i64 (told : Int))) (some (.int .i64 (told : Int)))).run Tryz.prog wg = .ok (.slice ro told told) wg := fun wg =>
    run_cut3 (P := Tryz.prog) 22 5 i0 Tryz.underlying22 hi0 ro L rc told (by omega)
  have hcut : ∀ wg, (Instr.sliceAt 22 (.slice ro L rc) (some (.int .i64 (told : Int))) none none).run Tryz.prog wg = .ok (.slice (if rc = told then ro else ro.map fun (x : Addr) => x.add (told * 1)) (L - told) (rc - told)) wg := fun wg =>
    run_cut (P := Tryz.prog) 22 5 i0 1 Tryz.underlying22 hi0 hz1 ro L rc told L (some (.int .i64 (told : Int))) none ⟨_, rfl⟩ rfl ht hLc
  have hown := hO.cut (L := told) (H := L) ht (Nat.le_refl _)
  have hblk := cut_block ro told L rc 1 L
  have hrd := (hO.rd.cut (L := 0) (H := told) (Nat.zero_le _) ht)
  have e1 : ((u8s raw).drop (told * 1)).take ((L - told) * 1) = u8s (raw.drop told) := by
    rw [Nat.mul_one, Nat.mul_one, List.take_of_length_le (by rw [List.length_drop, u8s_length, ← hL]; omega)]
    simp only [u8s, ← List.map_drop]
  have e2 : ((u8s raw).drop (0 * 1)).take ((told - 0) * 1) = u8s (raw.take told) := by
    simp [u8s, List.map_take]
  rw [e1] at hown
  rw [e2] at hrd
  unfold sliced at hown hblk hrd
  rw [add_zero_addr, ite_self, Nat.sub_zero, Nat.sub_zero] at hrd
  have hrd2 := hrd.shrink (c := told) (Nat.le_refl _) (by omega)
  generalize (if rc = told then ro else ro.map fun (x : Addr) => x.add (told * 1)) = ro2 at hcut hown hblk
  generalize rc - told = rc2 at hcut hown hblk
  obtain ⟨K, hK⟩ : ∃ K, K = L - told := ⟨_, rfl⟩
  rw [← hK] at hcut hown hblk
  have HK : Hid ((raw.drop told).length = K) := hid (by rw [List.length_drop]; omega)
  have c9 := hb.cell (i := 9) rfl
  have c10 := hb.cell (i := 10) rfl
  have c11 := hb.cell (i := 11) rfl
  have f9 := hb.frozen 9
  have f10 := hb.frozen 10
  have f11 := hb.frozen 11
  have HO := hid hown
  have HB := hid hblk
  have HRD := hid hrd2
  have HH := hid H
  have HL := hid hL
  have ht0 : (0 : Int) ≤ (told : Int) := Int.natCast_nonneg _
  have htb : told < 1000000000 := by omega
  have htL : (told : Int) ≤ (L : Int) := by omega
  clear H hb hO hT hown hblk hrd hrd2 e1 e2 hK hL hLc hcm
  go_enter Tryz.func42, Tryz.ntmps42
  go_wp2
  go_region
  all_goals
    go_wp2
    go_region
    all_goals
      go_wp2
      go_ret2
      have h1 := (HH.out.swap.mkBoth HO.out HRD.out HB.out (by cases ro <;> rfl)).swap
      have h2 := ((h1.drew.drew.setObjP 9 (.slice ro2 K rc2)).setObjP 10 (.slice none 0 0)).setObjP 11 (.int .i64 0)
      rw [HK.out]
      exact ⟨.slice ro2 K rc2, .slice ro told told, rfl, h2⟩
/-! ### A block -/
def cutT (rv : Value) (rest : List Nat) (u : Value) (m : Nat) (part : List Nat) (lv : Value) (list : List Tok) : Thing := andT (bothT rv rest.length (u8s rest) u m (u8s part)) (ownT 80 3 lv list.length (toksV list))
theorem cut_raw (rv : Value) (rest : List Nat) (u : Value) (m : Nat) (part : List Nat) (lv : Value) (list : List Tok) : Reads w0 (cutT rv rest u m part lv list) 1 u m (u8s part) := by
  rintro w F _ ⟨F1, F2, h1, h2, hd, hF⟩
  exact ⟨h1.2.1.1, fun _ k hk => .inr ((hF k).2 (.inl (h1.2.1.2 k hk)))⟩
theorem cut_list (rv : Value) (rest : List Nat) (u : Value) (m : Nat) (part : List Nat) (lv : Value) (list : List Tok) : Reads w0 (cutT rv rest u m part lv list) 3 lv list.length (toksV list) := by
  rintro w F _ ⟨F1, F2, h1, h2, hd, hF⟩
  exact ⟨h2.1.rd, fun _ k hk => .inr ((hF k).2 (.inr ((h2.2 k).2 hk)))⟩
theorem cut_out {p : Place} {C : FinC} {X : Thing} {rest part acc : List Nat} {list : List Tok} {m : Nat} {bs : List Nat} {rv lv u d : Value} {sp c : Nat} {packs : Bool} (hf : WrFact acc bs c sp)
    (h : Held w0 w (objP p (C.V ++ restV rv (.slice none 0 0) 0 d sp c packs) :: bothT rv rest.length (u8s rest) u m (u8s part) :: ownT 80 3 lv list.length (toksV list) :: ownT 5 1 d bs.length (u8s bs) :: X :: Rs)) :
    Held w0 w (wrT (outP p C rv (.slice none 0 0) 0 packs) acc :: cutT rv rest u m part lv list :: X :: Rs) := by
  have h2 := h.perm (List.Perm.cons _ (List.perm_middle (l₁ := [_, _])))
  rw [← out_obj] at h2
  have h3 := wr_pack hf h2
  exact (h3.perm (List.perm_middle (l₁ := [_, _])).symm).pair.swap
theorem cut_in {f : FinS} {p : Place} {C : FinC} {X : Thing} {rest part acc : List Nat} {list : List Tok} {m : Nat} {rv lv u : Value} {packs : Bool} (back : EncBack f p C X packs w0)
    (h : Held w0 w (wrT (outP p C rv (.slice none 0 0) 0 packs) acc :: cutT rv rest u m part lv list :: X :: Rs)) : Held w0 w (encT ⟨f, rest, [], 0, acc, packs⟩ p :: Rs) := by
  have h1 := (h.swap.unpair.bothOwn.swap.drop).swap
  refine enc_writer back (told := 0) (list := []) (rv := rv) (lv := .slice none 0 0) ?_
  exact (h1.nil 80 3).perm (List.perm_middle (l₁ := [_, _])).symm
set_option maxHeartbeats 1600000 in
theorem dblock_any {s : EncS FinS} {p : Place} (H : Held w0 w (encT s p :: Rs)) (hO : Ordr w0) (last : Bool) (ht : s.told ≤ s.raw.length) (hr : s.raw.length < 1000000000) (h16 : s.told ≤ 65535) (hb : byteOK s.list) (hby : ∀ b ∈ s.raw, b < 256) (hl : s.list.length < 1000000000) (hacc : s.acc.length < 900000000) :
    Calls Tryz.prog 26 #[.pointer (some ⟨p.b, p.o, none⟩), .bool last] w fun e w' => e = .returned (.tuple #[]) ∧ Held w0 w' (encT (encBlock (blkF lensF) last s) p :: Rs) := by
  obtain ⟨f, raw, list, told, acc, packs⟩ := s
  obtain ⟨C, X, bs, rv, lv, d, sp, c, hf, h1, back⟩ := enc_open H
  have hlv := h1.third.own
  have HC := hid (dcut_any h1 ht hr)
  obtain ⟨lo, lc, rfl, _, _⟩ := hlv.form
  have HF := hid hf
  have HB := hid back
  have HP := hid (And.intro hb (And.intro hby (And.intro h16 (And.intro ht hl))))
  have hacc : acc.length < 900000000 := hacc
  have HA := hid hacc
  simp only at HC HF HB HP
  clear H h1 hlv hf back hb hby h16 ht hl hr hacc
  cases packs with
  | true =>
    go_enter Tryz.func26, Tryz.ntmps26
    go_wp2_with fail
    with_reducible refine HC.out.mono ?_
    rintro e w1 ⟨rv', u, rfl, h2⟩
    have c15 := h2.objp.cell (i := 15) rfl
    have hu := h2.swap.both.2
    obtain ⟨uo, uc, rfl, _, _⟩ := hu.form
    have h3 := cut_out HF.out h2
    have HW : Hid (Calls Tryz.prog 43 #[.pointer (some ⟨p.b, p.o + 12, none⟩), .slice lo list.length lc, .slice uo told uc, .bool last] w1 fun e w' => ∃ k : Int, e = .returned (.int .i64 k) ∧ Held w0 w' (encT (encBlock (blkF lensF) last ⟨f, raw, list, told, acc, true⟩) p :: Rs)) :=
      hid ((best_blk list (raw.take told) acc last (.slice lo list.length lc) (.slice uo told uc) list.length told _ _ hO h3 (cut_list _ _ _ _ _ _ _) (cut_raw _ _ _ _ _ _ _) HP.out.1 (fun b hb => HP.out.2.1 b (List.mem_of_mem_take hb)) HP.out.2.2.2.2 HA.out).mono fun e w' ⟨h4, h5⟩ => ⟨_, h4, by
        have h6 := cut_in HB.out h5
        have e1 : (if (bestK (blkF lensF) list (raw.take told)).1 < 0 then acc else acc ++ blkBits (blkF lensF) (bestK (blkF lensF) list (raw.take told)).1.toNat list (raw.take told) last acc.length) = acc ++ bitsOne (blkF lensF) true list (raw.take told) last acc.length := by
          unfold bitsOne
          rw [if_pos rfl]
          split
          · rw [List.append_nil]
          · rfl
        rw [e1] at h6
        exact h6⟩)
    clear h2 h3 hu HC
    go_wp2_with fail
    with_reducible refine HW.out.mono ?_
    rintro e w2 ⟨k, rfl, h4⟩
    have H4 := hid h4
    clear h4 HW c15
    go_wp2
    refine bodyPost_ret (results_none rfl _ _ _) rfl ?_
    exact ⟨rfl, H4.out⟩
  | false =>
    go_enter Tryz.func26, Tryz.ntmps26
    go_wp2_with fail
    with_reducible refine HC.out.mono ?_
    rintro e w1 ⟨rv', u, rfl, h2⟩
    have c15 := h2.objp.cell (i := 15) rfl
    have hu := h2.swap.both.2
    obtain ⟨uo, uc, rfl, _, _⟩ := hu.form
    have h3 := cut_out HF.out h2
    have HW : Hid (Calls Tryz.prog 27 #[.pointer (some ⟨p.b, p.o + 12, none⟩), .int .i64 0, .slice none 0 0, .slice uo told uc, .bool last] w1 fun e w' => e = .returned (.bool true) ∧ Held w0 w' (encT (encBlock (blkF lensF) last ⟨f, raw, list, told, acc, false⟩) p :: Rs)) :=
      hid ((write_blk 0 [] (raw.take told) acc last (.slice none 0 0) (.slice uo told uc) 0 told _ _ hO h3 (fun wz F _ _ => ⟨Rd.nil wz 3, fun h => by omega⟩) (cut_raw _ _ _ _ _ _ _) (fun _ h => by cases h) (fun b hb => HP.out.2.1 b (List.mem_of_mem_take hb)) (by decide) HA.out (.inl ⟨rfl, by rw [List.length_take]; have := HP.out.2.2.1; omega⟩)).mono fun e w' ⟨h4, h5⟩ => ⟨h4, cut_in HB.out h5⟩)
    clear h2 h3 hu HC
    go_wp2_with fail
    with_reducible refine HW.out.mono ?_
    rintro e w2 ⟨rfl, h4⟩
    have H4 := hid h4
    clear h4 HW c15
    go_wp2
    go_end0
    exact ⟨rfl, H4.out⟩
end
end Go.Proofs.YtdmnfjicjjlnnaaGreatDoor
/-
  The landed encoder's writeBlocks: a block whenever the tokens stand for enough.
-/
namespace Go.Proofs.YtdmnfjicjjlnnaaGreatDoor
set_option maxRecDepth 5000
open Go.RowKit
theorem toks_snoc {St : Type} (F : Nat → List Tok → List Nat → Nat → List Nat) (s : EncS St) (ts : List Tok) (i : Nat) (t : Tok) (h : ts[i]? = some t) : encToks F s (ts.take (i + 1)) = encStep F (encToks F s (ts.take i)) t := by
  unfold encToks
  rw [List.take_add_one, h]
  simp
section
variable {St : Type} {F : Nat → List Tok → List Nat → Nat → List Nat} {x : List Nat} {Q e P : Nat} {s : EncS St} {T ks ss : List Nat}
theorem mid_nums (h : EncMid x Q s T e P ks ss) (hx : x.length ≤ most) (he : e ≤ 1000000) : s.told ≤ s.raw.length ∧ s.raw.length ≤ most ∧ s.list.length ≤ s.told ∧ s.acc.length < 900000000 := by
  have h1 := h.sum
  have h2 := h.le
  have h3 := expT_grow _ _ _ h.ex
  have h4 := h.size
  have h5 := h.cnt
  rw [List.length_take, List.length_take] at h3
  rw [List.length_append] at h4
  unfold most at *
  refine ⟨?_, ?_, by omega, by omega⟩
  · rw [h.raw, List.length_drop]; omega
  · rw [h.raw, List.length_drop]; omega
theorem mid_upto (HF : BlkLaw F) (hr : ∀ b ∈ x, b < 256) (h : EncMid x Q s T e P ks ss) (ht : s.told < 16384) {ts : List Tok} {A : Nat} (hx : expT (x.take Q) ts = (0, x.take A)) (hA : A ≤ x.length) (hb : byteOK ts) :
    ∀ i, i ≤ ts.length → ∃ Q' P' ks' ss', EncMid x Q' (encToks F s (ts.take i)) T e P' ks' ss' ∧ (encToks F s (ts.take i)).told < 16384 ∧ expT (x.take Q') (ts.drop i) = (0, x.take A)
  | 0, _ => ⟨Q, P, ks, ss, h, ht, hx⟩
  | i + 1, hi => by
    obtain ⟨Q', P', ks', ss', h1, h2, h3⟩ := mid_upto HF hr h ht hx hA hb i (by omega)
    have hil : i < ts.length := by omega
    have he : ts.drop i = ts[i] :: ts.drop (i + 1) := (List.drop_eq_getElem_cons hil)
    rw [he] at h3
    obtain ⟨P2, ks2, ss2, h4, h5, h6, _⟩ := mid_step HF hr h1 h2 h3 hA (hb _ (List.getElem_mem hil))
    rw [toks_snoc F s ts i ts[i] (List.getElem?_eq_getElem hil)]
    exact ⟨_, P2, ks2, ss2, h4, h5, h6⟩
structure RoundOK (x : List Nat) (u : EncS St) (t : Tok) : Prop where
  len : 0 ≤ t.2.1 ∧ t.2.1 ≤ 258
  list : u.list.length < 1000000000
  told : u.told < 1000000000
  told2 : (encTell u t).told ≤ u.raw.length
  raw : u.raw.length < 1000000000
  few : (encTell u t).told ≤ 65535
  byt : byteOK (u.list ++ [t])
  rby : ∀ b ∈ u.raw, b < 256
  list2 : (u.list ++ [t]).length < 1000000000
  acc : u.acc.length < 900000000
theorem round_ok (hr : ∀ b ∈ x, b < 256) (hx : x.length ≤ most) (he : e ≤ 1000000) (h : EncMid x Q s T e P ks ss) (ht : s.told < 16384) {t : Tok} {r : List Tok} {A : Nat} (hs : expT (x.take Q) (t :: r) = (0, x.take A)) (hA : A ≤ x.length) (hb : 0 ≤ t.1 ∧ t.1 ≤ 255) : RoundOK x s t := by
  have h1 := (mid_tell h hs hA hb).1
  have h2 := mid_nums h1 hx he
  have h3 := mid_nums h hx he
  have h4 := (tell_on h.le hs hA).1
  have hlen : 0 ≤ t.2.1 ∧ t.2.1 ≤ 258 := by
    by_cases hsd : soundB t = true
    · by_cases h0 : t.2.1 = 0
      · omega
      · have := sound_match hsd h0
        omega
    · rw [stepT_bad (by simpa using hsd)] at h4; cases h4
  have hm : most = 16777216 := rfl
  have hadv : adv t ≤ 258 := by unfold adv; omega
  refine ⟨hlen, by omega, by omega, h2.1, by omega, ?_, h1.byt, fun b hb => ?_, ?_, h3.2.2.2⟩
  · show s.told + adv t ≤ _
    omega
  · rw [h.raw] at hb
    exact hr b (List.mem_of_mem_drop hb)
  · have h5 : (s.list ++ [t]).length ≤ s.told + adv t := h2.2.2.1
    omega
end
theorem more_round {M : MatchM} {F : Nat → List Tok → List Nat → Nat → List Nat} {x : List Nat} {s : EncS M.St} {T : List Nat} {e : Nat} (L : MatchLaws M) (HF : BlkLaw F) (h : EncInv M x s T e) (hx : x.length ≤ most) (he : e ≤ 1000000) (b : Bool) :
    encMore M F b s = encToks F { s with f := (M.toks s.f b).1 } (M.toks s.f b).2 ∧ (M.toks s.f b).2.length ≤ x.length ∧ ∀ i t, (M.toks s.f b).2[i]? = some t → RoundOK x (encToks F { s with f := (M.toks s.f b).1 } ((M.toks s.f b).2.take i)) t := by
  have hok := L.ok_toks s.f b h.ok
  have hin : M.inp (M.toks s.f b).1 = x := by rw [L.inp_toks, h.inp]
  have h1 := at_of L h.ok (by rw [h.inp]; exact hx)
  have h2 := at_of L hok (by rw [hin]; exact hx)
  rw [L.outs_toks, hin] at h2
  rw [h.inp] at h1
  rw [expT_app, h1.2, if_pos rfl] at h2
  have hbk : byteOK (M.toks s.f b).2 := by
    have := L.bytes _ hok
    rw [L.outs_toks] at this
    exact fun t ht => this t (List.mem_append_right _ ht)
  obtain ⟨P, ks, ss, hm⟩ := h.mid
  have hm2 : EncMid x (atOf M s.f) { s with f := (M.toks s.f b).1 } T e P ks ss := ⟨hm.sum, hm.le, hm.raw, hm.byt, hm.ex, hm.ch, hm.zero, hm.size, hm.cnt, hm.even⟩
  have h3 := expT_grow _ _ _ h2.2
  rw [List.length_take, List.length_take] at h3
  refine ⟨rfl, by omega, fun i t ht => ?_⟩
  have hi := (List.getElem?_eq_some_iff.1 ht).1
  obtain ⟨Q', P', ks', ss', g1, g2, g3⟩ := mid_upto HF h.byt hm2 h.low h2.2 h2.1 hbk i (by omega)
  rw [List.drop_eq_getElem_cons hi, (List.getElem?_eq_some_iff.1 ht).2] at g3
  exact round_ok h.byt hx he g1 g2 g3 h2.1 (hbk _ (List.mem_of_getElem? ht))
section
variable {w0 w : World} {Rs : List Thing}
set_option maxHeartbeats 3200000 in
theorem dblocks_any {s : EncS FinS} {p : Place} {x : List Nat} {T : List Nat} {e : Nat} (H : Held w0 w (encT s p :: Rs)) (hO : Ordr w0) (HI : EncInv finM x s T e) (hx : x.length ≤ most) (he : e ≤ 1000000) (b : Bool) :
    Calls Tryz.prog 25 #[.pointer (some ⟨p.b, p.o, none⟩), .bool b] w fun e w' => e = .returned (.tuple #[]) ∧ Held w0 w' (encT (encMore finM (blkF lensF) b s) p :: Rs) := by
  have hmr : encMore finM (blkF lensF) b s = encToks (blkF lensF) ({ s with f := (finM.toks s.f b).1 } : EncS FinS) (finM.toks s.f b).2 ∧ (finM.toks s.f b).2.length ≤ x.length ∧ ∀ i t, (finM.toks s.f b).2[i]? = some t → RoundOK x (encToks (blkF lensF) ({ s with f := (finM.toks s.f b).1 } : EncS FinS) ((finM.toks s.f b).2.take i)) t := more_round finLaws blkLaw HI hx he b
  have hok : FinOk s.f := HI.ok
  have hT := dtokens_any H b hok
  generalize encMore finM (blkF lensF) b s = sE at *
  generalize (finM.toks s.f b).2 = ts at *
  generalize ({ s with f := (finM.toks s.f b).1 } : EncS FinS) = s1 at *
  obtain ⟨hE, hn, hkn⟩ := hmr
  rw [hE]
  have HT := hid hT
  have HK := hid hkn
  obtain ⟨n, hnl⟩ : ∃ n, n = ts.length := ⟨_, rfl⟩
  have HN := hid hnl
  unfold tokT at HT
  rw [← hnl] at HT hn
  have hn0 : (0 : Int) ≤ (n : Int) := Int.natCast_nonneg _
  have hn : n < 1000000000 := by have : most = 16777216 := rfl; omega
  clear H HI hE hok hkn hnl hx he hT
  go_enter Tryz.func25, Tryz.ntmps25
  go_wp2_with fail
  with_reducible refine HT.out.mono ?_
  rintro e w1 ⟨v, rfl, h1⟩
  obtain ⟨ao, cap, rfl, _, _⟩ := h1.own.form
  have H1 := hid h1.swap
  clear h1 HT
  go_wp2
  go_loopg [5, 12] (n + 2) (fun gg t5 t12 wr => ∃ i : Nat, i ≤ n ∧ n - i < gg ∧ t12 = .int .i64 (i : Int) ∧
    Hid (Held w0 wr (encT (encToks (blkF lensF) s1 (ts.take i)) p :: ownT 80 3 (.slice ao n cap) n (toksV ts) :: Rs)))
  case atStart => exact ⟨0, by omega, by omega, rfl, H1⟩
  case round =>
    obtain ⟨i, hi, hg, rfl, HR⟩ := hrel
    have hi0 : (0 : Int) ≤ (i : Int) := Int.natCast_nonneg _
    by_cases hin : i < n
    · have hiI : (i : Int) < (n : Int) := by omega
      obtain ⟨t, ht⟩ : ∃ t, ts[i]? = some t := ⟨ts[i]'(by rw [← HN.out]; exact hin), List.getElem?_eq_getElem _⟩
      have hrk : RoundOK x (encToks (blkF lensF) s1 (ts.take i)) t := HK.out i t ht
      have hst := toks_snoc (blkF lensF) s1 ts i t ht
      obtain ⟨u, hu⟩ : ∃ u, u = encToks (blkF lensF) s1 (ts.take i) := ⟨_, rfl⟩
      rw [← hu] at hrk hst HR
      have HRK := hid hrk
      have HST := hid hst
      obtain ⟨ta, tl, td⟩ := t
      obtain ⟨g, off, rfl, c0, c1, c2⟩ := HR.out.swap.own.rd.tok ht
      have hA := (HR.out.newObj [.int .u8 ta, .int .i64 tl, .int .i64 td] 80).swap
      have HTL := hid (dtell_any hA.drew (ta, tl, td) hrk.len hrk.list hrk.told)
      have HH := hid hA
      clear ht hrk hst hu hA
      unfold tokV at HTL
      simp only at HTL
      have HST2 : Hid (encToks (blkF lensF) s1 (ts.take (i + 1)) = if 16384 ≤ (encTell u (ta, tl, td)).told then encBlock (blkF lensF) false (encTell u (ta, tl, td)) else encTell u (ta, tl, td)) := HST
      have HBL := hid (fun (wz : World) (Rz : List Thing) (h : Held w0 wz (encT (encTell u (ta, tl, td)) p :: Rz)) => dblock_any h hO false HRK.out.told2 HRK.out.raw HRK.out.few HRK.out.byt HRK.out.rby HRK.out.list2 HRK.out.acc)
      have hmb : (encTell u (ta, tl, td)).told < 1000000000 := by have := HRK.out.few; omega
      generalize encTell u (ta, tl, td) = u2 at HTL HST2 HBL hmb
      have t0 := HH.out.swap.obj.cell (i := 0) rfl
      have t1 := HH.out.swap.obj.cell (i := 1) rfl
      have t2 := HH.out.swap.obj.cell (i := 2) rfl
      go_wp2
      generalize hwA : wr.alloc (.cells #[.int .u8 ta, .int .i64 tl, .int .i64 td] 80) = wA at HTL HH t0 t1 t2 ⊢
      go_still_tail 4, (by kernel_rfl)
      change wpList _ _ _ _ _ (World.drew _)
      clear hwA HH t0 t1 t2 c0 c1 c2
      go_wp2_with fail
      with_reducible refine HTL.out.mono ?_
      rintro e w2 ⟨rfl, h2⟩
      obtain ⟨C, X, bs, rv, lv, d, sp, c, hf, h3, back⟩ := enc_open h2
      have c11 := h3.objp.cell (i := 11) rfl
      have H2 := hid h2
      clear h3 hf back h2 HTL
      by_cases hc : 16384 ≤ u2.told
      · have hcI : decide ((16384 : Int) ≤ (u2.told : Int)) = true := decide_eq_true (by omega)
        have HE : Hid (encToks (blkF lensF) s1 (ts.take (i + 1)) = encBlock (blkF lensF) false u2) := hid (by rw [HST2.out, if_pos hc])
        have HB := hid (HBL.out _ _ H2.out)
        rw [← HE.out] at HB
        generalize u2.told = td2 at c11 hcI hmb
        go_wp2_with fail
        with_reducible refine HB.out.mono ?_
        rintro e w3 ⟨rfl, h4⟩
        have H4 := hid (h4.swap.drop)
        clear h4 HB c11
        go_wp2
        go_roundg (gk - 1)
        case measure => omega
        case rel => exact ⟨i + 1, by omega, by omega, by go_num, hid (by rw [HE.out] at H4 ⊢; exact H4.out)⟩
      · have hcI : decide ((16384 : Int) ≤ (u2.told : Int)) = false := decide_eq_false (by omega)
        have HE : Hid (encToks (blkF lensF) s1 (ts.take (i + 1)) = u2) := hid (by rw [HST2.out, if_neg hc])
        have H4 := hid (H2.out.swap.drop)
        generalize u2.told = td2 at c11 hcI hmb
        clear hc HBL HST2 HST
        go_wp2
        go_roundg (gk - 1)
        case measure => omega
        case rel => exact ⟨i + 1, by omega, by omega, by go_num, hid (by rw [HE.out]; exact H4.out)⟩
    · obtain rfl : i = n := by omega
      have hiI : ¬ (i : Int) < (i : Int) := by omega
      have H4 := hid HR.out.swap.drop
      have HE : Hid (ts.take i = ts) := hid (List.take_of_length_le (by rw [← HN.out]; exact Nat.le_refl _))
      rw [HE.out] at H4
      go_wp2
      go_end0
      exact ⟨rfl, H4.out⟩
end
end Go.Proofs.YtdmnfjicjjlnnaaGreatDoor
