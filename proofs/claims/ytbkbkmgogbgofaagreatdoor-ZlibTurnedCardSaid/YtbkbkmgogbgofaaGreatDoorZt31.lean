/- The claim's texts, put together and shortened by a program (names, spaces). -/
import Derived.Test.YtbkbkmgogbgofaaGreatDoorZt19
import Derived.Test.YtbkbkmgogbgofaaGreatDoorZt22
import Derived.Test.YtbkbkmgogbgofaaGreatDoorZt30
open List renaming perm_middle→T00,length_take→T01,length_append→T02,length_drop→T03,take_of_length_le→T07,mem_of_mem_take→T08,drop_eq_getElem_cons→T09,getElem?_eq_getElem→T0a
open Nat renaming sub_zero→T04,le_refl→T05
open Int renaming natCast_nonneg→T06
namespace Go.Proofs.YtbkbkmgogbgofaaGreatDoor
set_option maxRecDepth 100000
set_option maxHeartbeats 6400000
open Go.RowKit
theorem Y2d:Z1c (G3 C4) where
 good kind l raw a hm hb hr:=W3a E0 kind l raw a (by
  rcases hm with ⟨h1,h2⟩ | ⟨h1,h2,h3⟩
  ·exact .inl ⟨by omega,h2⟩
  exact .inr ⟨by omega,h2⟩) hb hr
 same kind l raw a b hk:=by
  unfold G3
  rw [if_neg hk,if_neg hk]
 place kind l raw a b h:=X7u kind l raw a b h
def Y4w (p:D0) (n:Nat) (A B:List Value) (h:A.length=n):D0:=⟨p.b,p.o+n,p.pre++A,B++p.post,p.T,by rw [T02,p.len,h]⟩
theorem Y1w (p:D0) (n:Nat) (A B C:List Value) (h:A.length=n):P5 (Y4w p n A B h) C=P5 p (A++(C++B)):=by
 unfold P5 Y4w
 simp only [List.append_assoc]
section
variable {w0 w:World} {Rs:List A6}
structure Z4k (acc bs:List Nat) (c sp:Nat):Prop where
 low:c < 8
 fits:sp < 2^c
 byt:∀b∈bs,b < 256
 is:acc=D6 bs++A9 c sp
theorem X39 {q:D0} {d:Value} {acc bs:List Nat} {c sp:Nat} (hf:Z4k acc bs c sp) (h:A4 w0 w (P5 q [d,.int .u64 (sp:Int),.int .i64 (c:Int)]::B0 5 1 d bs.length (D7 bs)::Rs)):A4 w0 w (wrT q acc::Rs):=by
 obtain ⟨F,⟨m,n,a,f,g,i⟩,j,l⟩:=h.pair
 refine ⟨F,⟨d,⟨bs,sp,c,⟨a.1,f.1,fun e=>g q.b ((a.2 q.b).2 rfl) ((f.2 q.b).2 e),hf.fits,hf.byt⟩,hf.low,hf.is⟩,fun k=> ?_⟩,j,l⟩
 rw [i,a.2,f.2]
 exact Iff.rfl
theorem W53 {q:D0} {acc:List Nat} (h:A4 w0 w (wrT q acc::Rs)):∃d sp c bs,Z4k acc bs c sp∧A4 w0 w (P5 q [d,.int .u64 (sp:Int),.int .i64 (c:Int)]::B0 5 1 d bs.length (D7 bs)::Rs):=by
 obtain ⟨F,⟨d,⟨bs,sp,c,⟨f,g,i,j,l⟩,m,n⟩,o⟩,p,a⟩:=h
 refine ⟨d,sp,c,bs,⟨m,j,l,n⟩,A4.unpair ⟨F,⟨fun k=>k=q.b,fun k=>d.ownBlock=some k,⟨f,fun _=>Iff.rfl⟩,⟨g,fun _=>Iff.rfl⟩,fun k hk e=>i (by rw [←show k=q.b from hk];exact e),fun k=>o k⟩,p,a⟩⟩
theorem A4.tailOut {R:A6} {L:List A6} (h:A4 w0 w (R::(L++Rs))):A4 w0 w (L++R::Rs):=h.perm List.perm_middle.symm
theorem A4.tailIn {R:A6} {L:List A6} (h:A4 w0 w (L++R::Rs)):A4 w0 w (R::(L++Rs)):=h.perm T00
theorem X6w {s:V5} {p:D0} {R:List Value} (H:A4 w0 w (Y3m s (Y4w p 0 [] R rfl)::Rs)):
  ∃ (tr en la:Nat) (lv:Value) (gone m1 m2:Nat) (bv:Value) (at':Nat) (X:A6),A4 w0 w (P5 p (Z6j tr en la lv gone (.map (some m1)) (.map (some m2)) bv at'++R)::X::Rs)∧(∃a n c,lv= .slice a n c)∧(∃a n c,bv= .slice a n c)∧
   ∀ (p':D0) (R':List Value) (w':World) (Rs':List A6),A4 w0 w' (P5 p' (Z6j tr en la lv gone (.map (some m1)) (.map (some m2)) bv at'++R')::X::Rs')→A4 w0 w' (Y3m s (Y4w p' 0 [] R' rfl)::Rs'):=by
 obtain ⟨b,P,a,gone,i,j⟩:=unT H
 obtain ⟨lv,bv,m1,m2,d⟩:=Z3q j
 have f:A4 w0 w (P5 (Y4w p 0 [] R rfl) (Z6j s.tr s.en s.la lv gone (.map (some m1)) (.map (some m2)) bv (s.at_-b))::([_,_,_,_]++Rs)):=d
 rw [Y1w] at f
 obtain ⟨m,o,k,_⟩:=(W8 d).2.1.form
 obtain ⟨q,r,l,_⟩:=(W8 d).2.2.1.form
 refine ⟨s.tr,s.en,s.la,lv,gone,m1,m2,bv,s.at_-b,_,(A4.all f.tailOut).swap,⟨_,_,_,k⟩,⟨_,_,_,l⟩,fun p' R' w' Rs' h4=> ?_⟩
 have g:=(A4.unall h4.swap).tailIn
 refine mkT b P a gone i (Z79 lv bv m1 m2 ?_)
 show A4 w0 w' (P5 (Y4w p' 0 [] R' rfl) _::([_,_,_,_]++Rs'))
 rw [Y1w]
 exact g
def Z6s (rv lv:Value) (told:Nat) (d:Value) (sp c:Nat) (packs:Bool):List Value:=[rv,lv,.int .i64 (told:Int),d,.int .u64 (sp:Int),.int .i64 (c:Int),.bool packs,.bool false]
structure V0n where
 rv:Value
 lv:Value
 d:Value
 sp:Nat
 c:Nat
 bs:List Nat
def V5v (s:Q0 V5) (p:D0) (q:V0n):List A6:=[Y3m s.f (Y4w p 0 [] (Z6s q.rv q.lv s.told q.d q.sp q.c s.packs) rfl),B0 5 1 q.rv s.raw.length (D7 s.raw),B0 112 3 q.lv s.list.length (I5 s.list),B0 5 1 q.d q.bs.length (D7 q.bs)]
def T9 (s:Q0 V5) (p:D0):A6:=exT fun q:V0n=>Y3p (Z4k s.acc q.bs q.c q.sp) (Z0e (V5v s p q))
theorem X2g {s:Q0 V5} {p:D0} (H:A4 w0 w (T9 s p::Rs)):∃q:V0n,Z4k s.acc q.bs q.c q.sp∧A4 w0 w (Y3m s.f (Y4w p 0 [] (Z6s q.rv q.lv s.told q.d q.sp q.c s.packs) rfl)::B0 5 1 q.rv s.raw.length (D7 s.raw)::B0 112 3 q.lv s.list.length (I5 s.list)::B0 5 1 q.d q.bs.length (D7 q.bs)::Rs):=by
 obtain ⟨q,a⟩:=H.ex
 obtain ⟨b,g⟩:=a.fact
 exact ⟨q,b,g.unall⟩
theorem X3b {s:Q0 V5} {p:D0} (q:V0n) (hf:Z4k s.acc q.bs q.c q.sp) (H:A4 w0 w (Y3m s.f (Y4w p 0 [] (Z6s q.rv q.lv s.told q.d q.sp q.c s.packs) rfl)::B0 5 1 q.rv s.raw.length (D7 s.raw)::B0 112 3 q.lv s.list.length (I5 s.list)::B0 5 1 q.d q.bs.length (D7 q.bs)::Rs)):A4 w0 w (T9 s p::Rs):=
 A4.mk (R:=fun q:V0n=>Y3p (Z4k s.acc q.bs q.c q.sp) (Z0e (V5v s p q))) q (A4.mkFact hf (A4.all (L:=V5v s p q) H))
structure Z8x where
 tr:Nat
 en:Nat
 la:Nat
 l0:Value
 gone:Nat
 m1:Nat
 m2:Nat
 b0:Value
 at_:Nat
def Z8x.V (C:Z8x):List Value:=Z6j C.tr C.en C.la C.l0 C.gone (.map (some C.m1)) (.map (some C.m2)) C.b0 C.at_
def X2u (p:D0) (C:Z8x) (X:A6) (raw:List Nat) (list:List E1) (told:Nat) (bs:List Nat) (rv lv d:Value) (sp c:Nat) (packs:Bool) (Rs:List A6):List A6:=
 P5 p (C.V++Z6s rv lv told d sp c packs)::B0 5 1 rv raw.length (D7 raw)::B0 112 3 lv list.length (I5 list)::B0 5 1 d bs.length (D7 bs)::X::Rs
def X1m (f:V5) (p:D0) (C:Z8x) (X:A6) (packs:Bool) (w0:World):Prop:=
 ∀ (raw:List Nat) (list:List E1) (told:Nat) (acc bs:List Nat) (rv lv d:Value) (sp c:Nat) (w:World) (Rs:List A6),Z4k acc bs c sp→A4 w0 w (X2u p C X raw list told bs rv lv d sp c packs Rs)→A4 w0 w (T9 ⟨f,raw,list,told,acc,packs⟩ p::Rs)
theorem A4.last5 {R1 R2 R3 R4 R5:A6} (h:A4 w0 w (R1::R2::R3::R4::R5::Rs)):A4 w0 w (R1::R3::R4::R5::R2::Rs):=h.perm (List.Perm.cons _ (T00 (l₁:=[R3,R4,R5])).symm)
theorem A4.first5 {R1 R2 R3 R4 R5:A6} (h:A4 w0 w (R1::R3::R4::R5::R2::Rs)):A4 w0 w (R1::R2::R3::R4::R5::Rs):=h.perm (List.Perm.cons _ (T00 (l₁:=[R3,R4,R5])))
theorem Z3g {s:Q0 V5} {p:D0} (H:A4 w0 w (T9 s p::Rs)):∃ (C:Z8x) (X:A6) (bs:List Nat) (rv lv d:Value) (sp c:Nat),Z4k s.acc bs c sp∧A4 w0 w (X2u p C X s.raw s.list s.told bs rv lv d sp c s.packs Rs)∧X1m s.f p C X s.packs w0:=by
 obtain ⟨q,i,j⟩:=X2g H
 obtain ⟨k,l,m,n,a,o,r,t,g,X,x,_,_,b⟩:=X6w j
 refine ⟨⟨k,l,m,n,a,o,r,t,g⟩,X,q.bs,q.rv,q.lv,q.d,q.sp,q.c,i,x.last5,fun raw list told acc bs rv lv d sp c w' Rs' hf' h3=> ?_⟩
 exact X3b (s:=⟨s.f,raw,list,told,acc,s.packs⟩) ⟨rv,lv,d,sp,c,bs⟩ hf' (b _ _ _ _ (A4.first5 h3))
theorem W2p (C:Z8x) (rv lv:Value) (told:Nat):(C.V++[rv,lv,.int .i64 (told:Int)]).length=12:=rfl
def W62 (p:D0) (C:Z8x) (rv lv:Value) (told:Nat) (packs:Bool):D0:=Y4w p 12 (C.V++[rv,lv,.int .i64 (told:Int)]) [.bool packs,.bool false] (W2p C rv lv told)
theorem X3a (p:D0) (C:Z8x) (rv lv:Value) (told:Nat) (packs:Bool) (d:Value) (sp c:Nat):P5 (W62 p C rv lv told packs) [d,.int .u64 (sp:Int),.int .i64 (c:Int)]=P5 p (C.V++Z6s rv lv told d sp c packs):=
 (Y1w p 12 _ _ _ (W2p C rv lv told)).trans (by unfold Z6s;simp)
theorem V34 {p:D0} {C:Z8x} {X:A6} {raw acc:List Nat} {list:List E1} {told:Nat} {bs:List Nat} {rv lv d:Value} {sp c:Nat} {packs:Bool} (hf:Z4k acc bs c sp) (h:A4 w0 w (X2u p C X raw list told bs rv lv d sp c packs Rs)):
  A4 w0 w (wrT (W62 p C rv lv told packs) acc::B0 5 1 rv raw.length (D7 raw)::B0 112 3 lv list.length (I5 list)::X::Rs):=by
 refine X39 (d:=d) hf ?_
 rw [X3a]
 exact h.perm (List.Perm.cons _ (T00 (l₁:=[_,_])))
theorem V5f {p:D0} {C:Z8x} {X:A6} {raw acc:List Nat} {list:List E1} {told:Nat} {rv lv:Value} {packs:Bool}
  (h:A4 w0 w (wrT (W62 p C rv lv told packs) acc::B0 5 1 rv raw.length (D7 raw)::B0 112 3 lv list.length (I5 list)::X::Rs)):
  ∃ (bs:List Nat) (d:Value) (sp c:Nat),Z4k acc bs c sp∧A4 w0 w (X2u p C X raw list told bs rv lv d sp c packs Rs):=by
 obtain ⟨d,sp,c,bs,b,a⟩:=W53 h
 refine ⟨bs,d,sp,c,b, ?_⟩
 rw [X3a] at a
 exact a.perm (List.Perm.cons _ (T00 (l₁:=[_,_])).symm)
theorem A4.rot5 {R1 R2 R3 R4 R5:A6} (h:A4 w0 w (R1::R2::R3::R4::R5::Rs)):A4 w0 w (R5::R1::R2::R3::R4::Rs):=h.perm (T00 (l₁:=[R1,R2,R3,R4]))
theorem X9t {s:Q0 V5} {p:D0} {S:A6} (H:A4 w0 w (T9 s p::S::Rs)) (v:Value) (n:Nat) (b:List Nat) (hv:Y9 w0 S 1 v n (D7 b)) (hs:Y4d s.f) (hlen:s.f.x.length+n < 1000000000):
  Calls Tryz.prog 73 #[.pointer (some ⟨p.b,p.o,none⟩),v] w fun e w'=>e= .returned (.tuple #[])∧A4 w0 w' (T9 {s with f:=I9.write s.f b} p::S::Rs):=by
 obtain ⟨q,d,a⟩:=X2g H
 exact (V0w s.f _ v n b a hs (hv.rd (A4.rot5 a)) hlen).mono fun _ _ ⟨h2,h3⟩=>⟨h2,X3b (s:={s with f:=I9.write s.f b}) q d h3⟩
theorem W5s {s:Q0 V5} {p:D0} (H:A4 w0 w (T9 s p::Rs)) (e:Bool) (hs:Y4d s.f):
  Calls Tryz.prog 74 #[.pointer (some ⟨p.b,p.o,none⟩),.bool e] w fun e' w'=>∃v,e'= .returned v∧A4 w0 w' (Y4r v (I9.toks s.f e).2::T9 {s with f:=(I9.toks s.f e).1} p::Rs):=by
 obtain ⟨q,a,d⟩:=X2g H
 exact (V26 s.f _ e d hs).mono fun _ _ ⟨v,h2,h3⟩=>⟨v,h2,(X3b (s:={s with f:=(I9.toks s.f e).1}) q a (h3.perm (T00 (l₁:=[_,_,_,_])).symm)).swap⟩
theorem Y72 {p:D0} {X:A6} {C:Z8x} {rv lv:Value} {acc:List Nat} {raw:List Nat} {list:List E1} {told:Nat} {packs:Bool} {f:V5} (back:X1m f p C X packs w0)
  (h:A4 w0 w (wrT (W62 p C rv lv told packs) acc::B0 5 1 rv raw.length (D7 raw)::B0 112 3 lv list.length (I5 list)::X::Rs)):A4 w0 w (T9 ⟨f,raw,list,told,acc,packs⟩ p::Rs):=by
 obtain ⟨a,d,b,c,g,i⟩:=V5f h
 exact back raw list told acc a rv lv d b c w Rs g i
theorem X97 {s:Q0 V5} {p:D0} (H:A4 w0 w (T9 s p::Rs)) (hl:s.acc.length < 1099511600000):
  Calls Tryz.prog 33 #[.pointer (some ⟨p.b,p.o+12,none⟩)] w fun e w'=>e= .returned (.tuple #[])∧A4 w0 w' (T9 {s with acc:=J2 s.acc} p::Rs):=by
 obtain ⟨C,X,i,j,k,d,l,c,f,g,a⟩:=Z3g H
 exact (X63 (V34 f g) hl).mono fun _ _ ⟨h2,h3⟩=>⟨h2,Y72 a h3⟩
end
theorem W9u:(Tryz.prog.info? 112).map (fun i=>(i.zero,i.size,i.bytes))=some (some (.agg #[.int .u8 0,.int .i64 0,.int .i64 0]),3,24):=by kernel_rfl
theorem X0m:(Tryz.prog.info? 5).map (fun i=>(i.zero,i.size,i.bytes))=some (some (.int .u8 0),1,1):=by kernel_rfl
section
variable {w0 w:World} {Rs:List A6} {S:A6}
theorem V0d {s:Q0 V5} {p:D0} (H:A4 w0 w (T9 s p::S::Rs)) (v:Value) (n:Nat) (b:List Nat) (hv:Y9 w0 S 1 v n (D7 b)) (hs:Y4d s.f) (hlen:s.f.x.length+n < 1000000000) (hr:s.raw.length < 1000000000):
  Calls Tryz.prog 48 #[.pointer (some ⟨p.b,p.o,none⟩),v] w fun e w'=>e= .returned (.tuple #[])∧A4 w0 w' (T9 (X20 I9 s b) p::S::Rs):=by
 obtain ⟨i0,a1,a2,a3,a4⟩:=info_parts X0m
 have j:=hv.rd H.swap
 have l:n=b.length:=by have:=j.1;rw [E5] at this;omega
 obtain ⟨vo,vc,rfl,_,_⟩:=j.form
 have HW:=A5 (X9t H (.slice vo n vc) n b hv hs hlen)
 have HV:=A5 hv
 have HN:=A5 l
 clear H j hv hs l
 go_enter Tryz.func48,Tryz.ntmps48
 go_wp2_with fail
 with_reducible refine HW.out.mono ?_
 rintro e z ⟨rfl,h2⟩
 obtain ⟨C,X,bs,rv,lv,d,sp,c,hf,h3,g⟩:=Z3g h2
 have HF:=A5 hf
 have HB:=A5 g
 have H3:=A5 h3
 obtain ⟨L,r⟩:∃L,L=s.raw.length:=⟨_,rfl⟩
 have k:=h3
 unfold X2u at k
 rw [←r] at hr
 have t:=A5 r
 have hR:Rd z 1 (.slice vo n vc) n (D7 b):=HV.out.rd (show A4 w0 z (T9 {s with f:=I9.write s.f b} p::S::Rs) from h2).swap
 have HR:=A5 hR
 have q:A4 w0 z (B0 5 1 rv L (D7 s.raw)::P5 p (C.V++Z6s rv lv s.told d sp c s.packs)::B0 112 3 lv s.list.length (I5 s.list)::B0 5 1 d bs.length (D7 bs)::X::S::Rs):=by
  rw [r];exact k.swap
 obtain ⟨ro,rc,rfl,_,_⟩:=q.own.form
 have H4:=A5 q
 have hb:=q.swap.objp
 have c9:=hb.cell (i:=9) rfl
 clear h2 h3 k q hb hf g r hR HW H3
 go_wp2_with (refine D4 rfl (.tmp 13) (.tmp 14) 26 rfl 5 i0 (.int .u8 0) 1 1 Tryz.underlying26 a1 a2 a3 a4 rfl (by decide) _ L (D7 s.raw) rfl H4.out _ n (D7 b) rfl HR.out (T3 b) (L+n) rfl (by unfold maxLen;omega) (by omega) ?_;intro m a w2 h5;have y:=A5 h5.swap;have f9:=y.out.objp.frozen 9;have c4:=y.out.objp.cell (i:=9) rfl;clear h5)
 go_end0
 refine ⟨rfl, ?_⟩
 have h6:=y.out.setObjP 9 (.slice m (L+n) a)
 refine HB.out (s.raw++b) s.list s.told s.acc bs (.slice m (L+n) a) lv d sp c _ _ HF.out ?_
 unfold X2u
 rw [T02,←t.out,←HN.out,K4]
 exact h6
theorem X5t {s:Q0 V5} {p:D0} (H:A4 w0 w (T9 s p::Rs)) (b:Bool) (hs:Y4d s.f):
  Calls Tryz.prog 51 #[.pointer (some ⟨p.b,p.o,none⟩),.bool b] w fun e w'=>∃v,e= .returned v∧A4 w0 w' (Y4r v (I9.toks s.f b).2::T9 {s with f:=(I9.toks s.f b).1} p::Rs):=by
 have d:=A5 (W5s H b hs)
 clear H hs
 go_enter Tryz.func51,Tryz.ntmps51
 go_wp2_with fail
 with_reducible refine d.out.mono ?_
 rintro e j ⟨v,rfl,a⟩
 unfold Y4r at a
 obtain ⟨k,i,rfl,_,_⟩:=a.own.form
 have g:=A5 a
 clear a d
 go_wp2
 go_ret
 exact ⟨_,rfl,g.out⟩
theorem W5w {s:Q0 V5} {p:D0} (H:A4 w0 w (T9 s p::Rs)) (t:E1) (hn:0≤t.2.1∧t.2.1≤258) (hl:s.list.length < 1000000000) (ht:s.told < 1000000000):
  Calls Tryz.prog 52 #[.pointer (some ⟨p.b,p.o,none⟩),Y6k t] w fun e w'=>e= .returned (.tuple #[])∧A4 w0 w' (T9 (Z02 s t) p::Rs):=by
 obtain ⟨i3,c2,c3,c4,c5⟩:=info_parts W9u
 obtain ⟨a,n,d⟩:=t
 obtain ⟨C,X,bs,rv,lv,dv,sp,c,hf,h1,x⟩:=Z3g H
 obtain ⟨m,rfl⟩:=Int.eq_ofNat_of_zero_le hn.1
 have b5:m≤258:=by have:(m:Int)≤258:=hn.2;omega
 obtain ⟨q,hq⟩:∃q,q=adv (a,(m:Int),d):=⟨_,rfl⟩
 have b6:q=max m 1:=hq
 have d2:q≤258:=by omega
 have c8:(if (m:Int) < 1 then 1 else (m:Int))=(q:Int):=by split <;> omega
 obtain ⟨u,hu⟩:∃u,u=s.told+q:=⟨_,rfl⟩
 have d3:(s.told:Int)+(q:Int)=(u:Int):=by omega
 obtain ⟨K,hK⟩:∃K,K=s.list.length:=⟨_,rfl⟩
 rw [←hK] at hl
 have h3:=(A4.newObj h1 [.int .u8 a,.int .i64 (m:Int),.int .i64 d] 112)
 have hO:A4 w0 w (B0 112 3 lv K (I5 s.list)::P5 p (C.V++Z6s rv lv s.told dv sp c s.packs)::B0 5 1 rv s.raw.length (D7 s.raw)::B0 5 1 dv bs.length (D7 bs)::X::Rs):=by
  rw [hK];exact A4.third h1
 obtain ⟨lo,lc,rfl,_,_⟩:=hO.own.form
 have HF:=A5 hf
 have HB:=A5 x
 have HQ:=A5 (And.intro hq (And.intro hu hK))
 have k:Hid (A4 w0 (w.alloc (.cells #[.int .u8 a,.int .i64 (m:Int),.int .i64 d] 112)) (P5 p (C.V++Z6s rv (.slice lo K lc) s.told dv sp c s.packs)::B0 112 3 (.slice lo K lc) K (I5 s.list)::E7 w.heap.size [.int .u8 a,.int .i64 (m:Int),.int .i64 d] 112::B0 5 1 rv s.raw.length (D7 s.raw)::B0 5 1 dv bs.length (D7 bs)::X::Rs)):=A5 (by
  have h4:=hO.swap.newObj [.int .u8 a,.int .i64 (m:Int),.int .i64 d] 112
  exact h4.swap.mid)
 have d8:u < 2000000000:=by omega
 clear h1 h3 hO hf x hq b6 hu hK hn H
 unfold Y6k
 simp only
 go_enter Tryz.func52,Tryz.ntmps52
 go_wp2
 generalize e6:w.alloc (.cells #[.int .u8 a,.int .i64 (m:Int),.int .i64 d] 112)=wA at k⊢
 generalize w.heap.size=N at k⊢
 have z:=k.out.objp
 have HA:=k.out.apartP
 have b9:=z.cell (i:=10) rfl
 have c0:=z.frozen 10
 have fa:∀o,(wA.alloc o).frozen? ⟨p.b,p.o+10,none⟩=false:=fun o=>(z.alloc o).frozen 10
 have a0:∀o,(wA.alloc o).cell? ⟨p.b,p.o+10,none⟩=some (.slice lo K lc):=fun o=>(z.alloc o).cell (i:=10) rfl
 have l:=k.out.swap.own
 have t0:=k.out.third.obj.cell (i:=0) rfl
 have t1:=k.out.third.obj.cell (i:=1) rfl
 have t2:=k.out.third.obj.cell (i:=2) rfl
 go_region_law
  ((refine Z3f _ (by rfl) (.tmp 8) (.tmp 10) 54 (by rfl) 112 i3 (.agg #[.int .u8 0,.int .i64 0,.int .i64 0]) 3 24 Tryz.underlying54 c2 c3 c4 c5 (by rfl) (by decide) (.slice lo K lc) K (I5 s.list) (by rfl) (by exact (l.alloc _).drew) (.slice (some ⟨wA.heap.size,0,none⟩) 1 1) 1 [.int .u8 a,.int .i64 (m:Int),.int .i64 d] (by rfl) (by exact (Rd.lit _ [_,_,_] _ 3 1 (by decide) rfl).drew) (by intro u hu;simp at hu;rcases hu with rfl | rfl | rfl <;> rfl) (by unfold maxLen;omega) (by omega) ?_;intro a6 r w2 j f a7;have g:=(z.alloc _).drew.grown f HA;have a1:=g.cell (i:=10) rfl;have a2:=g.frozen 10;have a3:=g.cell (i:=11) rfl;have a4:=g.frozen 11;have H5:=A5 ((((k.out.alloc _).drew).swap.app j f a7).swap.setObjP 10 (.slice a6 (K+1) r));clear f a7 j))
 all_goals
  have y:=H5.out.objp
  have e3:=y.cell (i:=11) rfl
  have e4:=y.frozen 11
  have u1:=H5.out.third.obj.cell (i:=1) rfl
  have H6:=A5 (H5.out.drew.setObjP 11 (.int .i64 (u:Int)))
  clear z g y b9 c0 a1 a2 a3 a4 fa a0 l t0 t1 t2 HA k H5
  go_wp2
  go_region
  all_goals
   go_end0
   refine ⟨rfl,HB.out s.raw (s.list++[(a,(m:Int),d)]) (s.told+adv (a,(m:Int),d)) s.acc bs rv (.slice a6 (K+1) r) dv sp c _ _ HF.out ?_⟩
   unfold X2u
   rw [←HQ.out.1,←HQ.out.2.1,T02,←HQ.out.2.2,Z63]
   exact H6.out.third.drop.mid
end
def Y92 (v:Value) (n:Nat) (xs:List Value) (u:Value) (m:Nat) (ys:List Value):A6 where
 res:=fun w F=>Own w 5 1 v n xs∧(Rd w 1 u m ys∧∀k,u.ownBlock=some k→F k)∧∀k,F k↔v.ownBlock=some k
 loc:=fun _ _ _ _ h hm hS=>⟨h.1.kept hm (fun k hk=>hS k ((h.2.2 k).2 hk)),⟨h.2.1.1.kept hm (fun k hk=>hS k (h.2.1.2 k hk)),h.2.1.2⟩,h.2.2⟩
theorem Rd.shrink {w:World} {size n cap c:Nat} {a:Option Addr} {xs:List Value} (h:Rd w size (.slice a n cap) n xs) (h1:n≤c) (h2:c≤cap):Rd w size (.slice a n c) n xs:=by
 obtain ⟨f,j,b,d,k,l,g,i⟩:=h
 simp only [Value.slice.injEq,true_and] at d
 obtain ⟨rfl,rfl⟩:=d
 exact ⟨f,a,c,rfl,h1,by omega,fun e=>by have:=g e;omega,i⟩
theorem Z96 (a:Option Addr) (k:Nat):(a.map fun (x:Addr)=>x.add (0*k))=a:=by
 cases a with
 | none=>rfl
 | some x=>simp [Addr.add]
theorem V05 {P:Program} {w:World} (t e:TypeId) (i:TypeInfo) (ht:P.underlying t=some (.slice e)) (hi:P.info? e=some i) (a:Option Addr) (len cap H:Nat) (h:H≤cap):
  (Instr.sliceAt t (.slice a len cap) none (some (.int .i64 (H:Int))) (some (.int .i64 (H:Int)))).run P w= .ok (.slice a H H) w:=by
 have b:P.elem t=e:=by simp [Program.elem,ht]
 have d:P.underlying t=some (.slice (P.elem t)):=by rw [b];exact ht
 have f:(sizeOf (P.elem t)).run P w= .ok i.size w:=by rw [b];simp [sizeOf,typeInfo,hi]
 rw [run_sliceAt_slice w t _ _ _ _ d,run_slice_hm w t a len cap d .i64 .i64 (H:Int) (H:Int) (by omega) (Int.le_refl _) (by omega),f]
 simp only [Result.andThen,sliced,Int.toNat_natCast,T04]
 rw [Z96,ite_self]
section
variable {w0 w:World} {Rs:List A6} {S:A6}
theorem A4.both {v u:Value} {n m:Nat} {xs ys:List Value} (h:A4 w0 w (Y92 v n xs u m ys::Rs)):Own w 5 1 v n xs∧Rd w 1 u m ys:=by
 obtain ⟨F,a,_⟩:=h
 exact ⟨a.1,a.2.1.1⟩
theorem A4.bothOwn {v u:Value} {n m:Nat} {xs ys:List Value} (h:A4 w0 w (Y92 v n xs u m ys::Rs)):A4 w0 w (B0 5 1 v n xs::Rs):=by
 obtain ⟨F,a,b,d⟩:=h
 exact ⟨F,⟨a.1,a.2.2⟩,b,d⟩
theorem A4.mkBoth {v v' u:Value} {n n' m:Nat} {xs xs' ys:List Value} (h:A4 w0 w (B0 5 1 v n xs::Rs)) (ho:Own w 5 1 v' n' xs') (hu:Rd w 1 u m ys) (e1:v'.ownBlock=v.ownBlock) (e2:u.ownBlock=v.ownBlock):A4 w0 w (Y92 v' n' xs' u m ys::Rs):=by
 obtain ⟨F,a,b,d⟩:=h
 exact ⟨F,⟨ho,⟨hu,fun k hk=>(a.2 k).2 (e2 ▸ hk)⟩,fun k=>by rw [e1];exact a.2 k⟩,b,d⟩
theorem W73 {p:D0} {C:Z8x} {X:A6} {raw:List Nat} {list:List E1} {told:Nat} {bs:List Nat} {rv lv d:Value} {sp c:Nat} {packs:Bool} (H:A4 w0 w (X2u p C X raw list told bs rv lv d sp c packs Rs)) (ht:told≤raw.length) (hr:raw.length < 1000000000):
  Calls Tryz.prog 53 #[.pointer (some ⟨p.b,p.o,none⟩)] w fun e w'=>∃rv' u,e= .returned (.tuple #[lv,u])∧
   A4 w0 w' (P5 p (C.V++Z6s rv' (.slice none 0 0) 0 d sp c packs)::Y92 rv' (raw.drop told).length (D7 (raw.drop told)) u told (D7 (raw.take told))::B0 112 3 lv list.length (I5 list)::B0 5 1 d bs.length (D7 bs)::X::Rs):=by
 obtain ⟨i0,r,c0,z,c1⟩:=info_parts X0m
 unfold X2u at H
 obtain ⟨L,s⟩:∃L,L=raw.length:=⟨_,rfl⟩
 rw [←s] at hr ht
 have n:=H.objp
 have q:=H.swap.own
 have hT:=H.third.own
 rw [←s] at q
 obtain ⟨g,l,rfl,t,a0⟩:=q.form
 obtain ⟨lo,lc,rfl,_,_⟩:=hT.form
 have a6:∀wg,(Instr.sliceAt 26 (.slice g L l) none (some (.int .i64 (told:Int))) (some (.int .i64 (told:Int)))).run Tryz.prog wg= .ok (.slice g told told) wg:=fun wg=>
  V05 (P:=Tryz.prog) 26 5 i0 Tryz.underlying26 r g L l told (by omega)
 have j:∀wg,(Instr.sliceAt 26 (.slice g L l) (some (.int .i64 (told:Int))) none none).run Tryz.prog wg= .ok (.slice (if l=told then g else g.map fun (x:Addr)=>x.add (told*1)) (L-told) (l-told)) wg:=fun wg=>
  N8 (P:=Tryz.prog) 26 5 i0 1 Tryz.underlying26 r z g L l told L (some (.int .i64 (told:Int))) none ⟨_,rfl⟩ rfl ht t
 have a:=q.cut (L:=told) (H:=L) ht (T05 _)
 have f:=Z42 g told L l 1 L
 have k:=(q.rd.cut (L:=0) (H:=told) (Nat.zero_le _) ht)
 have e1:((D7 raw).drop (told*1)).take ((L-told)*1)=D7 (raw.drop told):=by
  rw [Nat.mul_one,Nat.mul_one,T07 (by rw [T03,E5,←s];omega)]
  simp only [D7,←List.map_drop]
 have e2:((D7 raw).drop (0*1)).take ((told-0)*1)=D7 (raw.take told):=by
  simp [D7,List.map_take]
 rw [e1] at a
 rw [e2] at k
 unfold sliced at a f k
 rw [Z96,ite_self,T04,T04] at k
 have m:=k.shrink (c:=told) (T05 _) (by omega)
 generalize (if l=told then g else g.map fun (x:Addr)=>x.add (told*1))=ro2 at j a f
 generalize l-told=rc2 at j a f
 obtain ⟨K,hK⟩:∃K,K=L-told:=⟨_,rfl⟩
 rw [←hK] at j a f
 have HK:Hid ((raw.drop told).length=K):=A5 (by rw [T03];omega)
 have c9:=n.cell (i:=9) rfl
 have a8:=n.cell (i:=10) rfl
 have a9:=n.cell (i:=11) rfl
 have f9:=n.frozen 9
 have b0:=n.frozen 10
 have b1:=n.frozen 11
 have HO:=A5 a
 have HB:=A5 f
 have y:=A5 m
 have HH:=A5 H
 have HL:=A5 s
 have b5:(0:Int)≤(told:Int):=T06 _
 have b6:told < 1000000000:=by omega
 have b7:(told:Int)≤(L:Int):=by omega
 clear H n q hT a f k m e1 e2 hK s t a0
 go_enter Tryz.func53,Tryz.ntmps53
 go_wp2
 go_region
 all_goals
  go_wp2
  go_region
  all_goals
   go_wp2
   go_ret2
   have h1:=(HH.out.swap.mkBoth HO.out y.out HB.out (by cases g <;> rfl)).swap
   have h2:=((h1.drew.drew.setObjP 9 (.slice ro2 K rc2)).setObjP 10 (.slice none 0 0)).setObjP 11 (.int .i64 0)
   rw [HK.out]
   exact ⟨.slice ro2 K rc2,.slice g told told,rfl,h2⟩
def V2a (rv:Value) (rest:List Nat) (u:Value) (m:Nat) (part:List Nat) (lv:Value) (list:List E1):A6:=V0e (Y92 rv rest.length (D7 rest) u m (D7 part)) (B0 112 3 lv list.length (I5 list))
theorem W1d (rv:Value) (rest:List Nat) (u:Value) (m:Nat) (part:List Nat) (lv:Value) (list:List E1):Y9 w0 (V2a rv rest u m part lv list) 1 u m (D7 part):=by
 rintro w F _ ⟨d,f,a,g,i,b⟩
 exact ⟨a.2.1.1,fun _ k hk=> .inr ((b k).2 (.inl (a.2.1.2 k hk)))⟩
theorem V1j (rv:Value) (rest:List Nat) (u:Value) (m:Nat) (part:List Nat) (lv:Value) (list:List E1):Y9 w0 (V2a rv rest u m part lv list) 3 lv list.length (I5 list):=by
 rintro w F _ ⟨d,f,g,a,i,b⟩
 exact ⟨a.1.rd,fun _ k hk=> .inr ((b k).2 (.inr ((a.2 k).2 hk)))⟩
theorem W2c {p:D0} {C:Z8x} {X:A6} {rest part acc:List Nat} {list:List E1} {m:Nat} {bs:List Nat} {rv lv u d:Value} {sp c:Nat} {packs:Bool} (hf:Z4k acc bs c sp)
  (h:A4 w0 w (P5 p (C.V++Z6s rv (.slice none 0 0) 0 d sp c packs)::Y92 rv rest.length (D7 rest) u m (D7 part)::B0 112 3 lv list.length (I5 list)::B0 5 1 d bs.length (D7 bs)::X::Rs)):
  A4 w0 w (wrT (W62 p C rv (.slice none 0 0) 0 packs) acc::V2a rv rest u m part lv list::X::Rs):=by
 have a:=h.perm (List.Perm.cons _ (T00 (l₁:=[_,_])))
 rw [←X3a] at a
 have b:=X39 hf a
 exact (b.perm (T00 (l₁:=[_,_])).symm).pair.swap
theorem W8r {f:V5} {p:D0} {C:Z8x} {X:A6} {rest part acc:List Nat} {list:List E1} {m:Nat} {rv lv u:Value} {packs:Bool} (back:X1m f p C X packs w0)
  (h:A4 w0 w (wrT (W62 p C rv (.slice none 0 0) 0 packs) acc::V2a rv rest u m part lv list::X::Rs)):A4 w0 w (T9 ⟨f,rest,[],0,acc,packs⟩ p::Rs):=by
 have a:=(h.swap.unpair.bothOwn.swap.drop).swap
 refine Y72 back (told:=0) (list:=[]) (rv:=rv) (lv:= .slice none 0 0) ?_
 exact (a.nil 112 3).perm (T00 (l₁:=[_,_])).symm
theorem Y5w {s:Q0 V5} {p:D0} (H:A4 w0 w (T9 s p::Rs)) (hO:Z3x w0) (last:Bool) (ht:s.told≤s.raw.length) (hr:s.raw.length < 1000000000) (h16:s.told≤65535) (hb:N9 s.list) (hby:∀b∈s.raw,b < 256) (hl:s.list.length < 1000000000) (hacc:s.acc.length < 900000000):
  Calls Tryz.prog 32 #[.pointer (some ⟨p.b,p.o,none⟩),.bool last] w fun e w'=>e= .returned (.tuple #[])∧A4 w0 w' (T9 (Q6 (G3 C4) last s) p::Rs):=by
 obtain ⟨f,raw,a,told,g,q⟩:=s
 obtain ⟨C,X,bs,rv,lv,d,sp,c,hf,h1,m⟩:=Z3g H
 have t:=h1.third.own
 have x:=A5 (W73 h1 ht hr)
 obtain ⟨lo,lc,rfl,_,_⟩:=t.form
 have HF:=A5 hf
 have HB:=A5 m
 have r:=A5 (And.intro hb (And.intro hby (And.intro h16 (And.intro ht hl))))
 have hacc:g.length < 900000000:=hacc
 have HA:=A5 hacc
 simp only at x HF HB r
 clear H h1 t hf m hb hby h16 ht hl hr hacc
 cases q with
 | true=>
  go_enter Tryz.func32,Tryz.ntmps32
  go_wp2_with fail
  with_reducible refine x.out.mono ?_
  rintro e w1 ⟨a7,u,rfl,j⟩
  have n:=j.objp.cell (i:=15) rfl
  have y:=j.swap.both.2
  obtain ⟨uo,uc,rfl,_,_⟩:=y.form
  have z:=W2c HF.out j
  have HW:Hid (Calls Tryz.prog 54 #[.pointer (some ⟨p.b,p.o+12,none⟩),.slice lo a.length lc,.slice uo told uc,.bool last] w1 fun e w'=>∃k:Int,e= .returned (.int .i64 k)∧A4 w0 w' (T9 (Q6 (G3 C4) last ⟨f,raw,a,told,g,true⟩) p::Rs)):=
   A5 ((W91 a (raw.take told) g last (.slice lo a.length lc) (.slice uo told uc) a.length told _ _ hO z (V1j _ _ _ _ _ _ _) (W1d _ _ _ _ _ _ _) r.out.1 (fun b hb=>r.out.2.1 b (T08 hb)) r.out.2.2.2.2 HA.out).mono fun e w' ⟨l,h5⟩=>⟨_,l,by
    have h6:=W8r HB.out h5
    have e1:(if (Z7c (G3 C4) a (raw.take told)).1 < 0 then g else g++Q3 (G3 C4) (Z7c (G3 C4) a (raw.take told)).1.toNat a (raw.take told) last g.length)=g++Z32 (G3 C4) true a (raw.take told) last g.length:=by
     unfold Z32
     rw [if_pos rfl]
     split
     ·rw [List.append_nil]
     rfl
    rw [e1] at h6
    exact h6⟩)
  clear j z y x
  go_wp2_with fail
  with_reducible refine HW.out.mono ?_
  rintro e w2 ⟨k,rfl,l⟩
  have H4:=A5 l
  clear l HW n
  go_wp2
  refine bodyPost_ret (results_none rfl _ _ _) rfl ?_
  exact ⟨rfl,H4.out⟩
 | false=>
  go_enter Tryz.func32,Tryz.ntmps32
  go_wp2_with fail
  with_reducible refine x.out.mono ?_
  rintro e w1 ⟨a7,u,rfl,j⟩
  have n:=j.objp.cell (i:=15) rfl
  have y:=j.swap.both.2
  obtain ⟨uo,uc,rfl,_,_⟩:=y.form
  have z:=W2c HF.out j
  have HW:Hid (Calls Tryz.prog 55 #[.pointer (some ⟨p.b,p.o+12,none⟩),.int .i64 0,.slice none 0 0,.slice uo told uc,.bool last] w1 fun e w'=>e= .returned (.bool true)∧A4 w0 w' (T9 (Q6 (G3 C4) last ⟨f,raw,a,told,g,false⟩) p::Rs)):=
   A5 ((W51 0 [] (raw.take told) g last (.slice none 0 0) (.slice uo told uc) 0 told _ _ hO z (fun wz F _ _=>⟨Rd.nil wz 3,fun h=>by omega⟩) (W1d _ _ _ _ _ _ _) (fun _ h=>by cases h) (fun b hb=>r.out.2.1 b (T08 hb)) (by decide) HA.out (.inl ⟨rfl,by rw [T01];have:=r.out.2.2.1;omega⟩)).mono fun e w' ⟨l,h5⟩=>⟨l,W8r HB.out h5⟩)
  clear j z y x
  go_wp2_with fail
  with_reducible refine HW.out.mono ?_
  rintro e w2 ⟨rfl,l⟩
  have H4:=A5 l
  clear l HW n
  go_wp2
  go_end0
  exact ⟨rfl,H4.out⟩
end
theorem X0h {St:Type} (F:Nat→List E1→List Nat→Nat→List Nat) (s:Q0 St) (ts:List E1) (i:Nat) (t:E1) (h:ts[i]?=some t):M0 F s (ts.take (i+1))=Z10 F (M0 F s (ts.take i)) t:=by
 unfold M0
 rw [List.take_add_one,h]
 simp
section
variable {St:Type} {F:Nat→List E1→List Nat→Nat→List Nat} {x:List Nat} {Q e P:Nat} {s:Q0 St} {T ks ss:List Nat}
theorem Y0q (h:Z0g x Q s T e P ks ss) (hx:x.length≤most) (he:e≤1000000):s.told≤s.raw.length∧s.raw.length≤most∧s.list.length≤s.told∧s.acc.length < 900000000:=by
 have d:=h.sum
 have f:=h.le
 have a:=Z8f _ _ _ h.ex
 have b:=h.size
 have g:=h.cnt
 rw [T01,T01] at a
 rw [T02] at b
 unfold most at*
 refine ⟨?_, ?_,by omega,by omega⟩
 ·rw [h.raw,T03];omega
 rw [h.raw,T03];omega
theorem X6l (HF:Z1c F) (hr:∀b∈x,b < 256) (h:Z0g x Q s T e P ks ss) (ht:s.told < 16384) {ts:List E1} {A:Nat} (hx:Q7 (x.take Q) ts=(0,x.take A)) (hA:A≤x.length) (hb:N9 ts):
  ∀i,i≤ts.length→∃Q' P' ks' ss',Z0g x Q' (M0 F s (ts.take i)) T e P' ks' ss'∧(M0 F s (ts.take i)).told < 16384∧Q7 (x.take Q') (ts.drop i)=(0,x.take A)
 | 0,_=>⟨Q,P,ks,ss,h,ht,hx⟩
 | i+1,hi=>by
  obtain ⟨Q',P',ks',ss',h1,h2,h3⟩:=X6l HF hr h ht hx hA hb i (by omega)
  have hil:i < ts.length:=by omega
  have he:ts.drop i=ts[i]::ts.drop (i+1):=(T09 hil)
  rw [he] at h3
  obtain ⟨P2,ks2,ss2,h4,h5,h6,_⟩:=X45 HF hr h1 h2 h3 hA (hb _ (List.getElem_mem hil))
  rw [X0h F s ts i ts[i] (T0a hil)]
  exact ⟨_,P2,ks2,ss2,h4,h5,h6⟩
structure Y51 (x:List Nat) (u:Q0 St) (t:E1):Prop where
 len:0≤t.2.1∧t.2.1≤258
 list:u.list.length < 1000000000
 told:u.told < 1000000000
 told2:(Z02 u t).told≤u.raw.length
 raw:u.raw.length < 1000000000
 few:(Z02 u t).told≤65535
 byt:N9 (u.list++[t])
 rby:∀b∈u.raw,b < 256
 list2:(u.list++[t]).length < 1000000000
 acc:u.acc.length < 900000000
theorem W9c (hr:∀b∈x,b < 256) (hx:x.length≤most) (he:e≤1000000) (h:Z0g x Q s T e P ks ss) (ht:s.told < 16384) {t:E1} {r:List E1} {A:Nat} (hs:Q7 (x.take Q) (t::r)=(0,x.take A)) (hA:A≤x.length) (hb:0≤t.1∧t.1≤255):Y51 x s t:=by
 have f:=(X5n h hs hA hb).1
 have g:=Y0q f hx he
 have k:=Y0q h hx he
 have i:=(X3e h.le hs hA).1
 have a:0≤t.2.1∧t.2.1≤258:=by
  by_cases d:E8 t=true
  ·by_cases l:t.2.1=0
   ·omega
   have:=V2 d l
   omega
  rw [Y95 (by simpa using d)] at i;cases i
 have m:most=16777216:=rfl
 have j:adv t≤258:=by unfold adv;omega
 refine ⟨a,by omega,by omega,g.1,by omega, ?_,f.byt,fun b hb=> ?_, ?_,k.2.2.2⟩
 ·show s.told+adv t≤_
  omega
 ·rw [h.raw] at hb
  exact hr b (List.mem_of_mem_drop hb)
 have n:(s.list++[t]).length≤s.told+adv t:=g.2.2.1
 omega
end
theorem W0q {M:Z69} {F:Nat→List E1→List Nat→Nat→List Nat} {x:List Nat} {s:Q0 M.St} {T:List Nat} {e:Nat} (L:V0 M) (HF:Z1c F) (h:S9 M x s T e) (hx:x.length≤most) (he:e≤1000000) (b:Bool):
  T1 M F b s=M0 F {s with f:=(M.toks s.f b).1} (M.toks s.f b).2∧(M.toks s.f b).2.length≤x.length∧∀i t,(M.toks s.f b).2[i]?=some t→Y51 x (M0 F {s with f:=(M.toks s.f b).1} ((M.toks s.f b).2.take i)) t:=by
 have g:=L.ok_toks s.f b h.ok
 have j:M.inp (M.toks s.f b).1=x:=by rw [L.inp_toks,h.inp]
 have m:=Y9g L h.ok (by rw [h.inp];exact hx)
 have d:=Y9g L g (by rw [j];exact hx)
 rw [L.outs_toks,j] at d
 rw [h.inp] at m
 rw [Z7p,m.2,if_pos rfl] at d
 have k:N9 (M.toks s.f b).2:=by
  have:=L.bytes _ g
  rw [L.outs_toks] at this
  exact fun t ht=>this t (List.mem_append_right _ ht)
 obtain ⟨P,q,r,a⟩:=h.mid
 have l:Z0g x (Y8q M s.f) {s with f:=(M.toks s.f b).1} T e P q r:=⟨a.sum,a.le,a.raw,a.byt,a.ex,a.ch,a.zero,a.size,a.cnt,a.even⟩
 have o:=Z8f _ _ _ d.2
 rw [T01,T01] at o
 refine ⟨rfl,by omega,fun i t ht=> ?_⟩
 have p:=(List.getElem?_eq_some_iff.1 ht).1
 obtain ⟨Q',P',y,z,g1,g2,n⟩:=X6l HF h.byt l h.low d.2 d.1 k i (by omega)
 rw [T09 p,(List.getElem?_eq_some_iff.1 ht).2] at n
 exact W9c h.byt hx he g1 g2 n d.1 (k _ (List.mem_of_getElem? ht))
section
variable {w0 w:World} {Rs:List A6}
theorem Y4c {s:Q0 V5} {p:D0} {x:List Nat} {T:List Nat} {e:Nat} (H:A4 w0 w (T9 s p::Rs)) (hO:Z3x w0) (HI:S9 I9 x s T e) (hx:x.length≤most) (he:e≤1000000) (b:Bool):
  Calls Tryz.prog 31 #[.pointer (some ⟨p.b,p.o,none⟩),.bool b] w fun e w'=>e= .returned (.tuple #[])∧A4 w0 w' (T9 (T1 I9 (G3 C4) b s) p::Rs):=by
 have b4:T1 I9 (G3 C4) b s=M0 (G3 C4) ({s with f:=(I9.toks s.f b).1}:Q0 V5) (I9.toks s.f b).2∧(I9.toks s.f b).2.length≤x.length∧∀i t,(I9.toks s.f b).2[i]?=some t→Y51 x (M0 (G3 C4) ({s with f:=(I9.toks s.f b).1}:Q0 V5) ((I9.toks s.f b).2.take i)) t:=W0q Z3z Y2d HI hx he b
 have a6:Y4d s.f:=HI.ok
 have hT:=X5t H b a6
 generalize T1 I9 (G3 C4) b s=sE at*
 generalize (I9.toks s.f b).2=ts at*
 generalize ({s with f:=(I9.toks s.f b).1}:Q0 V5)=s1 at*
 obtain ⟨hE,hn,a9⟩:=b4
 rw [hE]
 have HT:=A5 hT
 have HK:=A5 a9
 obtain ⟨n,a4⟩:∃n,n=ts.length:=⟨_,rfl⟩
 have HN:=A5 a4
 unfold Y4r at HT
 rw [←a4] at HT hn
 have d9:(0:Int)≤(n:Int):=T06 _
 have hn:n < 1000000000:=by have:most=16777216:=rfl;omega
 clear H HI hE a6 a9 a4 hx he hT
 go_enter Tryz.func31,Tryz.ntmps31
 go_wp2_with fail
 with_reducible refine HT.out.mono ?_
 rintro e w1 ⟨v,rfl,h1⟩
 obtain ⟨ao,c6,rfl,_,_⟩:=h1.own.form
 have H1:=A5 h1.swap
 clear h1 HT
 go_wp2
 go_loopg [5,12] (n+2) (fun gg t5 t12 wr=>∃i:Nat,i≤n∧n-i < gg∧t12= .int .i64 (i:Int)∧
  Hid (A4 w0 wr (T9 (M0 (G3 C4) s1 (ts.take i)) p::B0 112 3 (.slice ao n c6) n (I5 ts)::Rs)))
 case atStart=>exact ⟨0,by omega,by omega,rfl,H1⟩
 case round=>
  obtain ⟨i,hi,hg,rfl,HR⟩:=hrel
  have e1:(0:Int)≤(i:Int):=T06 _
  by_cases b8:i < n
  rotate_left
  ·obtain rfl:i=n:=by omega
   have b5:¬(i:Int) < (i:Int):=by omega
   have H4:=A5 HR.out.swap.drop
   have HE:Hid (ts.take i=ts):=A5 (T07 (by rw [←HN.out];exact T05 _))
   rw [HE.out] at H4
   go_wp2
   go_end0
   exact ⟨rfl,H4.out⟩
  have b5:(i:Int) < (n:Int):=by omega
  obtain ⟨t,ht⟩:∃t,ts[i]?=some t:=⟨ts[i]'(by rw [←HN.out];exact b8),T0a _⟩
  have k:Y51 x (M0 (G3 C4) s1 (ts.take i)) t:=HK.out i t ht
  have y:=X0h (G3 C4) s1 ts i t ht
  obtain ⟨u,hu⟩:∃u,u=M0 (G3 C4) s1 (ts.take i):=⟨_,rfl⟩
  rw [←hu] at k y HR
  have a:=A5 k
  have a7:=A5 y
  obtain ⟨m,q,r⟩:=t
  obtain ⟨g,e3,rfl,c0,c1,c2⟩:=HR.out.swap.own.rd.tok ht
  have hA:=(HR.out.newObj [.int .u8 m,.int .i64 q,.int .i64 r] 112).swap
  have l:=A5 (W5w hA.drew (m,q,r) k.len k.list k.told)
  have HH:=A5 hA
  clear ht k y hu hA
  unfold Y6k at l
  simp only at l
  have j:Hid (M0 (G3 C4) s1 (ts.take (i+1))=if 16384≤(Z02 u (m,q,r)).told then Q6 (G3 C4) false (Z02 u (m,q,r)) else Z02 u (m,q,r)):=a7
  have z:=A5 (fun (wz:World) (Rz:List A6) (h:A4 w0 wz (T9 (Z02 u (m,q,r)) p::Rz))=>Y5w h hO false a.out.told2 a.out.raw a.out.few a.out.byt a.out.rby a.out.list2 a.out.acc)
  have a0:(Z02 u (m,q,r)).told < 1000000000:=by have:=a.out.few;omega
  generalize Z02 u (m,q,r)=u2 at l j z a0
  have t0:=HH.out.swap.obj.cell (i:=0) rfl
  have t1:=HH.out.swap.obj.cell (i:=1) rfl
  have t2:=HH.out.swap.obj.cell (i:=2) rfl
  go_wp2
  generalize b9:wr.alloc (.cells #[.int .u8 m,.int .i64 q,.int .i64 r] 112)=wA at l HH t0 t1 t2⊢
  go_still_tail 4,(by kernel_rfl)
  change wpList _ _ _ _ _ (World.drew _)
  clear b9 HH t0 t1 t2 c0 c1 c2
  go_wp2_with fail
  with_reducible refine l.out.mono ?_
  rintro e w2 ⟨rfl,h2⟩
  obtain ⟨C,X,bs,rv,lv,d,sp,c,hf,h3,b0⟩:=Z3g h2
  have a1:=h3.objp.cell (i:=11) rfl
  have H2:=A5 h2
  clear h3 hf b0 h2 l
  by_cases hc:16384≤u2.told
  ·have a2:decide ((16384:Int)≤(u2.told:Int))=true:=decide_eq_true (by omega)
   have HE:Hid (M0 (G3 C4) s1 (ts.take (i+1))=Q6 (G3 C4) false u2):=A5 (by rw [j.out,if_pos hc])
   have HB:=A5 (z.out _ _ H2.out)
   rw [←HE.out] at HB
   generalize u2.told=td2 at a1 a2 a0
   go_wp2_with fail
   with_reducible refine HB.out.mono ?_
   rintro e w3 ⟨rfl,h4⟩
   have H4:=A5 (h4.swap.drop)
   clear h4 HB a1
   go_wp2
   go_roundg (gk-1)
   case measure=>omega
   case rel=>exact ⟨i+1,by omega,by omega,by go_num,A5 (by rw [HE.out] at H4⊢;exact H4.out)⟩
  have a2:decide ((16384:Int)≤(u2.told:Int))=false:=decide_eq_false (by omega)
  have HE:Hid (M0 (G3 C4) s1 (ts.take (i+1))=u2):=A5 (by rw [j.out,if_neg hc])
  have H4:=A5 (H2.out.swap.drop)
  generalize u2.told=td2 at a1 a2 a0
  clear hc z j a7
  go_wp2
  go_roundg (gk-1)
  case measure=>omega
  case rel=>exact ⟨i+1,by omega,by omega,by go_num,A5 (by rw [HE.out];exact H4.out)⟩
end
section
variable {w0 w:World} {Rs:List A6}
theorem X6x (lev:Int) (hl:Y4l w0) (h:A4 w0 w Rs):
  Calls Tryz.prog 27 #[.int .i64 lev] w fun e w'=>∃ (C:Z8x) (X:A6),e= .returned (.agg (C.V++[Value.slice none 0 0,Value.slice none 0 0,Value.int .i64 0]).toArray)∧A4 w0 w' (X::Rs)∧
   ∀ (p:D0) (R:List Value) (w':World) (Rs:List A6),A4 w0 w' (P5 p (C.V++R)::X::Rs)→A4 w0 w' (Y3m (I9.start lev) (Y4w p 0 [] R rfl)::Rs):=by
 have hN:=V6d lev hl (h.newObj [.int .i64 0,.int .i64 0,.int .i64 0,.slice none 0 0,.int .i64 0,.map none,.map none,.slice none 0 0,.int .i64 0,.slice none 0 0,.slice none 0 0,.int .i64 0] 72)
 have HN:=A5 hN
 clear hN h
 go_enter Tryz.func27,Tryz.ntmps27
 go_wp2_with fail
 with_reducible refine HN.out.mono ?_
 rintro e f ⟨B,rfl,h1⟩
 obtain ⟨l,m,n,lv,b,o,q,bv,g,X,r,⟨j,s,t,rfl⟩,⟨x,y,z,rfl⟩,k⟩:=X6w (p:= .whole B 70) (R:=[]) h1
 have d:=r.objp
 have a:=r.third.obj
 have c0:f.cell? ⟨B,0,none⟩=some (.int .i64 (l:Int)):=d.cell (i:=0) rfl
 have c1:f.cell? ⟨B,1,none⟩=some (.int .i64 (m:Int)):=d.cell (i:=1) rfl
 have c2:f.cell? ⟨B,2,none⟩=some (.int .i64 (n:Int)):=d.cell (i:=2) rfl
 have c3:f.cell? ⟨B,3,none⟩=some (.slice j s t):=d.cell (i:=3) rfl
 have c4:f.cell? ⟨B,4,none⟩=some (.int .i64 (b:Int)):=d.cell (i:=4) rfl
 have c5:f.cell? ⟨B,5,none⟩=some (.map (some o)):=d.cell (i:=5) rfl
 have c6:f.cell? ⟨B,6,none⟩=some (.map (some q)):=d.cell (i:=6) rfl
 have c7:f.cell? ⟨B,7,none⟩=some (.slice x y z):=d.cell (i:=7) rfl
 have c8:f.cell? ⟨B,8,none⟩=some (.int .i64 (g:Int)):=d.cell (i:=8) rfl
 have z0:=a.cell (i:=0) rfl
 have f0:=a.frozen 0
 have z1:=a.cell (i:=1) rfl
 have f1:=a.frozen 1
 have z2:=a.cell (i:=2) rfl
 have f2:=a.frozen 2
 have z3:=a.cell (i:=3) rfl
 have f3:=a.frozen 3
 have z4:=a.cell (i:=4) rfl
 have f4:=a.frozen 4
 have z5:=a.cell (i:=5) rfl
 have f5:=a.frozen 5
 have z6:=a.cell (i:=6) rfl
 have f6:=a.frozen 6
 have z7:=a.cell (i:=7) rfl
 have f7:=a.frozen 7
 have z8:=a.cell (i:=8) rfl
 have f8:=a.frozen 8
 have z9:=a.cell (i:=9) rfl
 have f9:=a.frozen 9
 have a4:=a.cell (i:=10) rfl
 have a5:=a.frozen 10
 have a6:=a.cell (i:=11) rfl
 have a7:=a.frozen 11
 have HB:=A5 k
 have H2:=A5 (((((((((((((r.third).setObj 0 (.int .i64 (l:Int))).setObj 1 (.int .i64 (m:Int))).setObj 2 (.int .i64 (n:Int))).setObj 3 (.slice j s t)).setObj 4 (.int .i64 (b:Int))).setObj 5 (.map (some o))).setObj 6 (.map (some q))).setObj 7 (.slice x y z)).setObj 8 (.int .i64 (g:Int))).setObj 9 (.slice none 0 0)).setObj 10 (.slice none 0 0)).setObj 11 (.int .i64 0))
 clear h1 r d a k HN
 go_wp2
 refine Z2x rfl _ 12 Tryz.underlying72 rfl (by kernel_rfl) w.heap.size [.int .i64 (l:Int),.int .i64 (m:Int),.int .i64 (n:Int),.slice j s t,.int .i64 (b:Int),.map (some o),.map (some q),.slice x y z,.int .i64 (g:Int),.slice none 0 0,.slice none 0 0,.int .i64 0] 72 rfl rfl H2.out.obj rfl ?_
 exact ⟨⟨l,m,n,.slice j s t,b,o,q,.slice x y z,g⟩,X,rfl,H2.out.drop.drop,HB.out⟩
theorem W9h (lev:Int) (hl:Y4l w0) (h:A4 w0 w Rs):
  Calls Tryz.prog 17 #[.int .i64 lev] w fun e w'=>∃B:Nat,e= .returned (.pointer (some ⟨B,0,none⟩))∧A4 w0 w' (T9 (P8 I9 lev) (.whole B 78)::Rs):=by
 have j:=A5 (X6x lev hl h)
 obtain ⟨g,d⟩:∃g,g=decide (0 < lev):=⟨_,rfl⟩
 have k:decide (0 < lev)=g:=d.symm
 have n:=A5 d
 clear h d
 go_enter Tryz.func17,Tryz.ntmps17
 go_wp2_with fail
 with_reducible refine j.out.mono ?_
 rintro e t ⟨⟨x,y,z,l0,f,m1,m2,b0,i⟩,X,rfl,m,a⟩
 have o:=A5 a
 have p:=A5 m
 clear m a j
 simp only [Z8x.V,Z6j,List.cons_append,List.nil_append]
 go_wp2
 go_ret
 refine ⟨_,rfl, ?_⟩
 have q:=p.out.newObjP [.int .i64 (x:Int),.int .i64 (y:Int),.int .i64 (z:Int),l0,.int .i64 (f:Int),.map (some m1),.map (some m2),b0,.int .i64 (i:Int),.slice none 0 0,.slice none 0 0,.int .i64 0,.slice none 0 0,.int .u64 0,.int .i64 0,.bool g,.bool false] 78
 have r:=o.out (.whole t.heap.size 78) (Z6s (.slice none 0 0) (.slice none 0 0) 0 (.slice none 0 0) 0 0 g) _ _ q
 have l:=((r.nil 5 1).nil 112 3).nil 5 1
 rw [n.out] at l⊢
 refine X3b (s:=P8 I9 lev) ⟨.slice none 0 0,.slice none 0 0,.slice none 0 0,0,0,[]⟩ ⟨by decide,by decide,(fun b h=>by cases h),rfl⟩ ?_
 exact l.perm (T00 (l₁:=[_,_,_]))
end
end Go.Proofs.YtbkbkmgogbgofaaGreatDoor
