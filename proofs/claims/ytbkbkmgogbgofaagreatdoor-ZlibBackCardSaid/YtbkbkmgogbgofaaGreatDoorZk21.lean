/- The claim's texts, put together and shortened by a program (names, spaces). -/
import Derived.Test.YtbkbkmgogbgofaaGreatDoorZk20
import Derived.Test.YtbkbkmgogbgofaaGreatDoorZk13
import Derived.Test.YtbkbkmgogbgofaaGreatDoorProg
import Derived.Test.YtbkbkmgogbgofaaGreatDoorZk03
import Derived.StillTailTactics
import Derived.Test.YtbkbkmgogbgofaaGreatDoorZk01
import Derived.Test.YtbkbkmgogbgofaaGreatDoorZk04
import Derived.Test.YtbkbkmgogbgofaaGreatDoorZk17
open List renaming length_append→T01,getElem?_eq_getElem→T02,replicate→T03,mem_cons_self→T04,mem_cons_of_mem→T05,range→T06,mem_of_getElem?→T07,take_append_drop→T08,append_assoc→T09,getElem?_eq_none→T0a,length_drop→T0c,countP_cons→T0d,length_cons→T0e,getElem?_take→T0g,countP_le_length→T0h,ext_getElem?→T0i,getElem?_replicate→T0j,length_take→T0k,take_length→T0l,take_append_of_le_length→T0m,countP_append→T0n,flatMap_nil→T0o,getElem?_drop→T0q,count_replicate→T0r,getElem?_cons_zero→T0s,take_of_length_le→T0t,flatMap_cons→T0u,getElem?_map→T0v
open Nat renaming le_refl→T00,zero_le→T0b,le_trans→T0f
open Int renaming natCast_nonneg→T0p
namespace Go.Proofs.YtbkbkmgogbgofaaGreatDoor
set_option maxRecDepth 100000
set_option maxHeartbeats 6400000
open Go.RowKit
structure U5 where
 tr:Nat
 en:Nat
 la:Nat
 x:List Nat
 outs:List E3
 at_:Nat
def told (s:U5) (e:Bool):List E3×Nat:=
 if s.tr=0 then (V7 (s.x.drop s.at_),s.x.length) else M1 32768 258 s.x s.tr s.en s.la (if e then 0 else 261) s.at_
structure Y4d (s:U5):Prop where
 le:s.at_≤s.x.length
 bytes:∀b∈s.x,b < 256
 len:s.x.length < 1000000000
 tries:s.tr≤1024
 outs:O3 s.outs
 means:s.x.length≤most→S0 [] s.outs=(0,s.x.take s.at_)
structure V1m (K8:Int) (s:U5):Prop where
 lv:(s.tr,s.en,s.la)=lvl K8
 le:s.at_≤s.x.length
 lits:s.tr=0→s.outs=V7 (s.x.take s.at_)
 toks:s.tr≠0→∀y,s.outs++(M1 32768 258 (s.x++y) s.tr s.en s.la 0 s.at_).1=(M1 32768 258 (s.x++y) s.tr s.en s.la 0 0).1
def K5:Z5h where
 St:=U5
 start K8:=⟨(lvl K8).1,(lvl K8).2.1,(lvl K8).2.2,[],[],0⟩
 write s bs:={s with x:=s.x++bs}
 toks s e:=({s with outs:=s.outs++(told s e).1,at_:=(told s e).2},(told s e).1)
 inp s:=s.x
 outs s:=s.outs
 wait s:=s.x.length-s.at_
 one x K8:=if (lvl K8).1=0 then V7 x else (M1 32768 258 x (lvl K8).1 (lvl K8).2.1 (lvl K8).2.2 0 0).1
 Ok:=Y4d
 Clean:=V1m
theorem Y9e (a b:List Nat):V7 (a++b)=V7 a++V7 b:=by simp [V7]
theorem Y41:∀ (l acc:List Nat),acc.length+l.length≤most→S0 acc (V7 l)=(0,acc++l)
 | [],acc,_=>by simp [V7,S0]
 | b::r,acc,h=>by
  show S0 acc (((b:Int),0,0)::V7 r)=_
  rw [Z0a,X0w (by simp [E9]) rfl (by simp at h;omega),if_pos rfl]
  show S0 (acc++[((b:Int)).toNat]) (V7 r)=_
  rw [Y41 r _ (by simp at h⊢;omega)]
  simp
theorem X68 (l:List Nat) (h:∀b∈l,b < 256):O3 (V7 l):=by
 intro t a
 obtain ⟨b,d,rfl⟩:=List.mem_map.1 a
 have:=h b d
 show (0:Int)≤(b:Int)∧(b:Int)≤255
 omega
theorem W2h (s:U5) (e:Bool) (h:s.at_≤s.x.length):(told s e).2≤s.x.length:=by
 unfold told
 split
 ·exact T00 _
 exact (V1w (by omega) _ h).1
theorem X4f (s:U5) (e:Bool):s.x.length- (told s e).2≤(if e then 0 else 261):=by
 unfold told
 split
 ·simp
 exact X9c _
theorem X85 (s:U5) (e:Bool) (hb:∀b∈s.x,b < 256):O3 (told s e).1:=by
 unfold told
 split
 ·exact X68 _ fun b h=>hb b (List.mem_of_mem_drop h)
 exact Y3x (by omega) hb _ _ (T00 _)
theorem X7y (s:U5) (e:Bool) (h:s.at_≤s.x.length) (hm:s.x.length≤most):S0 (s.x.take s.at_) (told s e).1=(0,s.x.take (told s e).2):=by
 unfold told
 split
 ·rw [Y41 _ _ (by rw [T0k,T0c];omega),T08,T0l]
 exact Y3y (by omega) rfl rfl hm _ _ (T00 _) h
theorem Z50:V0 K5 where
 ok_start K8:=⟨T00 _,(fun b h=>by cases h),(by show 0 < 1000000000;omega),(V57 K8).1,(fun t h=>by cases h),fun _=>rfl⟩
 ok_write s bs h hb hl:=by
  have hl:s.x.length+bs.length < 1000000000:=hl
  refine ⟨?_, ?_, ?_,h.tries,h.outs, ?_⟩
  ·show s.at_≤(s.x++bs).length
   rw [T01];have:=h.le;omega
  ·intro b d
   exact (List.mem_append.1 d).elim (h.bytes b) (hb b)
  ·show (s.x++bs).length < _
   rw [T01];exact hl
  intro d
  have d:(s.x++bs).length≤most:=d
  rw [T01] at d
  show S0 [] s.outs=(0,(s.x++bs).take s.at_)
  rw [T0m h.le]
  exact h.means (by omega)
 ok_toks s e h:=by
  refine ⟨W2h s e h.le,h.bytes,h.len,h.tries, ?_, ?_⟩
  ·intro t f
   exact (List.mem_append.1 f).elim (h.outs t) (X85 s e h.bytes t)
  intro d
  show S0 [] (s.outs++(told s e).1)=(0,s.x.take (told s e).2)
  rw [Z74,h.means d,if_pos rfl]
  exact X7y s e h.le d
 inp_start _:=rfl
 inp_write _ _:=rfl
 inp_toks _ _:=rfl
 outs_start _:=rfl
 outs_write _ _:=rfl
 outs_toks _ _:=rfl
 bytes s h:=h.outs
 means s h d:=by
  have g:=h.le
  refine ⟨Nat.sub_le _ _, ?_⟩
  show S0 [] s.outs=(0,s.x.take (s.x.length- (s.x.length-s.at_)))
  rw [show s.x.length- (s.x.length-s.at_)=s.at_ by omega]
  exact h.means d
 wait_end s _:=by
  have h:=X4f s true
  show s.x.length- (told s true).2=0
  rw [if_pos rfl] at h
  omega
 wait_some s _:=X4f s false
 clean_start K8:=⟨rfl,T00 _,fun _=>rfl,fun _ y=>rfl⟩
 clean_write K8 s bs h:=⟨h.lv,by show s.at_≤(s.x++bs).length;rw [T01];have:=h.le;omega,fun a=>by
   show s.outs=V7 ((s.x++bs).take s.at_)
   rw [T0m h.le]
   exact h.lits a,fun a y=>by
   show s.outs++(M1 32768 258 (s.x++bs++y) s.tr s.en s.la 0 s.at_).1=(M1 32768 258 (s.x++bs++y) s.tr s.en s.la 0 0).1
   rw [T09 s.x bs y]
   exact h.toks a (bs++y)⟩
 clean_toks K8 s h:=⟨h.lv,W2h s false h.le,fun a=>by
   have a:s.tr=0:=a
   show s.outs++(told s false).1=V7 (s.x.take (told s false).2)
   unfold told
   rw [if_pos a,h.lits a,←Y9e,T08,T0l],fun a y=>by
   have a:s.tr≠0:=a
   show s.outs++(told s false).1++(M1 32768 258 (s.x++y) s.tr s.en s.la 0 (told s false).2).1=(M1 32768 258 (s.x++y) s.tr s.en s.la 0 0).1
   have e:told s false=M1 32768 258 s.x s.tr s.en s.la 261 s.at_:=by unfold told;rw [if_neg a];rfl
   rw [e,T09,Y63 y (by omega) (by omega) _ _ (T00 _)]
   exact h.toks a y⟩
 X1d K8 s h hc:=by
  show s.outs++(told s true).1=if (lvl K8).1=0 then V7 s.x else (M1 32768 258 s.x (lvl K8).1 (lvl K8).2.1 (lvl K8).2.2 0 0).1
  rw [←hc.lv]
  show s.outs++(told s true).1=if s.tr=0 then V7 s.x else (M1 32768 258 s.x s.tr s.en s.la 0 0).1
  unfold told
  by_cases a:s.tr=0
  ·rw [if_pos a,if_pos a,hc.lits a,←Y9e,T08]
  rw [if_neg a,if_neg a]
  have g:=hc.toks a []
  rw [List.append_nil] at g
  exact g
 level0 bs K8 _ _ h:=by
  intro t f
  have f:t∈if (lvl K8).1=0 then V7 bs else (M1 32768 258 bs (lvl K8).1 (lvl K8).2.1 (lvl K8).2.2 0 0).1:=f
  rw [V2q K8 h,if_pos rfl] at f
  obtain ⟨b,_,rfl⟩:=List.mem_map.1 f
  rfl
 short c n K8 _ g _ h3 _:=by
  have i:=V0d K8 h3
  show 10*(if (lvl K8).1=0 then V7 (T03 n c) else (M1 32768 258 (T03 n c) (lvl K8).1 (lvl K8).2.1 (lvl K8).2.2 0 0).1).length < n
  rw [if_neg (by omega)]
  exact W5g (by omega) rfl i.1 i.2 g
structure Y5e (s:U5) (cut P a gone:Nat):Prop where
 le:cut≤s.at_
 some:s.tr≠0→gone=cut∧Z16 s.x cut P a∧P≤s.at_∧(cut=0∨cut+32768≤s.at_)
 none:s.tr=0→cut=s.at_∧P=0∧a=0∧gone=0
def V2e (s:U5) (cut P a gone:Nat) (B:C4):A6:=Z81 s.tr s.en s.la (s.at_-cut) gone (s.x.drop cut) (M6 s.x cut P) (P9 s.x a P) (P3 32768 s.x a) P B
def Y2i (s:U5) (B:C4):A6:=exT fun r:Nat×Nat×Nat×Nat=>Y46 (Y5e s r.1 r.2.1 r.2.2.1 r.2.2.2) (V2e s r.1 r.2.1 r.2.2.1 r.2.2.2 B)
section
variable {w0 w:World} {Rs:List A6}
theorem unT {s:U5} {B:C4} (H:A4 w0 w (Y2i s B::Rs)):∃cut P a gone,Y5e s cut P a gone∧A4 w0 w (V2e s cut P a gone B::Rs):=by
 obtain ⟨⟨cut,P,a,gone⟩,b⟩:=H.ex
 obtain ⟨d,f⟩:=b.fact
 exact ⟨cut,P,a,gone,d,f⟩
theorem mkT {s:U5} {B:C4} (cut P a gone:Nat) (hf:Y5e s cut P a gone) (H:A4 w0 w (V2e s cut P a gone B::Rs)):A4 w0 w (Y2i s B::Rs):=
 A4.mk (R:=fun r:Nat×Nat×Nat×Nat=>Y46 (Y5e s r.1 r.2.1 r.2.2.1 r.2.2.2) (V2e s r.1 r.2.1 r.2.2.1 r.2.2.2 B)) (cut,P,a,gone) (A4.mkFact hf H)
theorem V5d (K8:Int) (hl:Y4v w0) (h:A4 w0 w Rs):
  Calls Tryz.prog 46 #[.int .i64 K8] w fun e w'=>∃B:Nat,e= .returned (.pointer (some ⟨B,0,none⟩))∧A4 w0 w' (Y2i (K5.start K8) (.whole B 70)::Rs):=
 (V3n K8 hl h).mono fun e w' ⟨B,he,h1⟩=>⟨B,he,mkT 0 0 0 0 ⟨T00 _,fun _=>⟨rfl,⟨T00 _,.inl rfl,T00 _,by omega,rfl,.inr rfl⟩,T00 _,.inl rfl⟩,fun _=>⟨rfl,rfl,rfl,rfl⟩⟩ (by
  show A4 w0 w' (Z81 (lvl K8).1 (lvl K8).2.1 (lvl K8).2.2 0 0 [] (M6 [] 0 0) (P9 [] 0 0) (P3 32768 [] 0) 0 (.whole B 70)::Rs)
  rw [Y8b,Y4c]
  exact h1)⟩
theorem W7l (s:U5) (B:C4) (v:Value) (n:Nat) (bs:List Nat) (H:A4 w0 w (Y2i s B::Rs)) (hs:Y4d s) (hv:Rd w 1 v n (D9 bs)) (hlen:s.x.length+n < 1000000000):
  Calls Tryz.prog 73 #[.pointer (some ⟨B.b,B.o,none⟩),v] w fun e w'=>e= .returned (.tuple #[])∧A4 w0 w' (Y2i (K5.write s bs) B::Rs):=by
 obtain ⟨d,P,a,f,g,l⟩:=unT H
 have j:P=0∨P+2≤s.x.length:=by
  by_cases c:s.tr=0
  ·exact .inl (g.none c).2.1
  exact (g.some c).2.1.room
 have k:a≤P:=by
  by_cases c:s.tr=0
  ·have:=g.none c;omega
  exact (g.some c).2.1.a_le
 refine (X8l l v n bs hv (by rw [T0c];omega)).mono fun e w' ⟨he,h2⟩=>⟨he,mkT d P a f ⟨g.le,fun h=> ?_,fun h=>g.none h⟩ ?_⟩
 ·obtain ⟨m,i,p,q⟩:=g.some h
  exact ⟨m,⟨i.cut_le,i.room.imp id (fun h=>by show P+2≤(s.x++bs).length;rw [T01];omega),i.a_le,i.le_a,i.mod,i.some⟩,p,q⟩
 show A4 w0 w' (Z81 s.tr s.en s.la (s.at_-d) f ((s.x++bs).drop d) (M6 (s.x++bs) d P) (P9 (s.x++bs) a P) (P3 32768 (s.x++bs) a) P B::Rs)
 rw [W4r _ _ _ _ j,W5a _ _ _ _ j,X91 _ _ _ _ P j k,List.drop_append_of_le_length (by have:=g.le;have:=hs.le;omega)]
 exact h2
theorem X4m {tr en la at' gone n:Nat} {B:C4} {bs bk:List Nat} {g h:List Nat→Option Nat} (e:Bool) (h0:tr=0) (H:A4 w0 w (Z81 tr en la at' gone bs bk g h n B::Rs)) (hlen:bs.length < 1000000000):
  Calls Tryz.prog 74 #[.pointer (some ⟨B.b,B.o,none⟩),.bool e] w fun e' w'=>∃v,e'= .returned v∧A4 w0 w' (Y4n v (V7 bs)::Z81 tr en la at' gone [] bk g h n B::Rs):=by
 subst h0
 obtain ⟨p,q,r,s,f⟩:=Z3m H
 have l:=(W6 f).1.cell0 rfl
 have d:=A5 (X2r H hlen)
 have i:(((0:Nat):Int)==0)=true:=rfl
 clear f H
 go_enter Tryz.func74,Tryz.ntmps74
 go_wp2_with fail
 refine d.out.mono ?_
 rintro e m ⟨v,rfl,a⟩
 unfold Y4n at a
 obtain ⟨t,k,rfl,_,_⟩:=a.own.form
 have j:=A5 a
 clear a d
 go_wp2
 go_ret
 exact ⟨_,rfl,j.out⟩
theorem V4s (s:U5) (B:C4) (e:Bool) (H:A4 w0 w (Y2i s B::Rs)) (hs:Y4d s):
  Calls Tryz.prog 74 #[.pointer (some ⟨B.b,B.o,none⟩),.bool e] w fun e' w'=>∃v,e'= .returned v∧A4 w0 w' (Y4n v (told s e).1::Y2i (K5.toks s e).1 B::Rs):=by
 obtain ⟨p,P,a,m,g,n⟩:=unT H
 by_cases c:s.tr=0
 ·obtain ⟨i,j,k,l⟩:=g.none c
  refine (X4m e c n (by rw [T0c];have:=hs.len;omega)).mono fun e' w' ⟨v,he,h2⟩=>⟨v,he, ?_⟩
  have d:told s e=(V7 (s.x.drop s.at_),s.x.length):=by unfold told;rw [if_pos c]
  rw [i] at h2
  rw [d]
  refine (mkT (s:=(K5.toks s e).1) (B:=B) s.x.length 0 0 0 ⟨by show s.x.length≤(told s e).2;rw [d];exact T00 _,fun h=>absurd c h,fun _=>⟨by show s.x.length=(told s e).2;rw [d],rfl,rfl,rfl⟩⟩ ?_).swap
  show A4 w0 w' (Z81 s.tr s.en s.la ((told s e).2-s.x.length) 0 (s.x.drop s.x.length) (M6 s.x s.x.length 0) (P9 s.x 0 0) (P3 32768 s.x 0) 0 B::Y4n v (V7 (s.x.drop s.at_))::Rs)
  rw [d,Nat.sub_self,List.drop_length]
  have f:=h2.swap
  rw [Nat.sub_self,j,k,l] at f
  rw [show M6 s.x s.x.length 0=[] by simp [M6]]
  rw [show M6 s.x s.at_ 0=[] by simp [M6]] at f
  exact f
 obtain ⟨i,j,k,l⟩:=g.some c
 subst i
 have d:told s e=M1 32768 258 s.x s.tr s.en s.la (if e then 0 else 261) s.at_:=by unfold told;rw [if_neg c]
 refine (X5e s.at_ e _ rfl n j k hs.le g.le l hs.len hs.bytes (by have:=hs.tries;omega) (by omega)).mono fun e' w' ⟨v,cut2,P2,a2,he,q1,q2,q3,q4,h2⟩=>⟨v,he, ?_⟩
 rw [←d] at q1 q2 q3 h2
 exact (mkT (s:=(K5.toks s e).1) (B:=B) cut2 P2 a2 cut2 ⟨q1,fun _=>⟨rfl,q4,q2,q3⟩,fun h=>absurd h c⟩ h2.swap).swap
end
def lcF (B:Nat→Nat) (v:Nat):Nat→Nat
 | 0=>0
 | m+1=>if B m≤v then m else lcF B v m
theorem X8d {B:Nat→Nat} {v:Nat} (h0:B 0≤v):∀m,0 < m→Z1w B m v (lcF B v m)
 | 0,h=>by omega
 | m+1,_=>by
  unfold lcF
  by_cases c:B m≤v
  ·rw [if_pos c];exact ⟨by omega,c,fun d h1 h2=>by omega⟩
  rw [if_neg c]
  have hm:0 < m:=by
   cases m with
   | zero=>exact absurd h0 c
   | succ m=>omega
  obtain ⟨h1,h2,a⟩:=X8d h0 m hm
  exact ⟨by omega,h2,fun d h4 h5=>if h6:d=m then by subst h6;omega else a d h4 (by omega)⟩
def Y0e (t:E3):Nat:=lcF lB t.2.1.toNat 29
def Z2g (t:E3):Nat:=lcF dB t.2.2.toNat 30
section
variable {t:E3}
theorem Y12 (hs:E9 t=true) (h0:t.2.1≠0):Z1w lB 29 t.2.1.toNat (Y0e t):=by
 have h:=V5 hs h0
 exact X8d (by
         have:lB 0=3:=by decide
         omega) 29 (by decide)
theorem Z6h (hs:E9 t=true) (h0:t.2.1≠0):Z1w dB 30 t.2.2.toNat (Z2g t):=by
 have h:=V5 hs h0
 exact X8d (by
         have:dB 0=1:=by decide
         omega) 30 (by decide)
end
def X3 (t:E3):Nat:=if t.2.1=0 then t.1.toNat else 257+Y0e t
def Y67 (t:E3):Nat:=if t.2.1=0 then 0 else lX (Y0e t)+dX (Z2g t)
theorem Y1v {t:E3} (hs:E9 t=true) (hb:0≤t.1∧t.1≤255):X3 t < 286:=by
 unfold X3
 split
 ·omega
 rename_i h
 have:=(Y12 hs h).1
 omega
def Z6z (lit dist:List Int) (t:E3):List Nat:=
 if t.2.1=0 then E0 lit t.1.toNat
 else E0 lit (257+Y0e t)++(A9 (lX (Y0e t)) (t.2.1.toNat-lB (Y0e t))++(E0 dist (Z2g t)++A9 (dX (Z2g t)) (t.2.2.toNat-dB (Z2g t))))
def Q3 (lit dist:List Int) (l:List E3):List Nat:=l.flatMap (Z6z lit dist)++E0 lit 256
theorem Y0h (lit dist:List Int) (t:E3) (l:List E3):Q3 lit dist (t::l)=Z6z lit dist t++Q3 lit dist l:=by simp [Q3]
def X2b (lit dist:List Int) (l:List E3):Prop:=L4 lit 256∧∀t∈l,L4 lit (X3 t)∧(t.2.1≠0→L4 dist (Z2g t))
theorem V4e {lit dist:List Int} {t:E3} (hs:E9 t=true) (hb:0≤t.1∧t.1≤255) (h1:L4 lit (X3 t)) (h2:t.2.1≠0→L4 dist (Z2g t)):Z28 lit dist t (Z6z lit dist t):=by
 obtain ⟨a,n,d⟩:=t
 unfold Z6z
 by_cases f:n=0
 ·have m:=W4u hs f
  have b:d=0:=m
  subst f
  subst b
  rw [if_pos rfl]
  unfold X3 at h1
  rw [if_pos rfl] at h1
  have g:=Z28.lit (lit:=lit) (dist:=dist) a.toNat (by show a.toNat < 256;have:a≤255:=hb.2;omega) h1
  have e:((a.toNat:Nat):Int)=a:=by have:0≤a:=hb.1;omega
  rw [e] at g
  exact g
 rw [if_neg f]
 obtain ⟨l,⟨i,j⟩,k,b⟩:=V5 hs f
 have i:3≤n:=i
 have j:n≤258:=j
 have k:1≤d:=k
 have b:d≤32768:=b
 have l:a=0:=l
 subst l
 unfold X3 at h1
 rw [if_neg f] at h1
 have g:=Z28.ref (lit:=lit) (dist:=dist) n.toNat d.toNat (Y0e (0,n,d)) (Z2g (0,n,d)) (Y12 hs f) (by omega) (by omega) (Z6h hs f) (by omega) (by omega) h1 (h2 f)
 have o:((n.toNat:Nat):Int)=n:=by omega
 have p:((d.toNat:Nat):Int)=d:=by omega
 rw [o,p] at g
 exact g
theorem Y5m {lit dist:List Int}:∀ {l:List E3},(∀t∈l,E9 t=true)→O3 l→X2b lit dist l→Z09 lit dist l (Q3 lit dist l)
 | [],_,_,hc=>by
  show Z09 lit dist [] (E0 lit 256)
  exact .nil hc.1
 | t::l,hs,hb,hc=>by
  rw [Y0h]
  have h1:=hc.2 t (T04 ..)
  exact .cons _ _ _ _ (V4e (hs t (T04 ..)) (hb t (T04 ..)) h1.1 h1.2)
   (Y5m (fun s h=>hs s (T05 _ h)) (fun s h=>hb s (T05 _ h)) ⟨hc.1,fun s h=>hc.2 s (T05 _ h)⟩)
def litN (l:List E3) (k:Nat):Nat:=l.countP fun t=>decide (X3 t=k)
def Z5n (l:List E3) (k:Nat):Nat:=l.countP fun t=>decide (t.2.1≠0∧Z2g t=k)
def Z5d (l:List E3):Nat:=(l.map Y67).sum
def Z5o (l:List E3) (k:Nat):Nat:=litN l k+(if 256=k then 1 else 0)
def Z1i (l:List E3):List Nat:=(T06 286).map (Z5o l)
def Z0y (l:List E3):List Nat:=(T06 30).map (Z5n l)
theorem X3o (l:List E3) (k:Nat):litN l k≤l.length:=T0h
theorem X2p (l:List E3) (k:Nat):Z5n l k≤l.length:=T0h
theorem W2v (l:List E3) (k:Nat):Z5o l k≤l.length+1:=by have:=X3o l k;unfold Z5o;split <;> omega
theorem V4m {l:List E3} (h:l.length < 1048576):∀a∈Z1i l,a≤1048576:=fun a ha=>by
 obtain ⟨k,_,rfl⟩:=List.mem_map.1 ha
 have:=W2v l k;omega
theorem V2c {l:List E3} (h:l.length < 1048576):∀a∈Z0y l,a≤1048576:=fun a ha=>by
 obtain ⟨k,_,rfl⟩:=List.mem_map.1 ha
 have:=X2p l k;omega
theorem N6 (l:List E3):(Z1i l).length=286:=by simp [Z1i]
theorem N4 (l:List E3):(Z0y l).length=30:=by simp [Z0y]
theorem X79 (l:List E3) {k:Nat} (h:k < 286):(Z1i l)[k]?=some (Z5o l k):=by simp [Z1i,h]
theorem X5p (l:List E3) {k:Nat} (h:k < 30):(Z0y l)[k]?=some (Z5n l k):=by simp [Z0y,h]
theorem X5i (l:List E3):0 < Z5o l 256:=by unfold Z5o;rw [if_pos rfl];omega
theorem V10 {l:List E3} {t:E3} (h:t∈l):0 < Z5o l (X3 t):=by
 have:0 < litN l (X3 t):=List.countP_pos_iff.2 ⟨t,h,by simp⟩
 unfold Z5o;omega
theorem V0n {l:List E3} {t:E3} (h:t∈l) (h0:t.2.1≠0):0 < Z5n l (Z2g t):=List.countP_pos_iff.2 ⟨t,h,by simp [h0]⟩
theorem X0a (l:List E3) (t:E3) (k:Nat):litN (l++[t]) k=litN l k+(if X3 t=k then 1 else 0):=by
 simp only [litN,T0n,T0d,List.countP_nil,decide_eq_true_eq];omega
theorem X04 (l:List E3) (t:E3) (k:Nat):Z5n (l++[t]) k=Z5n l k+(if t.2.1≠0∧Z2g t=k then 1 else 0):=by
 simp only [Z5n,T0n,T0d,List.countP_nil,decide_eq_true_eq];omega
theorem Y9j (l:List E3) (t:E3):Z5d (l++[t])=Z5d l+Y67 t:=by simp [Z5d]
def Z6s (l:List Int) (k:Nat):Nat:=(l[k]?.getD 0).toNat
def Z2o (l:List Int) (g:Nat→Nat):Nat→Nat
 | 0=>0
 | n+1=>Z2o l g n+Z6s l n*g n
theorem Y1a (l:List Int) (g h:Nat→Nat):∀n,Z2o l (fun k=>g k+h k) n=Z2o l g n+Z2o l h n
 | 0=>rfl
 | n+1=>by rw [Z2o,Z2o,Z2o,Y1a l g h n,Nat.mul_add];omega
theorem Z5x (l:List Int) (g:Nat→Nat):∀n,(∀k,k < n→g k=0)→Z2o l g n=0
 | 0,_=>rfl
 | n+1,h=>by rw [Z2o,Z5x l g n (fun k hk=>h k (by omega)),h n (by omega)];rfl
theorem Z7g (l:List Int) (s:Nat):∀n,s < n→Z2o l (fun k=>if s=k then 1 else 0) n=Z6s l s
 | 0,h=>by omega
 | n+1,h=>by
  rw [Z2o]
  by_cases c:s=n
  ·subst c
   rw [Z5x l _ s (fun k hk=>if_neg (by omega)),if_pos rfl];omega
  rw [Z7g l s n (by omega),if_neg c];omega
theorem R8 (l:List Int) (k:Nat):(E0 l k).length=Z6s l k:=by unfold E0 Z6s;rw [T9]
theorem Y49 (lit dist:List Int) (t:E3):(Z6z lit dist t).length=Z6s lit (X3 t)+(if t.2.1≠0 then Z6s dist (Z2g t) else 0)+Y67 t:=by
 unfold Z6z X3 Y67
 by_cases h:t.2.1=0
 ·rw [if_pos h,if_pos h,if_pos h,if_neg (fun c=>c h),R8];omega
 rw [if_neg h,if_neg h,if_neg h,if_pos h]
 simp only [T01,R8,B5];omega
theorem Y1f {lit dist:List Int}:∀ {l:List E3},(∀t∈l,E9 t=true)→O3 l→(Q3 lit dist l).length=Z2o lit (Z5o l) 286+Z2o dist (Z5n l) 30+Z5d l
 | [],_,_=>by
  rw [Q3,T0o,List.nil_append,R8]
  have e:Z5o []=fun k=>if 256=k then 1 else 0:=by funext k;simp [Z5o,litN]
  rw [e,Z7g _ _ _ (by decide),Z5x dist (Z5n []) 30 (fun k _=>rfl)];rfl
 | t::l,hs,hb=>by
  have hs1:=hs t (T04 ..)
  have hb1:=hb t (T04 ..)
  rw [Y0h,T01,Y1f (fun s h=>hs s (T05 _ h)) (fun s h=>hb s (T05 _ h)),Y49]
  have e1:Z5o (t::l)=fun k=>Z5o l k+(if X3 t=k then 1 else 0):=by
   funext k
   simp only [Z5o,litN,T0d,decide_eq_true_eq];omega
  have b:Z5n (t::l)=fun k=>Z5n l k+(if t.2.1≠0∧Z2g t=k then 1 else 0):=by
   funext k
   simp only [Z5n,T0d,decide_eq_true_eq]
  have d:Z5d (t::l)=Y67 t+Z5d l:=by simp [Z5d]
  rw [e1,b,d,Y1a,Y1a,Z7g _ _ _ (Y1v hs1 hb1)]
  by_cases a:t.2.1=0
  ·rw [Z5x dist (fun k=>if t.2.1≠0∧Z2g t=k then 1 else 0) 30 (fun k _=>if_neg fun h=>h.1 a),if_neg (fun h=>h a)];omega
  have f:(fun k=>if t.2.1≠0∧Z2g t=k then 1 else 0)=fun k=>if Z2g t=k then 1 else 0:=by funext k;simp [a]
  rw [f,Z7g _ _ _ (Z6h hs1 a).1,if_pos a];omega
theorem Z86 {l:List Int} {g:Nat→Nat} {N:Nat} (hl:∀a∈l,0≤a∧a≤15) (hg:∀k,k < N→g k≤1048576):∀k,k≤N→k≤l.length→Z3i l (((T06 N).map g).map fun (n:Nat)=>(n:Int)) k=Z2o l g k
 | 0,_,_=>rfl
 | k+1,h1,h2=>by
  rw [Z3i,Z2o,Z86 hl hg k (by omega) (by omega)]
  have e1:l.getD k 0=l[k]?.getD 0:=by simp [List.getD]
  have e2:(((T06 N).map g).map fun (n:Nat)=>(n:Int)).getD k 0=((g k:Nat):Int):=by
   have b:k < N:=by omega
   simp [List.getD,b]
  have d:=hl _ (T07 (T02 (show k < l.length by omega)))
  rw [e1,e2,T02 (show k < l.length by omega)]
  unfold Z0u Z6s
  rw [T02 (show k < l.length by omega)]
  simp only [Option.getD_some]
  have:=hg k (by omega)
  rw [if_pos ⟨d.1,by omega⟩,if_pos ⟨T0p _,by omega⟩,Int.toNat_natCast]
theorem Y9z {l:List Int} {g:Nat→Nat} {n:Nat} (h:l.length≤n):∀d,Z2o l g (n+d)=Z2o l g n
 | 0=>rfl
 | d+1=>by
  rw [←Nat.add_assoc,Z2o,Y9z h d]
  have:Z6s l (n+d)=0:=by unfold Z6s;rw [T0a (by omega)];rfl
  rw [this,Nat.zero_mul,Nat.add_zero]
theorem Y2g {l:List Int} {g:Nat→Nat} {N:Nat} (hl:∀a∈l,0≤a∧a≤15) (hg:∀k,k < N→g k≤1048576):Z3i l (((T06 N).map g).map fun (n:Nat)=>(n:Int)) (min l.length (((T06 N).map g).map fun (n:Nat)=>(n:Int)).length)=Z2o l g N:=by
 have b:(((T06 N).map g).map fun (n:Nat)=>(n:Int)).length=N:=by simp
 rw [b]
 by_cases h:l.length≤N
 ·rw [Nat.min_eq_left h,Z86 hl hg _ h (T00 _)]
  have:=Y9z (g:=g) (T00 l.length) (N-l.length)
  rw [show l.length+(N-l.length)=N by omega] at this
  exact this.symm
 rw [Nat.min_eq_right (by omega),Z86 hl hg _ (T00 _) (by omega)]
theorem Z43 {l:List Int} {m:Nat} (h:∀a∈l,0≤a∧a≤(m:Int)) (k:Nat):Z6s l k≤m:=by
 unfold Z6s
 cases e:l[k]? with
 | none=>exact T0b _
 | some a=>have:=h a (T07 e);show a.toNat≤m;omega
theorem X2l {t:E3} (hs:E9 t=true):Y67 t≤18:=by
 unfold Y67
 split
 ·omega
 rename_i h
 have a:=X0u _ (Y12 hs h).1
 have b:=Y9l _ (Z6h hs h).1
 omega
theorem Z3d {lit dist:List Int} (hl:∀a∈lit,0≤a∧a≤15) (hd:∀a∈dist,0≤a∧a≤15):∀ {l:List E3},(∀t∈l,E9 t=true)→(Q3 lit dist l).length≤48*l.length+15
 | [],_=>by
  rw [Q3,T0o,List.nil_append,R8]
  have:=Z43 (m:=15) hl 256
  simpa using this
 | t::l,hs=>by
  have ih:=Z3d hl hd (l:=l) fun s h=>hs s (T05 _ h)
  have h1:=Z43 (m:=15) hl (X3 t)
  have h2:=Z43 (m:=15) hd (Z2g t)
  have h3:=X2l (hs t (T04 ..))
  rw [Y0h,T01,Y49,T0e]
  split <;> omega
def Z35 (f:List Int):Bool:=f.all fun a=>decide (0≤a∧a≤1048576)
theorem Y9m (f:List Int):Z35 f=true↔∀a∈f,0≤a∧a≤1048576:=by simp [Z35]
theorem Z9y (l:List Int) (a:Int):Z35 (l++[a])=(Z35 l && decide (0≤a∧a≤1048576)):=by simp [Z35]
theorem Y65 (l:List Int) (i:Nat) (h:Z35 (l.take i)=false):Z35 l=false:=by
 rw [←T08 i l]
 unfold Z35 at*
 rw [List.all_append,h];rfl
def wtN (n:Nat):Nat:=if 1≤n∧n≤15 then 2^(15-n) else 0
def kr:List Nat→Nat
 | []=>0
 | n::l=>wtN n+kr l
def cst:List Nat→List Nat→Nat
 | a::l,b::f=>a*b+cst l f
 | _,_=>0
theorem V42 (n:Nat):Z1y 15 (n:Int)=wtN n:=by
 unfold Z1y wtN
 by_cases h:1≤n∧n≤15
 ·rw [if_pos (by omega),if_pos h];simp
 rw [if_neg (by omega),if_neg h]
theorem V5p (l:List Nat):F4 (l.map fun (n:Nat)=>(n:Int))=kr l:=by
 induction l with
 | nil=>simp [F4,Z6d,kr]
 | cons a l ih=>rw [List.map_cons,sum_cons,V42,ih,kr]
theorem Y60:wtN 0=0:=by decide
structure V2y (f:List Nat) (m:Nat) (l:List Nat):Prop where
 len:l.length=f.length
 sup:∀ (i a b:Nat),l[i]?=some a→f[i]?=some b→(0 < a↔0 < b)
 le:∀a∈l,a≤m
 whole:kr l=32768
structure V6k (f:List Nat) (m:Nat) (l:List Nat):Prop where
 good:V2y f m l
 least:∀l2,V2y f m l2→cst l f≤cst l2 f
theorem W8y {l:List Nat} {i:Nat} (h:i < l.length):∃a,l[i]?=some a:=⟨_,T02 h⟩
def I3:List Nat→Nat
 | []=>0
 | a::l=>a+I3 l
def U2:List Nat→Nat
 | []=>0
 | a::l=>(if 0 < a then 1 else 0)+U2 l
theorem W1e (n:Nat) (h1:1≤n) (h:n≤15):wtN n=2^(15-n):=by unfold wtN;rw [if_pos ⟨h1,h⟩]
structure Y42 (f:List Nat) (m:Nat) (l:List Nat):Prop where
 len:l.length=f.length
 few:U2 f < 2→∀ (i a b:Nat),l[i]?=some a→f[i]?=some b→a=if 0 < b then 1 else 0
 best:2≤U2 f→V6k f m l
section
variable {w0 w:World} {Rs:List A6}
end
def M0 (l:List Nat):List Int:=l.map fun (n:Nat)=>(n:Int)
theorem K9 (l:List Nat):(M0 l).length=l.length:=by simp [M0]
theorem V0j (l:List Nat) (k:Nat):(M0 l)[k]?=(l[k]?).map fun (n:Nat)=>(n:Int):=by simp [M0]
theorem Y8c {l:List Int} {m:Nat} (hm:1≤m) (hm2:m≤15) (hl:l.length≤288) (ha:∀a∈l,0≤a∧a≤(m:Int)) (hs:F4 l=0∨F4 l=32768∨F4 l=16384∧l.count 1=1):D0 l (m:Int)=0:=by
 unfold D0 U4
 rw [if_neg,if_pos hs]
 have b:decide ((m:Int) < 1∨15 < (m:Int)∨288 < l.length)=false:=by rw [decide_eq_false_iff_not];omega
 have d:Z0s l (m:Int)=true:=(Z1p l m).2 ha
 rw [b,d];decide
theorem Z0o {l:List Int} {m:Nat} (h:D0 l (m:Int)=0):l.length≤288∧(∀a∈l,0≤a∧a≤(m:Int))∧(F4 l=0∨F4 l=32768∨F4 l=16384∧l.count 1=1):=by
 unfold D0 at h
 split at h
 ·cases h
 rename_i b
 split at h
 ·rename_i d
  simp only [U4,Bool.or_eq_true,decide_eq_true_eq,Bool.not_eq_true',not_or,Bool.not_eq_false] at b
  exact ⟨by omega,(Z1p l m).1 b.2,d⟩
 cases h
structure Z58 (f:List Nat) (m:Nat) (l:List Nat):Prop where
 len:l.length=f.length
 le:∀a∈l,a≤m
 sup:∀ (i a b:Nat),l[i]?=some a→f[i]?=some b→(0 < a↔0 < b)
 sum:kr l=0∧U2 f=0∨kr l=32768∨kr l=16384∧(M0 l).count 1=1
theorem W6i:∀ (l f:List Nat),l.length=f.length→(∀ (i a b:Nat),l[i]?=some a→f[i]?=some b→a=if 0 < b then 1 else 0)→kr l=16384*U2 f∧(M0 l).count 1=U2 f∧∀a∈l,a≤1
 | [],[],_,_=>⟨rfl,rfl,fun _ h=>by cases h⟩
 | [],_::_,h,_=>by simp at h
 | _::_,[],h,_=>by simp at h
 | a::l,b::f,h,hh=>by
  obtain ⟨h1,h2,h3⟩:=W6i l f (by simpa using h) fun i x y hx hy=>hh (i+1) x y hx hy
  have h0:=hh 0 a b rfl rfl
  have e:(M0 (a::l)).count 1=(M0 l).count 1+(if a=1 then 1 else 0):=by
   simp only [M0,List.map_cons,List.count_cons,beq_iff_eq]
   congr 1
   by_cases c:a=1
   ·subst c;rfl
   rw [if_neg (by omega),if_neg c]
  rw [kr,U2,h1,e,h2]
  by_cases c:0 < b
  ·rw [if_pos c] at h0⊢
   subst h0
   rw [show wtN 1=16384 by decide,if_pos rfl]
   exact ⟨by omega,by omega,fun x hx=>by rcases List.mem_cons.1 hx with rfl | hx;exact T00 _;exact h3 x hx⟩
  rw [if_neg c] at h0⊢
  subst h0
  rw [Y60,if_neg (by decide)]
  exact ⟨by omega,by omega,fun x hx=>by rcases List.mem_cons.1 hx with rfl | hx;exact T0b _;exact h3 x hx⟩
theorem Y42.for {f l:List Nat} {m:Nat} (h:Y42 f m l) (hm:1≤m):Z58 f m l:=by
 by_cases j:U2 f < 2
 ·obtain ⟨k,n,o⟩:=W6i l f h.len (h.few j)
  refine ⟨h.len,fun a ha=>T0f (o a ha) hm,fun i a b ha hb=> ?_, ?_⟩
  ·have:=h.few j i a b ha hb
   rw [this]
   split <;> omega
  have d:U2 f=0∨U2 f=1:=by omega
  rcases d with d | d
  ·exact .inl ⟨by rw [k,d],d⟩
  exact .inr (.inr ⟨by rw [k,d],by rw [n,d]⟩)
 have g:=(h.best (by omega)).good
 exact ⟨g.len,g.le,g.sup,.inr (.inl g.whole)⟩
section
variable {f l:List Nat} {m:Nat}
theorem Z58.all (h:Z58 f m l):∀a∈M0 l,0≤a∧a≤(m:Int):=fun a ha=>by
 obtain ⟨n,hn,rfl⟩:=List.mem_map.1 ha
 have:=h.le n hn
 exact ⟨T0p _,by omega⟩
theorem Z58.check (h:Z58 f m l) (hm:1≤m) (hm2:m≤15) (hf:f.length≤288):D0 (M0 l) (m:Int)=0:=by
 refine Y8c hm hm2 (by rw [K9,h.len];exact hf) h.all ?_
 have e:F4 (M0 l)=kr l:=V5p l
 rw [e]
 rcases h.sum with h1 | h1 | h1
 ·exact .inl h1.1
 ·exact .inr (.inl h1)
 exact .inr (.inr h1)
theorem Z58.has (h:Z58 f m l) {k b:Nat} (hb:f[k]?=some b) (h0:0 < b):L4 (M0 l) k:=by
 have a:k < l.length:=by rw [h.len];exact (List.getElem?_eq_some_iff.1 hb).1
 refine ⟨((l[k]:Nat):Int),by rw [V0j,T02 a];rfl, ?_⟩
 have:=(h.sup k l[k] b (T02 a) hb).2 h0
 omega
end
def Z12 (l:List Int) (least:Nat):Nat→Nat
 | 0=>0
 | n+1=>if least < n+1∧l[n]?.getD 0=0 then Z12 l least n else n+1
def Z6w (l:List Int) (least:Nat):List Int:=l.take (Z12 l least l.length)
section
variable {l:List Int} {least:Nat}
theorem Z3r:∀n,Z12 l least n≤n
 | 0=>T00 _
 | n+1=>by unfold Z12;have:=Z3r n;split <;> omega
theorem Y0t:∀n,least≤n→least≤Z12 l least n
 | 0,h=>h
 | n+1,h=>by
  unfold Z12
  split
  ·exact Y0t n (by omega)
  exact h
theorem Z5v:∀n k,Z12 l least n≤k→k < n→l[k]?.getD 0=0
 | 0,k,_,h=>by omega
 | n+1,k,h,h2=>by
  unfold Z12 at h
  split at h
  ·rename_i hc
   by_cases e:k=n
   ·subst e;exact hc.2
   exact Z5v n k h (by omega)
  omega
theorem Z39:(Z6w l least).length=Z12 l least l.length:=by
 have:=Z3r (l:=l) (least:=least) l.length
 simp [Z6w];omega
theorem V0s (k:Nat):(Z6w l least)[k]?.getD 0=l[k]?.getD 0:=by
 unfold Z6w
 rw [T0g]
 split
 ·rfl
 rename_i h
 by_cases a:k < l.length
 ·exact (Z5v (least:=least) l.length k (by omega) a).symm
 rw [T0a (by omega)]
theorem X49 {k:Nat} (h:L4 l k):L4 (Z6w l least) k:=by
 obtain ⟨a,f,g⟩:=h
 have d:=V0s (l:=l) (least:=least) k
 rw [f] at d
 cases e:(Z6w l least)[k]? with
 | none=>rw [e] at d;simp at d;omega
 | some b=>rw [e] at d;simp at d;exact ⟨b,e,by omega⟩
theorem X97 (l:List Int) (least:Nat):∃z,l=Z6w l least++T03 z 0:=by
 refine ⟨l.length-Z12 l least l.length, ?_⟩
 have d:l.drop (Z12 l least l.length)=T03 (l.length-Z12 l least l.length) 0:=by
  refine T0i fun j=> ?_
  rw [T0q,T0j]
  by_cases b:j < l.length-Z12 l least l.length
  ·rw [if_pos b]
   have a:=Z5v (l:=l) (least:=least) l.length (Z12 l least l.length+j) (by omega) (by omega)
   rw [T02 (by omega)] at a⊢
   simp at a
   rw [a]
  rw [if_neg b,T0a (by omega)]
 conv=>lhs;rw [←T08 (Z12 l least l.length) l,d]
 rfl
theorem Y3o:∀z:Nat,F4 (T03 z 0)=0
 | 0=>rfl
 | z+1=>by
  rw [List.replicate_succ,sum_cons,Y3o z]
  decide
theorem Y6c {m:Nat} (h:D0 l (m:Int)=0) (hm:1≤m) (hm2:m≤15):D0 (Z6w l least) (m:Int)=0:=by
 obtain ⟨n,k,d⟩:=Z0o h
 obtain ⟨z,f⟩:=X97 l least
 have g:(Z6w l least).length≤l.length:=by rw [Z39];exact Z3r _
 have b:∀a∈Z6w l least,a∈l:=fun a ha=>List.mem_of_mem_take ha
 have i:F4 l=F4 (Z6w l least):=by
  have e:F4 l=F4 (Z6w l least++T03 z 0):=congrArg F4 f
  rw [e]
  show tot _ 15=tot _ 15
  rw [Y5x]
  have:=Y3o z
  unfold F4 at this
  rw [this,Nat.add_zero]
 have j:l.count 1=(Z6w l least).count 1:=by
  have e:l.count 1=(Z6w l least++T03 z 0).count 1:=congrArg (List.count 1) f
  rw [e,List.count_append,T0r]
  simp
 rw [i,j] at d
 exact Y8c hm hm2 (by omega) (fun a ha=>k a (b a ha)) d
end
def N8 (v:Int):List Int→Nat
 | []=>0
 | a::r=>if a=v then N8 v r+1 else 0
theorem Y1b (v:Int):∀l:List Int,N8 v l≤l.length
 | []=>T00 _
 | a::r=>by unfold N8;have:=Y1b v r;split <;> simp <;> omega
theorem Y3m (v:Int):∀ (l:List Int) (k:Nat),k < N8 v l→l[k]?=some v
 | [],k,h=>by simp [N8] at h
 | a::r,k,h=>by
  unfold N8 at h
  split at h
  ·rename_i e
   cases k with
   | zero=>rw [T0s,e]
   | succ k=>exact Y3m v r k (by omega)
  omega
theorem Y6b (v:Int):∀ (l:List Int) (a:Int),l[N8 v l]?=some a→a≠v
 | [],_,h=>by simp at h
 | b::r,a,h=>by
  unfold N8 at h
  split at h
  ·rw [List.getElem?_cons_succ] at h;exact Y6b v r a h
  rename_i e
  rw [T0s,Option.some.injEq] at h
  rw [←h];exact e
theorem W5e {v:Int} {l:List Int} (h:l[0]?=some v):1≤N8 v l:=by
 cases l with
 | nil=>cases h
 | cons a r=>
  simp at h
  unfold N8
  rw [if_pos h];omega
abbrev Y0:=Nat×Nat×Nat
def U7 (all:List Int) (a:Nat):Y0×Nat:=
 if all[a]?.getD 0=0∧11≤N8 (all[a]?.getD 0) (all.drop a) then ((18,7,min (N8 (all[a]?.getD 0) (all.drop a)) 138-11),min (N8 (all[a]?.getD 0) (all.drop a)) 138)
 else if all[a]?.getD 0=0∧3≤N8 (all[a]?.getD 0) (all.drop a) then ((17,3,min (N8 (all[a]?.getD 0) (all.drop a)) 10-3),min (N8 (all[a]?.getD 0) (all.drop a)) 10)
 else if 0 < a∧all[a-1]?.getD 0=all[a]?.getD 0∧3≤N8 (all[a]?.getD 0) (all.drop a) then ((16,2,min (N8 (all[a]?.getD 0) (all.drop a)) 6-3),min (N8 (all[a]?.getD 0) (all.drop a)) 6)
 else (((all[a]?.getD 0).toNat,0,0),1)
def U9 (all:List Int):Nat→Nat→List Y0
 | 0,_=>[]
 | f+1,a=>if a < all.length then (U7 all a).1::U9 all f (a+(U7 all a).2) else []
def Y7i (hd:List Int) (x:Y0):List Nat:=E0 hd x.1++A9 x.2.1 x.2.2
section
variable {all:List Int}
theorem Y6e {a:Nat} (h:a < all.length):1≤(U7 all a).2∧a+(U7 all a).2≤all.length:=by
 have b:=Y1b (all[a]?.getD 0) (all.drop a)
 rw [T0c] at b
 unfold U7
 split
 ·simp only;omega
 split
 ·simp only;omega
 split
 ·simp only;omega
 simp only;omega
theorem W57 (hA:∀x∈all,0≤x∧x≤15) (a:Nat):(U7 all a).1.1 < 19∧(U7 all a).1.2.1≤7∧(U7 all a).1.2.2 < 2^(U7 all a).1.2.1:=by
 unfold U7
 split
 ·simp only;omega
 split
 ·simp only;omega
 split
 ·simp only;omega
 refine ⟨?_,T0b _,Nat.lt_succ_self 0⟩
 show (all[a]?.getD 0).toNat < 19
 cases e:all[a]? with
 | none=>decide
 | some v=>have:=hA v (T07 e);show v.toNat < 19;omega
theorem Z47 (hA:∀x∈all,0≤x∧x≤15):∀f a,∀x∈U9 all f a,x.1 < 19∧x.2.1≤7∧x.2.2 < 2^x.2.1
 | 0,_,x,h=>by cases h
 | f+1,a,x,h=>by
  unfold U9 at h
  split at h
  ·rcases List.mem_cons.1 h with rfl | h
   ·exact W57 hA a
   exact Z47 hA f _ x h
  cases h
theorem Z2z:∀f a,(U9 all f a).length≤f
 | 0,_=>T00 _
 | f+1,a=>by
  unfold U9
  split
  ·rw [T0e];have:=Z2z f (a+(U7 all a).2);omega
  exact T0b _
theorem Y0s {a n:Nat} {v:Int} (h:n≤N8 v (all.drop a)):all.take a++T03 n v=all.take (a+n):=by
 rw [List.take_add]
 congr 1
 refine T0i fun j=> ?_
 rw [T0j,T0g]
 by_cases b:j < n
 ·rw [if_pos b,if_pos b,Y3m v _ j (by omega)]
 rw [if_neg b,if_neg b]
theorem Y6g {hd:List Int} (hA:∀x∈all,0≤x∧x≤15):∀f a,a≤all.length→all.length-a≤f→(∀x∈U9 all f a,L4 hd x.1)→V6 hd (all.take a) ((U9 all f a).flatMap (Y7i hd)) all
 | 0,a,h1,h2,_=>by
  have e:all.take a=all:=T0t (by omega)
  rw [e]
  exact .done all
 | f+1,a,h1,h2,hs=>by
  unfold U9 at hs⊢
  by_cases h:a < all.length
  rotate_left
  ·rw [if_neg h]
   have e:all.take a=all:=T0t (by omega)
   rw [e]
   exact .done all
  rw [if_pos h] at hs⊢
  obtain ⟨g1,g2⟩:=Y6e h
  have ih:=Y6g hA f (a+(U7 all a).2) g2 (by omega) fun x hx=>hs x (T05 _ hx)
  have hs1:=hs _ (T04 ..)
  rw [T0u]
  generalize hR:(U9 all f (a+(U7 all a).2)).flatMap (Y7i hd)=R at ih⊢
  have hv:all[a]?=some (all[a]?.getD 0):=by rw [T02 h];rfl
  have hvm:=hA _ (T07 hv)
  generalize hvv:all[a]?.getD 0=v at hv hvm
  have hrun:(all.drop a)[0]?=some v:=by rw [T0q];exact hv
  have hpos:=W5e hrun
  unfold U7 at ih hs1⊢
  rw [hvv] at ih hs1⊢
  unfold Y7i
  split
  ·rename_i c
   rw [if_pos c] at ih hs1
   obtain ⟨rfl,c2⟩:=c
   have e:=Y0s (all:=all) (a:=a) (n:=min (N8 0 (all.drop a)) 138) (v:=0) (by omega)
   rw [←e] at ih
   have hm:11+(min (N8 0 (all.drop a)) 138-11)=min (N8 0 (all.drop a)) 138:=by omega
   simp only [T09]
   refine .many _ _ _ _ (by omega) hs1 ?_
   rw [hm];exact ih
  rename_i c
  rw [if_neg c] at ih hs1
  split
  ·rename_i c1
   rw [if_pos c1] at ih hs1
   obtain ⟨rfl,c2⟩:=c1
   have e:=Y0s (all:=all) (a:=a) (n:=min (N8 0 (all.drop a)) 10) (v:=0) (by omega)
   rw [←e] at ih
   have hm:3+(min (N8 0 (all.drop a)) 10-3)=min (N8 0 (all.drop a)) 10:=by omega
   simp only [T09]
   refine .zeros _ _ _ _ (by omega) hs1 ?_
   rw [hm];exact ih
  rename_i c1
  rw [if_neg c1] at ih hs1
  split
  ·rename_i c2
   rw [if_pos c2] at ih hs1
   obtain ⟨c3,c4,c5⟩:=c2
   have e:=Y0s (all:=all) (a:=a) (n:=min (N8 v (all.drop a)) 6) (v:=v) (by omega)
   rw [←e] at ih
   have hm:3+(min (N8 v (all.drop a)) 6-3)=min (N8 v (all.drop a)) 6:=by omega
   simp only [T09]
   refine .same _ v _ _ _ ?_ (by omega) hs1 ?_
   ·rw [List.getLast?_eq_getElem?,T0g,T0k,if_pos (by omega),show min a all.length-1=a-1 by omega]
    rw [T02 (by omega)] at c4⊢
    simp at c4
    rw [c4]
   rw [hm];exact ih
  rename_i c2
  rw [if_neg c2] at ih hs1
  have e:=Y0s (all:=all) (a:=a) (n:=1) (v:=v) (by omega)
  rw [←e] at ih
  have hz:A9 0 0=[]:=rfl
  simp only [hz,List.append_nil]
  refine .one _ _ _ _ (by omega) hs1 ?_
  have e2:((v.toNat:Nat):Int)=v:=by omega
  rw [e2]
  exact ih
end
def S1 (Ln:List Nat→Nat→List Nat):Prop:=∀ (f:List Nat) (m:Nat),f.length≤288→1≤m→m≤15→U2 f≤2^m→Y42 f m (Ln f m)
def Y8q (d:List Int):List Int:=if F4 d=0 then d.set 0 1 else d
def K3 (Ln:List Nat→Nat→List Nat) (l:List E3):List Int:=Z6w (M0 (Ln (Z1i l) 15)) 257
def K2 (Ln:List Nat→Nat→List Nat) (l:List E3):List Int:=Z6w (Y8q (M0 (Ln (Z0y l) 15))) 1
def G4 (lit dist:List Int):List Y0:=U9 (lit++dist) (lit++dist).length 0
def Z6y (xs:List Y0) (k:Nat):Nat:=xs.countP fun x=>decide (x.1=k)
def Z10 (xs:List Y0):List Nat:=(T06 19).map (Z6y xs)
def Y7 (Ln:List Nat→Nat→List Nat) (xs:List Y0):List Int:=M0 (Ln (Z10 xs) 7)
def W4 (hd:List Int):List Int:=M5.map fun s=>hd[s]?.getD 0
def Z2j (hd:List Int):Nat:=Z12 (W4 hd) 4 19
def Z00 (hd:List Int) (xs:List Y0):List Nat:=xs.flatMap (Y7i hd)
def Z60 (lit dist hd:List Int) (xs:List Y0):List Nat:=U6 lit dist hd (Z2j hd) (Z00 hd xs)
def I0 (Ln:List Nat→Nat→List Nat) (kind:Nat) (l:List E3) (raw:List Nat) (a:Nat):List Nat:=
 if kind=0 then G6 a raw
 else if kind=1 then Q3 I5 G7 l
 else Z60 (K3 Ln l) (K2 Ln l) (Y7 Ln (G4 (K3 Ln l) (K2 Ln l))) (G4 (K3 Ln l) (K2 Ln l))++Q3 (K3 Ln l) (K2 Ln l) l
theorem Z30:∀l:List Nat,U2 l≤l.length
 | []=>T00 _
 | a::l=>by rw [U2,T0e];have:=Z30 l;split <;> omega
section
variable {Ln:List Nat→Nat→List Nat} {l:List E3}
theorem X2k (H:S1 Ln) (l:List E3):Z58 (Z1i l) 15 (Ln (Z1i l) 15):=
 (H (Z1i l) 15 (by rw [N6];decide) (by decide) (by decide) (T0f (Z30 _) (by rw [N6];decide))).for (by decide)
theorem X3h (H:S1 Ln) (l:List E3):Z58 (Z0y l) 15 (Ln (Z0y l) 15):=
 (H (Z0y l) 15 (by rw [N4];decide) (by decide) (by decide) (T0f (Z30 _) (by rw [N4];decide))).for (by decide)
theorem W0 (xs:List Y0):(Z10 xs).length=19:=by simp [Z10]
theorem Y1s (xs:List Y0) {k:Nat} (h:k < 19):(Z10 xs)[k]?=some (Z6y xs k):=by simp [Z10,h]
theorem X2z (xs:List Y0) (k:Nat):Z6y xs k≤xs.length:=T0h
theorem Y1i (H:S1 Ln) (xs:List Y0):Z58 (Z10 xs) 7 (Ln (Z10 xs) 7):=
 (H (Z10 xs) 7 (by rw [W0];decide) (by decide) (by decide) (T0f (Z30 _) (by rw [W0];decide))).for (by decide)
theorem W0l (H:S1 Ln) (l:List E3):D0 (M0 (Ln (Z1i l) 15)) 15=0:=(X2k H l).check (by decide) (by decide) (by rw [N6];decide)
theorem Z2m (H:S1 Ln) (l:List E3):D0 (K3 Ln l) 15=0:=Y6c (m:=15) (W0l H l) (by decide) (by decide)
theorem W5m {l:List Int} (h:∀a∈l,a=0) (hl:0 < l.length):l.set 0 1=1::T03 (l.length-1) 0:=by
 match l,hl with
 | a::r,_=>
  show 1::r=_
  congr 1
  exact List.eq_replicate_iff.2 ⟨by simp,fun b hb=>h b (T05 _ hb)⟩
theorem X33 {l:List Int} (hh:∀a∈l,0≤a∧a≤15) (hs:F4 l=0):∀a∈l,a=0:=by
 intro a d
 obtain ⟨i,g⟩:=List.getElem?_of_mem d
 have k:=hh a d
 refine Classical.byContradiction fun hne=> ?_
 obtain ⟨n,j⟩:∃n:Nat,a=((n+1:Nat):Int):=⟨a.toNat-1,by omega⟩
 subst j
 have b:=Y30 l i n g (by omega)
 have m:=Z72 l (n+1) 15 (by omega)
 have f:1≤2^(14-n):=Nat.one_le_two_pow
 unfold F4 at hs
 generalize 2^(14-n)=z at b f
 generalize G0 l i*z=y at b
 omega
theorem Z9o {d:List Int} (h:D0 d 15=0) (hl:1≤d.length):D0 (Y8q d) 15=0∧(Y8q d).length=d.length∧∀k,L4 d k→Y8q d=d:=by
 obtain ⟨g,f,i⟩:=Z0o (m:=15) h
 unfold Y8q
 by_cases c:F4 d=0
 ·rw [if_pos c]
  have b:=X33 f c
  refine ⟨?_,by simp,fun k ⟨a,ha,ha0⟩=>by have:=b a (T07 ha);omega⟩
  rw [W5m b hl]
  refine Y8c (m:=15) (by decide) (by decide) (by simp;omega) (fun a ha=> ?_) (.inr (.inr ⟨?_, ?_⟩))
  ·rcases List.mem_cons.1 ha with rfl | ha
   ·decide
   rw [List.eq_of_mem_replicate ha];decide
  ·rw [sum_cons,Y3o];decide
  rw [List.count_cons,T0r];simp
 rw [if_neg c]
 exact ⟨h,rfl,fun _ _=>rfl⟩
theorem Y0i (H:S1 Ln) (l:List E3):D0 (M0 (Ln (Z0y l) 15)) 15=0:=(X3h H l).check (by decide) (by decide) (by rw [N4];decide)
theorem Z7j (H:S1 Ln) (l:List E3):(M0 (Ln (Z0y l) 15)).length=30:=by rw [K9,(X3h H l).len,N4]
theorem X5w (H:S1 Ln) (l:List E3):(M0 (Ln (Z1i l) 15)).length=286:=by rw [K9,(X2k H l).len,N6]
theorem X9l (H:S1 Ln) (l:List E3):D0 (Y8q (M0 (Ln (Z0y l) 15))) 15=0:=(Z9o (Y0i H l) (by rw [Z7j H l];decide)).1
theorem X3r (H:S1 Ln) (l:List E3):(Y8q (M0 (Ln (Z0y l) 15))).length=30:=by rw [(Z9o (Y0i H l) (by rw [Z7j H l];decide)).2.1,Z7j H l]
theorem Z2t (H:S1 Ln) (l:List E3):D0 (K2 Ln l) 15=0:=Y6c (m:=15) (X9l H l) (by decide) (by decide)
theorem Y58 (H:S1 Ln) (l:List E3):∀a∈K3 Ln l,0≤a∧a≤15:=(Z0o (m:=15) (Z2m H l)).2.1
theorem Y5d (H:S1 Ln) (l:List E3):∀a∈K2 Ln l,0≤a∧a≤15:=(Z0o (m:=15) (Z2t H l)).2.1
theorem Y54 (H:S1 Ln) (l:List E3):257≤(K3 Ln l).length∧(K3 Ln l).length≤286:=by
 have h:=X5w H l
 unfold K3
 rw [Z39,h]
 exact ⟨Y0t _ (by decide),Z3r _⟩
theorem Y50 (H:S1 Ln) (l:List E3):1≤(K2 Ln l).length∧(K2 Ln l).length≤30:=by
 have h:=X3r H l
 unfold K2
 rw [Z39,h]
 exact ⟨Y0t _ (by decide),Z3r _⟩
theorem X2v (H:S1 Ln) {l:List E3} {k:Nat} (hk:k < 286) (h:0 < Z5o l k):L4 (K3 Ln l) k:=X49 ((X2k H l).has (X79 l hk) h)
theorem V46 (H:S1 Ln) {l:List E3} {k:Nat} (hk:k < 30) (h:0 < Z5n l k):L4 (K2 Ln l) k:=by
 have a:=(X3h H l).has (X5p l hk) h
 unfold K2
 rw [(Z9o (Y0i H l) (by rw [Z7j H l];decide)).2.2 k a]
 exact X49 a
theorem Y5p (H:S1 Ln) {l:List E3} (hs:∀t∈l,E9 t=true) (hb:O3 l):X2b (K3 Ln l) (K2 Ln l) l:=
 ⟨X2v H (by decide) (X5i l),fun t ht=>⟨X2v H (Y1v (hs t ht) (hb t ht)) (V10 ht),fun h0=>V46 H (Z6h (hs t ht) h0).1 (V0n ht h0)⟩⟩
theorem Y5j:∀k,k < 288→L4 I5 k:=by
 intro k a
 have h:I5[k]?=some (Z4d k):=by simp [I5,a]
 refine ⟨_,h, ?_⟩
 unfold Z4d
 repeat (first | decide | split)
theorem Y5y {l:List E3} (hs:∀t∈l,E9 t=true) (hb:O3 l):X2b I5 G7 l:=
 ⟨Y5j 256 (by decide),fun t ht=>⟨Y5j _ (by have:=Y1v (hs t ht) (hb t ht);omega),fun h0=>by
  have:=(Z6h (hs t ht) h0).1
  exact ⟨5,by unfold G7;rw [T0j,if_pos (by omega)],by decide⟩⟩⟩
theorem Y37 (H:S1 Ln) (xs:List Y0):(Y7 Ln xs).length=19:=by unfold Y7;rw [K9,(Y1i H xs).len,W0]
theorem Z56 (H:S1 Ln) (xs:List Y0):D0 (Y7 Ln xs) 7=0:=(Y1i H xs).check (by decide) (by decide) (by rw [W0];decide)
theorem Z5w (H:S1 Ln) (xs:List Y0):∀a∈Y7 Ln xs,0≤a∧a≤7:=(Y1i H xs).all
theorem Y3b (H:S1 Ln) {xs:List Y0} {x:Y0} (h:x∈xs) (hx:x.1 < 19):L4 (Y7 Ln xs) x.1:=
 (Y1i H xs).has (Y1s xs hx) (List.countP_pos_iff.2 ⟨x,h,by simp⟩)
theorem Z6e (hd:List Int):(W4 hd).length=19:=by simp [W4];rfl
theorem Z8u (hd:List Int) {i:Nat} (h:i < 19):(W4 hd)[i]?=some (hd[F8 i]?.getD 0):=by
 unfold W4 F8
 have:i < M5.length:=h
 rw [T0v,T02 this];rfl
theorem X0r:∀j,j < 19→∃i,i < 19∧F8 i=j:=by
 intro j a
 have h:∀j,j < 19→(T06 19).any (fun i=>decide (F8 i=j))=true:=by decide+kernel
 obtain ⟨i,b,e⟩:=List.any_eq_true.1 (h j a)
 exact ⟨i,List.mem_range.1 b,of_decide_eq_true e⟩
theorem W3f {i c:Nat} (h:i < c) (hi:i < 19):F8 i∈M5.take c:=by
 have a:i < M5.length:=hi
 have e:M5[i]?=some (F8 i):=by unfold F8;rw [T02 a];rfl
 refine T07 (i:=i) ?_
 rw [T0g,if_pos h,e]
theorem W67 {hd:List Int} (hl:hd.length=19):Z4x hd (Z2j hd)=hd:=by
 refine T0i fun j=> ?_
 unfold Z4x
 by_cases f:j < 19
 ·rw [T0v,List.getElem?_range f]
  have g:hd[j]?=some (hd[j]?.getD 0):=by rw [T02 (by omega)];rfl
  rw [g]
  simp only [Option.map_some,Option.some.injEq]
  split
  ·rfl
  rename_i a
  obtain ⟨i,b,e⟩:=X0r j f
  have k:Z2j hd≤i:=by
   refine Classical.byContradiction fun h=>a ?_
   rw [←e]
   exact W3f (by omega) b
  have d:=Z5v (l:=W4 hd) (least:=4) 19 i k b
  rw [Z8u hd b,e] at d
  exact d.symm
 rw [T0a (by simp;omega),T0a (by omega)]
theorem V1s {hd:List Int} {k:Nat} (hk:k < 19) (h:L4 hd k):∃i,i < Z2j hd∧0 < hd[F8 i]?.getD 0:=by
 obtain ⟨i,d,e⟩:=X0r k hk
 obtain ⟨a,g,j⟩:=h
 have f:0 < hd[F8 i]?.getD 0:=by rw [e,g];exact j
 refine ⟨i,Classical.byContradiction fun hc=> ?_,f⟩
 have b:=Z5v (l:=W4 hd) (least:=4) 19 i (by unfold Z2j at hc;omega) d
 rw [Z8u hd d] at b
 have m:hd[F8 i]?.getD 0=0:=b
 omega
theorem Y5a {lit dist:List Int} (h1:∀a∈lit,0≤a∧a≤15) (h2:∀a∈dist,0≤a∧a≤15):∀a∈lit++dist,0≤a∧a≤15:=fun a ha=>(List.mem_append.1 ha).elim (h1 a) (h2 a)
theorem W3g {l:List Int} {m:Nat} (h:D0 l (m:Int)=0):F4 l≤32768:=by have:=(Z0o h).2.2;omega
theorem W62 (H:S1 Ln) (l:List E3):Y6h (K3 Ln l) (K2 Ln l) (Y7 Ln (G4 (K3 Ln l) (K2 Ln l))) (Z2j (Y7 Ln (G4 (K3 Ln l) (K2 Ln l)))) (Z00 (Y7 Ln (G4 (K3 Ln l) (K2 Ln l))) (G4 (K3 Ln l) (K2 Ln l))):=by
 have i:=Y5a (Y58 H l) (Y5d H l)
 have j:=Y54 H l
 have hd:=Y50 H l
 have b:=Z47 i (K3 Ln l++K2 Ln l).length 0
 have o:=Y37 H (G4 (K3 Ln l) (K2 Ln l))
 have k:0 < (K3 Ln l++K2 Ln l).length:=by rw [T01];omega
 have g:∃x,x∈G4 (K3 Ln l) (K2 Ln l):=by
  unfold G4
  obtain ⟨n,q⟩:∃n,(K3 Ln l++K2 Ln l).length=n+1:=⟨(K3 Ln l++K2 Ln l).length-1,by omega⟩
  rw [q,U9,if_pos (by omega)]
  exact ⟨_,T04 ..⟩
 obtain ⟨x,g⟩:=g
 have d:=(b x g).1
 have f:L4 (K3 Ln l) 256:=X2v H (by decide) (X5i l)
 have p:=Y6g (hd:=Y7 Ln (G4 (K3 Ln l) (K2 Ln l))) i (K3 Ln l++K2 Ln l).length 0 (T0b _) (by omega) fun y hy=>Y3b H hy (b y hy).1
 exact {
  a1:=j.1
  a2:=j.2
  b1:=hd.1
  b2:=hd.2
  c1:=Y0t _ (by decide)
  c2:=Z3r _
  h7:=Z5w H _
  part:=W67 o
  check:=Z56 H _
  sum:=W3g (m:=7) (Z56 H _)
  any:=V1s d (Y3b H g d)
  lens:=p
  lit15:=Z2m H l
  dist15:=Z2t H l
  stop:=by
   obtain ⟨a,r,s⟩:=f
   rw [r]
   show a≠0
   omega}
theorem W6e (H:S1 Ln) (kind:Nat) (l:List E3) (raw:List Nat) (a:Nat) (hm:kind=0∧raw.length≤65535∨(kind=1∨kind=2)∧(∀t∈l,E9 t=true)) (hb:O3 l) (hr:∀b∈raw,b < 256):P6 l raw a kind (I0 Ln kind l raw a):=by
 rcases hm with ⟨rfl,h2⟩ | ⟨rfl | rfl,h2⟩
 ·exact .stored hr h2
 ·exact .fixed _ (Y5m h2 hb (Y5y h2 hb))
 exact .dynamic _ _ _ _ _ _ (W62 H l) (Y5m h2 hb (Y5p H h2 hb))
theorem Z4t (a:Nat) (raw:List Nat):(G6 a raw).length=V9 a-a+32+8*raw.length:=by
 unfold G6
 simp only [T01,List.length_replicate,B5,E1];omega
theorem Y2b (hd:List Int) (x:Y0):(Y7i hd x).length=Z6s hd x.1+x.2.1:=by unfold Y7i;rw [T01,R8,B5]
theorem Z1x {hd:List Int} (h7:∀a∈hd,0≤a∧a≤7):∀ {xs:List Y0},(∀x∈xs,x.2.1≤7)→(Z00 hd xs).length≤14*xs.length
 | [],_=>T00 _
 | x::xs,h=>by
  have ih:=Z1x h7 (xs:=xs) fun y hy=>h y (T05 _ hy)
  unfold Z00 at ih⊢
  have h1:=Z43 (m:=7) h7 x.1
  have h2:=h x (T04 ..)
  rw [T0u,T01,Y2b,T0e];omega
theorem Z3s (lit dist hd:List Int) (xs:List Y0):(Z60 lit dist hd xs).length=14+3*Z2j hd+(Z00 hd xs).length:=by
 unfold Z60 U6
 simp only [T01,B5,S5];omega
theorem Y66 (H:S1 Ln) (kind:Nat) (l:List E3) (raw:List Nat) (a:Nat) (hm:kind=0∧raw.length≤65535∨(kind=1∨kind=2)∧(∀t∈l,E9 t=true)):(I0 Ln kind l raw a).length < 1000000+100*l.length:=by
 rcases hm with ⟨rfl,h2⟩ | ⟨rfl | rfl,h2⟩
 ·show (G6 a raw).length < _
  rw [Z4t]
  have:=X6k a
  omega
 ·show (Q3 I5 G7 l).length < _
  have:=Z3d (Z0o (m:=15) Z11.1).2.1 (Z0o (m:=15) Z11.2).2.1 h2
  omega
 show (Z60 _ _ _ _++Q3 _ _ _).length < _
 have g:=Z3d (Y58 H l) (Y5d H l) h2
 have b:=Y5a (Y58 H l) (Y5d H l)
 have i:=Z1x (Z5w H (G4 (K3 Ln l) (K2 Ln l))) (xs:=G4 (K3 Ln l) (K2 Ln l)) fun x hx=>(Z47 b _ _ x hx).2.1
 have d:=Z2z (all:=K3 Ln l++K2 Ln l) (K3 Ln l++K2 Ln l).length 0
 have j:=Y54 H l
 have k:=Y50 H l
 have n:Z2j (Y7 Ln (G4 (K3 Ln l) (K2 Ln l)))≤19:=Z3r _
 have o:(K3 Ln l++K2 Ln l).length=(K3 Ln l).length+(K2 Ln l).length:=T01
 have f:(G4 (K3 Ln l) (K2 Ln l)).length≤(K3 Ln l++K2 Ln l).length:=d
 rw [T01,Z3s]
 omega
theorem X7t (kind:Nat) (l:List E3) (raw:List Nat) (a b:Nat) (h:a%8=b%8):I0 Ln kind l raw a=I0 Ln kind l raw b:=by
 unfold I0
 rw [Y7o h raw]
end
end Go.Proofs.YtbkbkmgogbgofaaGreatDoor
