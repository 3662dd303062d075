/- The claim's texts, put together and shortened by a program (names, spaces). -/
import Derived.Test.YtbkbkmgogbgofaaGreatDoorZk12
import Derived.Test.YtbkbkmgogbgofaaGreatDoorZk05
import Derived.Test.YtbkbkmgogbgofaaGreatDoorZk06
open List renaming length_append→T00,replicate→T01,drop_left→T03,length_replicate→T04,take_left'→T05,mem_of_getElem?→T07,length_cons→T09,getElem?_eq_none→T0a
open Nat renaming add_assoc→T02,mod_eq_of_lt→T06,le_refl→T08
namespace Go.Proofs.YtbkbkmgogbgofaaGreatDoor
set_option maxRecDepth 100000
set_option maxHeartbeats 6400000
open Go.RowKit
theorem Y71:[T01 144 (8:Int),T01 112 9,T01 24 7,T01 8 8].flatten=I5:=by decide+kernel
theorem Rd.lit1 (w:World) (v:Value) (e:TypeId):Rd (w.alloc (.cells #[v] e)) 1 (.slice (some ⟨w.heap.size,0,none⟩) 1 1) 1 [v]:=Rd.lit w [v] e 1 1 (by decide) rfl
section
variable {w0 w:World} {Rs:List A6}
theorem Y2y (h:A4 w0 w Rs) (a:Int) (c:Nat) (hc:1≤c∧c≤144):
  Calls Tryz.prog 127 #[.slice (some ⟨w.heap.size,0,none⟩) 1 1,.int .i64 (c:Int)] (w.alloc (.cells #[.int .i64 a] 3)) fun e w'=>∃ao cap,e= .returned (.slice ao c cap)∧A4 w0 w' (B0 3 1 (.slice ao c cap) c (D3 (T01 c a))::Rs):=
 (X8x _ a c _ (Rd.lit1 w (.int .i64 a) 3) hc).mono fun e w' ⟨v,he,hh⟩=>by
  obtain ⟨ao,cap,rfl,_,_⟩:=hh.own.form
  exact ⟨ao,cap,he,(h.alloc _).pushOwn hh.own hh.mod hh.fresh⟩
theorem Y7w (h:A4 w0 w Rs):
  Calls Tryz.prog 99 #[] w fun e w'=>∃ao cap bo cap2,e= .returned (.tuple #[.slice ao 288 cap,.slice bo 32 cap2])∧A4 w0 w' (B0 3 1 (.slice ao 288 cap) 288 (D3 I5)::B0 3 1 (.slice bo 32 cap2) 32 (D3 G7)::Rs):=by
 have g:=A5 (Y2y h 8 144 (by decide))
 clear h
 go_enter Tryz.func99,Tryz.ntmps99
 go_wp2_with fail
 refine g.out.mono ?_
 rintro e w1 ⟨p,q,rfl,h⟩
 have j:=A5 (Y2y h 9 112 (by decide))
 clear h g
 go_wp2_with fail
 refine j.out.mono ?_
 rintro e w2 ⟨r,s,rfl,h⟩
 have k:=A5 (Y2y h 7 24 (by decide))
 clear h j
 go_wp2_with fail
 refine k.out.mono ?_
 rintro e w3 ⟨t,x,rfl,h⟩
 have m:=A5 (Y2y h 8 8 (by decide))
 clear h k
 go_wp2_with fail
 refine m.out.mono ?_
 rintro e w4 ⟨y,z,rfl,h⟩
 have hL:(D3 (T01 8 (8:Int))).length=8:=rfl
 have a:=h.lit 52 1 [.slice p 144 q,.slice r 112 s,.slice t 24 x,.slice y 8 z] 4 (by decide) rfl
 have d:=A5 (Y43 [.slice p 144 q,.slice r 112 s,.slice t 24 x,.slice y 8 z] [T01 144 (8:Int),T01 112 9,T01 24 7,T01 8 8] _ 4 _ a.own.rd rfl rfl (fun i v l hv hl=>by
  match i,hv,hl with
  | 0,hv,hl=>simp at hv hl;subst hv;subst hl;exact a.drop.drop.drop.drop.own.rd
  | 1,hv,hl=>simp at hv hl;subst hv;subst hl;exact a.drop.drop.drop.own.rd
  | 2,hv,hl=>simp at hv hl;subst hv;subst hl;exact a.drop.drop.own.rd
  | 3,hv,hl=>simp at hv hl;subst hv;subst hl;exact a.drop.own.rd
  | i+4,hv,hl=>simp at hv) (by rw [Y71];decide) (by rw [Y71];decide) (by decide))
 rw [Y71] at d
 have n:=A5 a.drop.drop.drop.drop.drop
 clear m h a
 go_wp2_with fail
 refine d.out.mono ?_
 rintro e w5 ⟨v,rfl,b⟩
 have f:I5.length=288:=by decide
 rw [f] at b
 obtain ⟨a5,k5,rfl,_,_⟩:=b.own.form
 have o:=A5 (Y2y (n.out.pushOwn b.own b.mod b.fresh) 5 32 (by decide))
 clear b d n
 go_wp2_with fail
 refine o.out.mono ?_
 rintro e w6 ⟨a6,k6,rfl,h⟩
 have HE:=A5 h.swap
 clear h o
 go_wp2
 go_ret2
 exact ⟨_,_,_,_,rfl,HE.out⟩
end
section
variable {w0 w:World} {Rs:List A6} {p:C4} {c:DC} {v:Value} {bs l:List Nat} {Ts:List (List Int×Nat)}
theorem X8j (h:A4 w0 w (J9 (J0 p c) v bs l::Z27 Ts::Rs)) (hfx:FxC c Ts):
  Calls Tryz.prog 141 #[.pointer (some ⟨p.b,p.o,none⟩)] w fun e w'=>∃ (t1 t2:Nat) (Ts':List (List Int×Nat)),e= .returned (Y3c (Z05 t1) (Z05 t2))∧
   A4 w0 w' (J9 (J0 p {c with fl:=Z05 t1,fd:=Z05 t2}) v bs l::Z27 Ts'::Rs)∧(I5,t1)∈Ts'∧(G7,t2)∈Ts'∧∀t∈Ts,t∈Ts':=by
 obtain ⟨wv,most,g,lv,st,j,left,k,hA,hB,hC,n,hv,cl,cd,fl,fd,en⟩:=c
 dsimp only
 have m:=(h.newObj [.pointer none,.pointer none] 96).swap
 have z:=A5 m
 have HH:=A5 h
 have q:(w.alloc (.cells #[.pointer none,.pointer none] 96)).cell? ⟨p.b,p.o+18,none⟩=some (.pointer fl):=F0 m 18 _ rfl
 have r:(w.alloc (.cells #[.pointer none,.pointer none] 96)).cell? ⟨p.b,p.o+18+1,none⟩=some (.pointer fd):=F0 m 19 _ rfl
 rcases hfx with ⟨h1,h2⟩ | ⟨t1,t2,h1,h2,y,s⟩
 ·dsimp only at h1 h2
  subst h1 h2
  have HF:=A5 (Y7w m)
  clear h m
  go_enter Tryz.func141,Tryz.ntmps141
  go_wp2_with fail
  with_reducible refine HF.out.mono ?_
  rintro e w2 ⟨a1,k1,a2,k2,rfl,hh⟩
  have HN:=A5 (Y1j _ _ 288 32 I5 G7 w2 hh.own.rd hh.swap.own.rd (by decide) (by decide))
  have H2:=A5 hh.drop.drop
  clear hh HF
  go_wp2_with fail
  with_reducible refine HN.out.mono ?_
  rintro e w3 hn
  obtain ⟨a,d,rfl,y⟩:∃a d,e= .returned (.tuple #[Y3c (some ⟨a,0,none⟩) (some ⟨d,0,none⟩),.int .i64 0])∧A4 w2 w3 [J7 G7 d,J7 I5 a]:=by
   rcases hn with ⟨h1,_⟩ | ⟨_,h1,_⟩ | ⟨_,_,a,d,h1,h2⟩
   ·exact absurd Z9i.1 h1
   ·exact absurd Z9i.2.1 h1
   exact ⟨a,d,h1,h2⟩
  have s:A4 w0 w3 (J7 G7 d::J7 I5 a::J9 (J0 p ⟨wv,most,g,lv,st,j,left,k,hA,hB,hC,n,hv,cl,cd,none,none,en⟩) v bs l::E8 w.heap.size [.pointer none,.pointer none] 96::Z27 Ts::Rs):=A4.frame H2.out y
  have H4:=A5 (s.third)
  clear y s H2 HN hn q r
  go_wp2_with ((with_reducible show wpList _ _ _ (⟨none,.store 96 (.tmp 18) (.tmp 15),_,_,_,_⟩::_) _ _);go_must (refine K4 rfl 96 (.tmp 18) (.tmp 15) rfl H4.out 18 [.pointer (some ⟨a,0,none⟩),.pointer (some ⟨d,0,none⟩)] rfl rfl (by kernel_rfl) rfl ⟨wv,most,g,lv,st,j,left,k,hA,hB,hC,n,hv,cl,cd,some ⟨a,0,none⟩,some ⟨d,0,none⟩,en⟩ rfl ⟨by decide,Nat.le_of_ble_eq_true rfl⟩ ?_);intro w4 f;have H5:=A5 f;have q:w4.cell? ⟨p.b,p.o+18,none⟩=some (.pointer (some ⟨a,0,none⟩)):=F0 f 18 _ rfl;have r:w4.cell? ⟨p.b,p.o+18+1,none⟩=some (.pointer (some ⟨d,0,none⟩)):=F0 f 19 _ rfl;have o0:=f.fourth.obj.cell (i:=0) rfl;have o1:=f.fourth.obj.cell (i:=1) rfl;have g0:=f.fourth.obj.frozen 0;have g1:=f.fourth.obj.frozen 1;clear f)
  have x:=(H5.out.fourth.setObj 0 (.pointer (some ⟨a,0,none⟩))).setObj 1 (.pointer (some ⟨d,0,none⟩))
  refine Z2y rfl _ 2 Tryz.underlying96 rfl (by kernel_rfl) w.heap.size [.pointer (some ⟨a,0,none⟩),.pointer (some ⟨d,0,none⟩)] 96 rfl rfl x.obj rfl ?_
  exact ⟨a,d,(G7,d)::(I5,a)::Ts,rfl,(Z7v (Z7v x.drop.third.fourth.swap).third).swap,by simp,by simp,fun t n=>by simp [n]⟩
 dsimp only at h1 h2
 unfold Z05 at h1 h2
 subst h1 h2
 have o0:=z.out.swap.obj.cell (i:=0) rfl
 have o1:=z.out.swap.obj.cell (i:=1) rfl
 have g0:=z.out.swap.obj.frozen 0
 have g1:=z.out.swap.obj.frozen 1
 have HM:=A5 (And.intro y s)
 clear h m y s
 go_enter Tryz.func141,Tryz.ntmps141
 go_wp2
 have x:=HH.out.newObj [.pointer (some ⟨t1,0,none⟩),.pointer (some ⟨t2,0,none⟩)] 96
 refine Z2y rfl _ 2 Tryz.underlying96 rfl (by kernel_rfl) w.heap.size [.pointer (some ⟨t1,0,none⟩),.pointer (some ⟨t2,0,none⟩)] 96 rfl rfl x.obj rfl ?_
 exact ⟨t1,t2,Ts,rfl,x.drop,HM.out.1,HM.out.2,fun t n=>n⟩
end
section
variable {w0 w:World} {Rs:List A6} {p:C4} {c:DC} {v:Value} {bs l o got:List Nat} {ls:List Int} {Ts:List (List Int×Nat)} {M:Nat}
theorem X63 (h:A4 w0 w (J9 (J0 p c) v bs l::Rs)) (hb:c.last=true):
  Calls Tryz.prog 142 #[.pointer (some ⟨p.b,p.o,none⟩)] w fun e w'=>e= .returned (.int .i64 8)∧w'=w:=by
 have a:w.cell? ⟨p.b,p.o+8,none⟩=some (.bool true):=by rw [←hb];exact F0 h 8 _ rfl
 clear h
 go_enter Tryz.func142,Tryz.ntmps142
 go_wp2
 go_ret
 exact ⟨rfl,rfl⟩
theorem W22 (h:A4 w0 w (J9 (J0 p c) v bs l::Rs)) (hb:c.last=false):
  Calls Tryz.prog 142 #[.pointer (some ⟨p.b,p.o,none⟩)] w fun e w'=>e= .returned (.int .i64 0)∧A4 w0 w' (J9 (J0 p {c with st:=0}) v bs l::Rs):=by
 obtain ⟨i,most,a,j,st,f,left,d,k,m,n,q,r,s,t,fl,x,y⟩:=c
 dsimp only at h hb⊢
 subst hb
 have z:w.cell? ⟨p.b,p.o+8,none⟩=some (.bool false):=F0 h 8 _ rfl
 have c7:w.cell? ⟨p.b,p.o+7,none⟩=some (.int .i64 (st:Int)):=F0 h 7 _ rfl
 have f7:w.frozen? ⟨p.b,p.o+7,none⟩=false:=Y4 h 7
 have g:=A5 h
 clear h
 go_enter Tryz.func142,Tryz.ntmps142
 go_wp2
 go_ret
 exact ⟨rfl,Z2q g.out 7 (.int .i64 0) ⟨i,most,a,j,0,false,left,d,k,m,n,q,r,s,t,fl,x,y⟩ rfl⟩
theorem W03 (h:A4 w0 w (P8 p c v bs l o got ls Ts Rs)) (hi:Z0h M c ls Ts .hd l o got):
  Calls Tryz.prog 108 #[.pointer (some ⟨p.b,p.o,none⟩)] w fun e w'=>Y5o w0 w' p v bs M .hd c l o got ls Ts Rs e:=by
 obtain ⟨q,most,a,r,y,b9,left,c0,hA,hB,hC,ht,hv,cl,cd,fl,fd,s⟩:=c
 unfold P8 at h
 cases ht3:Z07 l 3 with
 | none=>
  have d:F9 M l o .hd= .err 5:=by show hdM l o=_;unfold hdM;rw [ht3]
  have f:=A5 (Z4u h 3 3 rfl (by decide) (Z2n ht3))
  have n:=A5 d
  clear h d ht3
  go_enter Tryz.func108,Tryz.ntmps108
  go_wp2_with fail
  with_reducible refine f.out.mono ?_
  rintro e w1 ⟨rfl,g⟩
  have H1:=A5 g
  clear g f
  go_wp2
  go_ret
  exact ⟨5,rfl,.bad H1.out n.out (fun _=>⟨rfl,rfl,rfl⟩) ⟨rfl,rfl⟩⟩
 | some x=>
  obtain ⟨i,hx⟩:=N1 ht3
  have f:=Z34 h 3 3 rfl (by decide) i hi.len
  rw [←hx] at f
  have c2:x < 8:=by rw [hx];exact Z0v hi.ok.bits 3
  have d:F9 M l o .hd=if x / 2=0 then .go (.sz (Z4f x)) (l.drop 3) o else if x / 2=1 then .go (.tok (Z4f x) I5 G7) (l.drop 3) o else if x / 2=2 then .go (.cnt (Z4f x)) (l.drop 3) o else .err 2:=by
   show hdM l o=_
   unfold hdM
   rw [ht3]
  have HI:=A5 hi
  have f:=A5 f
  obtain ⟨k,hk⟩:∃k,k=x / 2:=⟨_,rfl⟩
  have b1:(x:Int) / 2=(k:Int):=by omega
  have a7:k=0∨k=1∨k=2∨k=3:=by omega
  obtain ⟨b,hb⟩:∃b,b=Z4f x:=⟨_,rfl⟩
  have b2:(bits .and .u32 (x:Int) 1==1)=b:=by
   have g:=Z4g x 1 (by omega) (by decide)
   rw [show (1:Nat)=2^1-1 from rfl,Nat.and_two_pow_sub_one_eq_mod] at g
   rw [hb,show ((1:Nat):Int)=1 from rfl] at*
   rw [g,Z4f]
   have:x%2=0∨x%2=1:=by omega
   rcases this with h | h <;> simp [h]
  rw [←hk,←hb] at d
  have HB:=A5 hb
  have t:FxC ⟨q,most,a,r,y,b,0,0,0,0,0,none,.slice none 0 0,none,none,fl,fd,s⟩ Ts:=hi.fx
  have HX:=A5 t
  clear h hx ht3 hi hk hb t
  have n:=A5 d
  clear d
  rcases a7 with rfl | rfl | rfl | rfl
  all_goals
   go_enter Tryz.func108,Tryz.ntmps108
   go_wp2_with fail
   with_reducible refine f.out.mono ?_
   rintro e w1 ⟨rfl,g⟩
   have H1:=A5 g
   clear g f
   go_wp2_with ((with_reducible show wpList _ _ _ (⟨none,.store 98 _ _,_,_,_,_⟩::_) _ _);go_must (refine K4 rfl 98 (.tmp 20) (.tmp 18) rfl H1.out 8 [.bool b,.int .i64 0,.int .i64 0,.int .i64 0,.int .i64 0,.int .i64 0,.pointer none,.slice none 0 0,.pointer none,.pointer none] rfl rfl (by kernel_rfl) rfl ⟨q,most,a,r,y,b,0,0,0,0,0,none,.slice none 0 0,none,none,fl,fd,s⟩ rfl ⟨by decide,Nat.le_of_ble_eq_true rfl⟩ ?_);intro w2 h2;have z:=A5 h2;have c7:w2.cell? ⟨p.b,p.o+7,none⟩=some (.int .i64 (y:Int)):=F0 h2 7 _ rfl;have f7:w2.frozen? ⟨p.b,p.o+7,none⟩=false:=Y4 h2 7;clear h2)
  ·go_ret
   have i:=Z2q (Z3f z.out) 7 (.int .i64 1) ⟨q,most,a,r,1,b,0,0,0,0,0,none,.slice none 0 0,none,none,fl,fd,s⟩ rfl
   exact ⟨0,rfl,.on HI.out n.out i ⟨rfl,rfl⟩ HX.out rfl rfl⟩
  ·have HF:=A5 (X8j (X6r (Z3f z.out)) HX.out)
   dsimp only at HF
   clear c7 f7
   with_reducible refine HF.out.mono ?_
   rintro e w3 ⟨j,m,Ts',rfl,i,m1,m2,m3⟩
   have H3:=A5 i
   have HM:=A5 (And.intro m1 m2)
   clear i HF m1 m2
   unfold Y3c Z05
   go_wp2_with ((with_reducible show wpList _ _ _ (⟨none,.store 96 _ _,_,_,_,_⟩::_) _ _);go_must (refine K4 rfl 96 (.tmp 35) (.tmp 32) rfl H3.out 16 [.pointer (some ⟨j,0,none⟩),.pointer (some ⟨m,0,none⟩)] rfl rfl (by kernel_rfl) rfl ⟨q,most,a,r,y,b,0,0,0,0,0,none,.slice none 0 0,some ⟨j,0,none⟩,some ⟨m,0,none⟩,Z05 j,Z05 m,s⟩ rfl ⟨by decide,Nat.le_of_ble_eq_true rfl⟩ ?_);intro w4 h4;have H4:=A5 h4;have c7:w4.cell? ⟨p.b,p.o+7,none⟩=some (.int .i64 (y:Int)):=F0 h4 7 _ rfl;have f7:w4.frozen? ⟨p.b,p.o+7,none⟩=false:=Y4 h4 7;clear h4)
   go_ret
   have h5:=X11 (Z2q H4.out 7 (.int .i64 6) ⟨q,most,a,r,6,b,0,0,0,0,0,none,.slice none 0 0,some ⟨j,0,none⟩,some ⟨m,0,none⟩,Z05 j,Z05 m,s⟩ rfl)
   exact ⟨0,rfl,.on HI.out n.out h5 ⟨rfl,rfl,j,m,rfl,rfl,HM.out.1,HM.out.2⟩ (.inr ⟨j,m,rfl,rfl,HM.out.1,HM.out.2⟩) rfl rfl⟩
  ·go_ret
   have i:=Z2q (Z3f z.out) 7 (.int .i64 3) ⟨q,most,a,r,3,b,0,0,0,0,0,none,.slice none 0 0,none,none,fl,fd,s⟩ rfl
   exact ⟨0,rfl,.on HI.out n.out i ⟨rfl,rfl⟩ HX.out rfl rfl⟩
  go_ret
  exact ⟨2,rfl,.bad (Z3f z.out) n.out (fun h=>by cases h) ⟨rfl,rfl⟩⟩
end
section
variable {w0 w:World} {Rs:List A6} {p:C4} {c:DC} {v:Value} {bs l o got:List Nat} {ls:List Int} {Ts:List (List Int×Nat)} {M:Nat}
theorem X4n (b:Bool) (n:Nat) (h:A4 w0 w (P8 p c v bs l o got ls Ts Rs)) (hi:Z0h M c ls Ts (.sto b n) l o got) (hr:0 < c.room):
  Calls Tryz.prog 110 #[.pointer (some ⟨p.b,p.o,none⟩)] w fun e w'=>Y5o w0 w' p v bs M (.sto b n) c l o got ls Ts Rs e:=by
 have a9:=hi.cell
 have s:=hi.fx
 have d3:=hi.ok.ph
 have d:=hi.most
 have g:=hi.big
 have i:=hi.len
 have z:=hi.got
 have j:=hi.top
 have HI:=A5 hi
 obtain ⟨wv,most,a8,lv,st,f,left,a2,hA,hB,hC,ht,hv,cl,cd,fl,fd,en⟩:=c
 dsimp only at hr d j
 obtain ⟨rfl,rfl,rfl⟩:st=2∧f=b∧left=n:=a9
 obtain ⟨h8,a4⟩:l.length%8=0∧left≤65535:=d3
 unfold P8 at h
 have a:F9 M l o (.sto f left)=Z46 M f left l o:=rfl
 unfold Z46 at a
 have c9:w.cell? ⟨p.b,p.o+8+1,none⟩=some (.int .i64 (left:Int)):=F0 h 9 _ rfl
 by_cases h0:left=0
 ·subst h0
  rw [if_pos rfl] at a
  unfold Z90 at a
  have f7:w.cell? ⟨p.b,p.o+8+1,none⟩=some (.int .i64 0):=c9
  cases f with
  | true=>
   rw [if_pos rfl] at a
   have HS:=A5 a
   have HE:=A5 (X63 h rfl)
   have H1:=A5 h
   clear h hi a s d g i z j h8 a4 hr c9
   go_enter Tryz.func110,Tryz.ntmps110
   go_wp2_with fail
   with_reducible refine HE.out.mono ?_
   rintro e y ⟨rfl,rfl⟩
   go_wp2
   go_ret
   exact ⟨8,rfl,.over H1.out HS.out ⟨rfl,rfl⟩⟩
  | false=>
   rw [if_neg (by decide)] at a
   have HS:=A5 a
   have HE:=A5 (W22 h rfl)
   have b1:=A5 s
   clear h hi a s d g i z j h8 a4 hr c9
   go_enter Tryz.func110,Tryz.ntmps110
   go_wp2_with fail
   with_reducible refine HE.out.mono ?_
   rintro e y ⟨rfl,q⟩
   have H2:=A5 q
   clear q HE
   go_wp2
   go_ret
   exact ⟨0,rfl,.on HI.out HS.out H2.out rfl b1.out rfl rfl⟩
 rw [if_neg h0] at a
 have g0:((left:Int)==0)=false:=by simp;omega
 have g1:¬(left:Int)=0:=by omega
 have HL:=A5 (V7d h i)
 obtain ⟨L,hL⟩:∃L,L=l.length:=⟨_,rfl⟩
 rw [←hL] at HL
 by_cases a3:L=0
 ·rw [if_pos (by omega)] at a
  have HS:=A5 a
  rw [a3] at HL
  clear h hi a s d g i z j h8 a4 hr hL a3
  go_enter Tryz.func110,Tryz.ntmps110
  go_wp2_with fail
  with_reducible refine HL.out.mono ?_
  rintro e y ⟨rfl,q⟩
  have H2:=A5 q
  clear q HL
  go_wp2
  go_ret
  exact ⟨5,rfl,.bad H2.out HS.out (fun _=>⟨rfl,rfl,rfl⟩) ⟨rfl,rfl⟩⟩
 rw [if_neg (by omega)] at a
 have g2:((L:Int)==0)=false:=by simp;omega
 have g3:¬(L:Int)=0:=by omega
 by_cases hm:most=0
 ·subst hm
  rw [if_pos (by omega)] at a
  have HS:=A5 a
  clear h hi a s d g i z j h8 a4 hr hL a3 h0
  go_enter Tryz.func110,Tryz.ntmps110
  go_wp2_with fail
  with_reducible refine HL.out.mono ?_
  rintro e y ⟨rfl,q⟩
  have H2:=A5 q
  have d4:y.cell? ⟨p.b,p.o+3+1,none⟩=some (.int .i64 0):=F0 q 4 _ rfl
  have d9:y.cell? ⟨p.b,p.o+8+1,none⟩=some (.int .i64 (left:Int)):=F0 q 9 _ rfl
  have HQ:=A5 (fun k:Nat=>Y6r (w:=y.drewN k) p.b (p.o+3) (left:Int) d4)
  clear q HL c9
  go_wp2
  go_quiet ((go_at_call 143;exact (HQ.out _).mono fun _ _ h=>⟨h.1,_,h.2.choose_spec.trans (Z2b _ _ _)⟩))
  go_wp2
  go_ret
  exact ⟨6,rfl,.bad (H2.out.drewN _) HS.out (fun h=>by cases h) ⟨rfl,rfl⟩⟩
 obtain ⟨r,rfl⟩:∃r:Nat,a8=(r:Int):=⟨a8.toNat,by omega⟩
 obtain ⟨S,hS⟩:∃S,S=min (min left most) r:=⟨_,rfl⟩
 have b3:l.drop (l.length%8)=l:=by rw [h8];rfl
 obtain ⟨m,b4⟩:∃m,m=Z49 l (S:Int):=⟨_,rfl⟩
 have d6:m=min S (L / 8):=by rw [b4,Z49,b3,hL];simp
 have g4:1≤m:=by omega
 have b8:m≤left∧m≤most∧m≤r:=by omega
 have b9:(D4 l).length=L / 8:=by rw [hL,D4];simp
 obtain ⟨t,a5⟩:∃t,t=(D4 l).take m:=⟨_,rfl⟩
 have c0:t.length=m:=by rw [a5,List.length_take,b9];omega
 have a0:=X6x (M:=M) (b:=f) m left l o (by omega) b8.1 (by omega)
 rw [←a5] at a0
 have a1:=fun (wz:World) (Rz:List A6) (hz:A4 w0 wz (J9 (J0 p ⟨wv,most,(r:Int),lv,2,f,left,a2,hA,hB,hC,ht,hv,cl,cd,fl,fd,en⟩) v bs l::Rz))=>V4w hz (S:Int) i
 rw [b3,←b4,←a5] at a1
 have a1:=A5 a1
 have HT:=A5 c0
 have c1:=A5 a0
 have HM:=A5 d
 have d7:got.length < 1000000000:=by unfold Y5 at g;omega
 have d8:m < 1000000000∧most < 1000000000:=by unfold Y5 at g;omega
 have b1:=A5 s
 have g5:(left:Int)- (m:Int)=((left-m:Nat):Int):=by omega
 clear h hi a s d g i z h8 hL a3 h0 b3 b4 d6 b9 a5 c0 a0
 go_enter Tryz.func110,Tryz.ntmps110
 go_wp2_with fail
 with_reducible refine HL.out.mono ?_
 rintro e y ⟨rfl,q⟩
 have H2:=A5 q
 have d4:y.cell? ⟨p.b,p.o+3+1,none⟩=some (.int .i64 (most:Int)):=F0 q 4 _ rfl
 have d5:y.cell? ⟨p.b,p.o+3+2,none⟩=some (.int .i64 (r:Int)):=F0 q 5 _ rfl
 have d9:y.cell? ⟨p.b,p.o+8+1,none⟩=some (.int .i64 (left:Int)):=F0 q 9 _ rfl
 have HQ:=fun k:Nat=>Y2x (w:=y.drewN k) p.b (p.o+3) left most r (by omega) d4 d5
 rw [←hS] at HQ
 have HQ:=A5 HQ
 clear q HL c9 hS
 go_wp2
 go_quiet ((go_at_call 143;exact (HQ.out _).mono fun _ _ h=>⟨h.1,_,h.2.choose_spec.trans (Z2b _ _ _)⟩))
 clear HQ d4 d5 d9
 generalize c3:y.drewN _=w3
 have H3:Hid (A4 w0 w3 _):=A5 (by rw [←c3];exact H2.out.drewN _)
 have c2:=A5 (a1.out _ _ H3.out)
 clear H2 H3 c3 a1
 go_wp2_with fail
 with_reducible refine c2.out.mono ?_
 rintro e w4 ⟨x,rfl,h4⟩
 obtain ⟨xo,c6,rfl,_,_⟩:=h4.own.form
 have HA:=A5 (X4u o got t (.slice xo m c6) m got.length (h4.perm (List.perm_middle (l₁:=[_,_,_])).symm) d7 b8.2.1 (by dsimp only;omega) d8.1 (by dsimp only;omega) (by dsimp only;omega))
 clear h4 c2
 go_wp2_with fail
 with_reducible refine HA.out.mono ?_
 rintro e w5 ⟨rfl,c4,c5,h5⟩
 have H5:=A5 h5
 have c9:w5.cell? ⟨p.b,p.o+8+1,none⟩=some (.int .i64 (left:Int)):=F0 h5 9 _ rfl
 have f9:w5.frozen? ⟨p.b,p.o+8+1,none⟩=false:=Y4 h5 9
 clear h5 HA
 go_wp2
 go_ret
 have h6:=Z2q H5.out 9 (.int .i64 ((left-m:Nat):Int)) ⟨c4,most-m,(r:Int)-m,c5,2,f,left-m,a2,hA,hB,hC,ht,hv,cl,cd,fl,fd,en⟩ rfl
 refine ⟨0,rfl,Y4r.outs (ls':=ls) (Ts':=Ts) (c':=⟨c4,most-m,(r:Int)-m,c5,2,f,left-m,a2,hA,hB,hC,ht,hv,cl,cd,fl,fd,en⟩) HI.out c1.out (by intro e;have:=HT.out;rw [e] at this;simp at this;omega) ?_ ⟨rfl,rfl,rfl⟩ b1.out (by rw [HT.out];dsimp only;omega) (by rw [HT.out];dsimp only;omega) (by dsimp only;omega)⟩
 unfold P8
 rw [T00,HT.out]
 exact h6
theorem W41 (b:Bool) (lit dis:List Int) (n d:Nat) (h:A4 w0 w (P8 p c v bs l o got ls Ts Rs)) (hi:Z0h M c ls Ts (.cop b lit dis n d) l o got) (hr:0 < c.room):
  Calls Tryz.prog 115 #[.pointer (some ⟨p.b,p.o,none⟩)] w fun e w'=>Y5o w0 w' p v bs M (.cop b lit dis n d) c l o got ls Ts Rs e:=by
 have z:=hi.cell
 have x:=hi.fx
 have d2:=hi.ok.ph
 have f:=hi.most
 have i:=hi.big
 have a0:=hi.got
 have j:=hi.top
 have HI:=A5 hi
 obtain ⟨wv,most,s,lv,st,a,left,dist,hA,hB,hC,ht,hv,cl,cd,fl,fd,en⟩:=c
 dsimp only at hr f j
 obtain ⟨rfl,rfl,rfl,rfl,t⟩:st=7∧a=b∧left=n∧dist=d∧_:=z
 obtain ⟨_,y,a4,a5,a6⟩:=d2
 unfold P8 at h
 have g:F9 M l o (.cop a lit dis left dist)=Z4o M a lit dis left dist l o:=rfl
 unfold Z4o at g
 have c9:w.cell? ⟨p.b,p.o+8+1,none⟩=some (.int .i64 (left:Int)):=F0 h 9 _ rfl
 have a7:=A5 x
 by_cases h0:left=0
 ·subst h0
  rw [if_pos rfl] at g
  have HS:=A5 g
  have e7:w.cell? ⟨p.b,p.o+8+1,none⟩=some (.int .i64 0):=c9
  have c7:w.cell? ⟨p.b,p.o+7,none⟩=some (.int .i64 7):=F0 h 7 _ rfl
  have f7:w.frozen? ⟨p.b,p.o+7,none⟩=false:=Y4 h 7
  have H1:=A5 h
  have a1:=A5 t
  clear h hi g x f i a0 j hr c9 t y a4 a5 a6
  go_enter Tryz.func115,Tryz.ntmps115
  go_wp2
  go_ret
  have h3:=Z2q H1.out 7 (.int .i64 6) ⟨wv,most,s,lv,6,a,0,dist,hA,hB,hC,ht,hv,cl,cd,fl,fd,en⟩ rfl
  exact ⟨0,rfl,.on HI.out HS.out h3 ⟨rfl,rfl,a1.out⟩ a7.out rfl rfl⟩
 rw [if_neg h0] at g
 have e9:((left:Int)==0)=false:=by simp;omega
 have f0:¬(left:Int)=0:=by omega
 by_cases hm:most=0
 ·subst hm
  rw [if_pos (by omega)] at g
  have HS:=A5 g
  have H2:=A5 h
  have d4:w.cell? ⟨p.b,p.o+3+1,none⟩=some (.int .i64 0):=F0 h 4 _ rfl
  have HQ:=A5 (fun k:Nat=>Y6r (w:=w.drewN k) p.b (p.o+3) (left:Int) d4)
  clear h hi g x f i a0 j hr h0 t y a4 a5 a6
  go_enter Tryz.func115,Tryz.ntmps115
  go_wp2
  go_quiet ((go_at_call 143;exact (HQ.out _).mono fun _ _ h=>⟨h.1,_,h.2.choose_spec.trans (Z2b _ _ _)⟩))
  go_wp2
  go_ret
  exact ⟨6,rfl,.bad (H2.out.drewN _) HS.out (fun h=>by cases h) ⟨rfl,rfl⟩⟩
 obtain ⟨r,rfl⟩:∃r:Nat,s=(r:Int):=⟨s.toNat,by omega⟩
 obtain ⟨m,hS⟩:∃S,S=min (min left most) r:=⟨_,rfl⟩
 have a8:1≤m∧m≤left∧m≤most∧m≤r:=by omega
 have d4:w.cell? ⟨p.b,p.o+3+1,none⟩=some (.int .i64 (most:Int)):=F0 h 4 _ rfl
 have d5:w.cell? ⟨p.b,p.o+3+2,none⟩=some (.int .i64 (r:Int)):=F0 h 5 _ rfl
 have HQ:=fun k:Nat=>Y2x (w:=w.drewN k) p.b (p.o+3) left most r (by omega) d4 d5
 rw [←hS] at HQ
 have HQ:=A5 HQ
 have q:=Y1p (M:=M) (b:=a) (lit:=lit) (dist:=dis) (d:=dist) (l:=l) (left-m) m o (by omega)
 rw [show left-m+m=left by omega,Y53] at q
 have a9:(out o dist m).length=m:=X9u o dist m
 have d7:got.length < 1000000000:=by unfold Y5 at i;omega
 have d8:most < 4000000000000:=by unfold Y5 at i;omega
 have f2:(left:Int)- (m:Int)=((left-m:Nat):Int):=by omega
 have b0:=A5 (fun (wz:World) (Rz:List A6) (hz:A4 w0 wz (J9 (J0 p ⟨wv,most,(r:Int),lv,7,a,left,dist,hA,hB,hC,ht,hv,cl,cd,fl,fd,en⟩) v bs l::B0 5 1 wv (L7 o).length (D9 (L7 o))::B0 5 1 lv got.length (D9 got)::Rz))=>W8k o got got.length m dist hz d7 a8.2.2.1 (by dsimp only;omega) a8.1 (by omega) a4 a6 a5 d8 (by dsimp only;omega))
 have b1:=A5 q
 have HT:=A5 a9
 have HM:=A5 f
 have a1:=A5 t
 have H1:=A5 h
 have b2:∀k,(w.drewN k).cell? ⟨p.b,p.o+8+2,none⟩=some (.int .i64 (dist:Int)):=fun k=>F0 h 10 _ rfl
 clear h hi g x f i a0 h0 a9 q t hS
 go_enter Tryz.func115,Tryz.ntmps115
 go_wp2
 go_quiet ((go_at_call 143;exact (HQ.out _).mono fun _ _ h=>⟨h.1,_,h.2.choose_spec.trans (Z2b _ _ _)⟩))
 clear HQ d4 d5
 go_wp2
 generalize a3:w.drewN _=w3
 have d9:w3.cell? ⟨p.b,p.o+8+2,none⟩=some (.int .i64 (dist:Int)):=by rw [←a3];exact b2 _
 have H3:Hid (A4 w0 w3 _):=A5 (by rw [←a3];exact H1.out.drewN _)
 clear H1 b2 a3
 go_still_tail 9,(by kernel_rfl)
 change wpList _ _ _ _ _ (World.drew _)
 have b3:=A5 (b0.out _ _ H3.out.drew)
 clear b0 H3 d9
 go_wp2_with fail
 with_reducible refine b3.out.mono ?_
 rintro e w5 ⟨rfl,b4,b5,h5⟩
 have H5:=A5 h5
 have c9:w5.cell? ⟨p.b,p.o+8+1,none⟩=some (.int .i64 (left:Int)):=F0 h5 9 _ rfl
 have f9:w5.frozen? ⟨p.b,p.o+8+1,none⟩=false:=Y4 h5 9
 clear h5 b3
 go_wp2
 go_ret
 have h6:=Z2q H5.out 9 (.int .i64 ((left-m:Nat):Int)) ⟨b4,most-m,(r:Int)-m,b5,7,a,left-m,dist,hA,hB,hC,ht,hv,cl,cd,fl,fd,en⟩ rfl
 refine ⟨0,rfl,Y4r.outs (ls':=ls) (Ts':=Ts) (c':=⟨b4,most-m,(r:Int)-m,b5,7,a,left-m,dist,hA,hB,hC,ht,hv,cl,cd,fl,fd,en⟩) HI.out b1.out (by intro e;have:=HT.out;rw [e] at this;simp at this;omega) ?_ ⟨rfl,rfl,rfl,rfl,a1.out⟩ a7.out (by rw [HT.out];dsimp only;omega) (by rw [HT.out];dsimp only;omega) (by dsimp only;omega)⟩
 unfold P8
 rw [T00,HT.out,←Y53]
 exact h6
end
theorem Z2r (pre post:List Nat) (n v:Nat) (h:v < 2^n):I8 (pre++(A9 n v++post)) pre.length n=some v:=by
 unfold I8
 rw [if_pos (by simp [B5]),T03,T05 (B5 n v),Z22,T06 h]
def E0 (l:List Int) (k:Nat):List Nat:=W7 (l[k]?.getD 0).toNat (G0 l k)
structure Z1h (l:List Int):Prop where
 lens:∀a∈l,0≤a∧a≤15
 sum:F4 l≤32768
def L4 (l:List Int) (k:Nat):Prop:=∃a,l[k]?=some a∧0 < a
theorem Z0q {l:List Int} {k:Nat} (hs:L4 l k):1≤(E0 l k).length:=by
 obtain ⟨a,b,d⟩:=hs
 unfold E0
 rw [b,T9]
 show 1≤a.toNat
 omega
theorem P4 (l:List Int) (k:Nat):isBits (E0 l k):=Z57 _ _
theorem X4z {l:List Int} {k:Nat} (hl:Z1h l) (hs:L4 l k) {post:List Nat} (hb:isBits post):I7 l (E0 l k++post)=(k,(E0 l k).length,0):=by
 obtain ⟨a,b,i⟩:=hs
 have g:=hl.lens a (T07 b)
 have d:l[k]?=some ((a.toNat:Nat):Int):=by rw [b];congr 1;omega
 have f:=Hit.written hl.sum d (by omega) (by omega) post
 have e:E0 l k=W7 a.toNat (G0 l k):=by unfold E0;rw [b];rfl
 rw [e,T9]
 exact Z8j (D8 (Z57 _ _) hb) hl.lens (.inl ⟨rfl,f⟩)
theorem Y3q {l:List Int} {k:Nat} (hl:Z1h l) (hs:L4 l k) (pre:List Nat) {post:List Nat} (hb:isBits post):I7 l ((pre++(E0 l k++post)).drop pre.length)=(k,(E0 l k).length,0):=by
 rw [T03];exact X4z hl hs hb
inductive Z28 (lit dist:List Int):E3→List Nat→Prop
 | lit (b:Nat):b < 256→L4 lit b→Z28 lit dist ((b:Int),0,0) (E0 lit b)
 | ref (n d c q:Nat):Z1w lB 29 n c→n≤258→3≤n→Z1w dB 30 d q→d≤32768→1≤d→L4 lit (257+c)→L4 dist q→
   Z28 lit dist (0,(n:Int),(d:Int)) (E0 lit (257+c)++(A9 (lX c) (n-lB c)++(E0 dist q++A9 (dX q) (d-dB q))))
theorem Z28.isBits {lit dist:List Int} {t:E3} {bs:List Nat} (h:Z28 lit dist t bs):isBits bs:=by
 cases h with
 | lit b _ _=>exact P4 _ _
 | ref n d c q=>exact D8 (P4 _ _) (D8 (F5 _ _) (D8 (P4 _ _) (F5 _ _)))
theorem Z28.len {lit dist:List Int} {t:E3} {bs:List Nat} (h:Z28 lit dist t bs):1≤bs.length:=by
 cases h with
 | lit b _ h2=>exact Z0q h2
 | ref n d c q _ _ _ _ _ _ h2 _=>rw [T00];have:=Z0q h2;omega
theorem W9e {lit dist:List Int} (hl:Z1h lit) (hd:Z1h dist) {t:E3} {bs:List Nat} (h:Z28 lit dist t bs) (pre:List Nat) {post:List Nat} (hb:isBits post) (M:Nat) (out:List Nat) (tk:List E3)
  (hs:(N7 out t).1=0) (hM2:(N7 out t).2.length≤M):J4 lit dist (pre++(bs++post)) M pre.length out tk=(false,0,pre.length+bs.length,(N7 out t).2,tk++[t]):=by
 cases h with
 | lit b h1 h2=>
  have a:=Y3q hl h2 pre hb
  have j:N7 out ((b:Int),0,0)=if most≤out.length then (6,[]) else (0,out++[b]):=by
   unfold N7
   rw [if_neg (by simp [E9]),if_pos rfl]
   simp
  rw [j] at hs hM2⊢
  split at hs
  ·cases hs
  rename_i c
  rw [if_neg c] at hM2⊢
  rw [Y6m a h1 (by simp at hM2;omega)]
 | ref n d c q h1 h2 h3 h4 h5 h6 h7 h8=>
  have m:c < 29:=h1.1
  have o:q < 30:=h4.1
  have y:lB c≤n:=h1.2.1
  have z:dB q≤d:=h4.2.1
  have f:E9 (0,(n:Int),(d:Int))=true:=by
   unfold E9
   rw [Bool.or_eq_true]
   exact .inr (decide_eq_true ⟨rfl,⟨(by omega:(3:Int)≤(n:Int)),(by omega:(n:Int)≤258)⟩,(by omega:(1:Int)≤(d:Int)),(by omega:(d:Int)≤32768)⟩)
  have g:(n:Int)≠0:=by omega
  have k:¬most < out.length+n∧¬out.length < d∧N7 out (0,(n:Int),(d:Int))=(0,ext out d n):=by
   by_cases i:most < out.length+n
   ·rw [Y5k f g i] at hs;cases hs
   by_cases l:out.length < d
   ·rw [W33 f g i l] at hs;cases hs
   exact ⟨i,l,Y4m f g i l⟩
  obtain ⟨k1,k2,k3⟩:=k
  rw [k3] at hM2⊢
  have a0:out.length+n≤M:=by rw [G3] at hM2;exact hM2
  have e0:pre++(E0 lit (257+c)++(A9 (lX c) (n-lB c)++(E0 dist q++A9 (dX q) (d-dB q)))++post)=pre++(E0 lit (257+c)++(A9 (lX c) (n-lB c)++(E0 dist q++(A9 (dX q) (d-dB q)++post)))):=by simp
  have p:isBits (A9 (dX q) (d-dB q)++post):=D8 (F5 _ _) hb
  have b2:isBits (E0 dist q++(A9 (dX q) (d-dB q)++post)):=D8 (P4 _ _) p
  have b1:isBits (A9 (lX c) (n-lB c)++(E0 dist q++(A9 (dX q) (d-dB q)++post))):=D8 (F5 _ _) b2
  have a:=Y3q hl h7 pre b1
  rw [e0,Y8d a (by omega) (by omega),show 257+c-257=c by omega]
  have e1:pre++(E0 lit (257+c)++(A9 (lX c) (n-lB c)++(E0 dist q++(A9 (dX q) (d-dB q)++post))))=(pre++E0 lit (257+c))++(A9 (lX c) (n-lB c)++(E0 dist q++(A9 (dX q) (d-dB q)++post))):=by simp
  have r:=Z2r (pre++E0 lit (257+c)) (E0 dist q++(A9 (dX q) (d-dB q)++post)) (lX c) (n-lB c) (X6j h1 h2)
  rw [←e1,T00] at r
  have e2:pre++(E0 lit (257+c)++(A9 (lX c) (n-lB c)++(E0 dist q++(A9 (dX q) (d-dB q)++post))))=(pre++E0 lit (257+c)++A9 (lX c) (n-lB c))++(E0 dist q++(A9 (dX q) (d-dB q)++post)):=by simp
  have s:=Y3q hd h8 (pre++E0 lit (257+c)++A9 (lX c) (n-lB c)) p
  rw [←e2,T00,T00,B5] at s
  rw [Y2s r s]
  have e3:pre++(E0 lit (257+c)++(A9 (lX c) (n-lB c)++(E0 dist q++(A9 (dX q) (d-dB q)++post))))=(pre++E0 lit (257+c)++A9 (lX c) (n-lB c)++E0 dist q)++(A9 (dX q) (d-dB q)++post):=by simp
  have x:=Z2r (pre++E0 lit (257+c)++A9 (lX c) (n-lB c)++E0 dist q) post (dX q) (d-dB q) (Y8y h4 h5)
  rw [←e3,T00,T00,T00,B5] at x
  rw [show lB c+(n-lB c)=n by omega,W0w (by omega) x (by omega) (by omega),show dB q+(d-dB q)=d by omega]
  simp [B5,T02]
inductive Z09 (lit dist:List Int):List E3→List Nat→Prop
 | nil:L4 lit 256→Z09 lit dist [] (E0 lit 256)
 | cons (t:E3) (bs:List Nat) (r:List E3) (cs:List Nat):Z28 lit dist t bs→Z09 lit dist r cs→Z09 lit dist (t::r) (bs++cs)
theorem Z09.isBits {lit dist:List Int}:∀ {l:List E3} {bs:List Nat},Z09 lit dist l bs→isBits bs
 | _,_,.nil _=>P4 _ _
 | _,_,.cons _ _ _ _ h1 h2=>D8 h1.isBits h2.isBits
theorem Z09.len {lit dist:List Int}:∀ {l:List E3} {bs:List Nat},Z09 lit dist l bs→l.length+1≤bs.length
 | _,_,.nil h=>Z0q h
 | _,_,.cons _ _ _ _ h1 h2=>by
  have:=h1.len;have:=h2.len
  rw [T00,T09];omega
theorem Y2r {lit dist:List Int} (hl:Z1h lit) (hd:Z1h dist) {post:List Nat} (hb:isBits post) (M:Nat):∀ {l:List E3} {bs:List Nat},Z09 lit dist l bs→
  ∀ (pre:List Nat) (f:Nat) (out o:List Nat) (tk:List E3),l.length < f→S0 out l=(0,o)→o.length≤M→Z1u lit dist (pre++(bs++post)) M f pre.length out tk=(0,pre.length+bs.length,o,tk++l)
 | _,_,.nil h,pre,f,out,o,tk,hf,he,_=>by
  obtain ⟨g,rfl⟩:∃g,f=g+1:=⟨f-1,by omega⟩
  simp [S0] at he
  subst he
  rw [J6 (Y77 (Y3q hl h pre hb)),List.append_nil]
 | _,_,.cons t bs r cs h1 h2,pre,f,out,o,tk,hf,he,ho=>by
  obtain ⟨g,rfl⟩:∃g,f=g+1:=⟨f-1,by simp at hf;omega⟩
  rw [Z0a] at he
  by_cases h0:(N7 out t).1=0
  ·rw [if_pos h0] at he
   have hp:=Y6q r _ (by rw [he])
   rw [he] at hp
   have hlen:(N7 out t).2.length≤o.length:=hp.length_le
   have e0:pre++(bs++cs++post)=pre++(bs++(cs++post)):=by simp
   have hst:=W9e hl hd h1 pre (D8 h2.isBits hb) M out tk h0 (by omega)
   rw [e0,Z8q hst]
   have e1:pre++(bs++(cs++post))=(pre++bs)++(cs++post):=by simp
   have ih:=Y2r hl hd hb M h2 (pre++bs) g (N7 out t).2 o (tk++[t]) (by simp at hf;omega) he ho
   rw [←e1,T00] at ih
   rw [ih,T00]
   simp [T02]
  rw [if_neg h0] at he;simp at he;exact absurd he.1 h0
def G6 (a:Nat) (raw:List Nat):List Nat:=T01 (V9 a-a) 0++(A9 16 raw.length++(A9 16 (65535-raw.length)++D7 raw))
theorem X0e (M:Nat) {post:List Nat}:∀ (raw pre out:List Nat),(∀b∈raw,b < 256)→out.length+raw.length≤M→T5 (pre++(D7 raw++post)) M raw.length pre.length out=(0,pre.length+(D7 raw).length,out++raw)
 | [],pre,out,_,_=>by simp [T5,Z62]
 | b::r,pre,out,hb,hM=>by
  have e:pre++(D7 (b::r)++post)=pre++(A9 8 b++(D7 r++post)):=by rw [Q6];simp
  have t:=Z2r pre (D7 r++post) 8 b (hb b (by simp))
  rw [e,T09,T5,t]
  show (if M≤out.length then _ else _)=_
  rw [if_neg (by simp at hM;omega)]
  have e2:pre++(A9 8 b++(D7 r++post))=(pre++A9 8 b)++(D7 r++post):=by simp
  have ih:=X0e M (post:=post) r (pre++A9 8 b) (out++[b]) (fun c hc=>hb c (by simp [hc])) (by simp at hM⊢;omega)
  rw [←e2,T00,B5] at ih
  rw [ih,Q6,T00,B5]
  simp [T02]
theorem X6k (a:Nat):a≤V9 a∧V9 a≤a+7:=by unfold V9;omega
theorem X3w (pre post raw out:List Nat) (M:Nat) (hr:∀b∈raw,b < 256) (hlen:raw.length≤65535) (hM:out.length+raw.length≤M):
  N9 (pre++(G6 pre.length raw++post)) M pre.length out=(0,pre.length+(G6 pre.length raw).length,out++raw):=by
 have p:=X6k pre.length
 obtain ⟨a,k⟩:∃a,a=pre++T01 (V9 pre.length-pre.length) 0:=⟨_,rfl⟩
 have i:a.length=V9 pre.length:=by rw [k];simp;omega
 have l:pre++(G6 pre.length raw++post)=a++(A9 16 raw.length++(A9 16 (65535-raw.length)++(D7 raw++post))):=by rw [k,G6];simp
 have d:(G6 pre.length raw).length=V9 pre.length-pre.length+(32+(D7 raw).length):=by simp [G6,B5];omega
 have g:=Z2r a (A9 16 (65535-raw.length)++(D7 raw++post)) 16 raw.length (by omega)
 have f:=Z2r (a++A9 16 raw.length) (D7 raw++post) 16 (65535-raw.length) (by omega)
 have m:a++A9 16 raw.length++(A9 16 (65535-raw.length)++(D7 raw++post))=a++(A9 16 raw.length++(A9 16 (65535-raw.length)++(D7 raw++post))):=by simp
 rw [m,T00,B5] at f
 unfold I8 at g f
 split at g
 ·split at f
  ·rename_i q o
   simp only [Option.some.injEq] at g f
   rw [i] at g f o
   unfold N9
   rw [l]
   simp only
   rw [if_neg (by omega),g,f,if_neg (by omega)]
   have n:a++(A9 16 raw.length++(A9 16 (65535-raw.length)++(D7 raw++post)))=(a++A9 16 raw.length++A9 16 (65535-raw.length))++(D7 raw++post):=by simp
   have j:=X0e M (post:=post) raw (a++A9 16 raw.length++A9 16 (65535-raw.length)) out hr hM
   rw [←n,T00,T00,B5,B5,i] at j
   rw [show V9 pre.length+32=V9 pre.length+16+16 by omega,j,d]
   refine Prod.ext rfl (Prod.ext ?_ rfl)
   show V9 pre.length+16+16+(D7 raw).length=pre.length+(V9 pre.length-pre.length+(32+(D7 raw).length))
   omega
  cases f
 cases g
inductive V6 (head:List Int):List Int→List Nat→List Int→Prop
 | done (acc:List Int):V6 head acc [] acc
 | one (acc:List Int) (k:Nat) (bs:List Nat) (l:List Int):k < 16→L4 head k→V6 head (acc++[(k:Int)]) bs l→V6 head acc (E0 head k++bs) l
 | same (acc:List Int) (v:Int) (more:Nat) (bs:List Nat) (l:List Int):acc.getLast?=some v→more < 4→L4 head 16→V6 head (acc++T01 (3+more) v) bs l→V6 head acc (E0 head 16++(A9 2 more++bs)) l
 | zeros (acc:List Int) (more:Nat) (bs:List Nat) (l:List Int):more < 8→L4 head 17→V6 head (acc++T01 (3+more) 0) bs l→V6 head acc (E0 head 17++(A9 3 more++bs)) l
 | many (acc:List Int) (more:Nat) (bs:List Nat) (l:List Int):more < 128→L4 head 18→V6 head (acc++T01 (11+more) 0) bs l→V6 head acc (E0 head 18++(A9 7 more++bs)) l
theorem V6.le {head acc l:List Int} {bs:List Nat} (h:V6 head acc bs l):acc.length≤l.length:=by
 induction h with
 | done=>exact T08 _
 | one acc k bs l _ _ _ ih=>simp at ih;omega
 | same acc v more bs l _ _ _ _ ih=>simp at ih;omega
 | zeros acc more bs l _ _ _ ih=>simp at ih;omega
 | many acc more bs l _ _ _ ih=>simp at ih;omega
theorem V6.isBits {head acc l:List Int} {bs:List Nat} (h:V6 head acc bs l):isBits bs:=by
 induction h with
 | done=>intro b a;cases a
 | one acc k bs l _ _ _ ih=>exact D8 (P4 _ _) ih
 | same acc v more bs l _ _ _ _ ih=>exact D8 (P4 _ _) (D8 (F5 _ _) ih)
 | zeros acc more bs l _ _ _ ih=>exact D8 (P4 _ _) (D8 (F5 _ _) ih)
 | many acc more bs l _ _ _ ih=>exact D8 (P4 _ _) (D8 (F5 _ _) ih)
theorem Y72 {head acc l:List Int} {bs:List Nat} (hl:Z1h head) {post:List Nat} (hb:isBits post) (k wd ba more:Nat) (v:Int) (hk:¬k < 16) (hw:wd=if k=17 then 3 else if k=18 then 7 else 2) (hba:ba=if k=18 then 11 else 3) (hm:more < 2^wd)
  (hv:v=if k=16 then acc.getLast?.getD 0 else 0) (hne:¬(k=16∧acc=[])) (hs:L4 head k) (h2:V6 head (acc++T01 (ba+more) v) bs l) (pre:List Nat) (N:Nat) (hN:N=l.length):
  E7 head (pre++(E0 head k++(A9 wd more++(bs++post)))) N pre.length acc=(false,0,(pre++E0 head k++A9 wd more).length,acc++T01 (ba+more) v):=by
 have f:isBits (A9 wd more++(bs++post)):=D8 (F5 _ _) (D8 h2.isBits hb)
 have a:=Y3q hl hs pre f
 rw [Z54 a]
 have g:pre++(E0 head k++(A9 wd more++(bs++post)))=(pre++E0 head k)++(A9 wd more++(bs++post)):=by simp
 have d:=Z2r (pre++E0 head k) (bs++post) wd more hm
 rw [←g,T00] at d
 have b:=h2.le
 rw [T00,T04] at b
 rw [Z87 hk hne hw hba d (by omega),T00,T00,B5,hv]
theorem W88 {head:List Int} (hl:Z1h head) {post:List Nat} (hb:isBits post) {acc l:List Int} {bs:List Nat} (h:V6 head acc bs l):∀ (pre:List Nat) (f N:Nat),bs.length < f→N=l.length→
  Z1m head (pre++(bs++post)) N f pre.length acc=(0,pre.length+bs.length,l):=by
 induction h with
 | done acc=>
  intro pre f N j i
  obtain ⟨g,rfl⟩:∃g,f=g+1:=⟨f-1,by omega⟩
  rw [Z8f (by omega)];simp
 | one acc k bs l hk hs h2 ih=>
  intro pre f N j i
  have m:=Z0q hs
  rw [T00] at j
  obtain ⟨g,rfl⟩:∃g,f=g+1:=⟨f-1,by omega⟩
  have b:=h2.le
  rw [T00,List.length_singleton] at b
  have p:=Y3q hl hs pre (D8 h2.isBits hb)
  have n:pre++(E0 head k++bs++post)=pre++(E0 head k++(bs++post)):=by simp
  have o:pre++(E0 head k++(bs++post))=(pre++E0 head k)++(bs++post):=by simp
  have a:=ih (pre++E0 head k) g N (by omega) i
  rw [←o,T00] at a
  rw [n,Z2x (by omega) (by rw [Z54 p,X1n hk]),a,T00]
  simp [T02]
 | same acc v more bs l hv hm hs h2 ih=>
  intro pre f N j i
  have m:=Z0q hs
  rw [T00,T00] at j
  obtain ⟨g,rfl⟩:∃g,f=g+1:=⟨f-1,by omega⟩
  have b:=h2.le
  rw [T00,T04] at b
  have d:=Y72 hl hb 16 2 3 more v (by omega) rfl rfl (by omega) (by rw [hv];rfl) (fun h=>by rw [h.2] at hv;cases hv) hs h2 pre N i
  have n:pre++(E0 head 16++(A9 2 more++bs)++post)=pre++(E0 head 16++(A9 2 more++(bs++post))):=by simp
  have o:pre++(E0 head 16++(A9 2 more++(bs++post)))=(pre++E0 head 16++A9 2 more)++(bs++post):=by simp
  have a:=ih (pre++E0 head 16++A9 2 more) g N (by omega) i
  rw [←o] at a
  rw [n,Z2x (by omega) d,a]
  simp [T02]
 | zeros acc more bs l hm hs h2 ih=>
  intro pre f N j i
  have m:=Z0q hs
  rw [T00,T00] at j
  obtain ⟨g,rfl⟩:∃g,f=g+1:=⟨f-1,by omega⟩
  have b:=h2.le
  rw [T00,T04] at b
  have d:=Y72 hl hb 17 3 3 more 0 (by omega) rfl rfl (by omega) rfl (fun h=>by omega) hs h2 pre N i
  have n:pre++(E0 head 17++(A9 3 more++bs)++post)=pre++(E0 head 17++(A9 3 more++(bs++post))):=by simp
  have o:pre++(E0 head 17++(A9 3 more++(bs++post)))=(pre++E0 head 17++A9 3 more)++(bs++post):=by simp
  have a:=ih (pre++E0 head 17++A9 3 more) g N (by omega) i
  rw [←o] at a
  rw [n,Z2x (by omega) d,a]
  simp [T02]
 | many acc more bs l hm hs h2 ih=>
  intro pre f N j i
  have m:=Z0q hs
  rw [T00,T00] at j
  obtain ⟨g,rfl⟩:∃g,f=g+1:=⟨f-1,by omega⟩
  have b:=h2.le
  rw [T00,T04] at b
  have d:=Y72 hl hb 18 7 11 more 0 (by omega) rfl rfl (by omega) rfl (fun h=>by omega) hs h2 pre N i
  have n:pre++(E0 head 18++(A9 7 more++bs)++post)=pre++(E0 head 18++(A9 7 more++(bs++post))):=by simp
  have o:pre++(E0 head 18++(A9 7 more++(bs++post)))=(pre++E0 head 18++A9 7 more)++(bs++post):=by simp
  have a:=ih (pre++E0 head 18++A9 7 more) g N (by omega) i
  rw [←o] at a
  rw [n,Z2x (by omega) d,a]
  simp [T02]
def F8 (i:Nat):Nat:=M5[i]?.getD 0
def G8 (hd:List Int):Nat→List Nat
 | 0=>[]
 | i+1=>G8 hd i++A9 3 (hd[F8 i]?.getD 0).toNat
def Z4x (hd:List Int) (i:Nat):List Int:=(List.range 19).map fun j=>if j∈M5.take i then hd[j]?.getD 0 else 0
theorem S5 (hd:List Int):∀i,(G8 hd i).length=3*i
 | 0=>rfl
 | i+1=>by rw [G8,T00,S5 hd i,B5];omega
theorem Z6v (hd:List Int):∀i,isBits (G8 hd i)
 | 0=>by intro b hb;cases hb
 | i+1=>D8 (Z6v hd i) (F5 _ _)
theorem Z8b (hd:List Int) (i:Nat):∀d,∃r,G8 hd (i+1+d)=G8 hd i++(A9 3 (hd[F8 i]?.getD 0).toNat++r)
 | 0=>⟨[],by simp [G8]⟩
 | d+1=>by
  obtain ⟨r,hr⟩:=Z8b hd i d
  exact ⟨r++A9 3 (hd[F8 (i+1+d)]?.getD 0).toNat,by rw [show i+1+(d+1)=i+1+d+1 by omega,G8,hr];simp⟩
theorem Z4i:∀i,i < 19→F8 i < 19:=by decide
theorem X88 (hd:List Int):Z4x hd 0=T01 19 0:=by
 unfold Z4x
 simp only [List.take_zero,List.not_mem_nil,if_false]
 rw [List.map_const'];simp
theorem W5d (hd:List Int) (i:Nat) (hi:i < 19):(Z4x hd i).set (F8 i) (hd[F8 i]?.getD 0)=Z4x hd (i+1):=by
 have k:=Z4i i hi
 have d:M5[i]?=some (F8 i):=by
  unfold F8
  have:i < M5.length:=hi
  rw [List.getElem?_eq_getElem this];rfl
 refine List.ext_getElem? fun j=> ?_
 rw [List.getElem?_set]
 by_cases f:j < 19
 ·have g:∀i,(Z4x hd i)[j]?=some (if j∈M5.take i then hd[j]?.getD 0 else 0):=fun i=>by
   unfold Z4x
   rw [List.getElem?_map,List.getElem?_range f];rfl
  rw [g,g,List.take_add_one,d]
  by_cases c:F8 i=j
  ·subst c
   have a:(Z4x hd i).length=19:=by simp [Z4x]
   rw [if_pos rfl,if_pos (by rw [a];exact f),if_pos (by simp)]
  rw [if_neg c]
  congr 1
  simp only [Option.toList_some,List.mem_append,List.mem_singleton]
  by_cases b:j∈M5.take i
  ·rw [if_pos b,if_pos (.inl b)]
  rw [if_neg b,if_neg (by rintro (h | h);exact b h;exact c h.symm)]
 have a:∀i,(Z4x hd i).length=19:=fun i=>by simp [Z4x]
 rw [if_neg (by omega),T0a (by rw [a];omega),T0a (by rw [a];omega)]
theorem X6p (hd:List Int) (C i:Nat) (hi:i < C) (h7:∀a∈hd,0≤a∧a≤7) (pre post:List Nat):E4 (((pre++(G8 hd C++post)).drop (pre.length+3*i)).take 3)=(hd[F8 i]?.getD 0).toNat:=by
 obtain ⟨r,d⟩:=Z8b hd i (C- (i+1))
 rw [show i+1+(C- (i+1))=C by omega] at d
 have e:pre++(G8 hd C++post)=(pre++G8 hd i)++(A9 3 (hd[F8 i]?.getD 0).toNat++(r++post)):=by rw [d];simp
 have b:(hd[F8 i]?.getD 0).toNat < 2^3:=by
  cases e2:hd[F8 i]? with
  | none=>decide
  | some a=>have:=h7 a (T07 e2);show a.toNat < 8;omega
 rw [e,show pre.length+3*i=(pre++G8 hd i).length by rw [T00,S5],T03,T05 (B5 _ _),Z22,T06 b]
theorem Y9a (hd:List Int) (C:Nat) (hC:C≤19) (h7:∀a∈hd,0≤a∧a≤7) (pre post:List Nat):∀i,i≤C→F6 (pre++(G8 hd C++post)) pre.length i=Z4x hd i
 | 0,_=>(X88 hd).symm
 | i+1,h=>by
  rw [F6,Y9a hd C hC h7 pre post i (by omega),X6p hd C i (by omega) h7 pre post,←W5d hd i (by omega)]
  congr 1
  cases e2:hd[F8 i]? with
  | none=>rfl
  | some a=>have:=h7 a (T07 e2);show ((a.toNat:Nat):Int)=a;omega
theorem X7e (hd:List Int) (C:Nat) (h7:∀a∈hd,0≤a∧a≤7) (pre post:List Nat) (k:Nat) (hk:k < C) (hs:0 < hd[F8 k]?.getD 0):∀i,i≤C→k < i→Z1g (pre++(G8 hd C++post)) pre.length i=true
 | 0,_,h=>by omega
 | i+1,h,h2=>by
  rw [Z1g,X6p hd C i (by omega) h7 pre post]
  by_cases c:k=i
  ·subst c
   rw [Bool.or_eq_true]
   exact .inr (decide_eq_true (by omega))
  rw [X7e hd C h7 pre post k hk hs i (by omega) (by omega),Bool.true_or]
structure Y6h (lit dist hd:List Int) (C:Nat) (lb:List Nat):Prop where
 a1:257≤lit.length
 a2:lit.length≤286
 b1:1≤dist.length
 b2:dist.length≤30
 c1:4≤C
 c2:C≤19
 h7:∀a∈hd,0≤a∧a≤7
 part:Z4x hd C=hd
 check:D0 hd 7=0
 sum:F4 hd≤32768
 any:∃k,k < C∧0 < hd[F8 k]?.getD 0
 lens:V6 hd [] lb (lit++dist)
 lit15:D0 lit 15=0
 dist15:D0 dist 15=0
 stop:lit[256]?.getD 0≠0
def U6 (lit dist hd:List Int) (C:Nat) (lb:List Nat):List Nat:=A9 5 (lit.length-257)++(A9 5 (dist.length-1)++(A9 4 (C-4)++(G8 hd C++lb)))
theorem W9z {lit dist hd:List Int} {C:Nat} {lb:List Nat} (h:Y6h lit dist hd C lb) (pre:List Nat) {post:List Nat} (hb:isBits post):
  Q5 (pre++(U6 lit dist hd C lb++post)) pre.length=(0,pre.length+(U6 lit dist hd C lb).length,lit,dist):=by
 have g:(U6 lit dist hd C lb).length=14+(3*C+lb.length):=by simp [U6,B5,S5];omega
 have e0:pre++(U6 lit dist hd C lb++post)=pre++(A9 5 (lit.length-257)++(A9 5 (dist.length-1)++(A9 4 (C-4)++(G8 hd C++(lb++post))))):=by simp [U6]
 obtain ⟨b,f⟩:∃b,b=pre++(U6 lit dist hd C lb++post):=⟨_,rfl⟩
 rw [←f]
 have a7:b.length=pre.length+(14+(3*C+lb.length))+post.length:=by rw [f,T00,T00,g];omega
 have q:b=pre++(A9 5 (lit.length-257)++(A9 5 (dist.length-1)++(A9 4 (C-4)++(G8 hd C++(lb++post))))):=f.trans e0
 have j:∀ (p r:List Nat) (n v:Nat),b=p++(A9 n v++r)→v < 2^n→E4 ((b.drop p.length).take n)=v:=fun p r n v e hv=>by
  rw [e,T03,T05 (B5 n v),Z22,T06 hv]
 have n1:=j pre _ 5 (lit.length-257) q (by have:=h.a2;have:=h.a1;omega)
 have y:=j (pre++A9 5 (lit.length-257)) (A9 4 (C-4)++(G8 hd C++(lb++post))) 5 (dist.length-1) (by rw [q];simp) (by have:=h.b2;omega)
 have z:=j (pre++A9 5 (lit.length-257)++A9 5 (dist.length-1)) (G8 hd C++(lb++post)) 4 (C-4) (by rw [q];simp) (by have:=h.c2;omega)
 simp only [T00,B5] at y z
 obtain ⟨i,o⟩:∃i,i=pre++A9 5 (lit.length-257)++A9 5 (dist.length-1)++A9 4 (C-4):=⟨_,rfl⟩
 have d:i.length=pre.length+14:=by rw [o];simp [B5]
 have s:b=i++(G8 hd C++(lb++post)):=by rw [q,o];simp
 have hh:=Y9a hd C h.c2 h.h7 i (lb++post) C (T08 _)
 rw [←s,d,h.part] at hh
 obtain ⟨k,hk,x⟩:=h.any
 have ha:=X7e hd C h.h7 i (lb++post) k hk x C (T08 _) hk
 rw [←s,d] at ha
 have l:Z1h hd:=⟨fun a hm=>by have:=h.h7 a hm;omega,h.sum⟩
 have e5:b=(i++G8 hd C)++(lb++post):=by rw [s];simp
 have hl:=W88 l hb h.lens (i++G8 hd C) (b.length+1) (lit.length+dist.length) (by omega) (by rw [T00])
 rw [←e5,T00,S5,d] at hl
 have h1:=h.a1
 have h2:=h.b1
 have h3:=h.c1
 unfold Q5
 rw [if_neg (by omega),n1,y,show pre.length+10=pre.length+5+5 by omega,z,show lit.length-257+257=lit.length by omega,show dist.length-1+1=dist.length by omega,show C-4+4=C by omega]
 unfold Q5.dynRun
 rw [if_neg (by have:=h.a2;have:=h.b2;omega),if_neg (by omega),hh,ha,if_neg (by rw [h.check];simp),hl]
 unfold Q5.dynEnd
 have ht:(lit++dist).take lit.length=lit:=by simp
 have t:(lit++dist).drop lit.length=dist:=by simp
 have m:(lit++dist)[256]?=lit[256]?:=List.getElem?_append_left (by omega)
 simp only
 rw [if_neg (fun h=>h rfl),ht,t,m,if_neg (by rw [h.lit15,h.dist15];have:=h.stop;simp [this]),g]
 simp only [T02]
theorem Y0v {l:List Int} (h:D0 l 15=0):Z1h l:=by
 obtain ⟨a,_,b⟩:=V1c h
 exact ⟨a,by omega⟩
inductive P6 (l:List E3) (raw:List Nat) (a:Nat):Nat→List Nat→Prop
 | stored:(∀b∈raw,b < 256)→raw.length≤65535→P6 l raw a 0 (G6 a raw)
 | fixed (bs:List Nat):Z09 I5 G7 l bs→P6 l raw a 1 bs
 | dynamic (lit dist hd:List Int) (C:Nat) (lb bs:List Nat):Y6h lit dist hd C lb→Z09 lit dist l bs→P6 l raw a 2 (U6 lit dist hd C lb++bs)
theorem Z11:D0 I5 15=0∧D0 G7 15=0:=by decide+kernel
theorem W07 {l:List E3} {raw:List Nat} {kind:Nat} {bs:List Nat} (pre:List Nat) (h:P6 l raw pre.length kind bs) {post:List Nat} (hb:isBits post) (M:Nat) (out o:List Nat) (tk:List E3) (he:S0 out l=(0,o)) (ho:o.length≤M) (hr:out.length+raw.length≤M):
  I9 (pre++(bs++post)) M kind pre.length out tk=(0,pre.length+bs.length,if kind=0 then out++raw else o,if kind=0 then tk else tk++l):=by
 cases h with
 | stored h1 h2=>
  unfold I9
  rw [if_pos rfl,X3w pre post raw out M h1 h2 hr];rfl
 | fixed bs h1=>
  have a:=h1.len
  unfold I9
  rw [if_neg (by decide),if_pos rfl,Y2r (Y0v Z11.1) (Y0v Z11.2) hb M h1 pre _ out o tk (by simp only [T00];omega) he ho];rfl
 | dynamic lit dist hd C lb bs h1 h2=>
  have a:=h2.len
  have b:=W9z h1 pre (post:=bs++post) (D8 h2.isBits hb)
  have f:pre++(U6 lit dist hd C lb++bs++post)=pre++(U6 lit dist hd C lb++(bs++post)):=by simp
  have g:pre++(U6 lit dist hd C lb++(bs++post))=(pre++U6 lit dist hd C lb)++(bs++post):=by simp
  have d:=Y2r (Y0v h1.lit15) (Y0v h1.dist15) hb M h2 (pre++U6 lit dist hd C lb) ((pre++(U6 lit dist hd C lb++(bs++post))).length+1) out o tk (by simp only [T00];omega) he ho
  rw [←g,show (pre++U6 lit dist hd C lb).length=pre.length+(U6 lit dist hd C lb).length by rw [T00]] at d
  unfold I9
  rw [if_neg (by decide),if_neg (by decide),if_pos rfl,f,b,if_neg (fun h=>h rfl)]
  simp only
  rw [d,T00,T02];rfl
end Go.Proofs.YtbkbkmgogbgofaaGreatDoor
