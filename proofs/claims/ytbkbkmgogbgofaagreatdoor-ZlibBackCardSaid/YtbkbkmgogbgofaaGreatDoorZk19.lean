/- The claim's texts, put together and shortened by a program (names, spaces). -/
import Derived.Test.YtbkbkmgogbgofaaGreatDoorZk12
import Derived.Test.YtbkbkmgogbgofaaGreatDoorZk18
import Derived.Deep.DeepCutAuto
open List renaming length_drop→T03,getElem?_eq_getElem→T04,take_of_length_le→T05,map_drop→T06,drop_drop→T07,getElem?_eq_none→T08
open Nat renaming mul_one→T01,le_refl→T02
open Int renaming natCast_nonneg→T00
namespace Go.Proofs.YtbkbkmgogbgofaaGreatDoor
set_option maxRecDepth 100000
set_option maxHeartbeats 6400000
open Go.RowKit
section
variable {w0 w:World} {Rs:List A6} {tr en la at' cut n:Nat} {B:C4} {bs bk:List Nat} {g h:List Nat→Option Nat}
theorem X77 (H:A4 w0 w (Z81 tr en la at' cut bs bk g h n B::Rs)) (i d m:Nat) (hd:d≤i) (hi:i < 1000000000) (hm:bk[i-d]?=some m) (hm2:m≤32768):
  Calls Tryz.prog 121 #[.pointer (some ⟨B.b,B.o+3,none⟩),.int .i64 (i:Int),.int .i64 (d:Int)] w fun e w'=>e= .returned (.int .i64 (((if m=0 then 0 else reach 32768 (d+m)):Nat):Int))∧w'=w:=by
 obtain ⟨lv,bv,m1,m2,p⟩:=Z3m H
 obtain ⟨s,_,f,_,_⟩:=W6 p
 obtain ⟨q,t⟩:∃q,q=i-d:=⟨_,rfl⟩
 rw [←t] at hm
 obtain ⟨K,x⟩:∃K,K=bk.length:=⟨_,rfl⟩
 rw [←x] at f
 have z:q < K:=by have:=(List.getElem?_eq_some_iff.1 hm).1;omega
 obtain ⟨ao,a8,rfl,a9,b0⟩:=f.form
 have c7:=s.cell (i:=7) rfl
 obtain ⟨gg,b1,rfl,a,_,_⟩:=f.site (by omega)
 have e1:=a q (.int .u16 (m:Int)) (by rw [O8,hm];rfl)
 have a0:(i:Int)- (d:Int)=(q:Int):=by omega
 have a1:(0:Int)≤(q:Int):=T00 _
 have k:(q:Int) < (K:Int):=by omega
 have a2:(0:Int)≤(m:Int):=T00 _
 have a3:IntKind.i64.wrap (m:Int)=(m:Int):=IntWalk.i64_in _ (by omega)
 have a4:q < 1000000000:=by omega
 have l:=A5 (Z7a (d+m) (by omega))
 clear a s f p H t hm x
 rcases Nat.eq_zero_or_pos m with rfl | hp
 ·go_enter Tryz.func121,Tryz.ntmps121
  go_wp2
  go_ret
  exact ⟨rfl,rfl⟩
 have a5:¬(m:Int)=0:=by omega
 obtain ⟨r,j⟩:∃r,r=reach 32768 (d+m):=⟨_,rfl⟩
 obtain ⟨D,y⟩:∃D,D=d+m:=⟨_,rfl⟩
 rw [if_neg (by omega)]
 rw [←j]
 rw [←j,←y] at l
 have a6:(d:Int)+(m:Int)=(D:Int):=by omega
 have a7:D < 2000000000:=by omega
 clear j y
 go_enter Tryz.func121,Tryz.ntmps121
 go_wp2_with fail
 refine (l.out _).mono ?_
 rintro e w5 ⟨rfl,rfl⟩
 go_wp2
 go_ret
 exact ⟨rfl,rfl⟩
end
theorem Z5z:(Tryz.prog.info? 112).map (·.size)=some 3:=by kernel_rfl
theorem Y7q (a l d a2 l2 d2:Nat) (w:World):
  Calls Tryz.prog 119 #[.agg #[.int .u8 (a:Int),.int .i64 (l:Int),.int .i64 (d:Int)],.agg #[.int .u8 (a2:Int),.int .i64 (l2:Int),.int .i64 (d2:Int)]] w fun e w'=>
   e= .returned (if l < l2 then .agg #[.int .u8 (a2:Int),.int .i64 (l2:Int),.int .i64 (d2:Int)] else .agg #[.int .u8 (a:Int),.int .i64 (l:Int),.int .i64 (d:Int)])∧E5 w w' (fun _=>False):=by
 by_cases h:l < l2
 ·have b:(l:Int) < (l2:Int):=by omega
  rw [if_pos h]
  clear h
  go_enter Tryz.func119,Tryz.ntmps119
  go_wp2
  refine Z2y rfl _ 3 Tryz.underlying112 rfl Z5z (w.heap.size+1+1) [.int .u8 (a2:Int),.int .i64 (l2:Int),.int .i64 (d2:Int)] 112 rfl rfl ?_ rfl ⟨rfl,((((E5.refl w _).alloc _).alloc _).alloc _)⟩
  have:=X6.new ((w.alloc (.cells #[.int .u8 (a:Int),.int .i64 (l:Int),.int .i64 (d:Int)] 112)).alloc (.cells #[.int .u8 (a2:Int),.int .i64 (l2:Int),.int .i64 (d2:Int)] 112)) [.int .u8 (a2:Int),.int .i64 (l2:Int),.int .i64 (d2:Int)] 112
  simpa using this
 have b:¬(l:Int) < (l2:Int):=by omega
 rw [if_neg h]
 clear h
 go_enter Tryz.func119,Tryz.ntmps119
 go_wp2
 refine Z2y rfl _ 3 Tryz.underlying112 rfl Z5z (w.heap.size+1+1) [.int .u8 (a:Int),.int .i64 (l:Int),.int .i64 (d:Int)] 112 rfl rfl ?_ rfl ⟨rfl,((((E5.refl w _).alloc _).alloc _).alloc _)⟩
 have:=X6.new ((w.alloc (.cells #[.int .u8 (a:Int),.int .i64 (l:Int),.int .i64 (d:Int)] 112)).alloc (.cells #[.int .u8 (a2:Int),.int .i64 (l2:Int),.int .i64 (d2:Int)] 112)) [.int .u8 (a:Int),.int .i64 (l:Int),.int .i64 (d:Int)] 112
 simpa using this
theorem W5k (v u:Value) (n m:Nat) (a b:List Nat) (w:World) (hv:Rd w 1 v n (D9 a)) (hu:Rd w 1 u m (D9 b)) (hmn:m≤n) (hn:n < 1000000000):
  Calls Tryz.prog 120 #[v,u] w fun e w'=>e= .returned (.int .i64 ((same a b:Nat):Int))∧∃k,w'=w.drewN k:=by
 obtain ⟨ao,b8,rfl,_,_⟩:=hv.form
 obtain ⟨bo,a6,rfl,_,_⟩:=hu.form
 have l:n=a.length:=by have:=hv.1;rw [E6] at this;omega
 have o:m=b.length:=by have:=hu.1;rw [E6] at this;omega
 have f:=A5 (And.intro l o)
 have HV:=A5 hv
 have HU:=A5 hu
 have b3:(0:Int)≤(m:Int):=T00 _
 have a2:(m:Int)≤(n:Int):=by omega
 have b4:(if m < n then (m:Int) else (n:Int))=(m:Int):=by split <;> omega
 clear l o hv hu
 go_enter Tryz.func120,Tryz.ntmps120
 go_wp2
 go_loopg [5] (m+2) (fun g t5 wr=>∃j c:Nat,j≤m∧m-j < g∧t5= .int .i64 (j:Int)∧wr=w.drewN c∧Hid (∀k,k < j→a[k]?=b[k]?))
 case atStart=>exact ⟨0,0,by omega,by omega,rfl,rfl,A5 (fun k hk=>by omega)⟩
 case round=>
  obtain ⟨j,c,hj,hg,rfl,rfl,HJ⟩:=hrel
  have b5:(0:Int)≤(j:Int):=T00 _
  by_cases t:j < m
  rotate_left
  ·obtain rfl:j=m:=by omega
   have s:=A5 (show same a b=j from X1y (by have:=f.out.1;omega) (by have:=f.out.2;omega) HJ.out (fun _ h2=>by have:=f.out.2;omega))
   have i:¬(j:Int) < (j:Int):=by omega
   have q:decide ((j:Int) < (j:Int))=false:=decide_eq_false i
   have r:decide (j < j)=false:=decide_eq_false (by omega)
   go_wp2
   go_quiet (fail)
   go_wp2
   go_ret
   exact ⟨by rw [s.out];rfl,_,World.drewN_drewN _ _ _⟩
  have i:(j:Int) < (m:Int):=by omega
  have b6:(j:Int) < (n:Int):=by omega
  have q:decide ((j:Int) < (m:Int))=true:=decide_eq_true i
  have r:decide (j < m)=true:=decide_eq_true t
  obtain ⟨x,z⟩:∃x,a[j]?=some x:=⟨a[j]'(by have:=f.out.1;omega),T04 _⟩
  obtain ⟨y,hy⟩:∃y,b[j]?=some y:=⟨b[j]'(by have:=f.out.2;omega),T04 _⟩
  obtain ⟨g1,a7,rfl,f1⟩:=HV.out.spot (by omega)
  have e1:=f1 j (.int .u8 (x:Int)) (by rw [Z3,z];rfl)
  obtain ⟨g2,a9,rfl,f2⟩:=HU.out.spot (by omega)
  have e2:=f2 j (.int .u8 (y:Int)) (by rw [Z3,hy];rfl)
  clear f1 f2
  have p:=A5 (And.intro z hy)
  clear z hy
  by_cases d:x=y
  ·subst d
   go_wp2
   go_quiet (fail)
   go_wp2
   go_roundg (gk-1)
   case measure=>omega
   case rel=>
    refine ⟨j+1,_,by omega,by omega,by go_num,rfl,A5 fun k hk=> ?_⟩
    by_cases e:k=j
    ·subst e;rw [p.out.1,p.out.2]
    exact HJ.out k (by omega)
  have s:=A5 (show same a b=j from X1y (by have:=f.out.1;omega) (by have:=f.out.2;omega) HJ.out (fun _ _=>by rw [p.out.1,p.out.2];simpa using d))
  have b7:((x:Int)==(y:Int))=false:=by simp;omega
  have a3:decide ((x:Int)=(y:Int))=false:=by simp;omega
  have a4:(x==y)=false:=by simpa using d
  have a5:decide (x=y)=false:=by simpa using d
  go_wp2
  go_quiet (fail)
  go_wp2
  go_ret
  exact ⟨by rw [s.out];rfl,_,World.drewN_drewN _ _ _⟩
def M6 (x:List Nat) (cut P:Nat):List Nat:=(List.range (P-cut)).map fun k=>Z2c 32768 x (cut+k)
theorem Z6 (x:List Nat) (cut P:Nat):(M6 x cut P).length=P-cut:=by simp [M6]
theorem X9i (x:List Nat) (cut P:Nat) (h:cut≤P):M6 x cut (P+1)=M6 x cut P++[Z2c 32768 x P]:=by
 unfold M6
 rw [show P+1-cut=P-cut+1 by omega,List.range_succ,List.map_append,List.map_singleton,show cut+(P-cut)=P by omega]
theorem Y2j (x:List Nat) (cut P k:Nat) (h:k < P-cut):(M6 x cut P)[k]?=some (Z2c 32768 x (cut+k)):=by simp [M6,h]
theorem W4r (x y:List Nat) (cut P:Nat) (h:P=0∨P+2≤x.length):M6 (x++y) cut P=M6 x cut P:=by
 unfold M6
 refine List.map_congr_left fun k hk=> ?_
 rw [List.mem_range] at hk
 exact Y7e 32768 x y (cut+k) (by omega)
theorem X7v (x:List Nat) (cut n P:Nat):(M6 x cut P).drop n=M6 x (cut+n) P:=by
 refine List.ext_getElem? fun j=> ?_
 rw [List.getElem?_drop]
 by_cases c:n+j < P-cut
 ·rw [Y2j x cut P _ c,Y2j x (cut+n) P j (by omega),Nat.add_assoc]
 rw [T08 (by rw [Z6];omega),T08 (by rw [Z6];omega)]
structure Z16 (x:List Nat) (cut P a:Nat):Prop where
 cut_le:cut≤P
 room:P=0∨P+2≤x.length
 a_le:a≤P
 le_a:P≤a+32768
 mod:a%32768=0
 some:a < P∨P=0
def inF (tr en la at':Nat) (x:List Nat) (cut P a:Nat) (B:C4):A6:=Z81 tr en la at' cut (x.drop cut) (M6 x cut P) (P9 x a P) (P3 32768 x a) P B
def inV (tr en la at':Nat) (x:List Nat) (cut P a:Nat) (B:C4) (lv:Value):A6:=
 exT fun q:Value×Nat×Nat=>Z0g (Y2h tr en la at' cut (x.drop cut) (M6 x cut P) (P9 x a P) (P3 32768 x a) P B lv q.1 q.2.1 q.2.2)
section
variable {w0 w:World} {Rs:List A6} {tr en la at' cut a P:Nat} {B:C4} {x:List Nat}
theorem unV {lv:Value} (H:A4 w0 w (inV tr en la at' x cut P a B lv::Rs)):∃ (bv:Value) (m1 m2:Nat),A4 w0 w (Y2h tr en la at' cut (x.drop cut) (M6 x cut P) (P9 x a P) (P3 32768 x a) P B lv bv m1 m2++Rs):=by
 obtain ⟨⟨bv,m1,m2⟩,b⟩:=H.ex
 exact ⟨bv,m1,m2,b.unall⟩
theorem mkV {lv:Value} (bv:Value) (m1 m2:Nat) (H:A4 w0 w (Y2h tr en la at' cut (x.drop cut) (M6 x cut P) (P9 x a P) (P3 32768 x a) P B lv bv m1 m2++Rs)):A4 w0 w (inV tr en la at' x cut P a B lv::Rs):=
 A4.mk (R:=fun q:Value×Nat×Nat=>Z0g (Y2h tr en la at' cut (x.drop cut) (M6 x cut P) (P9 x a P) (P3 32768 x a) P B lv q.1 q.2.1 q.2.2)) (bv,m1,m2) H.all
theorem V4z (H:A4 w0 w (inF tr en la at' x cut P a B::Rs)):∃lv,A4 w0 w (inV tr en la at' x cut P a B lv::Rs):=by
 obtain ⟨lv,b,d,f,h⟩:=Z3m H
 exact ⟨lv,mkV b d f h⟩
theorem W1h {lv:Value} (H:A4 w0 w (inV tr en la at' x cut P a B lv::Rs)):A4 w0 w (inF tr en la at' x cut P a B::Rs):=by
 obtain ⟨b,d,f,h⟩:=unV H
 exact Z7b lv b d f h
theorem X86 {R1 R2 R3 R4 R5:A6} (H:A4 w0 w (R1::R2::R3::R4::R5::Rs)):A4 w0 w (R1::R2::R3::R5::R4::Rs):=
 H.perm (List.Perm.cons _ (List.Perm.cons _ (List.Perm.cons _ (List.Perm.swap _ _ _))))
theorem V0m {R1 R2 R3:A6} (H:A4 w0 w (R1::R2::R3::Rs)):A4 w0 w (R1::R3::R2::Rs):=H.perm (List.Perm.cons _ (List.Perm.swap _ _ _))
theorem X96 {R1 R2 R3 R4:A6} (H:A4 w0 w (R4::R1::R2::R3::Rs)):A4 w0 w (R1::R2::R3::R4::Rs):=H.fourth.fourth.fourth
theorem V0c {R1 R2 R3 R4:A6} {v:Value} {g:List Nat→Option Nat} {n n':Nat} (hn:n≤n') (H:A4 w0 w (R1::R2::R3::R4::Z3k v g n::Rs)):A4 w0 w (R1::R2::R3::R4::Z3k v g n'::Rs):=
 X86 (X96 ((X86 H).fourth.moreMap hn))
theorem Y92 {lv:Value} (H:A4 w0 w (inV tr en la at' x cut P a B lv::Rs)) (HI:Z16 x cut P a) (I:Nat) (hcI:cut≤I) (hI:I=0∨I+2≤x.length) (hlen:x.length < 1000000000) (hb:∀b∈x,b < 256):
  Calls Tryz.prog 117 #[.pointer (some ⟨B.b,B.o+3,none⟩),.int .i64 ((I-cut:Nat):Int)] w fun e w'=>e= .returned (.tuple #[])∧∃a',Z16 x cut (max P I) a'∧A4 w0 w' (inV tr en la at' x cut (max P I) a' B lv::Rs):=by
 obtain ⟨i0,k8,q3,k9,q4⟩:=info_parts Z2u
 obtain ⟨i1,l0,l1,l2,l3⟩:=info_parts Y5n
 obtain ⟨i,hi⟩:∃i,i=I-cut:=⟨_,rfl⟩
 rw [←hi]
 have e0:I=cut+i:=by omega
 have j3:0 < i→cut+i+2≤x.length:=fun h=>by omega
 have j4:=A5 e0
 have j5:=A5 HI
 have HH:=A5 H
 obtain ⟨k0,c9⟩:∃k0,k0=P-cut:=⟨_,rfl⟩
 obtain ⟨bv,m1,m2,HF⟩:=unV H
 obtain ⟨l,_,hO,_,_⟩:=W6 HF
 have e3:=Z6 x cut P
 rw [e3,←c9] at hO
 have e5:P=cut+k0:=by have:=HI.cut_le;omega
 obtain ⟨ao,q6,rfl,_,_⟩:=hO.form
 have c7:=l.cell (i:=7) rfl
 have b7:=A5 e5
 clear l hO HF H hi HI e3 c9 e5 hI e0 hcI
 go_enter Tryz.func117,Tryz.ntmps117
 go_wp2
 go_loopg [4,5] (i+2) (fun gg t4 t5 wr=>∃ (k a1:Nat),k0≤k∧(k=k0∨k≤i)∧i+1-k < gg∧t4= .int .i64 (k:Int)∧Hid (Z16 x cut (cut+k) a1)∧Hid (A4 w0 wr (inV tr en la at' x cut (cut+k) a1 B lv::Rs)))
 case atStart=>exact ⟨k0,a,T02 _,.inl rfl,by omega,rfl,by rw [←b7.out];exact j5,by rw [←b7.out];exact HH⟩
 case round=>
  obtain ⟨k,a1,c9,hk,hg,rfl,g,HR⟩:=hrel
  have n6:(0:Int)≤(k:Int):=T00 _
  by_cases q1:k < i
  rotate_left
  ·have j6:¬(k:Int) < (i:Int):=by omega
   have g0:Hid (cut+k=max P I):=A5 (by have:=b7.out;have:=j4.out;omega)
   rw [g0.out] at g HR
   go_wp2
   go_end0
   exact ⟨rfl,a1,g.out,HR.out⟩
  have j6:(k:Int) < (i:Int):=by omega
  obtain ⟨p,hp⟩:∃p,p=cut+k:=⟨_,rfl⟩
  rw [←hp] at g HR
  have n7:(cut:Int)+(k:Int)=(p:Int):=by omega
  have e6:p+3≤x.length:=by have:=j3 (by omega);omega
  have n8:p < 1000000000:=by omega
  have n9:(0:Int)≤(p:Int):=T00 _
  have e7:k=p-cut:=by omega
  obtain ⟨bv,m1,m2,HF⟩:=unV HR.out
  obtain ⟨l,q,a7,g6,g8⟩:=W6 HF
  have HB:=A5 l
  have c4:=l.cell (i:=4) rfl
  have c5:=l.cell (i:=5) rfl
  have c6:=l.cell (i:=6) rfl
  have f5:=l.frozen 5
  have f6:=l.frozen 6
  have HP:=A5 hp
  have b9:=A5 e7
  obtain ⟨r,hr⟩:∃r,r=p%32768:=⟨_,rfl⟩
  have o4:(p:Int)%32768=(r:Int):=by omega
  have o5:(p:Int).tmod 32768=(r:Int):=by rw [hr];rfl
  have c0:=A5 hr
  clear hp e7 l hr
  have c1:=A5 HF
  go_upto_if 24 with (fail)
  go_cut [5] (fun s5 wx=>s5= .int .i64 (p:Int)∧∃ (m n1 n2:Nat),m≤p∧p < m+32768∧Hid (m%32768=0)∧m < p+1∧Hid (A4 w0 wx (Y2h tr en la at' cut (x.drop cut) (M6 x cut p) (P9 x m p) (P3 32768 x m) p B lv bv n1 n2++Rs)))
  case first=>
   by_cases g1:r=0
   rotate_left
   ·have e8:((r:Int)==0)=false:=by simp;omega
    go_wp2
    go_meet
    case rel=>
     have h1:=g.out.a_le
     have h2:=g.out.le_a
     have h3:=g.out.mod
     exact ⟨rfl,a1,m1,m2,h1,by have:=c0.out;omega,A5 h3,by omega,c1⟩
   have e8:((r:Int)==0)=true:=by subst g1;rfl
   subst g1
   have e9:(p=0∧a1=0)∨p=a1+32768:=by
    have h1:=g.out.a_le
    have h2:=g.out.le_a
    have h3:=g.out.mod
    have h4:=g.out.some
    have h5:=c0.out
    omega
   have HG:Hid (P3 32768 x p=P9 x a1 p):=by
    rcases e9 with ⟨e1,e2⟩ | e1
    ·subst e1;subst e2;exact A5 (by rw [Y8b,Y4c])
    subst e1;exact A5 (X82 _ _ _)
   clear e9
   go_wp2
   go_region
   have h5:=((c1.out.setObjP 5 (.map (some m2))).setObjP 6 (.map (some m1))).drew
   have h6:A4 w0 _ (Z3k (.map (some m2)) (P3 32768 x a1) p::Q0 B (Z6j tr en la lv cut (.map (some m2)) (.map (some m1)) bv at')::B0 5 1 lv (x.drop cut).length (D9 (x.drop cut))::B0 39 1 bv (M6 x cut p).length (D5 .u16 (M6 x cut p))::Z3k (.map (some m1)) (P9 x a1 p) p::Rs):=(X86 h5).fourth
   have H6:=A5 h6
   clear h5 h6
   go_wp2_with (refine Y1t rfl (.tmp 42) rfl Tryz.underlying65 rfl H6.out ?_;intro w7 h7;have H7:=A5 h7;clear h7)
   go_meet
   case rel=>
    refine ⟨rfl,p,m2,m1,T02 _,by omega,A5 ?_,by omega,A5 ?_⟩
    ·have:=c0.out;omega
    rw [Y93,HG.out]
    exact X96 (H7.out.moreMap (Nat.zero_le _))
  case rest=>
   obtain ⟨rfl,m,n1,n2,h1,h2,h3,h4,H8⟩:=hcut
   obtain ⟨l,q,a7,g6,g8⟩:=W6 H8.out
   obtain ⟨D,hD⟩:∃D,D=Z2c 32768 x p:=⟨_,rfl⟩
   have m4:D≤32768:=by rw [hD];exact (Z8r _ _ _).1
   have hN:=Y4i (Z7b _ _ _ _ H8.out.drew) (by have:=HP.out;omega) e6 hlen h1 hb
   rw [←hD,←b9.out] at hN
   have HN:=A5 hN
   have c2:=Z6 x cut p
   rw [c2,←b9.out] at a7
   have b2:=c2
   obtain ⟨bo,y,rfl,q7,q8⟩:=a7.form
   have HB:=A5 l
   have HO:=A5 a7
   have c7:=l.cell (i:=7) rfl
   have f7:=l.frozen 7
   have o8:(0:Int)≤(D:Int):=T00 _
   have o9:IntKind.u16.wrap (D:Int)=(D:Int):=IntWalk.u16_in _ (by omega)
   have k1:=A5 hD
   have c8:A4 w0 wc (Q0 B (Z6j tr en la lv cut (.map (some n1)) (.map (some n2)) (.slice bo k y) at')::B0 5 1 lv (x.drop cut).length (D9 (x.drop cut))::B0 39 1 (.slice bo k y) (M6 x cut p).length (D5 .u16 (M6 x cut p))::Z3k (.map (some n1)) (P9 x m p) p::Z3k (.map (some n2)) (P3 32768 x m) p::Rs):=H8.out
   have HA:=A5 c8.third.swap.apartP
   have f0:=A5 c8
   rw [b2,←b9.out] at f0
   clear c2 b2 c8 hN l q a7 g6 g8 HF c1 hD c4 c5 c6 f5 f6
   go_upto_region 7 with (fail)
   go_cut [5] (fun s5 wx=>s5= .int .i64 (p:Int)∧∃ (a8:Option Addr) (d:Nat),Hid (A4 w0 wx (Q0 B (Z6j tr en la lv cut (.map (some n1)) (.map (some n2)) (.slice a8 (k+1) d) at')::B0 5 1 lv (x.drop cut).length (D9 (x.drop cut))::
    B0 39 1 (.slice a8 (k+1) d) (k+1) (D5 .u16 (M6 x cut (p+1)))::Z3k (.map (some n1)) (P9 x m p) p::Z3k (.map (some n2)) (P3 32768 x m) p::Rs)))
   case first=>
    go_wp2
    go_region_law ((first
     | (refine Z3e _ (by rfl) (.tmp 47) (.tmp 52) 66 (by rfl) 39 i1 (.int .u16 0) 1 2 Tryz.underlying66 l0 l1 l2 l3 (by rfl) (by decide) (.slice bo k y) k (D5 .u16 (M6 x cut p)) (by rfl) (by exact (k2.out.alloc _)) (.slice (some ⟨w5.heap.size,0,none⟩) 1 1) 1 (D5 .u16 [D]) (by rfl) (by exact (Rd.lit w5 [_] _ 1 1 (by decide) rfl)) (Y1c _ _) (by unfold maxLen;omega) (by omega) ?_;intro g3 b3 w6 a4 s g4;have f1:=A5 ((n.out.alloc _).grown s HA.out);have p1:=f1.out.cell (i:=7) rfl;have p2:=f1.out.frozen 7;have H6:=A5 (((H9.out.alloc _).third.app a4 s g4).swap.setObjP 7 (.slice g3 (k+1) b3));clear a4 s g4)
     | (go_simp;go_at_call 118;refine HN.out.mono ?_;rintro e w5 ⟨rfl,m5⟩;have H9:=A5 (f0.out.drew.same m5);have n:=A5 (HB.out.drew.kept m5 (fun h=>h));have k2:=A5 (HO.out.drew.kept m5 (fun _ _ h=>h));have d7:=n.out.cell (i:=7) rfl;have g7:=n.out.frozen 7;have p4:∀o,(w5.alloc o).cell? ⟨B.b,B.o+7,none⟩=some (.slice bo k y):=fun o=>(n.out.alloc o).cell (i:=7) rfl;clear m5)))
    all_goals
     go_wp2
     go_meet
     case rel=>
      refine ⟨rfl,g3,b3,A5 ?_⟩
      have h6:=V0m H6.out
      have e:D5 .u16 (M6 x cut p)++D5 .u16 [D]=D5 .u16 (M6 x cut (p+1)):=by
       rw [X9i x cut p (by have:=HP.out;omega),←k1.out];simp [D5]
      rw [e] at h6
      exact h6
   case rest=>
    obtain ⟨rfl,a8,d,b0⟩:=hcut
    have l:=b0.out.objp
    have HB:=A5 l
    have q:=b0.out.drop.own
    obtain ⟨b4,e4,hM⟩:=b0.out.drop.drop.drop.map
    simp only [Value.map.injEq,Option.some.injEq] at e4
    subst e4
    have p5:=A5 hM
    obtain ⟨L,hL⟩:∃L,L=(x.drop cut).length:=⟨_,rfl⟩
    have k3:L=x.length-cut:=by rw [hL,T03]
    rw [←hL] at q
    have f2:k≤L:=by omega
    obtain ⟨lo,f,rfl,l8,q9⟩:=q.form
    have c3:=l.cell (i:=3) rfl
    have c5:=l.cell (i:=5) rfl
    have a3:∀wg,(Instr.sliceAt 26 (.slice lo L f) (some (.int .i64 (k:Int))) none none).run Tryz.prog wg= .ok (.slice (if f=k then lo else lo.map fun (x:Addr)=>x.add (k*1)) (L-k) (f-k)) wg:=fun wg=>
     O0 (P:=Tryz.prog) 26 5 i0 1 Tryz.underlying26 k8 k9 lo L f k L (some (.int .i64 (k:Int))) none ⟨_,rfl⟩ rfl f2 l8
    have z:=q.rd.cut (L:=k) (H:=L) f2 (T02 _)
    unfold sliced at z
    generalize (if f=k then lo else lo.map fun (x:Addr)=>x.add (k*1))=lo' at a3 z
    have e2:((D9 (x.drop cut)).drop (k*1)).take ((L-k)*1)=D9 (x.drop p):=by
     rw [T01,T01,T05 (by rw [T03,E6,←hL];omega)]
     simp only [D9,←T06,T07]
     rw [HP.out]
    rw [e2] at z
    obtain ⟨K,hK⟩:∃K,K=L-k:=⟨_,rfl⟩
    rw [←hK] at z a3
    have hS:=Y4k _ K (x.drop p) wc.drew z.drew (by have:=HP.out;omega)
    obtain ⟨s0,s1,s2,hs,hg⟩:=X6l e6 hb
    have f3:(x.drop p).take 3=[s0,s1,s2]:=hs
    rw [f3] at hS
    have HS:Hid (Calls Tryz.prog 150 _ wc.drew fun e w'=>e= .returned (.agg #[.int .u8 (s0:Int),.int .u8 (s1:Int),.int .u8 (s2:Int)])∧E5 wc.drew w' (fun _=>False)):=hS
    have k5:Hid (∀w5,E5 wc.drew w5 (fun _=>False)→∃w7,(Instr.mapUpdate 65 (.map (some n1)) (.agg #[.int .u8 (s0:Int),.int .u8 (s1:Int),.int .u8 (s2:Int)]) (.int .i64 (p:Int))).run Tryz.prog w5= .ok () w7∧
      X0 (X4 .u8) Z3l (fun p:Nat=> .int .i64 (p:Int)) w7 n1 (P9 x m (p+1)) (p+1)∧E5 w5 w7 (fun j=>j=n1)):=A5 fun w5 m5=>by
     have hm:X0 (X4 .u8) Z3l (fun p:Nat=> .int .i64 (p:Int)) wc.drew n1 (P9 x m p) p:=hM
     rw [hs] at hg
     exact (hm.kept m5 (fun h=>h)).store Z5t (t:=65) Tryz.underlying65 [s0,s1,s2] hg p (P9 x m (p+1)) (by rw [Y4f x m p h1,hs];exact if_pos rfl) (fun s' hs'=>by rw [Y4f x m p h1,hs];exact if_neg hs')
    have p8:=A5 (And.intro hs hg)
    have HL:=A5 hL
    clear hS hs hg f3 z e2 hK hL k3 q l hM H8 HN HO
    go_wp2
    go_region_law ((first
     | (
      go_simp;go_at_call 150;refine HS.out.mono ?_;rintro e w5 ⟨rfl,m5⟩;have f4:=A5 (b0.out.drew.same m5);have n:=A5 (HB.out.drew.kept m5 (fun h=>h));have d3:=n.out.cell (i:=3) rfl;have d5:=n.out.cell (i:=5) rfl
      obtain ⟨w7,h0,h8,h9⟩:=k5.out w5 m5
      have f8:=A5 h8;have Hm7:=A5 h9;clear m5 h8 h9)))
    all_goals
     have h6:A4 w0 w5 (Y8v (X4 .u8) Z3l (fun p:Nat=> .int .i64 (p:Int)) (.map (some n1)) (P9 x m p) p::Q0 B (Z6j tr en la (.slice lo L f) cut (.map (some n1)) (.map (some n2)) (.slice a8 (k+1) d) at')::
       B0 5 1 (.slice lo L f) (x.drop cut).length (D9 (x.drop cut))::B0 39 1 (.slice a8 (k+1) d) (k+1) (D5 .u16 (M6 x cut (p+1)))::Z3k (.map (some n2)) (P3 32768 x m) p::Rs):=f4.out.fourth
     have h7:=V0c (n':=p+1) (by omega) (X96 (h6.putMap f8.out Hm7.out))
     have hl:(M6 x cut (p+1)).length=k+1:=by rw [Z6];have:=HP.out;omega
     rw [←hl] at h7
     have k6:=A5 (mkV _ _ _ h7)
     have k7:Hid (Z16 x cut (p+1) m):=A5 ⟨by have:=HP.out;omega,.inr (by omega),by omega,by omega,h3.out,.inl h4⟩
     have f9:Hid (p+1=cut+(k+1)):=A5 (by have:=HP.out;omega)
     clear h6 h7 hl f4 n f8 Hm7 h0 d3 d5
     go_wp2
     go_roundg (gk-1)
     case measure=>omega
     case rel=>
      refine ⟨k+1,m,by omega,.inr (by omega),by omega,by go_num, ?_, ?_⟩
      ·rw [←f9.out];exact k7
      rw [←f9.out];exact k6
end
section
variable {w0 w:World} {Rs:List A6} {tr en la at' cut a P:Nat} {B:C4} {x:List Nat}
def Z5b (f:Nat×Nat):List Value:=[.int .u8 0,.int .i64 (f.1:Int),.int .i64 (f.2:Int)]
theorem V7g {L i E:Nat} {x:List Nat} (hL:L=(x.drop cut).length) (hE:E=min (i+258) L):((D9 (x.drop cut)).drop (i*1)).take ((E-i)*1)=D9 (S7 258 x (cut+i))∧E-i=(S7 258 x (cut+i)).length:=by
 have a:E-i=(S7 258 x (cut+i)).length:=by rw [Z13,hE,hL,T03];omega
 refine ⟨?_,a⟩
 rw [T01,T01,a]
 simp only [D9,←T06,←List.map_take,T07]
 congr 1
 unfold S7
 rw [List.length_take]
 by_cases c:258≤(x.drop (cut+i)).length
 ·rw [Nat.min_eq_left c]
 rw [T05 (by omega),T05 (by omega)]
theorem X66 (H:A4 w0 w (inF tr en la at' x cut P a B::Rs)) (HI:Z16 x cut P a) (I:Nat) (hPI:P≤I) (hIx:I≤x.length) (hcw:cut=0∨cut+32768≤I) (hlen:x.length < 1000000000) (hb:∀b∈x,b < 256) (htr:tr < 1000000000):
  Calls Tryz.prog 96 #[.pointer (some ⟨B.b,B.o,none⟩),.int .i64 ((I-cut:Nat):Int)] w fun e w'=>e= .returned (.agg (Z5b (best 32768 258 x tr en I)).toArray)∧∃P' a',P'≤I∧Z16 x cut P' a'∧A4 w0 w' (inF tr en la at' x cut P' a' B::Rs):=by
 obtain ⟨i0,h4,u6,h5,u7⟩:=info_parts Z2u
 obtain ⟨i,hi⟩:∃i,i=I-cut:=⟨_,rfl⟩
 rw [←hi]
 have j1:=HI.cut_le
 have b9:cut+i=I:=by omega
 obtain ⟨lv,H⟩:=V4z H
 obtain ⟨bv,m1,m2,HF⟩:=unV H
 obtain ⟨hB,hO,_,_,_⟩:=W6 HF
 obtain ⟨L,hL⟩:∃L,L=(x.drop cut).length:=⟨_,rfl⟩
 have j2:L=x.length-cut:=by rw [hL,T03]
 have r0:i≤L:=by omega
 obtain ⟨q,hq⟩:∃q,q=i+258:=⟨_,rfl⟩
 obtain ⟨E,hE⟩:∃E,E=min (i+258) L:=⟨_,rfl⟩
 have j3:E≤L:=by omega
 have e5:i≤E:=by omega
 have r1:(i:Int)+258=(q:Int):=by omega
 have j4:(if L < q then (L:Int) else (q:Int))=(E:Int):=by split <;> omega
 obtain ⟨d9,b4⟩:=V7g (cut:=cut) (x:=x) hL hE
 rw [b9] at d9 b4
 rw [←hL] at hO
 obtain ⟨l,f,rfl,n3,v0⟩:=hO.form
 have c3:=hB.cell (i:=3) rfl
 obtain ⟨K,hK⟩:∃K,K=E-i:=⟨_,rfl⟩
 have p:∀wg,(Instr.sliceAt 26 (.slice l L f) (some (.int .i64 (i:Int))) (some (.int .i64 (E:Int))) none).run Tryz.prog wg= .ok (.slice (if f=i then l else l.map fun (x:Addr)=>x.add (i*1)) (E-i) (f-i)) wg:=fun wg=>
  O0 (P:=Tryz.prog) 26 5 i0 1 Tryz.underlying26 h4 h5 l L f i E (some (.int .i64 (i:Int))) (some (.int .i64 (E:Int))) ⟨_,rfl⟩ ⟨_,rfl⟩ e5 (by omega)
 have z:∀w',Own w' 5 1 (.slice l L f) L (D9 (x.drop cut))→Rd w' 1 (.slice (if f=i then l else l.map fun (x:Addr)=>x.add (i*1)) (E-i) (f-i)) (E-i) (((D9 (x.drop cut)).drop (i*1)).take ((E-i)*1)):=fun w' h=>by
  have z:=h.rd.cut (L:=i) (H:=E) e5 j3
  unfold sliced at z
  exact z
 generalize (if f=i then l else l.map fun (x:Addr)=>x.add (i*1))=ro at p z
 rw [d9,←hK] at z
 rw [←hK] at p b4
 have o1:K+i≤L:=by omega
 have r2:L < 1000000000:=by omega
 generalize f-i=rcap at p z
 have j6:=A5 z
 have e6:=A5 hB
 have HK:=A5 b4
 have HH:=A5 H
 have e7:=A5 HI
 have r:=A5 b9
 have e8:=A5 hPI
 have r3:q < 1000001000:=by omega
 have r4:E < 1000000000:=by omega
 have r5:(0:Int)≤(K:Int):=T00 _
 have e9:=A5 hL
 clear hi z d9 b4 H HI hB hO HF hL j2 hq hE hK b9 hPI j1
 have a9:A4 w0 ((w.alloc (.cells #[.int .u8 0,.int .i64 0,.int .i64 0] 112)).alloc (.cells #[.int .u8 0,.int .i64 0,.int .i64 0] 112)) (E8 (w.heap.size+1) (Z5b (0,0)) 112::E8 w.heap.size (Z5b (0,0)) 112::inV tr en la at' x cut P a B (.slice l L f)::Rs):=by
  have h:=(HH.out.newObj (Z5b (0,0)) 112).newObj (Z5b (0,0)) 112
  rw [show (w.alloc (.cells (Z5b (0,0)).toArray 112)).heap.size=w.heap.size+1 by simp] at h
  exact h
 have j7:((w.alloc (.cells #[.int .u8 0,.int .i64 0,.int .i64 0] 112)).alloc (.cells #[.int .u8 0,.int .i64 0,.int .i64 0] 112)).cell? ⟨B.b,B.o+3,none⟩=some (.slice l L f):=((e6.out.alloc _).alloc _).cell (i:=3) rfl
 go_enter Tryz.func96,Tryz.ntmps96
 go_upto_region 2 with (fail)
 generalize (w.alloc (.cells #[.int .u8 0,.int .i64 0,.int .i64 0] 112)).alloc (.cells #[.int .u8 0,.int .i64 0,.int .i64 0] 112)=wA at a9 j7⊢
 generalize w.heap.size=N at a9⊢
 have j:=A5 a9
 clear a9 e6 HH c3
 by_cases g9:K < 3
 ·have f0:(K:Int) < 3:=by omega
  have c4:Hid (best 32768 258 x tr en I=(0,0)):=A5 (by unfold best;rw [if_pos (by rw [←HK.out];exact g9)])
  have q0:=j.out.obj.cell0 rfl
  have q1:=j.out.obj.cell (i:=1) rfl
  have q2:=j.out.obj.cell (i:=2) rfl
  have e0:=j.out.drop.obj.frozen0
  have e1:=j.out.drop.obj.frozen 1
  have e2:=j.out.drop.obj.frozen 2
  have k0:=j.out.drop.obj.cell0 rfl
  have k1:=j.out.drop.obj.cell (i:=1) rfl
  have k2:=j.out.drop.obj.cell (i:=2) rfl
  go_quiet (fail)
  go_wp2
  have H9:=(((j.out.drewN nq).swap.setObj 0 (.int .u8 0)).setObj 1 (.int .i64 0)).setObj 2 (.int .i64 0)
  refine Z2y rfl _ 3 Tryz.underlying112 rfl Z5z N (Z5b (0,0)) 112 rfl rfl H9.obj rfl ⟨by rw [c4.out],P,e8.out,a,e7.out,W1h H9.drop.drop⟩
 have f0:¬(K:Int) < 3:=by omega
 have k4:I+3≤x.length:=by have:=HK.out;rw [Z13] at this;omega
 have c5:=A5 (fun wz (h:A4 w0 wz (inV tr en la at' x cut P a B (.slice l L f)::E8 (N+1) (Z5b (0,0)) 112::E8 N (Z5b (0,0)) 112::Rs))=>Y92 h e7.out I (by have:=r.out;omega) (.inr (by omega)) hlen hb)
 rw [show I-cut=i by have:=r.out;omega,Nat.max_eq_right e8.out] at c5
 go_quiet (fail)
 go_wp2_with fail
 refine (c5.out _ (j.out.drewN nq).third).mono ?_
 rintro e w3 ⟨rfl,a1,d5,h3⟩
 have k6:=A5 d5
 have H3:=A5 h3
 have HN:=A5 (Y4i (n:=I) (W1h h3) (by have:=r.out;omega) k4 hlen d5.a_le hb)
 rw [show I-cut=i by have:=r.out;omega] at HN
 clear d5 h3 c5
 go_wp2_with fail
 refine HN.out.mono ?_
 rintro e w4 ⟨rfl,m4⟩
 have H4:=A5 (H3.out.same m4)
 clear m4 HN H3 j
 have c4:Hid (Y02 32768 x I (S7 258 x I) en tr (Z2c 32768 x I) (0,0)=best 32768 258 x tr en I):=A5 (by unfold best;rw [if_neg (by rw [←HK.out];exact g9)])
 obtain ⟨m,hm⟩:∃m,m=min en K:=⟨_,rfl⟩
 have o4:(if K < en then (K:Int) else (en:Int))=(m:Int):=by split <;> omega
 have r9:m≤K:=by omega
 have HM:=A5 hm
 have k8:=A5 hcw
 have s0:I < 1000000000:=by omega
 clear hm j4 hcw p
 go_wp2
 go_loopg [7,8,9] (tr+2) (fun gg t7 t8 t9 wr=>∃ (d t g f2:Nat),t≤tr∧tr+1-t < gg∧t7= .int .i64 (d:Int)∧t8= .int .i64 (t:Int)∧g≤K∧Hid (Y02 32768 x I (S7 258 x I) en (tr-t) d (g,f2)=best 32768 258 x tr en I)∧
  Hid (0 < d→d≤32768∧d≤I∧at3 x (I-d)=at3 x I)∧Hid (A4 w0 wr (inV tr en la at' x cut I a1 B (.slice l L f)::E8 (N+1) (Z5b (g,f2)) 112::E8 N (Z5b (0,0)) 112::Rs)))
 case atStart=>exact ⟨Z2c 32768 x I,0,0,0,by omega,by omega,rfl,rfl,by omega,c4,A5 (fun h=>⟨(Z8r _ _ _).1,(Z8r _ _ _).2,Y3f h⟩),H4⟩
 case round=>
  obtain ⟨d,t,g,f2,ht,hg,rfl,rfl,h7,HS,HD,HR⟩:=hrel
  have s1:(0:Int)≤(d:Int):=T00 _
  have s2:(0:Int)≤(t:Int):=T00 _
  have s3:(0:Int)≤(g:Int):=T00 _
  obtain ⟨v2,n1,n2,h8⟩:=unV HR.out
  obtain ⟨hB,hO,_,_,_⟩:=W6 h8
  rw [←e9.out] at hO
  have HB:=A5 hB
  have HO:=A5 hO
  have c0:=hB.cell0 rfl
  have c1:=hB.cell (i:=1) rfl
  have g1:=HR.out.drop.obj.cell (i:=1) rfl
  clear hB hO h8
  go_upto_region 8 with (fail)
  go_cut [63] (fun s63 wx=>∃bq:Bool,s63= .bool bq∧Hid (bq=decide (t < tr∧0 < d∧g < m))∧∃n,wx=wr.drewN n)
  case first=>
   by_cases h1:t < tr
   rotate_left
   ·obtain rfl:t=tr:=by omega
    have c6:¬(t:Int) < (t:Int):=by omega
    have b1:decide ((t:Int) < (t:Int))=false:=decide_eq_false c6
    have k9:decide (t < t)=false:=decide_eq_false h1
    go_quiet (fail)
    go_wp2
    go_meet
    case rel=>exact ⟨false,rfl,A5 (by simp),_,rfl⟩
   have c6:(t:Int) < (tr:Int):=by omega
   have b1:decide ((t:Int) < (tr:Int))=true:=decide_eq_true c6
   have k9:decide (t < tr)=true:=decide_eq_true h1
   by_cases h2:0 < d
   ·have c7:(0:Int) < (d:Int):=by omega
    have b2:decide ((0:Int) < (d:Int))=true:=decide_eq_true c7
    have s9:decide (0 < d)=true:=decide_eq_true h2
    by_cases h3:g < m
    ·have c8:(g:Int) < (m:Int):=by omega
     have b3:decide ((g:Int) < (m:Int))=true:=decide_eq_true c8
     have l0:decide (g < m)=true:=decide_eq_true h3
     go_quiet (fail)
     go_wp2
     go_meet
     case rel=>exact ⟨true,rfl,A5 (by simp [h1,h2,h3]),_,rfl⟩
    have c8:¬(g:Int) < (m:Int):=by omega
    have b3:decide ((g:Int) < (m:Int))=false:=decide_eq_false c8
    have l0:decide (g < m)=false:=decide_eq_false h3
    go_quiet (fail)
    go_wp2
    go_meet
    case rel=>exact ⟨false,rfl,A5 (by simp [h3]),_,rfl⟩
   obtain rfl:d=0:=by omega
   have c7:¬(0:Int) < ((0:Nat):Int):=by omega
   have b2:decide ((0:Int) < ((0:Nat):Int))=false:=decide_eq_false c7
   go_quiet (fail)
   go_wp2
   go_meet
   case rel=>exact ⟨false,rfl,A5 (by simp),_,rfl⟩
  case rest=>
   obtain ⟨bq,rfl,i1,nn,i2⟩:=hcut
   have H5:=A5 (HR.out.drewN nn)
   have f6:=A5 (HB.out.kept ((E5.refl wr (fun _=>False)).drewN nn) (fun h=>h))
   have c9:=A5 (HO.out.kept ((E5.refl wr (fun _=>False)).drewN nn) (fun _ _ h=>h))
   rw [←i2] at H5 f6 c9
   clear i2 HB HO HR c0 c1 g1
   obtain ⟨wq,n6⟩:∃wq,wq=wc:=⟨_,rfl⟩
   subst n6
   by_cases hc:t < tr∧0 < d∧g < m
   rotate_left
   ·obtain rfl:bq=false:=by rw [i1.out];exact decide_eq_false hc
    have g8:Hid ((g,f2)=best 32768 258 x tr en I):=A5 (by
     have h:=HS.out
     by_cases c:t < tr
     ·rw [show tr-t=tr- (t+1)+1 by omega,Y02,if_neg (fun h2=>hc ⟨c,h2.1,by have:=h2.2;rw [←HK.out,←HM.out] at this;exact this⟩)] at h
      exact h
     rw [show tr-t=0 by omega] at h
     exact h)
    have H6:=A5 H5.out.swap
    have g0:=H6.out.obj.cell0 rfl
    have g1:=H6.out.obj.cell (i:=1) rfl
    have g2:=H6.out.obj.cell (i:=2) rfl
    have H7:=A5 H5.out.third
    have e0:=H7.out.obj.frozen0
    have e1:=H7.out.obj.frozen 1
    have e2:=H7.out.obj.frozen 2
    have k0:=H7.out.obj.cell0 rfl
    have k1:=H7.out.obj.cell (i:=1) rfl
    have k2:=H7.out.obj.cell (i:=2) rfl
    clear hc
    go_wp2
    have H9:=((H7.out.setObj 0 (.int .u8 0)).setObj 1 (.int .i64 (g:Int))).setObj 2 (.int .i64 (f2:Int))
    refine Z2y rfl _ 3 Tryz.underlying112 rfl Z5z N (Z5b (g,f2)) 112 (by with_unfolding_all rfl) rfl H9.obj rfl ⟨by rw [←g8.out],I,T02 _,a1,k6.out,W1h H9.drop.swap.drop⟩
   obtain rfl:bq=true:=by rw [i1.out];exact decide_eq_true hc
   obtain ⟨v3,i4,n7⟩:=hc
   obtain ⟨v4,n8,i5⟩:=HD.out i4
   have l1:d≤i:=by have:=r.out;have:=k8.out;omega
   obtain ⟨s,hs⟩:∃s,s=i-d:=⟨_,rfl⟩
   have t1:(i:Int)- (d:Int)=(s:Int):=by omega
   have f7:s≤L:=by omega
   have t2:(0:Int)≤(s:Int):=T00 _
   have d0:cut+s=I-d:=by have:=r.out;omega
   have a2:∀wg,(Instr.sliceAt 26 (.slice l L f) (some (.int .i64 (s:Int))) none none).run Tryz.prog wg= .ok (.slice (if f=s then l else l.map fun (x:Addr)=>x.add (s*1)) (L-s) (f-s)) wg:=fun wg=>
    O0 (P:=Tryz.prog) 26 5 i0 1 Tryz.underlying26 h4 h5 l L f s L (some (.int .i64 (s:Int))) none ⟨_,rfl⟩ rfl f7 n3
   have y:=c9.out.rd.cut (L:=s) (H:=L) f7 (T02 _)
   have d1:=j6.out _ c9.out
   unfold sliced at y
   generalize (if f=s then l else l.map fun (x:Addr)=>x.add (s*1))=fo at a2 y
   have e2:((D9 (x.drop cut)).drop (s*1)).take ((L-s)*1)=D9 (x.drop (I-d)):=by
    rw [T01,T01,T05 (by rw [T03,E6,←e9.out];omega)]
    simp only [D9,←T06,T07]
    rw [d0]
   rw [e2] at y
   obtain ⟨F,hF⟩:∃F,F=L-s:=⟨_,rfl⟩
   rw [←hF] at y a2
   generalize f-s=fcap at a2 y
   have l2:K≤F:=by omega
   have l3:F=(x.drop (I-d)).length:=by have:=y.1;rw [E6] at this;omega
   obtain ⟨va,d6⟩:∃va,(x.drop (I-d))[g]?=some va:=⟨(x.drop (I-d))[g]'(by omega),T04 _⟩
   obtain ⟨vb,d7⟩:∃vb,(S7 258 x I)[g]?=some vb:=⟨(S7 258 x I)[g]'(by have:=HK.out;omega),T04 _⟩
   have c3:=f6.out.cell (i:=3) rfl
   have g1:=H5.out.drop.obj.cell (i:=1) rfl
   have l4:=A5 (fun (wz:World) (h1:Rd wz 1 (.slice fo F fcap) F (D9 (x.drop (I-d)))) (h2:Rd wz 1 (.slice ro K rcap) K (D9 (S7 258 x I)))=>W5k _ _ F K _ _ wz h1 h2 l2 (by omega))
   have l5:=A5 y
   have l6:=A5 d1
   obtain ⟨gf,of,rfl,cf⟩:=y.spot (by omega)
   obtain ⟨gr,n9,rfl,cr⟩:=d1.spot (by omega)
   have l7:=cf g (.int .u8 (va:Int)) (by rw [Z3,d6];rfl)
   have l8:=cr g (.int .u8 (vb:Int)) (by rw [Z3,d7];rfl)
   have o8:(g:Int) < (F:Int):=by omega
   have o9:(g:Int) < (K:Int):=by omega
   have t3:F < 1000000000:=by omega
   have HV:=A5 (And.intro d6 d7)
   have l9:=A5 i5
   have t4:=A5 d0
   have t5:=A5 hs
   clear cf cr d6 d7 y d1 e2 hF l3 hs d0 i5
   go_upto_region 11 with (fail)
   go_cut [85] (fun s85 wx=>s85= .bool (decide (va=vb))∧∃n,wx=wq.drewN n)
   case first=>
    by_cases hv:va=vb
    ·subst hv
     go_quiet (fail)
     go_wp2
     go_meet
     case rel=>exact ⟨by simp,_,rfl⟩
    have t6:((va:Int)==(vb:Int))=false:=by simp;omega
    have u0:decide ((va:Int)=(vb:Int))=false:=by simp;omega
    have m0:decide (va=vb)=false:=by simpa using hv
    have u1:(va==vb)=false:=by simpa using hv
    go_quiet (fail)
    go_wp2
    go_meet
    case rel=>exact ⟨by rw [m0],_,rfl⟩
   case rest=>
    obtain ⟨rfl,n2,i6⟩:=hcut
    have H6:=A5 (H5.out.drewN n2)
    have b5:=A5 (l5.out.kept ((E5.refl wq (fun _=>False)).drewN n2) (fun _ _ h=>h))
    have b6:=A5 (l6.out.kept ((E5.refl wq (fun _=>False)).drewN n2) (fun _ _ h=>h))
    rw [←i6] at H6 b5 b6
    clear i6 c3 g1 l7 l8
    obtain ⟨wp,o0⟩:∃wp,wp=wc:=⟨_,rfl⟩
    subst o0
    go_upto_if 85 with (fail)
    go_cut [7] (fun s7 wx=>s7= .int .i64 (d:Int)∧∃ (e1 e2:Nat),e1≤K∧Hid ((e1,e2)=Z4z x I (S7 258 x I) d (g,f2))∧Hid (A4 w0 wx (E8 (N+1) (Z5b (e1,e2)) 112::inV tr en la at' x cut I a1 B (.slice l L f)::E8 N (Z5b (0,0)) 112::Rs)))
    case first=>
     by_cases hv:va=vb
     rotate_left
     ·have m3:decide (va=vb)=false:=by simpa using hv
      go_wp2
      go_meet
      case rel=>
       refine ⟨rfl,g,f2,h7,A5 ?_,A5 H6.out.swap⟩
       unfold Z4z
       rw [if_neg (by rw [HV.out.1,HV.out.2];simpa using hv)]
     subst hv
     have m3:decide (va=va)=true:=by simp
     have g0:=H6.out.drop.obj.cell0 rfl
     have g1:=H6.out.drop.obj.cell (i:=1) rfl
     have g2:=H6.out.drop.obj.cell (i:=2) rfl
     obtain ⟨S,hS⟩:∃S,S=same (x.drop (I-d)) (S7 258 x I):=⟨_,rfl⟩
     have m5:S≤K:=by rw [hS,HK.out];exact (Z3z _ _).2.1
     obtain ⟨e1,e2,he,e4,i7⟩:∃e1 e2:Nat,(e1,e2)=Z4z x I (S7 258 x I) d (g,f2)∧e1≤K∧∀wz,Calls Tryz.prog 119 #[.agg #[.int .u8 0,.int .i64 (g:Int),.int .i64 (f2:Int)],.agg #[.int .u8 0,.int .i64 (S:Int),.int .i64 (d:Int)]] wz fun e w'=>e= .returned (.agg #[.int .u8 0,.int .i64 (e1:Int),.int .i64 (e2:Int)])∧E5 wz w' (fun _=>False):=by
      have f8:Z4z x I (S7 258 x I) d (g,f2)=if g < S then (S,d) else (g,f2):=by
       unfold Z4z;rw [if_pos (by rw [HV.out.1,HV.out.2]),←hS]
      by_cases c:g < S
      ·exact ⟨S,d,by rw [f8,if_pos c],m5,fun wz=>by have h:=Y7q 0 g f2 0 S d wz;rw [if_pos c] at h;exact h⟩
      exact ⟨g,f2,by rw [f8,if_neg c],h7,fun wz=>by have h:=Y7q 0 g f2 0 S d wz;rw [if_neg c] at h;exact h⟩
     have m7:=A5 i7
     have f9:Hid (∀k,Calls Tryz.prog 120 #[.slice (some ⟨gf,of,none⟩) F fcap,.slice (some ⟨gr,n9,none⟩) K rcap] (wp.drewN k) fun e w'=>e= .returned (.int .i64 (S:Int))∧∃k,w'=wp.drewN k):=A5 fun k=>by
      have h:=l4.out (wp.drewN k) (b5.out.kept ((E5.refl wp (fun _=>False)).drewN k) (fun _ _ h=>h)) (b6.out.kept ((E5.refl wp (fun _=>False)).drewN k) (fun _ _ h=>h))
      rw [←hS] at h
      exact h.mono fun e w' ⟨h1,n,h2⟩=>⟨h1,k+n,by rw [h2,World.drewN_drewN]⟩
     have HE:=A5 he
     clear i7 he hS
     go_wp2
     go_region_law ((first
      | (go_simp;go_at_call 120;refine (f9.out 1).mono ?_;rintro e w5 ⟨rfl,k5,rfl⟩)
      | (go_simp;go_at_call 119;refine (m7.out _).mono ?_;rintro e w6 ⟨rfl,m6⟩;have H7:=A5 ((H6.out.drewN k5).swap.same m6);have n0:=H7.out.obj.cell0 rfl;have n1:=H7.out.obj.cell (i:=1) rfl;have n2:=H7.out.obj.cell (i:=2) rfl;have p0:=H7.out.obj.frozen0;have p1:=H7.out.obj.frozen 1;have p2:=H7.out.obj.frozen 2;clear m6)))
     all_goals
      go_wp2
      go_meet
      case rel=>exact ⟨rfl,e1,e2,e4,HE,A5 (((H7.out.setObj 0 _).setObj 1 _).setObj 2 _)⟩
    case rest=>
     obtain ⟨rfl,e1,e2,e4,HE,H8⟩:=hcut
     have g4:=X77 (W1h H8.out.swap) i d (Z2c 32768 x (I-d)) l1 (by have:=r.out;omega) (by rw [Y2j x cut I (i-d) (by have:=r.out;omega),show cut+(i-d)=I-d by have:=r.out;omega]) (Z8r _ _ _).1
     have g5:Hid (Calls Tryz.prog 121 #[.pointer (some ⟨B.b,B.o+3,none⟩),.int .i64 (i:Int),.int .i64 (d:Int)] wc fun e w'=>e= .returned (.int .i64 ((far 32768 x I d:Nat):Int))∧w'=wc):=g4
     have g6:Hid (Y02 32768 x I (S7 258 x I) en (tr- (t+1)) (far 32768 x I d) (e1,e2)=best 32768 258 x tr en I):=A5 (by
      have h:=HS.out
      rw [show tr-t=tr- (t+1)+1 by omega,Y02,if_pos ⟨i4,by rw [←HK.out,←HM.out];exact n7⟩,←HE.out] at h
      exact h)
     have g7:Hid (0 < far 32768 x I d→far 32768 x I d≤32768∧far 32768 x I d≤I∧at3 x (I-far 32768 x I d)=at3 x I):=A5 fun h=>by
      obtain ⟨k1,k2,k3⟩:=X43 n8 l9.out h
      exact ⟨k2,k1,k3⟩
     generalize far 32768 x I d=d3 at g5 g6 g7
     clear g4
     go_wp2_with fail
     refine g5.out.mono ?_
     rintro e w9 ⟨rfl,rfl⟩
     go_wp2
     go_roundg (gk-1)
     case measure=>omega
     case rel=>exact ⟨d3,t+1,e1,e2,by omega,by omega,rfl,by go_num,e4,g6,g7,A5 H8.out.swap⟩
end
end Go.Proofs.YtbkbkmgogbgofaaGreatDoor
