/- The claim's texts, put together and shortened by a program (names, spaces). -/
import Derived.Test.YtbkbkmgogbgofaaGreatDoorZk25
import Derived.Test.YtbkbkmgogbgofaaGreatDoorZk04
import Derived.Lib.AppendZerosOnto
import Derived.Test.YtbkbkmgogbgofaaGreatDoorZk21
import Derived.Test.YtbkbkmgogbgofaaGreatDoorZk02
import Derived.Test.YtbkbkmgogbgofaaGreatDoorZk03
import Derived.Deep.DeepCutAuto
import Derived.Test.YtbkbkmgogbgofaaGreatDoorZk24
open List renaming replicate→T01,getElem?_eq_none→T03,length_cons→T05,getElem?_eq_getElem→T06,map→T07,ext_getElem?→T08,mem_of_getElem?→T09,map_append→T0c,length_take→T0d,length_append→T0e,range→T0f,getElem?_set→T0g,take_of_length_le→T0h,cons_append→T0i,getElem?_append_right→T0j,countP_append→T0k,countP_cons→T0l
open Nat renaming zero_add→T04,le_refl→T0a,sub_self→T0b
open Int renaming natCast_nonneg→T00,toNat→T02
namespace Go.Proofs.YtbkbkmgogbgofaaGreatDoor
set_option maxRecDepth 100000
set_option maxHeartbeats 6400000
open Go.RowKit
theorem Y13:(Tryz.prog.info? 193).map (fun i=>(i.zero,i.size,i.bytes))=some (some (.agg #[.int .i64 0,.int .i64 0]),2,16):=by kernel_rfl
theorem X1j (n:Nat) (Z:List G9) (v:Value) (w0 w:World) (Rs:List A6) (h:A4 w0 w (J5 v Z::Rs)) (hn:Z.length=n) (hN2:n≤100000):
  Calls Tryz.prog 186 #[v,Y0r] w fun e w'=>e= .returned (.tuple #[])∧A4 w0 w' (J5 v (I4 Z)::Rs):=by
 have a:=A5 (X95 n Z v w0 w Rs h hn hN2)
 obtain ⟨k,g,rfl,b,i⟩:=U1 h
 unfold Y0r at*
 rw [hn] at a b⊢
 clear h hn
 go_enter Tryz.func186,Tryz.ntmps186
 go_wp2_with fail
 refine a.out.mono ?_
 rintro e j ⟨rfl,d⟩
 have f:=A5 d
 clear d a
 go_wp2
 go_end0
 exact ⟨rfl,f⟩
theorem X3x (n:Nat) (Z:List G9) (v:Value) (w0 w:World) (Rs:List A6) (h:A4 w0 w (J5 v Z::Rs)) (hn:Z.length=n) (hN2:n≤100000):
  Calls Tryz.prog 166 #[v] w fun e w'=>e= .returned (.tuple #[])∧A4 w0 w' (J5 v (I4 Z)::Rs):=by
 have a:=A5 (X1j n Z v w0 w Rs h hn hN2)
 clear h hn
 unfold Y0r at*
 go_enter Tryz.func166,Tryz.ntmps166
 go_wp2_with fail
 refine a.out.mono ?_
 rintro e f ⟨rfl,b⟩
 have d:=A5 b
 clear b a
 go_wp2
 go_end0
 exact ⟨rfl,d⟩
theorem V0y (n:Nat) (w0 w:World) (Rs:List A6) (h:A4 w0 w Rs) (hn:0 < n) (hN2:n≤100000):
  Calls Tryz.prog 185 #[.slice none 0 0,.int .i64 (n:Int)] w fun e w'=>∃v,e= .returned v∧A4 w0 w' (J5 v []::Rs):=by
 obtain ⟨i,p,l,m,b⟩:=info_parts Y13
 obtain ⟨G,d⟩:∃G,G=grownCap w (0+n) 0 193:=⟨_,rfl⟩
 have f:∀ty,(Builtin.append_ #[190,3] ty #[.slice none 0 0,.int .i64 (n:Int)]).run Tryz.prog w=
   .ok (.slice (some ⟨w.heap.size,0,none⟩) n G) (w.drew.alloc (.cells (#[]++Builtin.zeroCells (#[.int .i64 0,.int .i64 0]) n++Builtin.zeroCells (#[.int .i64 0,.int .i64 0]) (G-n)) 193)):=fun ty=>by
  have h:=Lib.run_append_grow_zeros w 190 3 ty 193 i (.agg #[.int .i64 0,.int .i64 0]) .i64 .i64 Tryz.underlying190 Tryz.underlying3 p l none 0 0 [] (by simp [Builtin.firstCells]) n hn (by rw [m];decide) (by omega) (by omega) (by rw [b];omega) (growslice_fits (by omega) (by rw [b];omega))
  rw [←d,T04] at h
  exact h
 have o:n≤G:=by rw [d];have:=grownCap_ge w (0+n) 0 193;omega
 have g:G≤maxLen:=by rw [d];exact grownCap_le_maxLen w (0+n) 0 _ (by unfold maxLen;omega)
 have H:=A5 h
 have q:(0:Int)≤(n:Int):=T00 _
 have r:¬(n:Int) < 0:=by omega
 have s:(0:Int) < (n:Int):=by omega
 clear h d
 go_enter Tryz.func185,Tryz.ntmps185
 go_wp2_with (at_builtin;refine Lib.wpList_append_run _ rfl _ _ _ _ rfl _ _ rfl rfl _ _ (f _) ?_)
 go_ret
 refine ⟨_,rfl, ?_⟩
 have a:Own ((w.alloc (.cells (Builtin.zeroCells #[.int .i64 0,.int .i64 0] n++Builtin.zeroCells #[.int .i64 0,.int .i64 0] (G-n)) 193)).drew) 193 2 (.slice (some ⟨w.heap.size,0,none⟩) 0 G) 0 []:=
  ⟨rfl,.inr ⟨w.heap.size,0,G,_,rfl,heap_alloc_new w _,Nat.zero_le _,g,by simp [size_zeroCells];omega,fun j u hu=>by simp at hu⟩⟩
 exact H.out.pushOwn a (((E5.refl w _).alloc _).drew) (fun k hk=>by simp [Value.ownBlock] at hk;omega)
theorem X7x (n m B:Nat) (X Y:List G9) (x y:Value) (w0 w:World) (Rs:List A6) (h:A4 w0 w (B0 190 1 (.slice (some ⟨B,0,none⟩) 2 2) 2 [x,y]::J5 x X::J5 y Y::Rs)) (hn:X.length=n) (hm:Y.length=m) (hn0:0 < n) (hN2:n+m≤100000):
  Calls Tryz.prog 165 #[.slice (some ⟨B,0,none⟩) 2 2] w fun e w'=>∃v,e= .returned v∧A4 w0 w' (J5 v (X++Y)::B0 190 1 (.slice (some ⟨B,0,none⟩) 2 2) 2 [x,y]::J5 x X::J5 y Y::Rs):=by
 obtain ⟨i0,hi,a3,a4,a5⟩:=info_parts Y13
 obtain ⟨xo,xc,rfl,b4,c7⟩:=U1 h.swap
 obtain ⟨yo,yc,rfl,b5,c8⟩:=U1 h.third
 rw [hn] at h b4⊢
 rw [hm] at h b5⊢
 have HL:Hid (X.length=n∧Y.length=m):=A5 ⟨hn,hm⟩
 have H:=A5 h
 have h0:(0:Int)≤(n:Int):=T00 _
 have p:(0:Int)≤(m:Int):=T00 _
 clear h hn hm
 go_enter Tryz.func165,Tryz.ntmps165
 go_wp2
 go_loopg [3,11] 3 (fun k t3 t11 wr=>∃ (i s:Nat),i≤2∧2-i < k∧t11= .int .i64 (i:Int)∧t3= .int .i64 (s:Int)∧Hid ((i=0∧0=s)∨(i=1∧n=s)∨(i=2∧n+m=s))∧wr=w)
 case atStart=>exact ⟨0,0,by omega,by omega,rfl,rfl,A5 (.inl ⟨rfl,rfl⟩),rfl⟩
 case round=>
  obtain ⟨i,s,b6,hk,rfl,rfl,HS,rfl⟩:=hrel
  obtain ⟨g,b7,hg,a,z,_⟩:=H.out.own.site (by omega)
  simp only [Option.some.injEq,Addr.mk.injEq,and_true] at hg
  obtain ⟨rfl,rfl⟩:=hg
  have c0:=a 0 _ rfl
  have c1:=a 1 _ rfl
  simp only [T04] at c0 c1
  clear a z
  rcases HS.out with ⟨rfl,rfl⟩ | ⟨rfl,rfl⟩ | ⟨rfl,rfl⟩
  ·go_wp2
   go_roundg (gk-1)
   case measure=>omega
   case rel=>exact ⟨1,n,by omega,by omega,by go_num,by go_num,A5 (.inr (.inl ⟨rfl,rfl⟩)),rfl⟩
  ·go_wp2
   go_roundg (gk-1)
   case measure=>omega
   case rel=>exact ⟨2,n+m,by omega,by omega,by go_num,by go_num,A5 (.inr (.inr ⟨rfl,rfl⟩)),rfl⟩
  have HG:=A5 (V0y (n+m) w0 wr _ H.out (by omega) hN2)
  go_wp2_with fail
  refine HG.out.mono ?_
  rintro e w1 ⟨v,rfl,hh⟩
  have HH:=A5 hh
  clear hh HG c0 c1
  go_wp2
  go_loopg [6,27] 3 (fun k t6 t27 wq=>∃ (i L:Nat) (ao:Option Addr) (d:Nat) (Z:List G9),i≤2∧2-i < k∧t27= .int .i64 (i:Int)∧t6= .slice ao L d∧Hid (L=Z.length∧((i=0∧Z=[])∨(i=1∧Z=X)∨(i=2∧Z=X++Y)))∧
   Hid (A4 w0 wq (B0 193 2 (.slice ao L d) L (J3 Z)::B0 190 1 (.slice (some ⟨B,0,none⟩) 2 2) 2 [.slice xo n xc,.slice yo m yc]::J5 (.slice xo n xc) X::J5 (.slice yo m yc) Y::Rs)))
  case atStart=>
   obtain ⟨ao,d,rfl,_,_⟩:=U1 HH.out
   exact ⟨0,0,ao,d,[],by omega,by omega,rfl,rfl,A5 ⟨rfl,.inl ⟨rfl,rfl⟩⟩,HH⟩
  case round=>
   obtain ⟨i,L,ao,d,Z,b6,d0,rfl,rfl,HZ,HJ⟩:=hrel
   obtain ⟨g,b7,hg,a,z,_⟩:=HJ.out.swap.own.site (by omega)
   simp only [Option.some.injEq,Addr.mk.injEq,and_true] at hg
   obtain ⟨rfl,rfl⟩:=hg
   have c0:=a 0 _ rfl
   have c1:=a 1 _ rfl
   simp only [T04] at c0 c1
   clear a z
   obtain ⟨o,f⟩:=HZ.out
   have c6:L≤n+m:=by
    have:=HL.out
    rcases f with ⟨_,rfl⟩ | ⟨_,rfl⟩ | ⟨_,rfl⟩
    ·rw [o];simp
    ·omega
    rw [o];simp;omega
   rcases f with ⟨rfl,f⟩ | ⟨rfl,f⟩ | ⟨rfl,f⟩
   ·have q:Hid (Rd wr 2 (.slice xo n xc) n (J3 X)):=by
     have h:=HJ.out.third.own.rd
     rw [HL.out.1] at h
     exact A5 h
    have b:Hid (J3 Z++J3 X=J3 (X)∧0+n=(X).length):=by
     rw [f]
     have:=HL.out
     refine A5 ⟨by simp [J3], ?_⟩
     simp;omega
    have r:L=0:=by rw [o,f];rfl
    clear f o HZ
    subst r
    go_wp2_with ((with_reducible show wpList _ _ _ (⟨some 33,_,_,_,_,_⟩::_) _ _);refine D6 rfl (.tmp 31) (.tmp 32) 190 rfl 193 i0 (.agg #[.int .i64 0,.int .i64 0]) 2 16 Tryz.underlying190 hi a3 a4 a5 rfl (by decide) _ _ (J3 Z) rfl HJ.out _ n (J3 X) rfl q.out (Z9m X) (0+n) rfl (by unfold maxLen;omega) (by omega) ?_;intro t j w1 p;rw [b.out.1] at p;have l:=A5 p;clear p)
    go_roundg (gk-1)
    case measure=>omega
    case rel=>exact ⟨1,n,t,j,X,by omega,by omega,by go_num,rfl,A5 ⟨by have:=b.out.2;omega,.inr (.inl ⟨rfl,rfl⟩)⟩,by rw [T04] at l;exact l⟩
   ·have q:Hid (Rd wr 2 (.slice yo m yc) m (J3 Y)):=by
     have h:=HJ.out.fourth.own.rd
     rw [HL.out.2] at h
     exact A5 h
    have b:Hid (J3 Z++J3 Y=J3 (X++Y)∧n+m=(X++Y).length):=by
     rw [f]
     have:=HL.out
     refine A5 ⟨by simp [J3], ?_⟩
     simp;omega
    have r:n=L:=by rw [o,f];exact HL.out.1.symm
    clear f o HZ
    subst r
    go_wp2_with ((with_reducible show wpList _ _ _ (⟨some 33,_,_,_,_,_⟩::_) _ _);refine D6 rfl (.tmp 31) (.tmp 32) 190 rfl 193 i0 (.agg #[.int .i64 0,.int .i64 0]) 2 16 Tryz.underlying190 hi a3 a4 a5 rfl (by decide) _ _ (J3 Z) rfl HJ.out _ m (J3 Y) rfl q.out (Z9m Y) (n+m) rfl (by unfold maxLen;omega) (by omega) ?_;intro t j w1 p;rw [b.out.1] at p;have l:=A5 p;clear p)
    go_roundg (gk-1)
    case measure=>omega
    case rel=>exact ⟨2,n+m,t,j,X++Y,by omega,by omega,by go_num,rfl,A5 ⟨b.out.2,.inr (.inr ⟨rfl,rfl⟩)⟩,l⟩
   have b:Hid (A4 w0 wr (J5 (.slice ao L d) (X++Y)::B0 190 1 (.slice (some ⟨B,0,none⟩) 2 2) 2 [.slice xo n xc,.slice yo m yc]::J5 (.slice xo n xc) X::J5 (.slice yo m yc) Y::Rs)):=by
    have h:=HJ.out
    rw [f] at h o
    unfold J5
    rw [←o]
    exact A5 h
   clear f o HZ HJ
   go_wp2
   go_ret
   exact ⟨_,rfl,b⟩
def V8:List G9→List G9
 | a::b::l=>(a.1+b.1, -1)::V8 l
 | _=>[]
theorem Z5:∀l:List G9,(V8 l).length=l.length / 2
 | []=>rfl
 | [a]=>by simp [V8]
 | a::b::l=>by rw [V8,T05,Z5 l,T05,T05];omega
theorem Y9v:∀ (l:List G9) (i:Nat) (x y:G9),l[2*i]?=some x→l[2*i+1]?=some y→(V8 l)[i]?=some (x.1+y.1, -1)
 | [],i,x,y,h,_=>by simp at h
 | [a],i,x,y,h,h2=>by
  have:=(List.getElem?_eq_some_iff.1 h2).1
  simp at this
 | a::b::l,0,x,y,h,h2=>by
  obtain rfl:a=x:=by simpa using h
  obtain rfl:b=y:=by simpa using h2
  rfl
 | a::b::l,i+1,x,y,h,h2=>by
  rw [show 2*(i+1)=2*i+1+1 by omega] at h h2
  simpa [V8] using Y9v l i x y (by simpa using h) (by simpa using h2)
theorem X7u (n:Nat):(madeCells (Value.cells (.agg #[.int .i64 0,.int .i64 0])) (n*2)).toList=J3 (T01 n (0,0)):=by
 refine T08 fun j=> ?_
 by_cases d:j < n*2
 ·have a:(madeCells (Value.cells (.agg #[.int .i64 0,.int .i64 0])) (n*2)).toList[j]?=some (.int .i64 0):=by
   have:j%2=0∨j%2=1:=by omega
   rcases this with e | e <;> simp [madeCells,Value.cells,d,e]
  rw [a]
  have b:(T01 n ((0,0):G9))[j / 2]?=some (0,0):=by rw [List.getElem?_replicate,if_pos (by omega)]
  obtain ⟨f,g⟩:=Y0f _ _ _ b
  have:j=j / 2*2∨j=j / 2*2+1:=by omega
  rcases this with e | e
  ·rw [e,f];rfl
  rw [e,g]
 rw [T03 (by simp [madeCells];omega),T03 (by rw [Z5g];simp;omega)]
theorem W78 (n:Nat) (l:List G9) (v:Value) (w0 w:World) (Rs:List A6) (h:A4 w0 w (J5 v l::Rs)) (hn:l.length=n) (hN2:n≤100000) (hw:∀x∈l,x.1≤1099511627776):
  Calls Tryz.prog 167 #[v] w fun e w'=>∃v',e= .returned v'∧A4 w0 w' (J5 v' (V8 l)::J5 v l::Rs):=by
 obtain ⟨i0,hi,b0,b1,b2⟩:=info_parts Y13
 obtain ⟨ao,r,rfl,b3,e3⟩:=U1 h
 rw [hn] at h b3⊢
 have o:Hid (l.length=n∧∀x∈l,x.1≤1099511627776):=A5 ⟨hn,hw⟩
 have H:=A5 h
 have h0:(0:Int)≤(n:Int):=T00 _
 obtain ⟨k,hk⟩:∃k,k=n / 2:=⟨_,rfl⟩
 have a7:(n:Int) / 2=(k:Int):=by omega
 have d0:Int.tdiv (n:Int) 2=(k:Int):=by rw [Int.tdiv_eq_ediv_of_nonneg (by omega)];exact a7
 have d1:(0:Int)≤(k:Int):=T00 _
 have d2:2*k≤n:=by omega
 have HK:=A5 hk
 clear h hn hw hk
 go_enter Tryz.func167,Tryz.ntmps167
 go_wp2_with ((with_reducible show wpList _ _ _ (⟨some 8,_,_,_,_,_⟩::_) _ _);refine wpList_make_own rfl 190 (.tmp 7) (.tmp 7) rfl 193 i0 (.agg #[.int .i64 0,.int .i64 0]) 2 Tryz.underlying190 hi b0 b1 .i64 k rfl rfl (by rw [b2];omega) (by unfold maxLen;omega) ?_;intro v1 w1 zs a0 a1 m a9 a2;rw [X7u] at a2;subst a2;subst a9;have t:=A5 (H.out.pushOwn a0 a1 m);clear a1 m a0)
 generalize w.heap.size=B at t⊢
 go_loopg [11] (k+1) (fun q t11 wr=>∃ (i:Nat) (Q:List G9),i≤k∧k-i < q∧t11= .int .i64 (i:Int)∧Hid (Q.length=k∧∀j,j < i→Q[j]?=(V8 l)[j]?)∧
  Hid (A4 w0 wr (B0 193 2 (.slice (some ⟨B,0,none⟩) k k) k (J3 Q)::J5 (.slice ao n r) l::Rs)))
 case atStart=>exact ⟨0,T01 k (0,0),by omega,by omega,rfl,A5 ⟨by simp,fun j h=>by omega⟩,t⟩
 case round=>
  obtain ⟨i,Q,e4,hq,rfl,f,HH⟩:=hrel
  have h1:(0:Int)≤(i:Int):=T00 _
  by_cases e0:i < k
  rotate_left
  ·have z:¬(i:Int) < (k:Int):=by omega
   obtain rfl:i=k:=by omega
   have HF:Hid (A4 w0 wr (J5 (.slice (some ⟨B,0,none⟩) i i) (V8 l)::J5 (.slice ao n r) l::Rs)):=by
    have e:Q=V8 l:=by
     refine T08 fun j=> ?_
     by_cases hj:j < i
     ·exact f.out.2 j hj
     rw [T03 (by have:=f.out.1;omega),T03 (by rw [Z5,o.out.1];have:=HK.out;omega)]
    have h:=HH.out
    rw [e] at h
    unfold J5
    rw [Z5,o.out.1,←HK.out]
    unfold J5 at h
    rw [o.out.1] at h
    exact A5 h
   go_wp2
   go_ret
   exact ⟨_,rfl,HF⟩
  have z:(i:Int) < (k:Int):=by omega
  obtain ⟨x,hx⟩:∃x,l[2*i]?=some x:=⟨l[2*i]'(by have:=o.out.1;omega),T06 _⟩
  obtain ⟨y,hy⟩:∃y,l[2*i+1]?=some y:=⟨l[2*i+1]'(by have:=o.out.1;omega),T06 _⟩
  have HX:Hid (l[2*i]?=some x∧l[2*i+1]?=some y):=A5 ⟨hx,hy⟩
  have d3:=o.out.2 x (T09 hx)
  have d4:=o.out.2 y (T09 hy)
  obtain ⟨g,b5,a5,hv,_,_,b,b6,_⟩:=HH.out.swap.site2 (by have:=o.out.1;omega)
  simp only [Value.slice.injEq] at hv
  obtain ⟨rfl,_,rfl⟩:=hv
  have c1:=(b _ _ hx).1
  have c2:=(b _ _ hy).1
  have hQ:A4 w0 wr (J5 (.slice (some ⟨B,0,none⟩) k k) Q::J5 (.slice (some ⟨g,b5,none⟩) n r) l::Rs):=by
   have h:=HH.out
   unfold J5 at*
   rw [f.out.1];exact h
  obtain ⟨q0,s⟩:∃q0,Q[i]?=some q0:=⟨Q[i]'(by have:=f.out.1;omega),T06 _⟩
  obtain ⟨g',c9,a5,hv,_,_,a,d,p⟩:=hQ.site2 (by have:=f.out.1;omega)
  simp only [Value.slice.injEq,Option.some.injEq,Addr.mk.injEq,and_true] at hv
  obtain ⟨⟨rfl,rfl⟩,_,_⟩:=hv
  have HP:=A5 (p i (x.1+y.1, -1) (by have:=f.out.1;omega))
  have c3:=(a _ _ s).1
  have c4:=(a _ _ s).2
  have m:=d (0+i*2)
  have a8:=d (0+i*2+1)
  simp only [T04] at c3 c4 m a8 HP
  have HQ:Hid (∀j,j < i+1→(Q.set i (x.1+y.1, -1))[j]?=(V8 l)[j]?):=by
   refine A5 fun j hj=> ?_
   rw [T0g]
   by_cases e:i=j
   ·subst e
    rw [if_pos rfl,if_pos (by have:=f.out.1;omega),Y9v l i x y hx hy]
   rw [if_neg e]
   exact f.out.2 j (by omega)
  clear b b6 p hx hy hQ a d s
  have d8:2*i < n:=by omega
  have c0:2*i+1 < n:=by omega
  go_wp2
  go_region
  go_wp2
  go_roundg (gk-1)
  case measure=>omega
  case rel=>
   refine ⟨i+1,Q.set i (x.1+y.1, -1),by omega,by omega,by go_num,A5 ⟨by simp;exact f.out.1,HQ.out⟩, ?_⟩
   have h:=HP.out.drew
   unfold J5 at h⊢
   rw [List.length_set,f.out.1] at h
   exact A5 h
theorem X48 (v:Value) (f:List Int) (w:World) (n:Nat) (hn:n=f.length) (hv:Rd w 1 v n (D3 f)) (hl:n < 1000000):
  Calls Tryz.prog 132 #[v] w fun e w'=>e= .returned (.bool (Z35 f))∧w=w':=by
 obtain ⟨ao,a0,rfl,_,_⟩:=hv.form
 have s:=A5 hn
 clear hn
 have t:(0:Int)≤(n:Int):=T00 _
 go_enter Tryz.func132,Tryz.ntmps132
 go_wp2
 go_loopg [7] (n+1) (fun k t7 wr=>∃ (i:Nat),i≤n∧n-i < k∧t7= .int .i64 (i:Int)∧Hid (Z35 (f.take i)=true)∧wr=w)
 case atStart=>exact ⟨0,by omega,by omega,rfl,rfl,rfl⟩
 case round=>
  obtain ⟨i,hi,hk,rfl,o,rfl⟩:=hrel
  by_cases z:i < n
  rotate_left
  ·have p:¬(i:Int) < (n:Int):=by omega
   have d:Hid (Z35 f=true):=by
    have h:=o.out
    rw [T0h (by have:=s.out;omega)] at h
    exact A5 h
   go_wp2
   go_ret
   exact ⟨by rw [d.out];rfl,rfl⟩
  obtain ⟨g,a1,rfl,b⟩:=hv.spot (by omega)
  obtain ⟨a,j⟩:∃a,f[i]?=some a:=⟨f[i]'(by have:=s.out;omega),T06 _⟩
  have x:=b i _ (by rw [G5,j];rfl)
  have y:(0:Int)≤(i:Int):=T00 _
  have p:(i:Int) < (n:Int):=by omega
  have q:=A5 (Z1n f i a j)
  clear b j
  have m:a < 0∨0≤a∧1048576 < a∨0≤a∧a≤1048576:=by omega
  rcases m with m | ⟨m,h6⟩ | ⟨m,h6⟩
  ·have d:Hid (Z35 f=false):=A5 (Y65 f (i+1) (by rw [q.out,Z9y,o.out];simp;omega))
   have l:decide (a < 0)=true:=by simp;omega
   go_wp2
   go_ret
   exact ⟨by rw [d.out];rfl,rfl⟩
  ·have d:Hid (Z35 f=false):=A5 (Y65 f (i+1) (by rw [q.out,Z9y,o.out];simp;omega))
   have l:decide (a < 0)=false:=by simp;omega
   have r:decide ((1048576:Int) < a)=true:=by simp;omega
   go_wp2
   go_ret
   exact ⟨by rw [d.out];rfl,rfl⟩
  have d:Hid (Z35 (f.take (i+1))=true):=A5 (by rw [q.out,Z9y,o.out];simp;omega)
  have l:decide (a < 0)=false:=by simp;omega
  have r:decide ((1048576:Int) < a)=false:=by simp;omega
  go_wp2
  go_roundg (gk-1)
  case measure=>omega
  case rel=>exact ⟨i+1,by omega,by omega,by go_num,d,rfl⟩
def T3:Nat→List Nat→List G9
 | _,[]=>[]
 | k,a::f=>if 0 < a then (a,(k:Int))::T3 (k+1) f else T3 (k+1) f
theorem X16 (a:Nat):∀ (f:List Nat) (k:Nat),T3 k (f++[a])=T3 k f++(if 0 < a then [(a,((k+f.length:Nat):Int))] else [])
 | [],k=>by simp [T3]
 | b::f,k=>by
  rw [T0i,T3,T3,X16 a f (k+1),show k+1+f.length=k+(b::f).length by simp;omega]
  by_cases h:0 < b
  ·rw [if_pos h,if_pos h];rfl
  rw [if_neg h,if_neg h]
theorem Z36:∀ (f:List Nat) (k:Nat),(T3 k f).length=U2 f
 | [],_=>rfl
 | a::f,k=>by
  rw [T3,U2]
  by_cases h:0 < a
  ·rw [if_pos h,if_pos h,T05,Z36 f];omega
  rw [if_neg h,if_neg h,Z36 f];omega
theorem W1t:∀ (f:List Nat) (k:Nat),(T3 k f).length≤f.length
 | [],_=>T0a _
 | a::f,k=>by
  rw [T3,T05]
  have:=W1t f (k+1)
  split
  ·rw [T05];omega
  omega
theorem X5g (v:Value) (f:List Int) (w0 w:World) (Rs:List A6) (h:A4 w0 w Rs) (n:Nat) (hn:n=f.length) (hv:Rd w0 1 v n (D3 f)) (hl:n < 1000) (hf:∀a∈f,0≤a∧a≤1048576):
  Calls Tryz.prog 133 #[v] w fun e w'=>∃v',e= .returned v'∧A4 w0 w' (J5 v' (T3 0 (f.map T02))::Rs):=by
 obtain ⟨i0,a1,a2,a3,a4⟩:=info_parts Y13
 obtain ⟨ao,b7,rfl,_,_⟩:=hv.form
 have s:=A5 hn
 have HF:=A5 hf
 have H:=A5 h
 clear hn hf h
 have b1:(0:Int)≤(n:Int):=T00 _
 go_enter Tryz.func133,Tryz.ntmps133
 go_wp2
 go_loopg [3,8] (n+1) (fun k t3 t8 wr=>∃ (i L:Nat) (p:Option Addr) (q:Nat),i≤n∧n-i < k∧t8= .int .i64 (i:Int)∧t3= .slice p L q∧L≤i∧Hid (L=(T3 0 ((f.take i).map T02)).length)∧
  Hid (A4 w0 wr (B0 193 2 (.slice p L q) L (J3 (T3 0 ((f.take i).map T02)))::Rs)))
 case atStart=>exact ⟨0,0,none,0,by omega,by omega,rfl,rfl,by omega,rfl,A5 (H.out.nil _ _)⟩
 case round=>
  obtain ⟨i,L,p,q,hi,hk,rfl,rfl,b8,HL,r⟩:=hrel
  have b2:(0:Int)≤(i:Int):=T00 _
  by_cases b5:i < n
  rotate_left
  ·have t:¬(i:Int) < (n:Int):=by omega
   have HE:Hid (A4 w0 wr (J5 (.slice p L q) (T3 0 (f.map T02))::Rs)):=by
    have h:=r.out
    have h2:=HL.out
    rw [T0h (by have:=s.out;omega)] at h h2
    unfold J5
    rw [←h2];exact A5 h
   go_wp2
   go_ret
   exact ⟨_,rfl,HE⟩
  have t:(i:Int) < (n:Int):=by omega
  obtain ⟨g1,a9,rfl,d⟩:=(r.out.old hv).spot (by omega)
  obtain ⟨a,g⟩:∃a,f[i]?=some a:=⟨f[i]'(by have:=s.out;omega),T06 _⟩
  have ha:=HF.out a (T09 g)
  obtain ⟨x,rfl⟩:=Int.eq_ofNat_of_zero_le ha.1
  have hx:x≤1048576:=by omega
  have b3:=d i _ (by rw [G5,g];rfl)
  have HT:Hid (T3 0 ((f.take (i+1)).map T02)=T3 0 ((f.take i).map T02)++(if 0 < x then [(x,((i:Nat):Int))] else [])):=by
   rw [Z1n f i _ g,T0c,List.map_cons,List.map_nil,X16]
   have hl:(T07 T02 (f.take i)).length=i:=by rw [List.length_map,T0d];have:=s.out;omega
   rw [hl,T04];exact A5 rfl
  clear d g ha
  by_cases m:0 < x
  ·have j:(0:Int) < (x:Int):=by omega
   have b:Hid (T3 0 ((f.take (i+1)).map T02)=T3 0 ((f.take i).map T02)++[(x,((i:Nat):Int))]):=by
    have h:=HT.out
    rw [if_pos m] at h
    exact A5 h
   have l:=A5 (r.out.lit 193 2 (J3 [(x,((i:Nat):Int))]) 1 (by decide) rfl).swap
   go_wp2_with ((with_reducible show wpList _ _ _ (⟨some 20,_,_,_,_,_⟩::_) _ _);refine D6 rfl (.tmp 15) (.tmp 19) 190 rfl 193 i0 (.agg #[.int .i64 0,.int .i64 0]) 2 16 Tryz.underlying190 a1 a2 a3 a4 rfl (by decide) _ L (J3 (T3 0 ((f.take i).map T02))) rfl l.out _ 1 (J3 [(x,((i:Nat):Int))]) rfl l.out.swap.own.rd (Z9m _) (L+1) rfl (by unfold maxLen;omega) (by omega) ?_;intro z o w1 h1;rw [←W0t,←b.out] at h1;have y:=A5 h1.swap.drop;clear h1)
   go_roundg (gk-1)
   case measure=>omega
   case rel=>exact ⟨i+1,L+1,z,o,by omega,by omega,by go_num,rfl,by omega,A5 (by rw [b.out,T0e,←HL.out];rfl),y⟩
  have j:¬(0:Int) < (x:Int):=by omega
  have b:Hid (T3 0 ((f.take (i+1)).map T02)=T3 0 ((f.take i).map T02)):=by
   have h:=HT.out
   rw [if_neg m,List.append_nil] at h
   exact A5 h
  go_wp2
  go_roundg (gk-1)
  case measure=>omega
  case rel=>exact ⟨i+1,L,p,q,by omega,by omega,by go_num,rfl,by omega,by rw [b.out];exact HL,by rw [b.out];exact r⟩
section
variable {w0 w:World} {Rs:List A6} {eR eI:TypeId} {B:Nat} {b:Nat→Nat} {k N:Nat} {V:Nat→Nat→Nat}
end
theorem Z6l (z:Value) (n:Nat) (hz:z.cells=#[z]):(madeCells z.cells (n*1)).toList=T01 n z:=by
 rw [Nat.mul_one,hz]
 refine T08 fun j=> ?_
 by_cases a:j < n
 ·simp [madeCells,a,Nat.mod_one]
 rw [T03 (by simp [madeCells];omega),T03 (by simp;omega)]
def O5 (s:List G9):Nat→List G9
 | 0=>[]
 | t+1=>I4 (s++V8 (O5 s t))
theorem Z53 (s:List G9):∀t,(O5 s t).length≤2*s.length
 | 0=>by simp [O5]
 | t+1=>by
  have:=Z53 s t
  rw [O5,J1,T0e,Z5];omega
theorem Z3x:∀ (l:List G9) (x:G9),x∈V8 l→∃a b,a∈l∧b∈l∧x=(a.1+b.1, -1)
 | [],x,h=>by simp [V8] at h
 | [a],x,h=>by simp [V8] at h
 | a::b::l,x,h=>by
  rw [V8] at h
  rcases List.mem_cons.1 h with h | h
  ·exact ⟨a,b,by simp,by simp,h⟩
  obtain ⟨c,d,h1,h2,h3⟩:=Z3x l x h
  exact ⟨c,d,by simp [h1],by simp [h2],h3⟩
theorem X3l (s:List G9) (hs:∀x∈s,x.1≤1048576):∀t,∀x∈O5 s t,x.1≤1048576*2^t
 | 0,x,h=>by simp [O5] at h
 | t+1,x,h=>by
  rw [O5] at h
  have hp:1≤2^t:=Nat.one_le_two_pow
  rw [Nat.pow_succ]
  rcases List.mem_append.1 ((W9 _).mem_iff.1 h) with h | h
  ·have:=hs x h;omega
  obtain ⟨a,b,ha,hb,rfl⟩:=Z3x _ _ h
  have h1:=X3l s hs t a ha
  have h2:=X3l s hs t b hb
  show a.1+b.1≤_
  omega
def mT (ms:List (Value×List G9)):List A6:=ms.map fun r=>J5 r.1 r.2
theorem V3d:(Tryz.prog.info? 190).map (fun i=>(i.zero,i.size,i.bytes))=some (some (.slice none 0 0),1,24):=by kernel_rfl
theorem V49 (A C:List Value) (x y:Value) (n:Nat) (h:A.length=n):(A++x::C).set n y=A++y::C:=by
 rw [←h,List.set_append_right _ _ (T0a _),T0b];rfl
theorem A4.rowAt {w0 w:World} {e:TypeId} {B m c:Nat} {xs:List Value} {Rs:List A6} (h:A4 w0 w (B0 e 1 (.slice (some ⟨B,0,none⟩) m c) m xs::Rs)) {i:Nat} {u:Value} (hu:xs[i]?=some u) (hm:0 < m):w.cell? ⟨B,i,none⟩=some u:=by
 obtain ⟨g,d,b,a,_,_⟩:=h.own.site hm
 simp only [Option.some.injEq,Addr.mk.injEq,and_true] at b
 obtain ⟨rfl,rfl⟩:=b
 have:=a i u hu
 rw [T04] at this;exact this
theorem W18 (A C:List Value) (y:Value) (n:Nat) (h:A.length=n):(A++y::C)[n]?=some y:=by
 rw [←h,T0j (T0a _),T0b];rfl
theorem W9q (n m:Nat) (S:List G9) (sv:Value) (w0 w:World) (Rs:List A6) (h:A4 w0 w (J5 sv S::Rs)) (hn:S.length=n) (hn0:0 < n) (hN2:n≤1000) (hm:m≤15) (hw:∀x∈S,x.1≤1048576):
  Calls Tryz.prog 135 #[sv,.int .i64 (m:Int)] w fun e w'=>∃ (B:Nat) (ms:List (Value×List G9)),e= .returned (.slice (some ⟨B,0,none⟩) m m)∧ms.length=m∧ms.map (·.2)=(T0f m).map (fun t=>O5 S (t+1))∧
   A4 w0 w' (B0 190 1 (.slice (some ⟨B,0,none⟩) m m) m (ms.map (·.1))::J5 sv S::(mT ms++Rs)):=by
 obtain ⟨i0,hi,c4,c5,c6⟩:=info_parts V3d
 obtain ⟨so,sc,rfl,c7,e7⟩:=U1 h
 have HL:Hid (S.length=n∧∀x∈S,x.1≤1048576):=A5 ⟨hn,hw⟩
 rw [hn] at h c7⊢
 have H:=A5 h
 have d5:(0:Int)≤(m:Int):=T00 _
 clear h hn hw
 go_enter Tryz.func135,Tryz.ntmps135
 go_wp2_with ((with_reducible show wpList _ _ _ (⟨some 9,_,_,_,_,_⟩::_) _ _);refine wpList_make_own rfl 195 (.tmp 8) (.tmp 8) rfl 190 i0 (.slice none 0 0) 1 Tryz.underlying195 hi c4 c5 .i64 m rfl rfl (by rw [c6];omega) (by unfold maxLen;omega) ?_;intro v1 w1 zs a6 a7 a8 s a9;rw [Z6l _ _ rfl] at a9;subst a9;subst s;have y:=A5 (H.out.pushOwn a6 a7 a8);clear a7 a8 a6)
 generalize w.heap.size=B at y⊢
 go_loopg [6,12] (m+1) (fun k t6 t12 wr=>∃ (i:Nat) (ms:List (Value×List G9)),i≤m∧m-i < k∧t12= .int .i64 (i:Int)∧Hid (ms.length=i∧ms.map (·.2)=(T0f i).map (fun t=>O5 S (t+1)))∧
  Hid (A4 w0 wr (B0 190 1 (.slice (some ⟨B,0,none⟩) m m) m (ms.map (·.1)++T01 (m-i) (.slice none 0 0))::J5 t6 (V8 (O5 S i))::J5 (.slice so n sc) S::(mT ms++Rs))))
 case atStart=>
  refine ⟨0,[],by omega,by omega,rfl,A5 ⟨rfl,rfl⟩, ?_⟩
  have h:=(y.out.nil 193 2).swap
  exact A5 h
 case round=>
  obtain ⟨i,ms,e8,hk,rfl,HE,HH⟩:=hrel
  have h1:(0:Int)≤(i:Int):=T00 _
  by_cases c3:i < m
  rotate_left
  ·have z:¬(i:Int) < (m:Int):=by omega
   obtain rfl:i=m:=by omega
   have HF:Hid (A4 w0 wr (B0 190 1 (.slice (some ⟨B,0,none⟩) i i) i (ms.map (·.1))::J5 (.slice so n sc) S::(mT ms++Rs))):=by
    have h:=HH.out
    rw [T0b,List.replicate_zero,List.append_nil] at h
    exact A5 h.swap.drop
   go_wp2
   go_ret
   exact ⟨B,rfl,ms,HE.out.1,HE.out.2,HF⟩
  have z:(i:Int) < (m:Int):=by omega
  obtain ⟨po,pc,rfl,c8,f1⟩:=U1 HH.out.swap
  obtain ⟨k,p⟩:∃k,k=(V8 (O5 S i)).length:=⟨_,rfl⟩
  rw [←p] at c8 HH⊢
  have d6:k≤n:=by
   have:=Z53 S i
   rw [Z5] at p
   have:=HL.out.1
   omega
  have a:=HH.out.lit 190 1 [.slice so n sc,.slice po k pc] 2 (by decide) rfl
  have a0:=A5 a.fourth.fourth.swap.third
  have HK:=A5 p.symm
  clear a p
  go_wp2_with fail
  refine (X7x n k _ S (V8 (O5 S i)) _ _ w0 _ _ a0.out HL.out.1 HK.out hn0 (by omega)).mono ?_
  rintro e w2 ⟨v,rfl,a⟩
  obtain ⟨N,hN⟩:∃N,N=(S++V8 (O5 S i)).length:=⟨_,rfl⟩
  have d7:N≤2*n:=by
   rw [T0e,HL.out.1,HK.out] at hN;omega
  obtain ⟨d,f,rfl,s,f2⟩:=U1 a
  rw [←hN] at s a⊢
  have a1:=A5 hN.symm
  have HS:=A5 a.swap.drop.third.drop.third
  clear a a0 HH hN
  obtain ⟨g,f3,hg,j,b2,q⟩:=HS.out.own.site (by omega)
  simp only [Option.some.injEq,Addr.mk.injEq,and_true] at hg
  obtain ⟨rfl,rfl⟩:=hg
  have l:(T07 (fun x:Value×List G9=>x.1) ms).length=i:=by rw [List.length_map];exact HE.out.1
  have b:T01 (m-i) (Value.slice none 0 0)= .slice none 0 0::T01 (m- (i+1)) (.slice none 0 0):=by
   rw [show m-i=(m- (i+1))+1 by omega,List.replicate_succ]
  have a2:=j i _ (by rw [b,T0j (by omega),l,T0b];rfl)
  have a3:=b2 i
  have HP:=A5 (HS.out.putOwn (q i (.slice d N f) c3) (E5.set w2 B (0+i) _))
  have a4:Hid ((T07 (fun x:Value×List G9=>x.1) ms++T01 (m-i) (Value.slice none 0 0)).set i (.slice d N f)=T07 (fun x:Value×List G9=>x.1) ms++(.slice d N f::T01 (m- (i+1)) (.slice none 0 0))):=by
   rw [b];exact A5 (V49 _ _ _ _ _ l)
  have o:=HP.out
  rw [a4.out] at o
  simp only [T04] at o a2 a3
  have HQ:=A5 o
  have a5:=A5 l
  clear j b2 q b HP o HS l
  go_upto_region 7 with (fail)
  generalize w2.setCell ⟨B,i,none⟩ (.slice d N f)=w3 at HQ⊢
  have c1:=HQ.out.rowAt (W18 _ _ _ _ a5.out) (by omega)
  clear a2 a3
  go_wp2_with fail
  refine (X3x N _ _ w0 _ _ HQ.out.swap a1.out (by omega)).mono ?_
  rintro e w4 ⟨rfl,a⟩
  have r:=A5 a.swap
  clear a HQ c1
  have c1:=r.out.rowAt (W18 _ _ _ _ a5.out) (by omega)
  have c0:Hid (∀x∈O5 S (i+1),x.1≤1099511627776):=by
   refine A5 fun x hx=> ?_
   have h:=X3l S HL.out.2 (i+1) x hx
   have h2:2^(i+1)≤2^15:=Nat.pow_le_pow_right (by decide) (by omega)
   have h3:1048576*2^(i+1)≤1048576*2^15:=Nat.mul_le_mul_left _ h2
   omega
  go_wp2_with fail
  refine (W78 N (I4 (S++V8 (O5 S i))) _ w0 _ _ r.out.swap (by rw [J1];exact a1.out) (by omega) c0.out).mono ?_
  rintro e w5 ⟨pv,rfl,a⟩
  have h5:=a.third
  have h6:=h5.perm ((((List.Perm.swap _ _ _).cons _).cons _).trans (((List.perm_middle.symm.cons _).cons _).cons _))
  have HF:Hid (A4 w0 w5 (B0 190 1 (.slice (some ⟨B,0,none⟩) m m) m ((ms++[(Value.slice d N f,O5 S (i+1))]).map (·.1)++T01 (m- (i+1)) (.slice none 0 0))::J5 pv (V8 (O5 S (i+1)))::J5 (.slice so n sc) S::(mT (ms++[(Value.slice d N f,O5 S (i+1))])++Rs))):=by
   have e1:(ms++[((.slice d N f:Value),O5 S (i+1))]).map (·.1)++T01 (m- (i+1)) (.slice none 0 0)=T07 (fun x:Value×List G9=>x.1) ms++ .slice d N f::T01 (m- (i+1)) (.slice none 0 0):=by simp
   have e2:mT (ms++[((.slice d N f:Value),O5 S (i+1))])++Rs=mT ms++J5 (.slice d N f) (O5 S (i+1))::Rs:=by simp [mT]
   rw [e1,e2]
   exact A5 h6
  clear a h5 h6 r c1
  go_wp2
  go_roundg (gk-1)
  case measure=>omega
  case rel=>
   refine ⟨i+1,ms++[(Value.slice d N f,O5 S (i+1))],by omega,by omega,by go_num,A5 ⟨by simp;exact HE.out.1, ?_⟩,HF⟩
   rw [T0c,HE.out.2,List.range_succ,T0c];rfl
end Go.Proofs.YtbkbkmgogbgofaaGreatDoor
namespace Go.Proofs.YtbkbkmgogbgofaaGreatDoor
set_option maxRecDepth 100000
set_option maxHeartbeats 6400000
open Go.RowKit
attribute [local go_sem] Oper.semAt_some
def Z1a (l:List G9):Nat:=l.countP fun x=>decide (x.2= -1)
def S9 (l:List G9) (i:Nat):Nat:=l.countP fun x=>decide (x.2=(i:Int))
def stS (rl:Nat→List G9) (m K0:Nat):Nat→Nat×(Nat→Nat)
 | 0=>(K0,fun _=>0)
 | k+1=>(2*Z1a ((rl (m-1-k)).take (stS rl m K0 k).1),fun i=>(stS rl m K0 k).2 i+S9 ((rl (m-1-k)).take (stS rl m K0 k).1) i)
def Z3a (N:Nat) (G:Nat→Nat):List Value:=D5 .i64 ((T0f N).map G)
theorem Y35 (N:Nat) (G:Nat→Nat) (i:Nat) (h:i < N):(Z3a N G)[i]?=some (.int .i64 (G i:Int)):=by simp [Z3a,O8,h]
theorem X0k (N:Nat) (G:Nat→Nat) (i u:Nat):(Z3a N G).set i (.int .i64 (u:Int))=Z3a N (fun j=>if j=i then u else G j):=by
 unfold Z3a
 rw [Y3]
 congr 1
 refine T08 fun j=> ?_
 rw [T0g]
 by_cases a:j < N
 ·by_cases e:i=j
  ·subst e
   rw [if_pos rfl,if_pos (by simpa using a)]
   simp [a]
  rw [if_neg e]
  simp [a,show ¬j=i from fun h=>e h.symm]
 by_cases e:i=j
 ·subst e
  rw [if_pos rfl,if_neg (by simpa using a),T03 (by simp;omega)]
 rw [if_neg e,T03 (by simp;omega),T03 (by simp;omega)]
theorem Y4g (l:List G9) (x:G9):Z1a (l++[x])=Z1a l+(if x.2= -1 then 1 else 0):=by
 unfold Z1a;rw [T0k];simp [T0l]
theorem Y6y (l:List G9) (x:G9) (i:Nat):S9 (l++[x]) i=S9 l i+(if x.2=(i:Int) then 1 else 0):=by
 unfold S9;rw [T0k];simp [T0l]
theorem X6e (l:List G9) (i:Nat):S9 l i≤l.length:=List.countP_le_length
theorem V1t (rl:Nat→List G9) (m K0:Nat) (h:∀t,(rl t).length≤1000) (i:Nat):∀k,(stS rl m K0 k).2 i≤1000*k
 | 0=>T0a _
 | k+1=>by
  have h1:=V1t rl m K0 h i k
  have h2:=X6e ((rl (m-1-k)).take (stS rl m K0 k).1) i
  have h3:=h (m-1-k)
  rw [T0d] at h2
  show (stS rl m K0 k).2 i+_≤_
  omega
def ShI (w3:World) (gl B3 N cap off:Nat) (st:Nat→Nat×(Nat→Nat)) (k:Nat) (W:World):Prop:=
 E5 w3 W (fun j=>j=gl∨j=B3)∧Own W 3 1 (.slice (some ⟨gl,off,none⟩) N cap) N (Z3a N (st k).2)∧X6 W B3 [.int .i64 ((st k).1:Int)] 3
theorem ShI.far {w3:World} {gl B3 N cap off:Nat} {st:Nat→Nat×(Nat→Nat)} {k:Nat} {W W':World} (h:ShI w3 gl B3 N cap off st k W) (hb:Below w3.heap.size W W') (h1:gl < w3.heap.size) (h2:B3 < w3.heap.size):ShI w3 gl B3 N cap off st k W':=by
 obtain ⟨a,b,c⟩:=h
 have d:=E5.of_below hb
 refine ⟨a.trans d (fun j hj h=>by omega),b.kept d (fun j hj=> ?_),c.kept d (by omega)⟩
 simp only [Value.ownBlock,Option.some.injEq] at hj
 omega
theorem W37 (N m K0 gl off cap B:Nat) (vals:Nat→Value) (rl:Nat→List G9) (w:World) (hN:N≤1000) (hm:m≤15)
  (hO:Own w 3 1 (.slice (some ⟨gl,off,none⟩) N cap) N (Z3a N (fun _=>0))) (hB:∀t,t < m→w.cell? ⟨B,t,none⟩=some (vals t)) (hBl:B < w.heap.size) (hBg:B≠gl)
  (hV:∀t,∃a k c,vals t= .slice a k c) (hR:∀t,t < m→Own w 193 2 (vals t) (rl t).length (J3 (rl t))) (hRg:∀t,t < m→(vals t).ownBlock≠some gl)
  (hOK:∀k,k < m→(stS rl m K0 k).1≤(rl (m-1-k)).length) (hlen:∀t,(rl t).length≤1000) (hpos:∀t,t < m→0 < (rl t).length) (hsym:∀t,t < m→∀x∈rl t,x.2= -1∨∃s:Nat,s < N∧x.2=(s:Int)):
  Calls Tryz.prog 134 #[.slice (some ⟨gl,off,none⟩) N cap,.slice (some ⟨B,0,none⟩) m m,.int .i64 (K0:Int)] w fun e w'=>e= .returned (.tuple #[])∧
   Own w' 3 1 (.slice (some ⟨gl,off,none⟩) N cap) N (Z3a N (stS rl m K0 m).2)∧E5 w w' (fun j=>j=gl):=by
 have h5:gl < w.heap.size:=hO.lt gl rfl
 refine (callsIn_wide (n:=3)).1 ?_
 refine callsIn_of_wp_marks Tryz.func134 rfl trivial ?_ rfl
 simp only [Tryz.ntmps134,List.size_toArray,T05,List.length_nil,Nat.reduceAdd,Nat.reduceSub,Array.replicate_succ,Array.replicate_zero,List.push_toArray,List.append_toArray,List.nil_append,T0i]
 gi_wp2_with fail
 refine ⟨trivial, ?_⟩
 refine (callsIn_wide.2 (X24 _ _ ⟨_,_,_,rfl⟩)).mono ?_
 rintro e w' ⟨rfl,rfl⟩
 have f:((w.alloc (.cells #[.slice (some ⟨gl,off,none⟩) N cap] 52)).alloc (.cells #[.int .i64 (K0:Int)] 3)).heap.size=w.heap.size+2:=by simp
 rw [f]
 have b1:=(X6.new w [.slice (some ⟨gl,off,none⟩) N cap] 52)
 obtain ⟨wa,a1⟩:∃wa,wa=w.alloc (.cells #[.slice (some ⟨gl,off,none⟩) N cap] 52):=⟨_,rfl⟩
 rw [←a1] at f⊢
 have b2:=(X6.new wa [.int .i64 (K0:Int)] 3)
 obtain ⟨wb,a2⟩:∃wb,wb=wa.alloc (.cells #[.int .i64 (K0:Int)] 3):=⟨_,rfl⟩
 rw [←a2] at f⊢
 have b3:=(X6.new wb [.slice (some ⟨B,0,none⟩) m m] 195)
 obtain ⟨r,d⟩:∃r,r=wb.alloc (.cells #[.slice (some ⟨B,0,none⟩) m m] 195):=⟨_,rfl⟩
 rw [←d]
 have c9:r.heap.size=w.heap.size+3:=by rw [d,World.size_alloc,f]
 have a7:wa.heap.size=w.heap.size+1:=by rw [a1];simp
 have a3:E5 w r (fun _=>False):=by rw [d,a2,a1];exact ((((E5.refl w _).alloc _).alloc _).alloc _)
 have k1:X6 r w.heap.size [.slice (some ⟨gl,off,none⟩) N cap] 52:=by
  rw [d,a2];exact (by rw [a1];exact (b1.alloc _).alloc _)
 have k2:X6 r (w.heap.size+1) [.int .i64 (K0:Int)] 3:=by
  rw [d,←a7];exact (by rw [a2];exact b2.alloc _)
 have k3:X6 r (w.heap.size+2) [.slice (some ⟨B,0,none⟩) m m] 195:=by
  rw [d,←f];exact b3
 clear b1 b2 b3 a1 a2 d f a7
 gi_wp2_with fail
 refine X3a (gf:=184) (lb:=#[.pointer (some ⟨w.heap.size+2,0,none⟩)]) rfl (by decide) rfl trivial (enters_of Tryz.func184 (by kernel_rfl) rfl) m
  (fun k=>#[.int .i64 ((m-1-k:Nat):Int),vals (m-1-k)]) (fun _=>rfl) (ShI r gl (w.heap.size+1) N cap off (stS rl m K0)) ?far ?h0 ?hit
  (fun k=>{tmps:=#[.slice (some ⟨gl,off,none⟩) N cap,.slice (some ⟨B,0,none⟩) m m,.int .i64 (K0:Int),.pointer (some ⟨w.heap.size,0,none⟩),undef,.pointer (some ⟨w.heap.size+1,0,none⟩),undef,vals (m-1-k),undef,undef,undef,.slice (some ⟨B,0,none⟩) m m,
   .func (.func 184) #[] #[.pointer (some ⟨w.heap.size+2,0,none⟩)],.int .i64 ((m-1-k:Nat):Int),vals (m-1-k),undef,undef,undef,undef,undef,undef,undef,undef,undef,undef,undef,undef,undef,undef,undef,undef,undef,undef,undef,undef,undef,undef,undef],defers:=[]}) ?assign ?body ?done
 case far=>exact fun k W W' h hb=>h.far hb (by omega) (by omega)
 case h0=>exact ⟨E5.refl _ _,hO.kept a3 (fun _ _ h=>h),k2⟩
 case hit=>
  intro l J W f5 hY f6
  refine X4e Fence.wide _ trivial rfl (by decide) l (w.heap.size+2) B m vals hm hV J (fun k W h=> ?_) hY W f6
  obtain ⟨i1,_,_⟩:=f5 k W h
  refine ⟨?_,fun t ht=> ?_⟩
  ·rw [i1.cell (p:=⟨w.heap.size+2,0,none⟩) (by show w.heap.size+2 < _;omega) (by show ¬(w.heap.size+2=gl∨w.heap.size+2=w.heap.size+1);omega)]
   exact k3.cell (i:=0) rfl
  rw [i1.cell (p:=⟨B,t,none⟩) (by show B < _;omega) (by show ¬(B=gl∨B=w.heap.size+1);omega),a3.cell (p:=⟨B,t,none⟩) hBl (fun h=>h)]
  exact hB t ht
 case assign=>
  intro l k W K hK
  obtain ⟨a,b,c,hv⟩:=hV (m-1-k)
  rw [hv] at hK⊢
  gi_wp2
  exact hK
 case body=>
  intro l k W hk hI f9
  obtain ⟨t,ht⟩:∃t,t=m-1-k:=⟨_,rfl⟩
  have y:t < m:=by omega
  obtain ⟨K,hK⟩:∃K,K=(stS rl m K0 k).1:=⟨_,rfl⟩
  obtain ⟨G,hG⟩:∃G,G=(stS rl m K0 k).2:=⟨_,rfl⟩
  obtain ⟨i1,i2,i3⟩:=hI
  rw [←hG] at i2
  rw [←hK] at i3
  have d0:K≤(rl t).length:=by rw [hK,ht];exact hOK k hk
  have h8:K≤1000:=by have:=hlen t;omega
  have e5:∀i,G i≤15000:=fun i=>by
   have:=V1t rl m K0 hlen i k
   rw [←hG] at this;omega
  have d1:stS rl m K0 (k+1)=(2*Z1a ((rl t).take K),fun i=>G i+S9 ((rl t).take K) i):=by
   show (2*Z1a ((rl (m-1-k)).take (stS rl m K0 k).1),fun i=>(stS rl m K0 k).2 i+S9 ((rl (m-1-k)).take (stS rl m K0 k).1) i)=_
   rw [←ht,←hK,←hG]
  have a8:Own r 193 2 (vals t) (rl t).length (J3 (rl t)):=(hR t y).kept a3 (fun _ _ h=>h)
  obtain ⟨g,o,cp,hv,k4,k5,a0,_,_⟩:=a8.site2 (hpos t y)
  have h9:g≠gl:=by
   intro e
   exact hRg t y (by rw [hv,e];rfl)
  have g6:g < w.heap.size:=(hR t y).lt g (by rw [hv];rfl)
  have cK:=i3.cell (i:=0) rfl
  have cL:W.cell? ⟨w.heap.size,0,none⟩=some (.slice (some ⟨gl,off,none⟩) N cap):=by
   rw [i1.cell (p:=⟨w.heap.size,0,none⟩) (by show w.heap.size < _;omega) (by show ¬(w.heap.size=gl∨w.heap.size=w.heap.size+1);omega)]
   exact k1.cell (i:=0) rfl
  rw [←ht,hv]
  have HK:=A5 d1
  have HR:=A5 (And.intro a0 d0)
  have g9:(0:Int)≤(K:Int):=T00 _
  have b4:=A5 i2
  have e6:=A5 i3
  have b5:=A5 i1
  have i0:K≤cp:=by omega
  have b6:=A5 (hsym t y)
  have e7:∀j,j < K→∃x,(rl t)[j]?=some x:=fun j hj=>⟨_,T06 (by omega)⟩
  generalize (rl t).length=RL at*
  clear d1 a0 d0 i1 i2 i3 a8 hv hK hG
  gi_wp2
  gi_loopg [8,19] (K+1) (fun q t8 t19 wr=>∃ (j p:Nat),j≤K∧K-j < q∧t19= .int .i64 (j:Int)∧t8= .int .i64 (p:Int)∧p≤j∧Hid (p=Z1a ((rl t).take j))∧
   Hid (E5 r wr (fun j=>j=gl∨j=w.heap.size+1)∧Own wr 3 1 (.slice (some ⟨gl,off,none⟩) N cap) N (Z3a N (fun i=>G i+S9 ((rl t).take j) i))∧X6 wr (w.heap.size+1) [.int .i64 (K:Int)] 3)∧
   Hid (KeepsFrom r.heap.size W wr∧r.heap.size≤wr.heap.size))
  case atStart=>exact ⟨0,0,by omega,by omega,rfl,rfl,by omega,rfl,A5 ⟨b5.out,by simpa [S9] using b4.out,e6.out⟩,A5 ⟨KeepsFrom.refl _ _,f9⟩⟩
  case round=>
   obtain ⟨j,p,k6,hq,rfl,rfl,k7,HP,HW,HF⟩:=hrel
   have i4:(0:Int)≤(j:Int):=T00 _
   have i5:(0:Int)≤(p:Int):=T00 _
   obtain ⟨j1,j2,j3⟩:=HW.out
   by_cases f4:j < K
   rotate_left
   ·have d2:¬(j:Int) < (K:Int):=by omega
    obtain rfl:j=K:=by omega
    have cN:=j3.cell (i:=0) rfl
    have fN:=j3.frozen 0
    have j8:p≤1000:=by omega
    have a9:=A5 (j3.set 0 (.int .i64 ((2*p:Nat):Int)))
    have d3:((2*p:Nat):Int)=2*(p:Int):=by omega
    rw [d3] at a9
    gi_wp2
    refine ⟨by rw [←c9];exact HF.out.1.trans ((KeepsOthers.setCell _ _ _).from _),j1.setCell (p:=⟨w.heap.size+1,0,none⟩) (.inr (.inr rfl)) _, ?_, ?_⟩
    ·rw [HK.out]
     exact j2.kept (E5.setCell (S:=fun k=>k=w.heap.size+1) (E5.refl wr _) (p:=⟨w.heap.size+1,0,none⟩) (.inr rfl) _) (fun q hq=>by
      simp only [Value.ownBlock,Option.some.injEq] at hq
      omega)
    rw [HK.out,←HP.out]
    have h:=a9.out
    rw [←d3] at h
    exact h
   have d2:(j:Int) < (K:Int):=by omega
   obtain ⟨x,hx⟩:=e7 j f4
   have c1:=(HR.out.1 j x hx).1
   have c2:=(HR.out.1 j x hx).2
   rw [←j1.cell (p:=⟨g,o+j*2,none⟩) (by show g < _;omega) (by show ¬(g=gl∨g=w.heap.size+1);omega)] at c1
   rw [←j1.cell (p:=⟨g,o+j*2+1,none⟩) (by show g < _;omega) (by show ¬(g=gl∨g=w.heap.size+1);omega)] at c2
   have e9:wr.cell? ⟨w.heap.size,0,none⟩=some (.slice (some ⟨gl,off,none⟩) N cap):=by
    rw [j1.cell (p:=⟨w.heap.size,0,none⟩) (by show w.heap.size < _;omega) (by show ¬(w.heap.size=gl∨w.heap.size=w.heap.size+1);omega)]
    exact k1.cell (i:=0) rfl
   have HT:Hid ((rl t).take (j+1)=(rl t).take j++[x]):=by rw [List.take_add_one,hx];exact A5 rfl
   rcases b6.out x (T09 hx) with hs | ⟨s,hsN,hs⟩
   ·rw [hs] at c2
    have HG:Hid ((fun i=>G i+S9 ((rl t).take (j+1)) i)=fun i=>G i+S9 ((rl t).take j) i):=by
     refine A5 (funext fun i=> ?_)
     rw [HT.out,Y6y,if_neg (by rw [hs];omega)];omega
    have b7:Hid (p+1=Z1a ((rl t).take (j+1))):=by
     rw [HT.out,Y4g,if_pos hs,←HP.out];exact A5 rfl
    gi_wp2
    gi_roundg (gk-1)
    case measure=>omega
    case rel=>
     refine ⟨j+1,p+1,by omega,by omega,by go_num,by go_num,by omega,b7,A5 ⟨j1.alloc _, ?_,j3.alloc _⟩,A5 ⟨HF.out.1.trans ((KeepsOthers.alloc wr _).from _),by have:=HF.out.2;simp;omega⟩⟩
     rw [HG.out];exact j2.alloc _
   rw [hs] at c2
   obtain ⟨gs,a6⟩:∃gs,gs=G s+S9 ((rl t).take j) s:=⟨_,rfl⟩
   have h3:gs≤16000:=by
    have h1:=e5 s
    have h2:=X6e ((rl t).take j) s
    rw [T0d] at h2
    omega
   have HG:Hid ((fun i=>G i+S9 ((rl t).take (j+1)) i)=fun i=>if i=s then gs+1 else G i+S9 ((rl t).take j) i):=by
    refine A5 (funext fun i=> ?_)
    rw [HT.out,Y6y]
    by_cases e:i=s
    ·subst e
     rw [if_pos hs,if_pos rfl,a6];omega
    rw [if_neg (by rw [hs];omega),if_neg e];omega
   have b7:Hid (p=Z1a ((rl t).take (j+1))):=by
    rw [HT.out,Y4g,if_neg (by rw [hs];omega),←HP.out];exact A5 (Nat.add_zero _).symm
   obtain ⟨g',o',d8,d9,e0,b0⟩:=(j2.alloc (.cells #[.int .i64 (x.1:Int),.int .i64 (s:Int)] 193)).site (by omega)
   simp only [Option.some.injEq,Addr.mk.injEq,and_true] at d8
   obtain ⟨rfl,rfl⟩:=d8
   have c3:=d9 s _ (Y35 N _ s hsN)
   rw [←a6] at c3
   have f3:=e0 s
   have z:=b0 s (.int .i64 ((gs+1:Nat):Int)) hsN
   rw [X0k,←HG.out] at z
   have i8:(0:Int)≤(s:Int):=T00 _
   have i9:((s:Int)== -1)=false:=by simp
   have j0:¬(s:Int)= -1:=by omega
   have j4:(wr.alloc (.cells #[.int .i64 (x.1:Int),.int .i64 (s:Int)] 193)).cell? ⟨w.heap.size,0,none⟩=some (.slice (some ⟨gl,off,none⟩) N cap):=by
    rw [((E5.refl wr (fun _=>False)).alloc _).cell (p:=⟨w.heap.size,0,none⟩) (by show w.heap.size < _;have:=HF.out.2;omega) (fun h=>h)];exact e9
   have HS:=A5 z
   have j6:=A5 hs
   have HX:=A5 hx
   have j7:=A5 a6
   clear d9 e0 b0 z hs hx a6
   gi_wp2
   gi_roundg (gk-1)
   case measure=>omega
   case rel=>
    have b8:((gs+1:Nat):Int)=(gs:Int)+1:=by omega
    have h2:=HS.out
    rw [b8] at h2
    refine ⟨j+1,p,by omega,by omega,by go_num,rfl,by omega,b7,A5 ⟨(j1.alloc _).setCell (p:=⟨gl,off+s,none⟩) (.inr (.inl rfl)) _,h2,(j3.alloc _).other (p:=⟨gl,off+s,none⟩) (by show w.heap.size+1≠gl;omega) _⟩,
     A5 ⟨(HF.out.1.trans ((KeepsOthers.alloc wr _).from _)).trans ((KeepsOthers.setCell _ _ _).from _),by have:=HF.out.2;simp [World.setCell];omega⟩⟩
 case done=>
  intro D W hD hI hK
  obtain ⟨i1,i2,i3⟩:=hI
  have b5:=A5 i1
  have b4:=A5 i2
  clear i1 i2 i3
  gi_wp2
  refine ⟨by simp,.inl ⟨_,_,rfl,run_takeDeferred hK, ?_⟩⟩
  have d4:E5 W (W.putObj D (.deferred none)) (fun j=>j=D):=⟨rfl,rfl,rfl,by simp,fun j hj hne=>World.putObj_heap_other hne⟩
  have f1:E5 w r (fun j=>j=gl):=a3.mono (fun _ _ h=>h.elim)
  have f2:E5 w W (fun j=>j=gl):=f1.trans b5.out (fun k hk h=>by omega)
  refine ⟨_,results_none rfl _ _ _,rfl,b4.out.kept d4 (fun j hj=> ?_),f2.trans d4 (fun k hk h=>by omega)⟩
  simp only [Value.ownBlock,Option.some.injEq] at hj
  omega
end Go.Proofs.YtbkbkmgogbgofaaGreatDoor
