/- The claim's texts, put together and shortened by a program (names, spaces). -/
import Derived.Test.YtbkbkmgogbgofaaGreatDoorZk24
import Derived.Deep.DeepCutAuto
open List renaming length_append→T01,getElem?_append_right→T02,append_assoc→T03,eq_nil_of_length_eq_zero→T04,getElem?_append_left→T05,take_append_drop→T06,getElem?_eq_getElem→T07,append_nil→T08,mem_cons_of_mem→T0c,getElem?_cons_zero→T0e,length_drop→T0f,getElem?_take_of_lt→T0g,getElem?_drop→T0h,flatten_append→T0i,flatten_cons→T0j
open Nat renaming sub_self→T09,add_sub_cancel_left→T0a,lt_or_ge→T0b,mul_add→T0d
open Int renaming natCast_nonneg→T00
namespace Go.Proofs.YtbkbkmgogbgofaaGreatDoor
set_option maxRecDepth 100000
set_option maxHeartbeats 6400000
open Go.RowKit
theorem Z3o:∀ (l:List G9),Asc l→∀ (k k2:Nat) (x y:G9),k≤k2→l[k]?=some x→l[k2]?=some y→x.1≤y.1
 | [],_,k,k2,x,y,_,h,_=>by simp at h
 | z::l,h,0,0,x,y,_,h1,h2=>by
  simp only [T0e,Option.some.injEq] at h1 h2
  rw [←h1,←h2];exact Nat.le_refl _
 | z::l,h,0,k2+1,x,y,_,h1,h2=>by
  simp only [T0e,Option.some.injEq] at h1
  rw [←h1]
  exact h.1 y (List.mem_of_getElem? (by simpa using h2))
 | z::l,h,k+1,0,x,y,hk,_,_=>by omega
 | z::l,h,k+1,k2+1,x,y,hk,h1,h2=>Z3o l h.2 k k2 x y (by omega) (by simpa using h1) (by simpa using h2)
theorem W4v (a m b mid s0 r0 s e:Nat) (X Y:List G9) (hX:a+X.length=m) (hY:m+Y.length=b) (hmid:mid=(a+b) / 2) (hAX:Asc X) (hAY:Asc Y) (hs:s0≤s) (hs2:s≤r0)
  (hcase:(mid < m∧s0+b=mid+m∧r0=mid)∨(m≤mid∧s0=a∧r0=m)) (he:e+s=mid+m)
  (I1:s=s0∨∃x y,X[s-1-a]?=some x∧Y[mid+m-s-m]?=some y∧x.1≤y.1∧s0 < s)
  (I2:s=r0∨∃x y,X[s-a]?=some x∧Y[mid+m-1-s-m]?=some y∧y.1 < x.1∧s < r0):
  ∃X1 X2 Y1 Y2,X=X1++X2∧Y=Y1++Y2∧a+X1.length=s∧m+Y1.length=e∧(∀x∈X1,∀y∈Y2,x.1≤y.1)∧(∀y∈Y1,∀x∈X2,y.1 < x.1):=by
 revert I1 I2
 have q:a≤s:=by omega
 have r:s≤m:=by omega
 have t:m≤e:=by omega
 have z:e≤b:=by omega
 have l1:(X.take (s-a)).length=s-a:=by simp;omega
 have l2:(Y.take (e-m)).length=e-m:=by simp;omega
 have l:a+(X.take (s-a)).length=s:=by omega
 have n:m+(Y.take (e-m)).length=e:=by omega
 intro I1 I2
 refine ⟨X.take (s-a),X.drop (s-a),Y.take (e-m),Y.drop (e-m),(T06 _ _).symm,(T06 _ _).symm,l,n,fun x hx y hy=> ?_,fun y hy x hx=> ?_⟩
 ·obtain ⟨k,g⟩:=List.mem_iff_getElem?.1 hx
  obtain ⟨j,d⟩:=List.mem_iff_getElem?.1 hy
  revert I1 I2
  have i:=(List.getElem?_eq_some_iff.1 g).1
  have f:=(List.getElem?_eq_some_iff.1 d).1
  rw [T0f] at f
  rw [T0g (by omega)] at g
  rw [T0h] at d
  intro I1 I2
  clear I2
  rcases I1 with I1 | ⟨x2,y2,hx2,hy2,hxy,hs3⟩
  ·exfalso;omega
  have o:=Z3o X hAX k (s-1-a) x x2 (by omega) g hx2
  have p:=Z3o Y hAY (mid+m-s-m) (e-m+j) y2 y (by omega) hy2 d
  omega
 obtain ⟨k,g⟩:=List.mem_iff_getElem?.1 hx
 obtain ⟨j,d⟩:=List.mem_iff_getElem?.1 hy
 revert I1 I2
 have i:=(List.getElem?_eq_some_iff.1 g).1
 have f:=(List.getElem?_eq_some_iff.1 d).1
 rw [T0f] at i
 rw [T0g (by omega)] at d
 rw [T0h] at g
 intro I1 I2
 clear I1
 rcases I2 with I2 | ⟨x2,y2,hx2,hy2,hxy,hs3⟩
 ·exfalso;omega
 have o:=Z3o X hAX (s-a) (s-a+k) x2 x (by omega) hx2 g
 have p:=Z3o Y hAY j (mid+m-1-s-m) y y2 (by omega) d hy2
 omega
theorem V2i (A B C:List G9) (x y:G9) (n:Nat) (h:A.length=n):(A++x::B++y::C)[n]?=some x:=by
 rw [T03,T02 (by omega),←h,T09];rfl
theorem V20 (A C:List G9) (x:G9) (n:Nat) (h:A.length=n):(A++x::C)[n]?=some x:=by
 rw [T02 (by omega),←h,T09];rfl
theorem V4b (A C:List G9) (x y:G9) (n:Nat) (h:A.length+1=n):(A++x::y::C)[n]?=some y:=by
 rw [T02 (by omega),←h,T0a];rfl
theorem V47 (A B C:List G9) (x y:G9) (n:Nat) (h:A.length+1+B.length=n):(A++x::B++y::C)[n]?=some y:=by
 rw [T02 (by simp;omega),show n- (A++x::B).length=0 by simp;omega];rfl
theorem X98 (a m b N:Nat) (P Y S:List G9) (x:G9) (v:Value) (w0 w:World) (Rs:List A6) (h:A4 w0 w (J5 v (P++(x::(Y++S)))::Rs)) (hN:(P++(x::(Y++S))).length=N) (hN2:N≤100000)
  (ha:P.length=a) (hm:a+1=m) (hb:m+Y.length=b) (hY:Asc Y):
  Calls Tryz.prog 200 #[v,.int .i64 (a:Int),.int .i64 (m:Int),.int .i64 (b:Int),Y0r] w fun e w'=>e= .returned (.tuple #[])∧A4 w0 w' (J5 v (P++(mrg [x] Y++S))::Rs):=by
 unfold Y0r
 have h0:(0:Int)≤(a:Int):=T00 _
 have h1:(0:Int)≤(b:Int):=T00 _
 have h2:(0:Int)≤(m:Int):=T00 _
 have d7:b≤N:=by simp at hN;omega
 obtain ⟨ao,a8,rfl,b8,e8⟩:=U1 h
 rw [hN] at b8 h⊢
 have HL:Hid (P.length=a∧(P++(x::(Y++S))).length=N∧Asc Y):=A5 ⟨ha,hN,hY⟩
 have H:=A5 h
 have hB:=A5 hb
 have em:(m:Int)- (a:Int)=1:=by omega
 have f:=A5 hm
 have d8:m≤b:=by omega
 have d9:a < N:=by omega
 clear h hN ha hb hY hm
 go_enter Tryz.func200,Tryz.ntmps200
 go_wp2
 go_loopg [10,11] (b-m+1) (fun k t10 t11 wr=>∃ (i j:Nat),m≤i∧i≤j∧j≤b∧j-i < k∧t10= .int .i64 (i:Int)∧t11= .int .i64 (j:Int)∧
  Hid ((∀k y,Y[k]?=some y→m+k < i→y.1 < x.1)∧(∀k y,Y[k]?=some y→j≤m+k→x.1≤y.1))∧
  Hid (A4 w0 wr (J5 (.slice ao N a8) (P++(x::(Y++S)))::Rs)))
 case atStart=>
  refine ⟨m,b,by omega,by omega,by omega,by omega,rfl,rfl,A5 ⟨fun k y _ r=>by omega,fun k y o r=> ?_⟩,H⟩
  have:=(List.getElem?_eq_some_iff.1 o).1
  have:=hB.out
  omega
 case round=>
  obtain ⟨i,j,e9,f0,f3,r,rfl,rfl,HE,HH⟩:=hrel
  have h3:(0:Int)≤(i:Int):=T00 _
  have h4:(0:Int)≤(j:Int):=T00 _
  by_cases e7:i < j
  ·have a3:(i:Int) < (j:Int):=by omega
   obtain ⟨q,hq⟩:∃q,q=(i+j) / 2:=⟨_,rfl⟩
   have e0:((i:Int)+(j:Int)) / 2=(q:Int):=by omega
   have e1:i≤q:=by omega
   have e2:q < j:=by omega
   have e3:q < N:=by omega
   have e4:(0:Int)≤(q:Int):=T00 _
   clear hq
   obtain ⟨y,o⟩:∃y,Y[q-m]?=some y:=⟨Y[q-m]'(by have:=hB.out;omega),T07 _⟩
   have HY:=A5 o
   have a4:(P++(x::(Y++S)))[a]?=some x:=by
    rw [←HL.out.1,T02 (Nat.le_refl _),T09];rfl
   have a5:(P++(x::(Y++S)))[q]?=some y:=by
    rw [T02 (by have:=HL.out.1;have:=f.out;omega),HL.out.1,show q-a=(q-m)+1 by have:=f.out;omega,List.getElem?_cons_succ,T05 (by have:=hB.out;omega)];exact o
   obtain ⟨g,b9,rfl,c1,c2,c3,c4,hf,_⟩:=HH.out.swap2 a4 a5
   have s:decide (Y4o (y.1:Int) (x.1:Int) < 0)=decide (y.1 < x.1):=Y5g _ _
   clear o a4 a5
   go_wp2
   go_still_tail 9,(by kernel_rfl)
   change wpList _ _ _ _ _ wr.drew
   have t:=A5 HH.out.drew
   clear c1 c2 c3 c4 hf HH
   generalize wr.drew=w2 at t⊢
   go_wp2_with fail
   refine (Y52 y x _).mono ?_
   rintro e w3 ⟨rfl,hm⟩
   have a6:=A5 (t.out.same hm)
   clear hm t
   by_cases a7:y.1 < x.1
   ·have hd:decide (y.1 < x.1)=true:=by simp [a7]
    rw [hd] at s
    go_wp2
    go_roundg (gk-1)
    case measure=>omega
    case rel=>
     refine ⟨q+1,j,by omega,by omega,by omega,by omega,by go_num,rfl,A5 ⟨fun k z hz r=> ?_,HE.out.2⟩,a6⟩
     have:=Z3o Y HL.out.2.2 k (q-m) z y (by omega) hz HY.out
     omega
   have hd:decide (y.1 < x.1)=false:=by simp [a7]
   rw [hd] at s
   go_wp2
   go_roundg (gk-1)
   case measure=>omega
   case rel=>
    refine ⟨i,q,by omega,by omega,by omega,by omega,rfl,rfl,A5 ⟨HE.out.1,fun k z hz r=> ?_⟩,a6⟩
    have:=Z3o Y HL.out.2.2 (q-m) k y z (by omega) HY.out hz
    omega
  have a3:¬(i:Int) < (j:Int):=by omega
  obtain rfl:j=i:=by omega
  obtain ⟨e,he⟩:∃e,e=j-1:=⟨_,rfl⟩
  have eI:(j:Int)-1=(e:Int):=by omega
  have n:Hid (e=j-1):=A5 he
  have e5:e < j:=by omega
  clear he
  go_wp2
  go_loopg [13] (N+2) (fun k t13 wr=>∃ (p:Nat) (d Y2:List G9),p≤e∧N-p < k∧t13= .int .i64 (p:Int)∧
   Hid (Y=d++Y2∧a+d.length=p)∧Hid (A4 w0 wr (J5 (.slice ao N a8) (P++(d++(x::(Y2++S))))::Rs)))
  case atStart=>
   refine ⟨a,[],Y, ?_,by omega,rfl,A5 ⟨rfl,rfl⟩,HH⟩
   have:=n.out;have:=f.out;omega
  case round=>
   obtain ⟨p,d,Y2,f5,f6,rfl,HF,HJ⟩:=hrel
   have h5:(0:Int)≤(p:Int):=T00 _
   have h6:(0:Int)≤(e:Int):=T00 _
   by_cases hp:p < e
   ·have b4:(p:Int) < (e:Int):=by omega
    have c6:(p:Int)+1 < (j:Int):=by omega
    have e6:p < N:=by omega
    have c7:p+1 < N:=by omega
    obtain ⟨y,l,rfl⟩:∃y l,Y2=y::l:=by
     cases hz:Y2 with
     | nil=>
      exfalso
      have h7:=HF.out.1
      rw [hz,T08] at h7
      have:=HF.out.2;have:=hB.out;have:=n.out;have:=f.out
      rw [h7] at*;omega
     | cons y l=>exact ⟨y,l,rfl⟩
    have HC:Hid (P++(d++(x::(y::l++S)))=(P++d)++x::[]++y::(l++S)∧(P++d).length=p):=by
     refine A5 ⟨by simp, ?_⟩
     have:=HF.out.2;have:=HL.out.1;simp;omega
    have hh:=HJ.out
    rw [HC.out.1] at hh
    obtain ⟨g,b9,rfl,c1,c2,c3,c4,hf,HS⟩:=hh.swap2 (i:=p) (j:=p+1) (x:=x) (y:=y) (V2i _ _ _ _ _ _ HC.out.2) (V47 _ _ _ _ _ _ (by rw [HC.out.2];rfl))
    have HD:Hid (swp ((P++d)++x::[]++y::(l++S)) p (p+1) x y=P++((d++[y])++(x::(l++S)))):=by
     have h:=W8e (P++d) [] (l++S) x y
     rw [HC.out.2] at h
     exact A5 (h.trans (by simp))
    clear hh
    go_wp2
    go_region
    go_wp2
    go_roundg (gk-1)
    case measure=>omega
    case rel=>
     refine ⟨p+1,d++[y],l,by omega,by omega,by go_num,A5 ⟨by rw [HF.out.1];simp,by have:=HF.out.2;simp;omega⟩, ?_⟩
     have h:=HS.out.drew
     rw [HD.out] at h
     exact A5 h
   have b4:¬(p:Int) < (e:Int):=by omega
   obtain rfl:p=e:=by omega
   have HD:Hid (P++(d++(x::(Y2++S)))=P++(mrg [x] Y++S)):=by
    obtain ⟨f1,f2⟩:=HF.out
    rw [f1,X2m x d Y2]
    ·exact A5 (by simp)
    ·intro y o
     obtain ⟨k,r⟩:=List.mem_iff_getElem?.1 o
     have b7:=(List.getElem?_eq_some_iff.1 r).1
     have:=n.out;have:=f.out
     exact HE.out.1 k y (by rw [f1,T05 b7];exact r) (by omega)
    intro y o
    obtain ⟨k,r⟩:=List.mem_iff_getElem?.1 o
    have:=n.out;have:=f.out
    exact HE.out.2 (d.length+k) y (by rw [f1,T02 (by omega),T0a];exact r) (by omega)
   go_wp2
   refine bodyPost_ret (results_none rfl _ _ _) rfl ?_
   exact ⟨rfl,by have h:=HJ.out;rw [HD.out] at h;exact h⟩
theorem X7d (a m b N:Nat) (P X S:List G9) (y:G9) (v:Value) (w0 w:World) (Rs:List A6) (h:A4 w0 w (J5 v (P++(X++(y::S)))::Rs)) (hN:(P++(X++(y::S))).length=N) (hN2:N≤100000)
  (ha:P.length=a) (hm:a+X.length=m) (hb:m+1=b) (hX:Asc X) (hX2:X.length≠1):
  Calls Tryz.prog 200 #[v,.int .i64 (a:Int),.int .i64 (m:Int),.int .i64 (b:Int),Y0r] w fun e w'=>e= .returned (.tuple #[])∧A4 w0 w' (J5 v (P++(mrg X [y]++S))::Rs):=by
 unfold Y0r
 have h0:(0:Int)≤(a:Int):=T00 _
 have h1:(0:Int)≤(b:Int):=T00 _
 have h2:(0:Int)≤(m:Int):=T00 _
 have d8:b≤N:=by simp at hN;omega
 obtain ⟨ao,a8,rfl,c5,f5⟩:=U1 h
 rw [hN] at c5 h⊢
 have s:Hid (P.length=a∧(P++(X++(y::S))).length=N∧Asc X):=A5 ⟨ha,hN,hX⟩
 have H:=A5 h
 have hM:=A5 hm
 have e0:¬(m:Int)- (a:Int)=1:=by omega
 have d9:((m:Int)- (a:Int)==1)=false:=by simp;omega
 have em:(b:Int)- (m:Int)=1:=by omega
 have e1:=A5 hb
 have e2:a≤m:=by omega
 have e3:m < N:=by omega
 clear h hN ha hb hX hm hX2
 go_enter Tryz.func200,Tryz.ntmps200
 go_wp2
 go_loopg [14,15] (m-a+1) (fun k t10 t11 wr=>∃ (i j:Nat),a≤i∧i≤j∧j≤m∧j-i < k∧t10= .int .i64 (i:Int)∧t11= .int .i64 (j:Int)∧
  Hid ((∀k z,X[k]?=some z→a+k < i→z.1≤y.1)∧(∀k z,X[k]?=some z→j≤a+k→y.1 < z.1))∧
  Hid (A4 w0 wr (J5 (.slice ao N a8) (P++(X++(y::S)))::Rs)))
 case atStart=>
  refine ⟨a,m,by omega,by omega,by omega,by omega,rfl,rfl,A5 ⟨fun k z _ o=>by omega,fun k z n o=> ?_⟩,H⟩
  have:=(List.getElem?_eq_some_iff.1 n).1
  have:=hM.out
  omega
 case round=>
  obtain ⟨i,j,f6,f7,f8,o,rfl,rfl,HE,HH⟩:=hrel
  have h3:(0:Int)≤(i:Int):=T00 _
  have h4:(0:Int)≤(j:Int):=T00 _
  by_cases f4:i < j
  ·have a2:(i:Int) < (j:Int):=by omega
   obtain ⟨q,hq⟩:∃q,q=(i+j) / 2:=⟨_,rfl⟩
   have e4:((i:Int)+(j:Int)) / 2=(q:Int):=by omega
   have e5:i≤q:=by omega
   have e6:q < j:=by omega
   have e7:q < N:=by omega
   have e8:(0:Int)≤(q:Int):=T00 _
   clear hq
   obtain ⟨z,n⟩:∃z,X[q-a]?=some z:=⟨X[q-a]'(by have:=hM.out;omega),T07 _⟩
   have HZ:=A5 n
   have a3:(P++(X++(y::S)))[m]?=some y:=by
    rw [←T03,T02 (by have:=s.out.1;have:=hM.out;simp;omega),show m- (P++X).length=0 by have:=s.out.1;have:=hM.out;simp;omega];rfl
   have a4:(P++(X++(y::S)))[q]?=some z:=by
    rw [T02 (by have:=s.out.1;omega),s.out.1,T05 (by have:=hM.out;omega)];exact n
   obtain ⟨g,c6,rfl,c1,c2,c3,c4,hf,_⟩:=HH.out.swap2 a3 a4
   have t:decide (Y4o (y.1:Int) (z.1:Int) < 0)=decide (y.1 < z.1):=Y5g _ _
   clear n a3 a4
   go_wp2
   go_still_tail 9,(by kernel_rfl)
   change wpList _ _ _ _ _ wr.drew
   have a0:=A5 HH.out.drew
   clear c1 c2 c3 c4 hf HH
   generalize wr.drew=w2 at a0⊢
   go_wp2_with fail
   refine (Y52 y z _).mono ?_
   rintro e w3 ⟨rfl,hm⟩
   have a5:=A5 (a0.out.same hm)
   clear hm a0
   by_cases a7:y.1 < z.1
   ·have hd:decide (y.1 < z.1)=true:=by simp [a7]
    rw [hd] at t
    go_wp2
    go_roundg (gk-1)
    case measure=>omega
    case rel=>
     refine ⟨i,q,by omega,by omega,by omega,by omega,rfl,rfl,A5 ⟨HE.out.1,fun k x hx o=> ?_⟩,a5⟩
     have:=Z3o X s.out.2.2 (q-a) k z x (by omega) HZ.out hx
     omega
   have hd:decide (y.1 < z.1)=false:=by simp [a7]
   rw [hd] at t
   go_wp2
   go_roundg (gk-1)
   case measure=>omega
   case rel=>
    refine ⟨q+1,j,by omega,by omega,by omega,by omega,by go_num,rfl,A5 ⟨fun k x hx o=> ?_,HE.out.2⟩,a5⟩
    have:=Z3o X s.out.2.2 k (q-a) x z (by omega) hx HZ.out
    omega
  have a2:¬(i:Int) < (j:Int):=by omega
  obtain rfl:j=i:=by omega
  go_wp2
  go_loopg [17] (m+1) (fun k t13 wr=>∃ (p:Nat) (f l:List G9),j≤p∧p≤m∧p < k∧t13= .int .i64 (p:Int)∧
   Hid (X=f++l∧a+f.length=p)∧Hid (A4 w0 wr (J5 (.slice ao N a8) (P++(f++(y::(l++S))))::Rs)))
  case atStart=>exact ⟨m,X,[],by omega,by omega,by omega,rfl,A5 ⟨by simp,hM.out⟩,HH⟩
  case round=>
   obtain ⟨p,f,l,g0,g1,g2,rfl,HF,HJ⟩:=hrel
   have h5:(0:Int)≤(p:Int):=T00 _
   by_cases hp:j < p
   rotate_left
   ·have b7:¬(j:Int) < (p:Int):=by omega
    obtain rfl:p=j:=by omega
    have HD:Hid (P++(f++(y::(l++S)))=P++(mrg X [y]++S)):=by
     obtain ⟨f1,f2⟩:=HF.out
     have a6:=s.out.2.2
     rw [f1] at a6
     rw [f1,Z98 y f l a6]
     ·exact A5 (by simp)
     ·intro z n
      obtain ⟨k,o⟩:=List.mem_iff_getElem?.1 n
      have c0:=(List.getElem?_eq_some_iff.1 o).1
      exact HE.out.1 k z (by rw [f1,T05 c0];exact o) (by omega)
     intro z n
     obtain ⟨k,o⟩:=List.mem_iff_getElem?.1 n
     exact HE.out.2 (f.length+k) z (by rw [f1,T02 (by omega),T0a];exact o) (by omega)
    go_wp2
    refine bodyPost_ret (results_none rfl _ _ _) rfl ?_
    exact ⟨rfl,by have h:=HJ.out;rw [HD.out] at h;exact h⟩
   have b7:(j:Int) < (p:Int):=by omega
   obtain ⟨d,b0⟩:∃d,p=d+1:=⟨p-1,by omega⟩
   have e9:(p:Int)-1=(d:Int):=by omega
   have h6:(0:Int)≤(d:Int):=T00 _
   have f0:p < N:=by omega
   have c8:d < N:=by omega
   have f3:IntKind.i64.wrap (d:Int)=(d:Int):=Z25 d (by omega)
   have HP:=A5 b0
   have c9:j≤d:=by omega
   have d0:d < p:=by omega
   clear b0
   obtain ⟨r,z,rfl⟩:∃r z,f=r++[z]:=by
    have:f≠[]:=fun e=>by have h:=HF.out.2;rw [e] at h;simp at h;omega
    exact ⟨f.dropLast,f.getLast this,(List.dropLast_concat_getLast this).symm⟩
   have HC:Hid (P++((r++[z])++(y::(l++S)))=(P++r)++z::y::(l++S)∧(P++r).length=d):=by
    refine A5 ⟨by simp, ?_⟩
    have:=HF.out.2;have:=s.out.1;have:=HP.out;simp at*;omega
   have hh:=HJ.out
   rw [HC.out.1] at hh
   obtain ⟨g,c6,rfl,c1,c2,c3,c4,hf,HS⟩:=hh.swap2 (i:=p) (j:=d) (x:=y) (y:=z) (V4b _ _ _ _ _ (by rw [HC.out.2];exact HP.out.symm)) (V20 _ _ _ _ HC.out.2)
   have HD:Hid (swp ((P++r)++z::y::(l++S)) p d y z=P++(r++(y::((z::l)++S)))):=by
    have h:=X73 (P++r) (l++S) y z
    rw [HC.out.2,←HP.out] at h
    exact A5 (h.trans (by simp))
   clear hh
   go_wp2
   go_region
   go_wp2
   go_roundg (gk-1)
   case measure=>omega
   case rel=>
    refine ⟨d,r,z::l,by omega,by omega,by omega,rfl,A5 ⟨by rw [HF.out.1];simp, ?_⟩, ?_⟩
    ·have:=HF.out.2;have:=HP.out;simp at*;omega
    have h:=HS.out.drew
    rw [HD.out] at h
    exact A5 h
def W2c (D:Nat):Prop:=
 ∀ (a m b N:Nat) (P X Y S:List G9) (v:Value) (w0 w:World) (Rs:List A6),A4 w0 w (J5 v (P++(X++(Y++S)))::Rs)→(P++(X++(Y++S))).length=N→N≤100000→P.length=a→a+X.length=m→m+Y.length=b→
  a < m→m < b→Asc X→Asc Y→b-a≤D→
  Calls Tryz.prog 200 #[v,.int .i64 (a:Int),.int .i64 (m:Int),.int .i64 (b:Int),Y0r] w fun e w'=>e= .returned (.tuple #[])∧A4 w0 w' (J5 v (P++(mrg X Y++S))::Rs)
theorem X9x (D:Nat) (IH:W2c D) (a m b N:Nat) (P X Y S:List G9) (v:Value) (w0 w:World) (Rs:List A6) (h:A4 w0 w (J5 v (P++(X++(Y++S)))::Rs)) (hN:(P++(X++(Y++S))).length=N) (hN2:N≤100000)
  (ha:P.length=a) (hm:a+X.length=m) (hb:m+Y.length=b) (hX1:a+1 < m) (hY1:m+1 < b) (hX:Asc X) (hY:Asc Y) (hD:b-a≤D+1):
  Calls Tryz.prog 200 #[v,.int .i64 (a:Int),.int .i64 (m:Int),.int .i64 (b:Int),Y0r] w fun e w'=>e= .returned (.tuple #[])∧A4 w0 w' (J5 v (P++(mrg X Y++S))::Rs):=by
 unfold Y0r
 have h0:(0:Int)≤(a:Int):=T00 _
 have h1:(0:Int)≤(b:Int):=T00 _
 have h2:(0:Int)≤(m:Int):=T00 _
 have j8:b≤N:=by simp at hN;omega
 obtain ⟨ao,a7,rfl,h6,m5⟩:=U1 h
 rw [hN] at h6 h⊢
 obtain ⟨d,d0⟩:∃d,d=(a+b) / 2:=⟨_,rfl⟩
 obtain ⟨s0,r0,b6⟩:∃s0 r0,(d < m∧s0+b=d+m∧r0=d)∨(m≤d∧s0=a∧r0=m):=by
  by_cases h:d < m
  ·exact ⟨d+m-b,d,.inl ⟨h,by omega,rfl⟩⟩
  exact ⟨a,m,.inr ⟨by omega,rfl,rfl⟩⟩
 have HL:Hid (P.length=a∧(P++(X++(Y++S))).length=N∧Asc X∧Asc Y∧a+X.length=m∧m+Y.length=b):=A5 ⟨ha,hN,hX,hY,hm,hb⟩
 have HM:=A5 d0
 have HC:=A5 b6
 have H:=A5 h
 have j9:((m:Int)- (a:Int)==1)=false:=by simp;omega
 have k0:((b:Int)- (m:Int)==1)=false:=by simp;omega
 have e0:¬(m:Int)- (a:Int)=1:=by omega
 have e1:¬(b:Int)- (m:Int)=1:=by omega
 have i3:((a:Int)+(b:Int)) / 2=(d:Int):=by omega
 obtain ⟨n,hn⟩:∃n,n=d+m:=⟨_,rfl⟩
 have en:(d:Int)+(m:Int)=(n:Int):=by omega
 obtain ⟨p,hp⟩:∃p,n=p+1:=⟨n-1,by omega⟩
 have ep:(n:Int)-1=(p:Int):=by omega
 have b9:Hid (n=d+m∧n=p+1):=A5 ⟨hn,hp⟩
 have f4:(0:Int)≤(d:Int):=T00 _
 have k4:(0:Int)≤(n:Int):=T00 _
 have k5:(0:Int)≤(p:Int):=T00 _
 have k6:d≤N:=by omega
 have k7:n≤2*N:=by omega
 have k8:s0≤r0:=by omega
 have k9:r0≤N:=by omega
 clear h hN ha hb hX hY hm d0 b6 hn hp
 go_enter Tryz.func200,Tryz.ntmps200
 go_upto_if 140 with (fail)
 go_cut [20,21] (fun s20 s21 wx=>s20= .int .i64 (s0:Int)∧s21= .int .i64 (r0:Int)∧w=wx)
 case first=>
  as_aux_lemma=>
   rcases HC.out with ⟨k1,k2,k3⟩ | ⟨k1,k2,k3⟩
   ·have f5:(d:Int) < (m:Int):=by omega
    have l0:(n:Int)- (b:Int)=(s0:Int):=by have:=b9.out;omega
    have d7:=A5 k2
    have d2:=A5 k3
    clear k2 k3
    go_wp2
    go_meet
    exact ⟨rfl,by rw [d2.out],rfl⟩
   have f5:¬(d:Int) < (m:Int):=by omega
   have d7:=A5 k2
   have d2:=A5 k3
   clear k2 k3
   go_wp2
   go_meet
   exact ⟨by rw [d7.out],by rw [d2.out],rfl⟩
 case rest=>
  as_aux_lemma=>
   obtain ⟨rfl,rfl,rfl⟩:=hcut
   go_wp2
   go_loopg [20,21] (r0-s0+1) (fun k t10 t11 wr=>∃ (i j:Nat),s0≤i∧i≤j∧j≤r0∧j-i < k∧t10= .int .i64 (i:Int)∧t11= .int .i64 (j:Int)∧
    Hid ((i=s0∨∃x y,X[i-1-a]?=some x∧Y[d+m-i-m]?=some y∧x.1≤y.1∧s0 < i)∧(j=r0∨∃x y,X[j-a]?=some x∧Y[d+m-1-j-m]?=some y∧y.1 < x.1∧j < r0))∧
    Hid (A4 w0 wr (J5 (.slice ao N a7) (P++(X++(Y++S)))::Rs)))
   case atStart=>exact ⟨s0,r0,by omega,by omega,by omega,by omega,rfl,rfl,A5 ⟨.inl rfl,.inl rfl⟩,H⟩
   case round=>
    as_aux_lemma=>
     obtain ⟨i,j,h7,m6,h8,hk,rfl,rfl,HE,HH⟩:=hrel
     have h3:(0:Int)≤(i:Int):=T00 _
     have h4:(0:Int)≤(j:Int):=T00 _
     by_cases m4:i < j
     ·have d8:(i:Int) < (j:Int):=by omega
      obtain ⟨q,hq⟩:∃q,q=(i+j) / 2:=⟨_,rfl⟩
      have l2:((i:Int)+(j:Int)) / 2=(q:Int):=by omega
      have l3:i≤q:=by omega
      have l4:q < j:=by omega
      have l7:(0:Int)≤(q:Int):=T00 _
      clear hq
      have f:a≤q∧q < m∧q≤p∧m≤p-q∧p-q < b:=by
       have g1:=HC.out
       have g2:=HM.out
       have g3:=b9.out
       clear HE
       omega
      obtain ⟨n1,n2,n3,n4,n5⟩:=f
      obtain ⟨o,d1⟩:∃o,o=p-q:=⟨_,rfl⟩
      have i4:(p:Int)- (q:Int)=(o:Int):=by omega
      have i5:(0:Int)≤(o:Int):=T00 _
      have l8:m≤o:=by omega
      have l9:o < b:=by omega
      have m0:q < N:=by omega
      have i6:o < N:=by omega
      have m1:IntKind.i64.wrap (o:Int)=(o:Int):=Z25 o (by omega)
      have f9:=A5 d1
      clear d1 n3 n4 n5
      obtain ⟨x,hx⟩:∃x,X[q-a]?=some x:=⟨X[q-a]'(by have:=HL.out;omega),T07 _⟩
      obtain ⟨y,hy⟩:∃y,Y[o-m]?=some y:=⟨Y[o-m]'(by have:=HL.out;omega),T07 _⟩
      have HX:=A5 hx
      have HY:=A5 hy
      obtain ⟨l1,_,_,_,l5,l6⟩:=HL.out
      have d9:(P++(X++(Y++S)))[q]?=some x:=by
       rw [T02 (by omega),l1,T05 (by omega)];exact hx
      have e3:(P++(X++(Y++S)))[o]?=some y:=by
       rw [T02 (by omega),l1,T02 (by omega),T05 (by omega),show o-a-X.length=o-m by omega];exact hy
      obtain ⟨g,n8,rfl,c1,c2,c3,c4,hf,_⟩:=HH.out.swap2 d9 e3
      have c8:decide (Y4o (y.1:Int) (x.1:Int) < 0)=decide (y.1 < x.1):=Y5g _ _
      clear hx hy d9 e3 l1 l5 l6
      go_wp2
      go_still_tail 11,(by kernel_rfl)
      change wpList _ _ _ _ _ wr.drew
      have d3:=A5 HH.out.drew
      clear c1 c2 c3 c4 hf HH
      generalize wr.drew=w2 at d3⊢
      go_wp2_with fail
      refine (Y52 y x _).mono ?_
      rintro e w3 ⟨rfl,hm⟩
      have e4:=A5 (d3.out.same hm)
      clear hm d3
      have c9:d+m- (q+1)-m=o-m∧d+m-1-q-m=o-m:=by
       have:=b9.out;have:=f9.out;clear HE;omega
      have e5:=A5 c9
      clear c9
      by_cases d4:y.1 < x.1
      ·have hd:decide (y.1 < x.1)=true:=by simp [d4]
       rw [hd] at c8
       go_wp2
       go_roundg (gk-1)
       case measure=>omega
       case rel=>
        refine ⟨i,q,by omega,by omega,by omega,by omega,rfl,rfl,A5 ⟨HE.out.1,.inr ⟨x,y,HX.out, ?_,d4,by omega⟩⟩,e4⟩
        rw [e5.out.2];exact HY.out
      have hd:decide (y.1 < x.1)=false:=by simp [d4]
      rw [hd] at c8
      go_wp2
      go_roundg (gk-1)
      case measure=>omega
      case rel=>
       refine ⟨q+1,j,by omega,by omega,by omega,by omega,by go_num,rfl,A5 ⟨.inr ⟨x,y, ?_, ?_,by omega,by omega⟩,HE.out.2⟩,e4⟩
       ·rw [show q+1-1-a=q-a by omega];exact HX.out
       rw [e5.out.1];exact HY.out
     have d8:¬(i:Int) < (j:Int):=by omega
     obtain rfl:j=i:=by omega
     obtain ⟨e,he⟩:∃e,e+j=d+m:=⟨d+m-j,by have:=HC.out;clear HE;omega⟩
     have m2:(n:Int)- (j:Int)=(e:Int):=by have:=b9.out;clear HE;omega
     have m3:(0:Int)≤(e:Int):=T00 _
     obtain ⟨t,X2,z,Y2,g1,g2,g3,g4,g5,g6⟩:=W4v a m b d s0 r0 j e X Y HL.out.2.2.2.2.1 HL.out.2.2.2.2.2 HM.out HL.out.2.2.1 HL.out.2.2.2.1 h7 h8 HC.out he HE.out.1 HE.out.2
     have l:Hid (X=t++X2∧Y=z++Y2∧a+t.length=j∧m+z.length=e∧(∀x∈t,∀y∈Y2,x.1≤y.1)∧(∀y∈z,∀x∈X2,y.1 < x.1)):=A5 ⟨g1,g2,g3,g4,g5,g6⟩
     have c0:=A5 he
     clear g1 g2 g3 g4 g5 g6 HE he
     have HV:Hid (P++(X++(Y++S))=(P++t)++(X2++(z++(Y2++S)))):=by rw [l.out.1,l.out.2.1];exact A5 (by simp)
     have hh:=HH.out
     rw [HV.out] at hh
     have H1:=A5 hh
     clear hh HH
     go_upto_region 39 with (fail)
     go_cut [185] (fun s wx=>s= .bool (decide (j < m∧m < e))∧wr=wx)
     case first=>
      as_aux_lemma=>
       by_cases c1:j < m
       ·have b2:(j:Int) < (m:Int):=by omega
        by_cases c2:m < e
        ·have b3:(m:Int) < (e:Int):=by omega
         go_wp2
         go_meet
         exact ⟨by simp [c1,c2],rfl⟩
        have b3:¬(m:Int) < (e:Int):=by omega
        go_wp2
        go_meet
        exact ⟨by simp [c2],rfl⟩
       have b2:¬(j:Int) < (m:Int):=by omega
       go_wp2
       go_meet
       exact ⟨by simp [c1],rfl⟩
     case rest=>
      as_aux_lemma=>
       obtain ⟨rfl,rfl⟩:=hcut
       go_step
       go_cut [] (fun wx=>Hid (A4 w0 wx (J5 (.slice ao N a7) ((P++t)++(z++(X2++(Y2++S))))::Rs)))
       case first=>
        as_aux_lemma=>
         by_cases hc:j < m∧m < e
         ·have hd:decide (j < m∧m < e)=true:=by simp [hc]
          have f:(P++t).length=j∧(P++t++X2).length=m∧(P++t++(X2++z)).length=e∧0 < X2.length∧0 < z.length∧(P++t++(X2++(z++(Y2++S)))).length=N:=by
           have q1:=l.out.1
           have o:=l.out.2.1
           have q3:=l.out.2.2.1
           have q4:=l.out.2.2.2.1
           obtain ⟨q5,q6,_,_,q7,q8⟩:=HL.out
           rw [HV.out] at q6
           rw [q1,T01] at q7
           rw [o,T01] at q8
           simp only [T01] at q6⊢
           omega
          have HR:=A5 (X8i j m e N (P++t) X2 z (Y2++S) (.slice ao N a7) (.func (.func 187) #[] #[]) w0 wr Rs H1.out f.2.2.2.2.2 hN2 f.1 f.2.1 f.2.2.1 f.2.2.2.1 f.2.2.2.2.1)
          clear f
          rw [hd]
          clear hd
          go_wp2_with fail
          refine HR.out.mono ?_
          rintro e2 w5 ⟨rfl,hh⟩
          have b4:=A5 hh
          clear hh
          go_wp2
          go_meet
          exact b4
         have hd:decide (j < m∧m < e)=false:=by simp only [decide_eq_false_iff_not];exact hc
         have b5:Hid ((P++t)++(X2++(z++(Y2++S)))=(P++t)++(z++(X2++(Y2++S)))):=by
          have q1:=l.out.1
          have o:=l.out.2.1
          have q3:=l.out.2.2.1
          have q4:=l.out.2.2.2.1
          obtain ⟨q5,q6,_,_,q7,q8⟩:=HL.out
          rw [q1,T01] at q7
          rw [o,T01] at q8
          rcases T0b j m with c1 | c1
          ·have:z=[]:=T04 (by omega)
           rw [this];exact A5 rfl
          have:X2=[]:=T04 (by omega)
          rw [this];exact A5 rfl
         rw [hd]
         clear hd
         go_wp2
         go_meet
         rw [←b5.out]
         exact H1
       case rest=>
        as_aux_lemma=>
         have H2:=A5 hcut.out
         clear hcut H1
         go_upto_region 41 with (fail)
         go_cut [199] (fun s wx=>s= .bool (decide (a < j∧j < d))∧wc=wx)
         case first=>
          as_aux_lemma=>
           by_cases c1:a < j
           ·have b2:(a:Int) < (j:Int):=by omega
            by_cases c2:j < d
            ·have b3:(j:Int) < (d:Int):=by omega
             go_wp2
             go_meet
             exact ⟨by simp [c1,c2],rfl⟩
            have b3:¬(j:Int) < (d:Int):=by omega
            go_wp2
            go_meet
            exact ⟨by simp [c2],rfl⟩
           have b2:¬(a:Int) < (j:Int):=by omega
           go_wp2
           go_meet
           exact ⟨by simp [c1],rfl⟩
         case rest=>
          as_aux_lemma=>
           obtain ⟨rfl,rfl⟩:=hcut
           go_step
           go_cut [] (fun wx=>Hid (A4 w0 wx (J5 (.slice ao N a7) ((P++mrg t z)++(X2++(Y2++S)))::Rs)))
           case first=>
            as_aux_lemma=>
             by_cases hc:a < j∧j < d
             ·have hd:decide (a < j∧j < d)=true:=by simp [hc]
              have f:a+t.length=j∧j+z.length=d∧(P++(t++(z++(X2++(Y2++S))))).length=N∧d-a≤D:=by
               have q1:=l.out.1
               have o:=l.out.2.1
               have q3:=l.out.2.2.1
               have q4:=l.out.2.2.2.1
               have q9:=c0.out
               have g9:=HM.out
               obtain ⟨q5,q6,_,_,q7,q8⟩:=HL.out
               rw [HV.out] at q6
               rw [q1,T01] at q7
               rw [o,T01] at q8
               simp only [T01] at q6⊢
               omega
              have r:=HL.out.2.2.1
              have a5:=HL.out.2.2.2.1
              rw [l.out.1] at r
              rw [l.out.2.1] at a5
              have HR:=A5 (IH a j d N P t z (X2++(Y2++S)) (.slice ao N a7) w0 wc Rs (by have h:=H2.out;rw [T03] at h;exact h) f.2.2.1 hN2 HL.out.1 f.1 f.2.1 hc.1 hc.2 ((Z1k _ _).1 r).1 ((Z1k _ _).1 a5).1 f.2.2.2)
              clear f r a5
              rw [hd]
              clear hd
              go_wp2_with fail
              refine HR.out.mono ?_
              rintro e2 w5 ⟨rfl,hh⟩
              rw [←T03] at hh
              have b4:=A5 hh
              clear hh
              go_wp2
              go_meet
              exact b4
             have hd:decide (a < j∧j < d)=false:=by simp only [decide_eq_false_iff_not];exact hc
             have b5:Hid ((P++t)++(z++(X2++(Y2++S)))=(P++mrg t z)++(X2++(Y2++S))):=by
              have q1:=l.out.1
              have o:=l.out.2.1
              have q3:=l.out.2.2.1
              have q4:=l.out.2.2.2.1
              have q9:=c0.out
              have h5:=HC.out
              have r:=HL.out.2.2.1
              rw [q1] at r
              rcases T0b a j with c1 | c1
              ·have:z=[]:=T04 (by omega)
               rw [this,Z0c t ((Z1k _ _).1 r).1];exact A5 rfl
              have:t=[]:=T04 (by omega)
              rw [this,Y1y];exact A5 (by simp)
             rw [hd]
             clear hd
             go_wp2
             go_meet
             rw [←b5.out]
             exact H2
           case rest=>
            as_aux_lemma=>
             have H3:=A5 hcut.out
             clear hcut H2
             go_upto_region 43 with (fail)
             go_cut [213] (fun s wx=>s= .bool (decide (d < e∧e < b))∧wc=wx)
             case first=>
              as_aux_lemma=>
               by_cases c1:d < e
               ·have b2:(d:Int) < (e:Int):=by omega
                by_cases c2:e < b
                ·have b3:(e:Int) < (b:Int):=by omega
                 go_wp2
                 go_meet
                 exact ⟨by simp [c1,c2],rfl⟩
                have b3:¬(e:Int) < (b:Int):=by omega
                go_wp2
                go_meet
                exact ⟨by simp [c2],rfl⟩
               have b2:¬(d:Int) < (e:Int):=by omega
               go_wp2
               go_meet
               exact ⟨by simp [c1],rfl⟩
             case rest=>
              as_aux_lemma=>
               obtain ⟨rfl,rfl⟩:=hcut
               go_step
               have HZ:Hid (mrg t z++mrg X2 Y2=mrg X Y):=by
                have r:=HL.out.2.2.1
                rw [l.out.1] at r
                rw [l.out.1,l.out.2.1]
                exact A5 (X0b t X2 z Y2 r l.out.2.2.2.2.1 l.out.2.2.2.2.2).symm
               by_cases hc:d < e∧e < b
               ·have hd:decide (d < e∧e < b)=true:=by simp [hc]
                have f:(P++mrg t z).length=d∧d+X2.length=e∧e+Y2.length=b∧((P++mrg t z)++(X2++(Y2++S))).length=N∧b-d≤D:=by
                 have q1:=l.out.1
                 have o:=l.out.2.1
                 have q3:=l.out.2.2.1
                 have q4:=l.out.2.2.2.1
                 have q9:=c0.out
                 have g9:=HM.out
                 obtain ⟨q5,q6,_,_,q7,q8⟩:=HL.out
                 rw [HV.out] at q6
                 rw [q1,T01] at q7
                 rw [o,T01] at q8
                 simp only [T01,X9p] at q6⊢
                 omega
                have r:=HL.out.2.2.1
                have a5:=HL.out.2.2.2.1
                rw [l.out.1] at r
                rw [l.out.2.1] at a5
                have HR:=A5 (IH d e b N (P++mrg t z) X2 Y2 S (.slice ao N a7) w0 wc Rs H3.out f.2.2.2.1 hN2 f.1 f.2.1 f.2.2.1 hc.1 hc.2 ((Z1k _ _).1 r).2.1 ((Z1k _ _).1 a5).2.1 f.2.2.2.2)
                clear f r a5
                rw [hd]
                clear hd
                go_wp2_with fail
                refine HR.out.mono ?_
                rintro e2 w5 ⟨rfl,hh⟩
                rw [T03,←T03 (mrg t z),HZ.out] at hh
                have b4:=A5 hh
                clear hh
                go_wp2
                go_end0
                exact ⟨rfl,b4⟩
               have hd:decide (d < e∧e < b)=false:=by simp only [decide_eq_false_iff_not];exact hc
               have b5:Hid ((P++mrg t z)++(X2++(Y2++S))=P++(mrg X Y++S)):=by
                rw [←HZ.out]
                have q1:=l.out.1
                have o:=l.out.2.1
                have q3:=l.out.2.2.1
                have q4:=l.out.2.2.2.1
                have q9:=c0.out
                have h5:=HC.out
                obtain ⟨q5,q6,f0,_,q7,q8⟩:=HL.out
                rw [q1] at f0
                rw [q1,T01] at q7
                rw [o,T01] at q8
                rcases T0b d e with c1 | c1
                ·have:Y2=[]:=T04 (by omega)
                 rw [this,Z0c X2 ((Z1k _ _).1 f0).2.1];exact A5 (by simp)
                have:X2=[]:=T04 (by omega)
                rw [this,Y1y];exact A5 (by simp)
               rw [hd]
               clear hd
               go_wp2
               go_end0
               have h:=H3.out
               rw [b5.out] at h
               exact ⟨rfl,h⟩
theorem Y5u:∀D,W2c D
 | 0=>by
  intro a m b N P X Y S v w0 w Rs h hN hN2 ha hm hb h1 h2 hX hY hD
  exfalso;omega
 | D+1=>by
  intro a m b N P X Y S v w0 w Rs h hN hN2 ha hm hb h1 h2 hX hY hD
  by_cases e1:a+1=m
  ·obtain ⟨x,rfl⟩:∃x,X=[x]:=List.length_eq_one_iff.1 (by omega)
   exact X98 a m b N P Y S x v w0 w Rs h hN hN2 ha e1 hb hY
  by_cases e2:m+1=b
  ·obtain ⟨y,rfl⟩:∃y,Y=[y]:=List.length_eq_one_iff.1 (by omega)
   exact X7d a m b N P X S y v w0 w Rs h hN hN2 ha hm e2 hX (by omega)
  exact X9x D (Y5u D) a m b N P X Y S v w0 w Rs h hN hN2 ha hm hb (by omega) (by omega) hX hY hD
def Z40 (Bs:List (List G9)):List G9:=(Bs.map I4).flatten
theorem R9:∀Bs:List (List G9),(Z40 Bs).length=Bs.flatten.length
 | []=>rfl
 | B::Bs=>by
  show (I4 B++Z40 Bs).length=(B++Bs.flatten).length
  rw [T01,T01,J1,R9 Bs]
theorem Z5e (k:Nat):∀Bs:List (List G9),(∀B∈Bs,B.length=k)→Bs.flatten.length=k*Bs.length
 | [],_=>by simp
 | B::Bs,h=>by
  show (B++Bs.flatten).length=_
  rw [T01,Z5e k Bs fun C hC=>h C (T0c _ hC),h B List.mem_cons_self,List.length_cons,Nat.mul_succ];omega
theorem Y9r (Bs:List (List G9)) (B:List G9):Z40 (Bs++[B])=Z40 Bs++I4 B:=by simp [Z40]
theorem Z8k (Bs:List (List G9)) (B:List G9):Z40 (B::Bs)=I4 B++Z40 Bs:=by simp [Z40]
theorem X95 (n:Nat) (Z:List G9) (v:Value) (w0 w:World) (Rs:List A6) (h:A4 w0 w (J5 v Z::Rs)) (hn:Z.length=n) (hN2:n≤100000):
  Calls Tryz.prog 196 #[v,.int .i64 (n:Int),Y0r] w fun e w'=>e= .returned (.tuple #[])∧A4 w0 w' (J5 v (I4 Z)::Rs):=by
 unfold Y0r
 have h0:(0:Int)≤(n:Int):=T00 _
 have x:=A5 hn
 have H:=A5 h
 clear h hn
 go_enter Tryz.func196,Tryz.ntmps196
 go_wp2
 go_loopg [7,8] (n+2) (fun k t7 t8 wr=>∃ (a:Nat) (Bs:List (List G9)) (R:List G9),a≤n∧n-a < k∧t7= .int .i64 (a:Int)∧t8= .int .i64 ((a:Int)+20)∧
  Hid ((∀B∈Bs,B.length=20)∧Z=Bs.flatten++R∧Bs.flatten.length=a)∧Hid (A4 w0 wr (J5 v (Z40 Bs++R)::Rs)))
 case atStart=>exact ⟨0,[],Z,by omega,by omega,rfl,rfl,A5 ⟨by simp,by simp,rfl⟩,H⟩
 case round=>
  obtain ⟨a,Bs,R,d0,hk,rfl,rfl,HE,HH⟩:=hrel
  have r:(0:Int)≤(a:Int):=T00 _
  by_cases hb:a+20≤n
  ·have b4:(a:Int)+20≤(n:Int):=by omega
   obtain ⟨i,d,f⟩:=HE.out
   have b5:a+R.length=n:=by have:=x.out;rw [d,T01] at this;omega
   have m:(R.take 20).length=20:=by simp;omega
   have b:=HH.out
   rw [←T06 20 R] at b
   have o:=A5 (Z92 a (a+20) n (Z40 Bs) (R.take 20) (R.drop 20) v w0 wr Rs b (by rw [T06,T01,R9];omega) hN2 (by rw [R9];exact f) (by rw [T01,R9,m];omega))
   have HG:Hid ((∀B∈Bs++[R.take 20],B.length=20)∧Z=(Bs++[R.take 20]).flatten++R.drop 20∧(Bs++[R.take 20]).flatten.length=a+20):=by
    refine A5 ⟨fun B hB2=> ?_, ?_, ?_⟩
    ·rcases List.mem_append.1 hB2 with h | h
     ·exact i B h
     rw [List.mem_singleton.1 h];exact m
    ·rw [d];simp
    rw [T0i,T01,f];simp;omega
   have a7:((a+20:Nat):Int)=(a:Int)+20:=by omega
   rw [a7] at o
   clear b i d f b5 m a7
   go_wp2_with fail
   refine o.out.mono ?_
   rintro e w1 ⟨rfl,b⟩
   rw [←T03,←Y9r] at b
   have y:=A5 b
   clear b
   go_wp2
   go_roundg (gk-1)
   case measure=>omega
   case rel=>exact ⟨a+20,Bs++[R.take 20],R.drop 20,by omega,by omega,by go_num,by go_num,HG,y⟩
  have b4:¬(a:Int)+20≤(n:Int):=by omega
  have hs:∃ (k:Nat) (Bs2:List (List G9)) (T:List G9),k=20∧Bs2=Bs∧T=R:=⟨20,Bs,R,rfl,rfl,rfl⟩
  have o:=A5 (Z92 a n n (Z40 Bs) R [] v w0 wr Rs (by have h:=HH.out;simpa using h) (by
   obtain ⟨i,d,f⟩:=HE.out
   have h:=x.out
   rw [d] at h;simp [R9] at h⊢;omega) hN2 (by rw [R9];exact HE.out.2.2) (by
   obtain ⟨i,d,f⟩:=HE.out
   have h:=x.out
   rw [d,T01] at h
   rw [T01,R9];exact h))
  go_wp2_with fail
  refine o.out.mono ?_
  rintro e w1 ⟨rfl,b⟩
  rw [T08] at b
  have y:=A5 b
  clear b hs o
  have HT:Hid (R.length < 20):=by
   obtain ⟨i,d,f⟩:=HE.out
   have h:=x.out
   rw [d,T01] at h
   exact A5 (by omega)
  go_wp2
  go_loopg [6] (n+1) (fun k t6 wq=>∃ (z:Nat) (Bs:List (List G9)) (T:List G9),20≤z∧z≤2*n+20∧n-z < k∧t6= .int .i64 (z:Int)∧
   Hid ((∀B∈Bs,B.length=z)∧Z=Bs.flatten++T∧T.length < z)∧Hid (A4 w0 wq (J5 v (Z40 Bs++I4 T)::Rs)))
  case atStart=>exact ⟨20,Bs,R,by omega,by omega,by omega,rfl,A5 ⟨HE.out.1,HE.out.2.1,HT.out⟩,y⟩
  case round=>
   obtain ⟨z,Cs,T,c1,d1,d2,rfl,HF,HJ⟩:=hrel
   obtain ⟨gx,rfl⟩:∃g,g=gk:=⟨gk,rfl⟩
   have h2:(0:Int)≤(z:Int):=T00 _
   by_cases c6:z < n
   rotate_left
   ·have a8:¬(z:Int) < (n:Int):=by omega
    go_wp2
    go_end0
    refine ⟨rfl, ?_⟩
    have h:=HJ.out
    have e:Z40 Cs++I4 T=I4 Z:=by
     obtain ⟨i,d,f⟩:=HF.out
     have h2:=x.out
     rw [d,T01,Z5e z Cs i] at h2
     rw [d]
     match Cs with
     | []=>simp [Z40]
     | [B]=>
      obtain rfl:T=[]:=T04 (by simp at h2;omega)
      simp [Z40,I4,mrg]
     | j::l::Fs=>exfalso;simp [T0d] at h2;omega
    rw [e] at h
    exact h
   have a8:(z:Int) < (n:Int):=by omega
   go_wp2
   go_loopg [7,8] (n+1) (fun k t7 t8 wq=>∃ (a:Nat) (Ds Es:List (List G9)),a≤n∧n-a < k∧t7= .int .i64 (a:Int)∧t8= .int .i64 ((a:Int)+2*(z:Int))∧
    Hid ((∀B∈Ds,B.length=2*z)∧(∀B∈Es,B.length=z)∧Z=Ds.flatten++(Es.flatten++T)∧Ds.flatten.length=a)∧Hid (A4 w0 wq (J5 v (Z40 Ds++(Z40 Es++I4 T))::Rs)))
   case atStart=>
    refine ⟨0,[],Cs,by omega,by omega,rfl,by go_num,A5 ⟨by simp,HF.out.1,by simpa using HF.out.2.1,rfl⟩, ?_⟩
    exact HJ
   case round=>
    obtain ⟨c,Ds,Es,d3,d4,rfl,rfl,HG,HK⟩:=hrel
    obtain ⟨gy,rfl⟩:∃g,g=gk:=⟨gk,rfl⟩
    have h3:(0:Int)≤(c:Int):=T00 _
    have s:Hid (c+(z*Es.length+T.length)=n):=by
     obtain ⟨i,d,f,t⟩:=HG.out
     have h:=x.out
     rw [f,T01,T01,t,Z5e z Es d] at h
     exact A5 h
    by_cases hc:c+2*z≤n
    ·have b6:(c:Int)+2*(z:Int)≤(n:Int):=by omega
     obtain ⟨j,l,Fs,rfl⟩:∃j l Fs,Es=j::l::Fs:=by
      have r:=s.out
      have h2:=HF.out.2.2
      match Es with
      | []=>exfalso;simp at r;omega
      | [B]=>exfalso;simp at r;omega
      | j::l::Fs=>exact ⟨j,l,Fs,rfl⟩
     obtain ⟨i,d,f,t⟩:=HG.out
     have b1:=d j (by simp)
     have b2:=d l (by simp)
     have b:=HK.out
     rw [Z8k,Z8k,T03,T03] at b
     have o:=A5 (Y5u (2*z) c (c+z) (c+2*z) n (Z40 Ds) (I4 j) (I4 l) (Z40 Fs++I4 T) v w0 wr Rs b (by
      have h:=x.out
      rw [f] at h
      simp only [T01,R9,J1,T0j] at h⊢;omega) hN2 (by rw [R9];exact t) (by rw [J1,b1]) (by rw [J1,b2];omega) (by omega) (by omega) (Z0z j) (Z0z l) (by omega))
     have p:Hid ((∀B∈Ds++[j++l],B.length=2*z)∧(∀B∈Fs,B.length=z)∧Z=(Ds++[j++l]).flatten++(Fs.flatten++T)∧(Ds++[j++l]).flatten.length=c+2*z):=by
      refine A5 ⟨fun B m=> ?_,fun B m=>d B (T0c _ (T0c _ m)),by rw [f];simp, ?_⟩
      ·rcases List.mem_append.1 m with h | h
       ·exact i B h
       rw [List.mem_singleton.1 h,T01];omega
      rw [T0i,T01,t];simp;omega
     have e1:((c+z:Nat):Int)=(c:Int)+(z:Int):=by omega
     have e2:((c+2*z:Nat):Int)=(c:Int)+2*(z:Int):=by omega
     rw [e1,e2] at o
     clear b i d f t b1 b2 e1 e2
     go_wp2_with fail
     refine o.out.mono ?_
     rintro e w3 ⟨rfl,b⟩
     rw [←Y34,←T03,←Y9r] at b
     have q:=A5 b
     clear b
     go_wp2
     go_roundg (gy-1)
     case measure=>omega
     case rel=>exact ⟨c+2*z,Ds++[j++l],Fs,by omega,by omega,by go_num,by go_num,p,q⟩
    have b6:¬(c:Int)+2*(z:Int)≤(n:Int):=by omega
    obtain ⟨i,d,f,t⟩:=HG.out
    by_cases c7:c+z < n
    ·have b0:(c:Int)+(z:Int) < (n:Int):=by omega
     obtain ⟨B,rfl⟩:∃B,Es=[B]:=by
      have r:=s.out
      have h2:=HF.out.2.2
      match Es with
      | []=>exfalso;simp at r;omega
      | [B]=>exact ⟨B,rfl⟩
      | j::l::Fs=>exfalso;simp [T0d] at r;omega
     have b1:=d B (by simp)
     have b3:=s.out
     simp at b3
     have b:=HK.out
     rw [Z8k,T03] at b
     have o:=A5 (Y5u n c (c+z) n n (Z40 Ds) (I4 B) (I4 T) [] v w0 wr Rs (by rw [T08];exact b) (by
      have h:=x.out
      rw [f] at h
      simp only [T01,R9,J1,T0j,List.length_nil,List.flatten_nil] at h⊢;omega) hN2 (by rw [R9];exact t) (by rw [J1,b1]) (by rw [J1];omega) (by omega) (by omega) (Z0z B) (Z0z T) (by omega))
     have p:Hid ((∀B∈Ds,B.length=z*2)∧Z=Ds.flatten++(B++T)∧(B++T).length < z*2):=by
      refine A5 ⟨fun B m=>by rw [i B m];omega,by rw [f];simp, ?_⟩
      have:=HF.out.2.2
      rw [T01];omega
     have e1:((c+z:Nat):Int)=(c:Int)+(z:Int):=by omega
     rw [e1] at o
     clear b i d f t b1 e1 b3
     go_wp2_with fail
     refine o.out.mono ?_
     rintro e w3 ⟨rfl,b⟩
     rw [←Y34,T08] at b
     have q:=A5 b
     clear b
     go_wp2
     go_roundg (gx-1)
     case measure=>omega
     case rel=>exact ⟨z*2,Ds,B++T,by omega,by omega,by omega,by go_num,p,q⟩
    have b0:¬(c:Int)+(z:Int) < (n:Int):=by omega
    obtain ⟨T2,a4⟩:∃T2,Hid (Es.flatten++T=T2∧Z40 Es++I4 T=I4 T2∧T2.length < z*2):=by
     have r:=s.out
     have h2:=HF.out.2.2
     match Es with
     | []=>exact ⟨T,A5 ⟨by simp,by simp [Z40],by omega⟩⟩
     | [B]=>
      have b1:=d B (by simp)
      simp at r
      obtain rfl:T=[]:=T04 (by omega)
      exact ⟨B,A5 ⟨by simp,by rw [Z8k];simp [Z40,I4,mrg],by omega⟩⟩
     | j::l::Fs=>exfalso;simp [T0d] at r;omega
    have p:Hid ((∀B∈Ds,B.length=z*2)∧Z=Ds.flatten++T2∧T2.length < z*2):=by
     refine A5 ⟨fun B m=>by rw [i B m];omega,by rw [f,a4.out.1],a4.out.2.2⟩
    have b:=HK.out
    rw [a4.out.2.1] at b
    have q:=A5 b
    clear b i d f t
    go_wp2
    go_roundg (gx-1)
    case measure=>omega
    case rel=>exact ⟨z*2,Ds,T2,by omega,by omega,by omega,by go_num,p,q⟩
end Go.Proofs.YtbkbkmgogbgofaaGreatDoor
