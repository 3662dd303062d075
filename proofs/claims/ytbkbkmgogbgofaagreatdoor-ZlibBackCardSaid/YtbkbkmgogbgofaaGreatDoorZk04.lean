/- The claim's texts, put together and shortened by a program (names, spaces). -/
import Derived.Test.YtbkbkmgogbgofaaGreatDoorZk03
import Derived.Test.YtbkbkmgogbgofaaGreatDoorProg
import Derived.Test.YtbkbkmgogbgofaaGreatDoorZk01
import Derived.Test.YtbkbkmgogbgofaaGreatDoorZk02
open List renaming getElem?_eq_none→T01,replicate→T02,getElem?_eq_getElem→T03,ext_getElem?→T04,take_of_length_le→T05,getElem?_range→T06,getElem?_set→T07,mem_of_getElem?→T08,range→T09,map_congr_left→T0a,getElem?_map→T0b,count_le_length→T0d,length_take→T0h,count_append→T0i,count_cons_of_ne→T0j,length_append→T0k,length_drop→T0m
open Nat renaming zero_le→T0g,pow_le_pow_right→T0l,add_sub_cancel→T0n
open Int renaming natCast_nonneg→T00,eq_ofNat_of_zero_le→T0e,toNat_natCast→T0f
open Option renaming map_some→T0c
namespace Go.Proofs.YtbkbkmgogbgofaaGreatDoor
set_option maxRecDepth 100000
set_option maxHeartbeats 6400000
open Go.RowKit
def Z9 (l:List Int) (i:Nat):List Nat:=(T09 16).map fun (n:Nat)=>if n < i then Z8 l n else 0
theorem Z0d (l:List Int) (i:Nat):(Z9 l i).length=16:=by simp [Z9]
theorem Y7d (l:List Int) (i n:Nat) (h:n < i) (hn:n < 16):(Z9 l i)[n]?=some (Z8 l n):=by
 simp [Z9,T06 hn,h]
theorem W0i (l:List Int) (i:Nat) (h:i < 16):(Z9 l i).set i (Z8 l i)=Z9 l (i+1):=by
 refine T04 fun j=> ?_
 rw [T07,Z0d]
 by_cases b:j < 16
 ·by_cases e:i=j
  ·subst e
   rw [if_pos rfl,if_pos h,Y7d _ _ _ (by omega) h]
  rw [if_neg e]
  simp only [Z9,T0b,T06 b,T0c]
  by_cases a:j < i
  ·rw [if_pos a,if_pos (by omega)]
  rw [if_neg a,if_neg (by omega)]
 rw [if_neg (by omega),T01 (by rw [Z0d];omega),T01 (by rw [Z0d];omega)]
theorem X9z (l:List Int):Z9 l 2=T02 16 0:=rfl
theorem W7m:(Tryz.prog.info? 251).map (·.zero)=some (some (X4 .u32 (T02 16 0))):=by kernel_rfl
theorem X1a:(Tryz.prog.info? 251).map (·.size)=some 16:=by kernel_rfl
theorem W3p (l:List Int) (w:World) (hl:l.length≤288):
  Calls Tryz.prog 182 #[X4 .i64 (P5 l)] w fun e w'=>e= .returned (X4 .u32 (Z9 l 16))∧E5 w w' (fun _=>False):=by
 go_enter Tryz.func182,Tryz.ntmps182
 go_wp2_with (first
  | refine Z4h rfl _ _ rfl .i64 (P5 l) rfl ?_
  | refine K1 rfl _ rfl .u32 _ W7m ?_)
 have d:A4 w (((w.alloc (.cells (D5 .i64 (P5 l)).toArray 197)).alloc (.cells (D5 .u32 (T02 16 0)).toArray 251)).alloc (.cells (D5 .u32 (T02 16 0)).toArray 251))
   [E8 (w.heap.size+1+1) (D5 .u32 (Z9 l 2)) 251,E8 (w.heap.size+1) (D5 .u32 (T02 16 0)) 251,E8 w.heap.size (D5 .i64 (P5 l)) 197]:=by
  have h:=(((A4.start w).newObj (D5 .i64 (P5 l)) 197).newObj (D5 .u32 (T02 16 0)) 251).newObj (D5 .u32 (T02 16 0)) 251
  simpa [X9z] using h
 have y:=A5 d
 clear d
 go_loopg [4] 17 (fun k t4 wr=>∃ (i:Nat),2≤i∧i≤16∧16-i < k∧t4= .int .i64 (i:Int)∧Hid (A4 w wr [E8 (w.heap.size+1+1) (D5 .u32 (Z9 l i)) 251,E8 (w.heap.size+1) (D5 .u32 (T02 16 0)) 251,E8 w.heap.size (D5 .i64 (P5 l)) 197]))
 case atStart=>exact ⟨2,by omega,by omega,by omega,rfl,y⟩
 case round=>
  obtain ⟨i,b7,hi,hk,rfl,b⟩:=hrel
  by_cases g:i < 16
  rotate_left
  ·obtain rfl:i=16:=by omega
   have z:¬((16:Nat):Int) < 16:=by omega
   have hB:=b.out.obj
   have a1:=b.out.swap.obj
   have HL:=A5 (Z0d l 16)
   have a3:=A5 (show (T02 16 0).length=16 from rfl)
   go_wp2_with (first
    | refine Z06 rfl _ _ rfl _ 16 (by rfl) rfl X1a (w.heap.size+1+1) .u32 (Z9 l 16) _ rfl HL.out hB ?_
    | (refine N5 rfl _ _ _ rfl 16 X1a (w.heap.size+1) .u32 (T02 16 0) (Z9 l 16) _ rfl rfl a3.out HL.out a1 ?_;intro w3 m a4))
   exact X3f rfl _ 16 (by rfl) rfl X1a (w.heap.size+1) .u32 (Z9 l 16) _ rfl HL.out m rfl ⟨rfl,(b.out.swap.putObj m a4).mod⟩
  have z:(i:Int) < 16:=by omega
  have a6:(0:Int)≤(i:Int):=T00 _
  obtain ⟨j,n⟩:∃j,i=j+1:=⟨i-1,by omega⟩
  have a7:(i:Int)-1=(j:Int):=by omega
  have a8:(0:Int)≤(j:Int):=T00 _
  have a9:(j:Int) < 16:=by omega
  obtain ⟨f,s⟩:∃f,f=Z8 l j:=⟨_,rfl⟩
  have b1:f≤16384*288:=by rw [s];have:=X3e l j (by omega);omega
  obtain ⟨x,t⟩:∃x,x=l.count (j:Int):=⟨_,rfl⟩
  have b2:x≤288:=by rw [t];have:=T0d (a:=(j:Int)) (l:=l);omega
  have a0:=b.out.obj.cell (i:=j) (v:= .int .u32 (f:Int)) (by rw [O8,Y7d _ _ _ (by omega) (by omega),s];rfl)
  have p:=b.out.third.obj.cell (i:=j) (v:= .int .i64 (x:Int)) (by rw [O8,Z0n _ j (by omega) (by omega),t];rfl)
  have b3:=b.out.obj.frozen i
  obtain ⟨b0,o⟩:∃b0,(Z9 l i)[i]?=some b0:=⟨_,T03 (by rw [Z0d];exact g)⟩
  have r:=b.out.obj.cell (i:=i) (v:= .int .u32 (b0:Int)) (by rw [O8,o];rfl)
  have HR:Hid ((Z9 l i).set i (2*(f+x))=Z9 l (i+1)):=by
   unfold Hid
   rw [←W0i l i g];congr 1
   obtain ⟨q,rfl⟩:∃q,j=q+1:=⟨j-1,by omega⟩
   rw [s,t,n,Z8]
  have HS:=A5 (b.out.setObj i (.int .u32 ((2*(f+x):Nat):Int)))
  clear s t n o
  go_wp2
  go_region
  all_goals
   go_wp2
   go_roundg (gk-1)
   case measure=>omega
   case rel=>exact ⟨i+1,by omega,by omega,by omega,by go_num,by unfold Hid;have h:=HS.out.drew;rw [Y3,HR.out] at h;simpa using h⟩
theorem W2a:(Tryz.prog.info? 44).map (fun i=>(i.zero,i.size,i.bytes))=some (some (Value.int .u32 0),1,4):=by kernel_rfl
def Z1s (l:List Int) (i:Nat):List Nat:=(T09 l.length).map fun (j:Nat)=>if j < i then G0 l j else 0
theorem Z15 (l:List Int) (i:Nat):(Z1s l i).length=l.length:=by simp [Z1s]
theorem X0p (l:List Int) (i:Nat) (h:i < l.length):(Z1s l i).set i (G0 l i)=Z1s l (i+1):=by
 refine T04 fun j=> ?_
 rw [T07,Z15]
 by_cases b:j < l.length
 ·simp only [Z1s,T0b,T06 b,T0c]
  by_cases e:i=j
  ·subst e
   rw [if_pos rfl,if_pos h,if_pos (by omega)]
  rw [if_neg e]
  by_cases a:j < i
  ·rw [if_pos a,if_pos (by omega)]
  rw [if_neg a,if_neg (by omega)]
 rw [if_neg (by omega),T01 (by rw [Z15];omega),T01 (by rw [Z15];omega)]
theorem X90 (l:List Int) (i:Nat) (h:i < l.length) (h0:G0 l i=0):Z1s l (i+1)=Z1s l i:=by
 rw [←X0p l i h,h0]
 refine T04 fun j=> ?_
 rw [T07,Z15]
 by_cases e:i=j
 ·subst e
  rw [if_pos rfl,if_pos h]
  simp [Z1s,T06 h]
 rw [if_neg e]
theorem W4w (l:List Int):Z1s l l.length=G1 l:=by
 refine T0a fun j hj=> ?_
 rw [if_pos (List.mem_range.1 hj)]
theorem X7o (l:List Int):Z1s l 0=T02 l.length 0:=by
 refine T04 fun j=> ?_
 by_cases a:j < l.length
 ·simp [Z1s,a]
 rw [T01 (by rw [Z15];omega),T01 (by simp;omega)]
def Z3c (l p:List Int):List Nat:=(T09 16).map fun (n:Nat)=>if n=0 then 0 else Z8 l n+p.count (n:Int)
theorem Z21 (l p:List Int):(Z3c l p).length=16:=by simp [Z3c]
theorem Z3w (l p:List Int) (n:Nat) (h1:1≤n) (h:n≤15):(Z3c l p)[n]?=some (Z8 l n+p.count (n:Int)):=by
 simp only [Z3c,T0b,T06 (show n < 16 by omega),T0c]
 rw [if_neg (by omega)]
theorem Z6b (l p:List Int):(Z3c l p)[0]?=some 0:=by simp [Z3c]
theorem W58 (l:List Int):Z3c l []=Z9 l 16:=by
 refine T0a fun n hn=> ?_
 rw [if_pos (List.mem_range.1 hn)]
 by_cases h:n=0
 ·subst h;rfl
 rw [if_neg h];simp
theorem X7p (l p:List Int) (m:Nat) (h1:1≤m) (h:m≤15):(Z3c l p).set m (Z8 l m+p.count (m:Int)+1)=Z3c l (p++[(m:Int)]):=by
 refine T04 fun j=> ?_
 rw [T07,Z21]
 by_cases b:j < 16
 ·by_cases e:m=j
  ·subst e
   rw [if_pos rfl,if_pos (by omega),Z3w _ _ m h1 h]
   simp;omega
  rw [if_neg e]
  by_cases a:j=0
  ·subst a;rw [Z6b,Z6b]
  rw [Z3w _ _ j (by omega) (by omega),Z3w _ _ j (by omega) (by omega),T0i,T0j (by omega)]
  simp
 rw [if_neg (by omega),T01 (by rw [Z21];omega),T01 (by rw [Z21];omega)]
theorem W0u (l p:List Int) (a:Int) (h:Q2 a=false):Z3c l (p++[a])=Z3c l p:=by
 refine T04 fun j=> ?_
 by_cases f:j < 16
 ·by_cases b:j=0
  ·subst b;rw [Z6b,Z6b]
  have d:¬(1≤a∧a≤15):=by simpa [Q2] using h
  rw [Z3w _ _ j (by omega) (by omega),Z3w _ _ j (by omega) (by omega),T0i,T0j (by omega)]
  simp
 rw [T01 (by rw [Z21];omega),T01 (by rw [Z21];omega)]
theorem X3z (n:Nat):(madeCells (Value.cells (.int .u32 0)) (n*1)).toList=D5 .u32 (T02 n 0):=by
 rw [Y7m,Nat.mul_one]
 refine T04 fun j=> ?_
 by_cases a:j < n
 ·simp [madeCells,Value.cells,a,Nat.mod_one]
 rw [T01 (by simp [madeCells];omega),T01 (by simp;omega)]
theorem W34 (v:Value) (l:List Int) (w:World) (hv:Rd w 1 v l.length (D3 l)) (hl:l.length≤288):
  Calls Tryz.prog 158 #[v] w fun e w'=>∃v',e= .returned v'∧Own w' 44 1 v' l.length (D5 .u32 (G1 l))∧(∀k,v'.ownBlock=some k→w.heap.size≤k)∧E5 w w' (fun _=>False):=by
 obtain ⟨ao,g9,rfl,_,_⟩:=hv.form
 have HC:=A5 (Y3h _ l w hv (by omega))
 have b7:=A5 hl
 obtain ⟨n,hn⟩:∃n,n=l.length:=⟨_,rfl⟩
 rw [←hn] at hv HC hl⊢
 have HN:=A5 hn
 clear hn
 obtain ⟨i0,e2,e3,e4,e5⟩:=info_parts W2a
 have b8:¬(288:Int) < (n:Int):=by omega
 have f6:(0:Int)≤(n:Int):=T00 _
 have b9:=A5 e2
 go_enter Tryz.func158,Tryz.ntmps158
 go_wp2_with fail
 refine HC.out.mono ?_
 rintro e w1 ⟨rfl,a3⟩
 have c0:=A5 a3
 clear a3
 go_wp2_with fail
 refine (W3p l w1 b7.out).mono ?_
 rintro e w2 ⟨rfl,a4⟩
 have c1:=A5 (c0.out.same a4)
 have c2:=A5 (show (T02 16 0).length=16 from rfl)
 have c3:=A5 (Z0d l 16)
 have a1:=A5 (((A4.start w).same c1.out).newObj (D5 .u32 (T02 16 0)) 251)
 clear a4
 go_wp2_with (first
  | refine K1 rfl _ rfl .u32 _ W7m ?_
  | (refine N5 rfl _ _ _ rfl 16 X1a _ .u32 (T02 16 0) (Z9 l 16) _ rfl rfl c2.out c3.out a1.out.obj ?_;intro w3 a5 a6;have c4:=A5 a5;have c5:=A5 a6;clear a5 a6)
  | (refine wpList_make_own rfl 53 (.tmp 14) (.tmp 14) rfl 44 i0 (.int .u32 0) 1 Tryz.underlying53 b9.out e3 e4 .i64 n rfl rfl (by rw [e5];omega) (by unfold maxLen;omega) ?_;intro v1 w4 zs a7 t a8 a9 b1;have c6:=A5 t;have c7:=A5 a8;have c8:=A5 a9;have c9:=A5 a7;have d0:=A5 b1;clear t a8 a9 b1 a7))
 have a2:A4 w w4 [B0 44 1 v1 n (D5 .u32 (Z1s l 0)),E8 w2.heap.size (D5 .u32 (Z3c l (l.take 0))) 251]:=by
  have h:=(a1.out.putObj c4.out c5.out).pushOwn (v:=v1) (e:=44) (size:=1) (n:=n) (xs:=zs) c9.out c6.out c7.out
  have e:zs=D5 .u32 (Z1s l 0):=by rw [d0.out,X3z,X7o,HN.out]
  rw [e] at h
  rw [List.take_zero,W58]
  exact h
 obtain ⟨g,hg⟩:∃g,g=w3.heap.size:=⟨_,rfl⟩
 obtain rfl:v1= .slice (some ⟨g,0,none⟩) n n:=by rw [hg];exact c8.out
 have d1:=A5 a2
 clear a2 hg
 go_loopg [18] (n+1) (fun k t18 wr=>∃ (i:Nat),i≤n∧n-i < k∧t18= .int .i64 (i:Int)∧Hid (A4 w wr [B0 44 1 (.slice (some ⟨g,0,none⟩) n n) n (D5 .u32 (Z1s l i)),E8 w2.heap.size (D5 .u32 (Z3c l (l.take i))) 251]))
 case atStart=>exact ⟨0,by omega,by omega,rfl,d1⟩
 case round=>
  obtain ⟨i,hi,hk,rfl,p⟩:=hrel
  by_cases d9:i < n
  rotate_left
  ·have g5:¬(i:Int) < (n:Int):=by omega
   have HE:Hid (Z1s l i=G1 l):=by unfold Hid;rw [show i=l.length by have:=HN.out;omega];exact W4w l
   rw [HE.out] at p
   go_wp2
   go_ret
   exact ⟨_,rfl,p.out.own,p.out.fresh,p.out.mod⟩
  obtain ⟨g1,h1,rfl,d⟩:=(p.out.old hv).spot (by omega)
  obtain ⟨a,j⟩:∃a,l[i]?=some a:=⟨l[i]'(by have:=HN.out;omega),T03 _⟩
  have f7:=d i _ (by rw [G5,j];rfl)
  have e7:(0:Int)≤(i:Int):=T00 _
  have f8:(i:Int) < (n:Int):=by omega
  have HT:=A5 (Z1n l i a j)
  have HA:=A5 (Y5z a wr)
  have r:Hid (i < l.length):=by unfold Hid;have:=HN.out;omega
  cases hisl:Q2 a with
  | true=>
   rw [hisl] at HA
   have f9:1≤a∧a≤15:=by simpa [Q2] using hisl
   have b:=Z0x l i a j hisl
   have d2:=Y2q l i
   obtain ⟨m,rfl⟩:=T0e (show 0≤a by omega)
   rw [T0f] at b
   obtain ⟨x,hx⟩:∃x,x=G0 l i:=⟨_,rfl⟩
   have g0:x≤16385*288:=by rw [hx];have:=HN.out;omega
   have s:=p.out.swap.obj
   have b4:=s.cell (i:=m) (v:= .int .u32 (x:Int)) (by rw [O8,Z3w _ _ m (by omega) (by omega),hx,b];rfl)
   have g2:=s.frozen m
   have d3:g≠w2.heap.size:=fun e=>p.out.swap.apart (by rw [e];rfl)
   have e9:w2.heap.size≠g:=fun e=>d3 e.symm
   obtain ⟨g',f4,z,f,q,o⟩:=p.out.own.site (by omega)
   injection z with z
   injection z with hgg1 hgg2
   subst hgg1;subst hgg2
   obtain ⟨b0,b2⟩:∃b0,(Z1s l i)[i]?=some b0:=⟨_,T03 (by rw [Z15];exact r.out)⟩
   have d4:=f i _ (by rw [O8,b2];rfl)
   have d5:=q i
   have HS:=A5 (p.out.putOwn (o i (.int .u32 (x:Int)) d9) (E5.set wr g (0+i) _))
   simp only [Nat.zero_add] at d4 d5
   have g4:(0:Int)≤(m:Int):=T00 _
   have t:(m:Int) < 16:=by omega
   have HX:=A5 hx
   have d6:=A5 b
   clear d j hisl hx d2 b s f q o b2
   go_wp2_with fail
   refine HA.out.mono ?_
   rintro e w5 ⟨rfl,rfl⟩
   have d7:=A5 (HS.out.swap.setObj m (.int .u32 ((x+1:Nat):Int)))
   have HR:Hid ((Z3c l (l.take i)).set m (x+1)=Z3c l (l.take (i+1))):=by unfold Hid;rw [HT.out,←X7p _ _ m (by omega) (by omega),HX.out,d6.out]
   have y:Hid ((Z1s l i).set i x=Z1s l (i+1)):=by unfold Hid;rw [HX.out];exact X0p l i r.out
   go_wp2
   go_roundg (gk-1)
   case measure=>omega
   case rel=>exact ⟨i+1,by omega,by omega,by go_num,by unfold Hid;have h:=d7.out.swap;rw [Y3,Y3,HR.out,y.out] at h;simpa using h⟩
  | false=>
   rw [hisl] at HA
   have HR:Hid (Z3c l (l.take (i+1))=Z3c l (l.take i)):=by unfold Hid;rw [HT.out];exact W0u _ _ _ hisl
   have y:Hid (Z1s l (i+1)=Z1s l i):=by unfold Hid;exact X90 l i r.out (Z4a l i a j hisl)
   clear d j hisl
   go_wp2_with fail
   refine HA.out.mono ?_
   rintro e w1 ⟨rfl,rfl⟩
   go_wp2
   go_roundg (gk-1)
   case measure=>omega
   case rel=>exact ⟨i+1,by omega,by omega,by go_num,by unfold Hid;rw [HR.out,y.out];exact p.out⟩
def Z6q (l:List Int) (n i j:Nat):Bool:=match l[j]? with
 | some a=>decide (a < (n:Int)∨a=(n:Int)∧j < i)
 | none=>false
def Z3n (l:List Int) (n i:Nat):List Nat:=(T09 l.length).map fun (j:Nat)=>if Z6q l n i j=true then G0 l j else 0
theorem Z3b (l:List Int) (n i:Nat):(Z3n l n i).length=l.length:=by simp [Z3n]
theorem Y8a (l:List Int) (n i j:Nat) (h:j < l.length):(Z3n l n i)[j]?=some (if Z6q l n i j=true then G0 l j else 0):=by simp [Z3n,h]
theorem Y5r {l:List Int} {n i n' i':Nat} (h:∀j a,l[j]?=some a→Q2 a=true→Z6q l n i j=Z6q l n' i' j):Z3n l n i=Z3n l n' i':=by
 refine T0a fun j hj=> ?_
 have b:j < l.length:=List.mem_range.1 hj
 have d:l[j]?=some l[j]:=T03 b
 cases ha:Q2 l[j] with
 | true=>rw [h j _ d ha]
 | false=>rw [Z4a l j _ d ha];simp
theorem W42 (l:List Int) (n:Nat):Z3n l n l.length=Z3n l (n+1) 0:=by
 refine Y5r fun j a hj ha=> ?_
 have b:=(List.getElem?_eq_some_iff.1 hj).1
 simp only [Z6q,hj]
 congr 1
 apply propext
 omega
theorem W7g (l:List Int) (n i:Nat) (h:l[i]?=some (n:Int)):(Z3n l n i).set i (G0 l i)=Z3n l n (i+1):=by
 have b:=(List.getElem?_eq_some_iff.1 h).1
 refine T04 fun j=> ?_
 rw [T07,Z3b]
 by_cases d:j < l.length
 ·rw [Y8a _ _ _ _ d,Y8a _ _ _ _ d]
  by_cases e:i=j
  ·subst e
   rw [if_pos rfl,if_pos b,if_pos]
   simp [Z6q,h]
  rw [if_neg e]
  have:Z6q l n i j=Z6q l n (i+1) j:=by
   unfold Z6q
   cases l[j]? with
   | none=>rfl
   | some a=>
    simp only
    congr 1
    apply propext
    omega
  rw [this]
 rw [if_neg (by omega),T01 (by rw [Z3b];omega),T01 (by rw [Z3b];omega)]
theorem W54 (l:List Int) (n i:Nat) (a:Int) (h:l[i]?=some a) (hne:a≠(n:Int)):Z3n l n (i+1)=Z3n l n i:=by
 refine Y5r fun j b hj hb=> ?_
 simp only [Z6q,hj]
 congr 1
 apply propext
 have:j=i→b=a:=fun e=>by subst e;rw [h] at hj;injection hj with hj;exact hj.symm
 omega
theorem W5x (l:List Int):Z3n l 1 0=T02 l.length 0:=by
 refine T04 fun j=> ?_
 by_cases a:j < l.length
 ·rw [Y8a _ _ _ _ a]
  have b:l[j]?=some l[j]:=T03 a
  cases ha:Q2 l[j] with
  | false=>rw [Z4a l j _ b ha];simp [a]
  | true=>
   have d:1≤l[j]∧l[j]≤15:=by simpa [Q2] using ha
   rw [if_neg]
   ·simp [a]
   simp only [Z6q,b,decide_eq_true_eq];omega
 rw [T01 (by rw [Z3b];omega),T01 (by simp;omega)]
theorem W91 (l:List Int):Z3n l 16 0=G1 l:=by
 refine T0a fun j hj=> ?_
 have a:j < l.length:=List.mem_range.1 hj
 have b:l[j]?=some l[j]:=T03 a
 cases ha:Q2 l[j] with
 | false=>rw [Z4a l j _ b ha];simp
 | true=>
  have d:1≤l[j]∧l[j]≤15:=by simpa [Q2] using ha
  rw [if_pos]
  simp only [Z6q,b,decide_eq_true_eq];omega
theorem X2y (v:Value) (l:List Int) (w:World) (hv:Rd w 1 v l.length (D3 l)) (hl:l.length≤288):
  Calls Tryz.prog 59 #[v] w fun e w'=>∃v',e= .returned v'∧Own w' 44 1 v' l.length (D5 .u32 (G1 l))∧(∀k,v'.ownBlock=some k→w.heap.size≤k)∧E5 w w' (fun _=>False):=by
 obtain ⟨ao,e4,rfl,_,_⟩:=hv.form
 obtain ⟨n,hn⟩:∃n,n=l.length:=⟨_,rfl⟩
 rw [←hn] at hv hl⊢
 have y:=A5 hn
 clear hn
 obtain ⟨i0,c9,d0,d1,d2⟩:=info_parts W2a
 have a8:¬(288:Int) < (n:Int):=by omega
 have d9:(0:Int)≤(n:Int):=T00 _
 have a9:=A5 c9
 go_enter Tryz.func59,Tryz.ntmps59
 go_wp2_with (refine wpList_make_own rfl 53 (.tmp 11) (.tmp 11) rfl 44 i0 (.int .u32 0) 1 Tryz.underlying53 a9.out d0 d1 .i64 n rfl rfl (by rw [d2];omega) (by unfold maxLen;omega) ?_;intro v1 w4 zs a1 t a2 a3 a4;have b1:=A5 t;have b2:=A5 a2;have b3:=A5 a3;have b4:=A5 a1;have b5:=A5 a4;clear t a2 a3 a4 a1)
 have z:A4 w w4 [B0 44 1 v1 n (D5 .u32 (Z3n l 1 0))]:=by
  have h:=(A4.start w).pushOwn (v:=v1) (e:=44) (size:=1) (n:=n) (xs:=zs) b4.out b1.out b2.out
  have e:zs=D5 .u32 (Z3n l 1 0):=by rw [b5.out,X3z,W5x,y.out]
  rw [e] at h
  exact h
 obtain ⟨g,hg⟩:∃g,g=w.heap.size:=⟨_,rfl⟩
 obtain rfl:v1= .slice (some ⟨g,0,none⟩) n n:=by rw [hg];exact b3.out
 have b6:=A5 z
 clear z hg
 go_loopg [4,5] 17 (fun k t4 t5 wr=>∃ (m c:Nat),1≤m∧m≤16∧16-m < k∧t5= .int .i64 (m:Int)∧t4= .int .u32 (c:Int)∧c≤16385*288∧Hid (2*c=Z8 l m)∧Hid (A4 w wr [B0 44 1 (.slice (some ⟨g,0,none⟩) n n) n (D5 .u32 (Z3n l m 0))]))
 case atStart=>exact ⟨1,0,by omega,by omega,by omega,rfl,rfl,by omega,rfl,b6⟩
 case round=>
  obtain ⟨m,c,t,hm,hk,rfl,rfl,hc,HC,HH⟩:=hrel
  obtain ⟨gx,rfl⟩:∃g,g=gk:=⟨gk,rfl⟩
  by_cases a0:m≤15
  rotate_left
  ·obtain rfl:m=16:=by omega
   have b7:¬((16:Nat):Int)≤15:=by omega
   have HE:Hid (Z3n l 16 0=G1 l):=W91 l
   rw [HE.out] at HH
   go_wp2
   go_ret
   exact ⟨_,rfl,HH.out.own,HH.out.fresh,HH.out.mod⟩
  have b7:(m:Int)≤15:=by omega
  have b8:Hid (Z8 l m≤16384*n):=by unfold Hid;rw [y.out];exact X3e l m a0
  have e0:c*2≤16384*n:=by have:=b8.out;have:=HC.out;omega
  go_wp2
  go_loopg [4,6] (n+1) (fun k t4 t6 wq=>∃ (i c:Nat),i≤n∧n-i < k∧t6= .int .i64 (i:Int)∧t4= .int .u32 (c:Int)∧c≤16384*n+i∧Hid (c=Z8 l m+(l.take i).count (m:Int))∧Hid (A4 w wq [B0 44 1 (.slice (some ⟨g,0,none⟩) n n) n (D5 .u32 (Z3n l m i))]))
  case atStart=>exact ⟨0,c*2,by omega,by omega,rfl,by go_num,by omega,by unfold Hid;rw [←HC.out];simp;omega,HH⟩
  case round=>
   obtain ⟨i,c,hi,e7,rfl,rfl,e8,p,j⟩:=hrel
   by_cases c6:i < n
   rotate_left
   ·have b9:¬(i:Int) < (n:Int):=by omega
    have HE:Hid (i=l.length):=by unfold Hid;have:=y.out;omega
    have c5:Hid (l.take i=l):=by unfold Hid;exact T05 (by have:=HE.out;omega)
    go_wp2
    go_roundg (gx-1)
    case measure=>omega
    case rel=>exact ⟨m+1,c,by omega,by omega,by omega,by go_num,rfl,by omega,by
      unfold Hid
      obtain ⟨q,rfl⟩:∃q,m=q+1:=⟨m-1,by omega⟩
      rw [Z8,p.out,c5.out],by unfold Hid;rw [←W42,←HE.out];exact j.out⟩
   obtain ⟨g1,e9,rfl,d⟩:=(j.out.old hv).spot (by omega)
   obtain ⟨a,b⟩:∃a,l[i]?=some a:=⟨l[i]'(by have:=y.out;omega),T03 _⟩
   have e1:=d i _ (by rw [G5,b];rfl)
   have d3:(0:Int)≤(i:Int):=T00 _
   have b9:(i:Int) < (n:Int):=by omega
   by_cases s:a=(m:Int)
   ·subst s
    have HT:Hid ((l.take (i+1)).count (m:Int)=(l.take i).count (m:Int)+1):=by unfold Hid;rw [V2 l i _ _ b,if_pos rfl]
    have c1:Hid (c=G0 l i):=by unfold Hid;rw [Z0x l i _ b (by simp [Q2];omega),T0f];exact p.out
    obtain ⟨g',d7,x,f,r,o⟩:=j.out.own.site (by omega)
    injection x with x
    injection x with hgg1 hgg2
    subst hgg1;subst hgg2
    obtain ⟨b0,a6⟩:∃b0,(Z3n l m i)[i]?=some b0:=⟨_,T03 (by rw [Z3b];have:=y.out;omega)⟩
    have c2:=f i _ (by rw [O8,a6];rfl)
    have c3:=r i
    have HS:=A5 (j.out.putOwn (o i (.int .u32 (c:Int)) c6) (E5.set wr g (0+i) _))
    have HR:Hid ((Z3n l m i).set i c=Z3n l m (i+1)):=by unfold Hid;rw [c1.out];exact W7g l m i b
    simp only [Nat.zero_add] at c2 c3
    clear d b f r o a6
    go_wp2
    go_roundg (gk-1)
    case measure=>omega
    case rel=>exact ⟨i+1,c+1,by omega,by omega,by go_num,by go_num,by omega,by unfold Hid;rw [HT.out,p.out];omega,by unfold Hid;have h:=HS.out;rw [Y3,HR.out] at h;simpa using h⟩
   have HT:Hid ((l.take (i+1)).count (m:Int)=(l.take i).count (m:Int)):=by unfold Hid;rw [V2 l i _ _ b,if_neg s];rfl
   have HR:Hid (Z3n l m (i+1)=Z3n l m i):=by unfold Hid;exact W54 l m i a b s
   clear d b
   go_wp2
   go_roundg (gk-1)
   case measure=>omega
   case rel=>exact ⟨i+1,c,by omega,by omega,by go_num,rfl,by omega,by unfold Hid;rw [HT.out];exact p.out,by unfold Hid;rw [HR.out];exact j.out⟩
theorem Tryz.infoByteR:(Tryz.prog.info? 5).map (fun i=>(i.zero,i.size,i.bytes))=some (some (.int .u8 0),1,1):=by kernel_rfl
def Z6p (w w':World) (v:Value) (l:List Nat):Prop:=
 Own w' 5 1 v l.length (D9 l)∧E5 w w' (fun _=>False)∧∀k,v.ownBlock=some k→w.heap.size≤k
theorem Z6p.start (w:World):Z6p w w (.slice none 0 0) []:=⟨Own.nil _ _ _,E5.refl _ _,by simp [Value.ownBlock]⟩
theorem Z6p.form {w w':World} {v:Value} {l:List Nat} (h:Z6p w w' v l):∃ao cap,v= .slice ao l.length cap:=by
 obtain ⟨ao,cap,a,_⟩:=h.1.form
 exact ⟨ao,cap,a⟩
theorem Z6p.snoc {w wr w1:World} {l:List Nat} {ao ao1:Option Addr} {cap cap1 n:Nat} {o:Obj} {x:Int} {b:Nat} (h:Z6p w wr (.slice ao n cap) l) (hn:n=l.length) (hx:x=(b:Int))
  (hown1:Own w1 5 1 (.slice ao1 (n+1) cap1) (n+1) (D9 l++[.int .u8 x])) (hgrow:(wr.alloc o).grownBy w1 (Value.ownBlock (.slice ao n cap)))
  (hat:Value.ownBlock (.slice ao1 (n+1) cap1)=Value.ownBlock (.slice ao n cap)∨Value.ownBlock (.slice ao1 (n+1) cap1)=some (wr.alloc o).heap.size):Z6p w w1 (.slice ao1 (n+1) cap1) (l++[b]):=by
 subst hn
 obtain ⟨a,d⟩:=W4t h.2.1 h.2.2 hgrow hat
 refine ⟨?_,a,d⟩
 rw [J8,T0k,List.length_singleton]
 subst hx
 exact hown1
theorem W9d {k:IntKind} {a b:Int} (h:a=b):Ending.returned (.int k a)= .returned (.int k b):=by rw [h]
theorem V4p (b j:Nat):((b:Int) / 2^j).tmod 2=((b / 2^j%2:Nat):Int):=by
 have h:((2:Int)^j)=((2^j:Nat):Int):=by simp
 have e:(b:Int) / ((2^j:Nat):Int)=((b / 2^j:Nat):Int):=(Int.natCast_ediv b (2^j)).symm
 rw [h,e]
 generalize b / 2^j=t
 rw [Int.tmod_eq_emod_of_nonneg (by omega)];omega
theorem X6o (k v:Nat):A9 (k+1) v=A9 k v++[v / 2^k%2]:=by
 rw [Z0m];rfl
theorem X99 (l:List Nat) (i:Nat) (b:Nat) (h:l[i]?=some b):E4 (l.drop i)=b+2*E4 (l.drop (i+1)):=by
 have a:=(List.getElem?_eq_some_iff.1 h).1
 have d:=(List.getElem?_eq_some_iff.1 h).2
 rw [List.drop_eq_getElem_cons a,d];rfl
theorem X8v (v:Value) (l:List Nat) (w:World) (hv:Rd w 1 v l.length (D9 l)) (hb:isBits l) (hl:l.length≤60):
  Calls Tryz.prog 57 #[v] w fun e w'=>e= .returned (.int .i64 ((E4 l:Nat):Int))∧w=w':=by
 obtain ⟨z,t,rfl,_,_⟩:=hv.form
 obtain ⟨n,j⟩:∃n,n=l.length:=⟨_,rfl⟩
 rw [←j] at hv hl⊢
 have i:=A5 j
 clear j
 go_enter Tryz.func57,Tryz.ntmps57
 go_wp2
 go_loop [3,4] (fun t3 t4=>∃k:Nat,k≤n∧t4= .int .i64 ((k:Int)-1)∧t3= .int .i64 ((E4 (l.drop k):Nat):Int)) (fun _ t4=>(intOf t4+1).toNat)
 case atStart=>exact ⟨n,Nat.le_refl _,rfl,by rw [i.out,List.drop_eq_nil_of_le (Nat.le_refl _)];rfl⟩
 case round=>
  obtain ⟨k,hk,rfl,rfl⟩:=hrel
  obtain ⟨q,f⟩:∃q,q=E4 (l.drop k):=⟨_,rfl⟩
  have p:q < 2^60:=by
   rw [f];exact Nat.lt_of_lt_of_le (Z88 _ (F3 hb k)) (T0l (by decide) (by rw [T0m];have:=i.out;omega))
  rw [←f]
  have o:=A5 f
  clear f
  cases k with
  | zero=>
   have x:((0:Nat):Int)-1 < 0:=by omega
   go_wp2
   go_ret
   exact ⟨W9d (by rw [o.out];rfl),rfl⟩
  | succ k=>
   obtain ⟨b,d⟩:∃b,l[k]?=some b:=⟨l[k]'(by have:=i.out;omega),T03 _⟩
   have r:b≤1:=hb b (T08 d)
   obtain ⟨g,m,rfl,a⟩:=hv.spot (by omega)
   have y:w.cell? ⟨g,m+k,none⟩=some (.int .u8 (b:Int)):=a k _ (by rw [Z3,d];rfl)
   have s:=A5 (X99 l k b d)
   clear d a
   rw [show (((k+1:Nat):Int)-1)=(k:Int) by omega]
   go_wp2
   go_round
   case rel=>exact ⟨k,by omega,rfl,by rw [s.out,←o.out];go_num⟩
   case measure=>simp [intOf]
theorem W01 (l:List Nat) (b:Nat):D7 (l++[b])=D7 l++A9 8 b:=by rw [M7,Q6,Z62,List.append_nil]
theorem Y0a (l:List Nat) (k b:Nat) (h:l[k]?=some b):l.take (k+1)=l.take k++[b]:=by
 have a:=(List.getElem?_eq_some_iff.1 h).1
 have d:=(List.getElem?_eq_some_iff.1 h).2
 rw [List.take_succ_eq_append_getElem a,d]
theorem W9k (v:Value) (l:List Nat) (w:World) (hv:Rd w 1 v l.length (D9 l)) (hb:∀b∈l,b < 256) (hl:l.length < 1000000000):
  Calls Tryz.prog 34 #[v] w fun e w'=>∃v',e= .returned v'∧Z6p w w' v' (D7 l):=by
 obtain ⟨i,hi,b0,b1,b2⟩:=info_parts Tryz.infoByteR
 obtain ⟨ao,d3,rfl,_,_⟩:=hv.form
 obtain ⟨n,hn⟩:∃n,n=l.length:=⟨_,rfl⟩
 rw [←hn] at hv hl⊢
 have t:=A5 hn
 clear hn
 go_enter Tryz.func34,Tryz.ntmps34
 go_wp2
 go_loopw [3,4,5] (fun t3 t4 _ wr=>∃k:Nat,k≤n∧t4= .int .i64 (k:Int)∧Z6p w wr t3 (D7 (l.take k))) (fun _ t4 _ _=>n- (intOf t4).toNat)
 case atStart=>exact ⟨0,T0g _,rfl,Z6p.start w⟩
 case round=>
  obtain ⟨k,hk,rfl,d⟩:=hrel
  obtain ⟨b4,a0,rfl⟩:=d.form
  by_cases d0:k < n
  rotate_left
  ·go_wp2
   go_ret
   rw [T05 (by have:=t.out;omega)] at d⊢
   exact ⟨_,rfl,d⟩
  obtain ⟨b,f⟩:∃b,l[k]?=some b:=⟨l[k]'(by have:=t.out;omega),T03 _⟩
  have c0:b < 256:=hb b (T08 f)
  obtain ⟨g,a1,rfl,a⟩:=hv.spot (by omega)
  have hc:w.cell? ⟨g,a1+k,none⟩=some (.int .u8 (b:Int)):=a k _ (by rw [Z3,f];rfl)
  have hg:g < w.heap.size:=World.block_lt_of_cell? w _ hc
  have HB:=A5 f
  have a6:=A5 d
  obtain ⟨m,hm⟩:∃m,m=(D7 (l.take k)).length:=⟨_,rfl⟩
  have x:m=8*k:=by rw [hm,E1,T0h,←t.out];omega
  rw [←hm]
  have HM:=A5 x
  have c4:m < 8000000000:=by omega
  clear hm x f a d
  obtain ⟨wo,a2⟩:∃wo:World,wo=wr:=⟨_,rfl⟩
  have HW:=A5 a2
  clear a2
  go_wp2
  go_loopw [3,5] (fun t3 t5 wr'=>∃j q:Nat,j≤8∧q=m+j∧t5= .int .i64 (j:Int)∧∃a3 c3,t3= .slice a3 q c3∧Z6p w wr' (.slice a3 q c3) (D7 (l.take k)++A9 j b)) (fun _ t5 _=>8- (intOf t5).toNat)
  case atStart=>exact ⟨0,m,T0g _,rfl,rfl,b4,a0,rfl,by rw [show A9 0 b=[] from rfl,List.append_nil];have h1:=a6.out;rwa [show (D7 (l.take k)).length=m by rw [E1,T0h,←t.out,HM.out];omega] at h1⟩
  case round=>
   obtain ⟨j,q,hj,hq,rfl,a3,c3,rfl,d⟩:=hrel
   have y:=d
   have o:=d.1
   have p:(D7 (l.take k)++A9 j b).length=q:=by
    rw [T0k,B5,E1,T0h,←t.out,hq,HM.out];omega
   rw [p] at o
   have c6:(wr.cell? ⟨g,a1+k,none⟩)=some (.int .u8 (b:Int)):=by rw [d.2.1.cell hg (fun h=>h)];exact hc
   have HQ:=A5 hq
   have a7:=A5 p
   have c8:q < 8000000008:=by omega
   clear hq p
   have c9:(0:Int)≤(j:Int):=T00 _
   by_cases d1:j < 8
   ·go_wp2_with (at_builtin;refine Y3z rfl (.tmp 16) (.tmp 25) 26 rfl 5 i (.int .u8 0) 1 Tryz.underlying26 hi b0 b1 b2 rfl (.slice a3 q c3) q (D9 (D7 (l.take k)++A9 j b)) rfl o rfl rfl (by unfold maxLen;omega) (by omega) ?_;intro a8 z w1 r s a9)
    go_roundw
    case rel=>
     refine ⟨j+1,q+1,by omega,by have:=HQ.out;omega,by go_num,a8,z,rfl, ?_⟩
     rw [X6o,←List.append_assoc]
     exact y.snoc (b:=b / 2^j%2) a7.out.symm (V4p b j) r s a9
    case measure=>simp [intOf];omega
   go_wp2
   go_roundw
   case rel=>
    refine ⟨k+1,by omega,by go_num, ?_⟩
    rw [Y0a l k b HB.out,W01,show 8=j by omega]
    exact y
   case measure=>simp [intOf];omega
theorem W8o {a b:List Nat} (h:a.length≠b.length):a≠b:=fun e=>h (by rw [e])
theorem W71 (v u:Value) (a b:List Nat) (w:World) (hv:Rd w 1 v a.length (D9 a)) (hu:Rd w 1 u b.length (D9 b)) (hal:a.length < 8000000000):
  Calls Tryz.prog 15 #[v,u] w fun e w'=>e= .returned (.bool (decide (a=b)))∧∃n,w'=w.drewN n:=by
 obtain ⟨ao,a9,rfl,_,_⟩:=hv.form
 obtain ⟨bo,b0,rfl,_,_⟩:=hu.form
 by_cases f:a.length=b.length
 rotate_left
 ·have hd:((a.length:Int) != (b.length:Int))=true:=by simp;omega
  have m:=A5 f
  clear f
  go_enter Tryz.func15,Tryz.ntmps15
  go_wp2
  go_ret
  exact ⟨by rw [decide_eq_false (W8o m.out)];rfl,0,rfl⟩
 obtain ⟨n,q⟩:∃n,n=a.length:=⟨_,rfl⟩
 rw [←f] at hu
 rw [←q] at hv hu hal
 rw [←f,←q]
 have m:=A5 q
 have z:=A5 f
 clear q f
 have a4:((n:Int) != (n:Int))=false:=by simp
 go_enter Tryz.func15,Tryz.ntmps15
 go_wp2
 go_loopw [5] (fun t5 wr=>∃k c:Nat,k≤n∧t5= .int .i64 (k:Int)∧Hid (a.take k=b.take k)∧Hid (wr=w.drewN c)) (fun t5 _=>n- (intOf t5).toNat)
 case atStart=>exact ⟨0,0,T0g _,rfl,rfl,rfl⟩
 case round=>
  obtain ⟨k,c,hk,rfl,HT,HW⟩:=hrel
  obtain rfl:=HW.out
  by_cases a8:k < n
  rotate_left
  ·go_wp2
   go_ret
   refine ⟨?_,_,rfl⟩
   have o:=HT.out
   rw [T05 (by have:=m.out;omega),T05 (by have:=m.out;have:=z.out;omega)] at o
   rw [decide_eq_true o]
   rfl
  obtain ⟨x,r⟩:∃x,a[k]?=some x:=⟨a[k]'(by have:=m.out;omega),T03 _⟩
  obtain ⟨y,s⟩:∃y,b[k]?=some y:=⟨b[k]'(by have:=m.out;have:=z.out;omega),T03 _⟩
  obtain ⟨g,t,rfl,j⟩:=hv.spot (by omega)
  obtain ⟨g2,p,rfl,d⟩:=hu.spot (by omega)
  have hc:w.cell? ⟨g,t+k,none⟩=some (.int .u8 (x:Int)):=j k _ (by rw [Z3,r];rfl)
  have a5:w.cell? ⟨g2,p+k,none⟩=some (.int .u8 (y:Int)):=d k _ (by rw [Z3,s];rfl)
  have a6:(0:Int)≤(k:Int):=T00 _
  have a7:(k:Int) < (n:Int):=by omega
  have HX:=A5 r
  have HY:=A5 s
  clear j d r s
  by_cases i:x=y
  ·have hd:((x:Int) != (y:Int))=false:=by simp [i]
   have l:=A5 i
   clear i
   go_wp2
   go_quiet (fail)
   go_wp2
   go_roundw
   case rel=>exact ⟨k+1,_,by omega,by go_num,by rw [Hid,Y0a _ _ _ HX.out,Y0a _ _ _ HY.out,HT.out,l.out],rfl⟩
   case measure=>simp [intOf];omega
  have hd:((x:Int) != (y:Int))=true:=by simp;omega
  have l:=A5 i
  clear i
  go_wp2
  go_quiet (fail)
  go_wp2
  go_ret
  refine ⟨?_,_,World.drewN_drewN ..⟩
  rw [decide_eq_false]
  ·rfl
  intro e
  have o:=HX.out
  rw [e,HY.out] at o
  exact l.out (Option.some.inj o).symm
theorem D6 {P:Program} {w0 w:World} {Rs:List A6} {ops:Array Oper} {rest:List Oper} {o:Oper} {a:Act} {Q:Exit→Act→World→Prop} (hgd:o.guard=none) (s x:Operand) (t:TypeId)
  (ho:o.op= .call {callee:= .builtin .append,args:=#[s,x],argTypes:=#[t,t]})
  (e:TypeId) (i:TypeInfo) (z:Value) (size bytes:Nat) (ht:P.underlying t=some (.slice e)) (hi:P.info? e=some i) (hz:i.zero=some z)
  (hsize:i.size=size) (hby:i.bytes=bytes) (hzs:z.cells.size=size) (hsz:0 < size)
  (v:Value) (n:Nat) (xs:List Value) (hs:a.eval s=v) (hh:A4 w0 w (B0 e size v n xs::Rs))
  (y:Value) (m:Nat) (news:List Value) (hx:a.eval x=y) (hsrc:Rd w size y m news) (h1:∀u∈news,u.oneCell'=true) (N:Nat) (hN:N=n+m)
  (h63:N≤maxLen) (hbytes:N*bytes≤140737488355328)
  (h:∀ao cap w',A4 w0 w' (B0 e size (.slice ao N cap) N (xs++news)::Rs)→wpList P ops Q rest (a.put o.dst (.slice ao N cap)) w'):wpList P ops Q (o::rest) a w:=by
 subst hN
 exact Z4c _ hgd s x t ho e i z size bytes ht hi hz hsize hby hzs hsz v n xs hs hh.own y m news hx hsrc h1 h63 hbytes fun ao cap w' h2 h3 h4=>h ao cap w' (hh.app h2 h3 h4)
theorem W6v (l:List Int) (a:Int):lng (l++[a])=max (lng l) a.toNat:=by
 induction l with
 | nil=>simp [lng]
 | cons b l ih=>
  show max b.toNat (lng (l++[a]))=max (max b.toNat (lng l)) a.toNat
  rw [ih];omega
theorem V3h:(Tryz.prog.info? 156).map (·.zero)=some (some (X4 .i64 (P5 []))):=by kernel_rfl
theorem V1g (l:List Int) (i n:Nat) (h:l[i]?=some (n:Int)):(l.take i).count (n:Int) < l.count (n:Int):=by
 have a:=V2 l i (n:Int) (n:Int) h
 have b:=Z2w l (i+1) (n:Int)
 rw [if_pos rfl] at a;omega
theorem X6h (v u x:Value) (l:List Int) (all:List Nat) (a n m:Nat) (w:World) (hv:Rd w 1 v n (D3 l)) (hu:Rd w 1 u n (D5 .u32 (G1 l))) (hx:Rd w 1 x m (D9 all)) (hn:n=l.length) (hm:m=all.length)
  (hl:∀y∈l,0≤y∧y≤15) (hn2:n≤288) (hb:isBits all) (ha:a≤m) (hm2:m < 1000000000):
  Calls Tryz.prog 77 #[v,u,x,.int .i64 (a:Int)] w fun e w'=>∃k q er:Nat,e= .returned (.tuple #[.int .i64 (k:Int),.int .i64 (q:Int),.int .i64 (er:Int)])∧E5 w w' (fun _=>False)∧Hid (O9 l (all.drop a) k q er):=by
 obtain ⟨ao,ac,rfl,_,_⟩:=hv.form
 obtain ⟨uo,uc,rfl,_,_⟩:=hu.form
 obtain ⟨xo,xc,rfl,_,_⟩:=hx.form
 have HL:=A5 (And.intro hn (And.intro hm (And.intro hl hb)))
 obtain ⟨s,a7⟩:∃s,s=all.drop a:=⟨_,rfl⟩
 have c2:s.length=m-a:=by rw [a7,T0m,hm]
 have c3:isBits s:=by rw [a7];exact F3 hb a
 have o:=A5 (And.intro a7 (And.intro c2 c3))
 rw [←a7]
 have i3:(0:Int)≤(n:Int):=T00 _
 have i4:(0:Int)≤(m:Int):=T00 _
 have i5:(0:Int)≤(a:Int):=T00 _
 clear hn hm hl hb a7 c2 c3
 go_enter Tryz.func77,Tryz.ntmps77
 go_wp2_with (refine K1 rfl _ rfl .i64 _ V3h ?_)
 have c4:A4 w (w.alloc (.cells (D5 .i64 (P5 [])).toArray 156)) [E8 w.heap.size (D5 .i64 (P5 [])) 156]:=(A4.start w).newObj (D5 .i64 (P5 [])) 156
 have c5:=A5 c4
 clear c4
 generalize w.heap.size=B at c5⊢
 go_loopg [12,13] (n+1) (fun k t12 t13 wr=>∃ (i g:Nat),i≤n∧n-i < k∧t13= .int .i64 (i:Int)∧t12= .int .i64 (g:Int)∧g≤15∧Hid (g=lng (l.take i))∧Hid (A4 w wr [E8 B (D5 .i64 (P5 (l.take i))) 156]))
 case atStart=>exact ⟨0,0,by omega,by omega,rfl,rfl,by omega,rfl,c5⟩
 case round=>
  obtain ⟨i,g,hi,hk,rfl,rfl,hg,HG,HH⟩:=hrel
  have e4:(0:Int)≤(i:Int):=T00 _
  have e5:(0:Int)≤(g:Int):=T00 _
  by_cases f7:i < n
  ·have e6:(i:Int) < (n:Int):=by omega
   obtain ⟨b,g0,rfl,d⟩:=(HH.out.old hv).spot (by omega)
   obtain ⟨y,r⟩:∃y,l[i]?=some y:=⟨l[i]'(by have:=HL.out.1;omega),T03 _⟩
   have a3:=HL.out.2.2.1 y (T08 r)
   have e7:=d i _ (by rw [G5,r];rfl)
   obtain ⟨p,rfl⟩:=T0e a3.1
   have g4:p≤15:=by omega
   have HT:=A5 (Z1n l i _ r)
   have HM:Hid (lng (l.take (i+1))=max g p):=by rw [HT.out,W6v,←HG.out];exact A5 rfl
   clear d r a3
   have e8:(0:Int)≤(p:Int):=T00 _
   by_cases c0:p=0
   ·subst c0
    have HR:Hid (P5 (l.take (i+1))=P5 (l.take i)):=by rw [HT.out];exact A5 (Y9n _ _ (by simp [Q2]))
    have i6:¬(g:Int) < 0:=by omega
    go_wp2
    go_roundg (gk-1)
    case measure=>omega
    case rel=>exact ⟨i+1,g,by omega,by omega,by go_num,rfl,by omega,by rw [HM.out];exact A5 (by omega),by rw [HR.out];exact HH⟩
   have i7:(0:Int) < (p:Int):=by omega
   have g5:(p:Int) < 16:=by omega
   obtain ⟨c,hc⟩:∃c,c=(l.take i).count ((p:Nat):Int):=⟨_,rfl⟩
   have f0:c≤n:=by rw [hc];exact Nat.le_trans T0d (by simp;have:=HL.out.1;omega)
   have f1:=HH.out.obj.cell (i:=p) (v:= .int .i64 (c:Int)) (by rw [O8,Z0n _ p (by omega) (by omega),hc];rfl)
   have i8:=HH.out.obj.frozen p
   have HS:=A5 (HH.out.setObj p (.int .i64 ((c+1:Nat):Int)))
   have HR:Hid (D5 .i64 ((P5 (l.take i)).set p (c+1))=D5 .i64 (P5 (l.take (i+1)))):=by rw [HT.out,←X07 _ p (by omega) (by omega),hc];exact A5 rfl
   have f2:=hv
   clear hc
   have b6:Hid (A4 w (wr.setCell ⟨B,p,none⟩ (.int .i64 ((c:Int)+1))) [E8 B (D5 .i64 (P5 (l.take (i+1)))) 156]):=by
    have h:=HS.out
    rw [Y3,HR.out] at h
    exact A5 (by simpa using h)
   obtain ⟨b',h9,e1,t⟩:=(b6.out.old hv).spot (by omega)
   simp only [Option.some.injEq,Addr.mk.injEq,and_true] at e1
   obtain ⟨rfl,rfl⟩:=e1
   have i9:(wr.setCell ⟨B,p,none⟩ (.int .i64 ((c:Int)+1))).cell? ⟨b,g0+i,none⟩=some (.int .i64 (p:Int)):=by
    have c6:l[i]?=some (p:Int):=by
     have h:=HT.out
     rw [List.take_add_one] at h
     have h2:=List.append_cancel_left h
     cases hh:l[i]? with
     | none=>rw [hh] at h2;cases h2
     | some y=>rw [hh] at h2;simpa using h2
    exact t i _ (by rw [G5,c6];rfl)
   clear t f2 HS
   by_cases j9:g < p
   ·have c7:(g:Int) < (p:Int):=by omega
    go_wp2
    go_roundg (gk-1)
    case measure=>omega
    case rel=>exact ⟨i+1,p,by omega,by omega,by go_num,rfl,by omega,by rw [HM.out];exact A5 (by omega),b6⟩
   have c7:¬(g:Int) < (p:Int):=by omega
   go_wp2
   go_roundg (gk-1)
   case measure=>omega
   case rel=>exact ⟨i+1,g,by omega,by omega,by go_num,rfl,by omega,by rw [HM.out];exact A5 (by omega),b6⟩
  have e6:¬(i:Int) < (n:Int):=by omega
  have a9:Hid (g=lng l):=by
   have h:=HG.out
   rw [T05 (by have:=HL.out.1;omega)] at h
   exact A5 h
  have HC:Hid (A4 w wr [E8 B (D5 .i64 (P5 l)) 156]):=by
   have h:=HH.out
   rw [T05 (by have:=HL.out.1;omega)] at h
   exact A5 h
  clear HH HG
  go_wp2
  go_loopg [14,15,16] (g+2) (fun k t14 t15 t16 wq=>∃ (z f v:Nat),1≤z∧z≤g+1∧g+1-z < k∧t16= .int .i64 (z:Int)∧t15= .int .i64 (f:Int)∧t14= .int .i64 (v:Int)∧v≤65536∧f≤5000000∧a+(z-1)≤m∧
   Hid (2*f=Z8 l z∧v=hiN (s.take (z-1))∧∀i q,Hit l s i q→z≤q)∧wq=wr)
  case atStart=>exact ⟨1,0,0,by omega,by omega,by omega,rfl,rfl,rfl,by omega,by omega,by omega,A5 ⟨rfl,rfl,fun i q h=>h.2.1⟩,rfl⟩
  case round=>
   obtain ⟨z,f,v,k2,k3,k4,rfl,rfl,rfl,k5,k6,k7,HZ,rfl⟩:=hrel
   obtain ⟨gx,rfl⟩:∃g,g=gk:=⟨gk,rfl⟩
   have j0:(0:Int)≤(z:Int):=T00 _
   have j1:(0:Int)≤(f:Int):=T00 _
   have j2:(0:Int)≤(v:Int):=T00 _
   by_cases k0:z≤g
   rotate_left
   ·have c8:¬(z:Int)≤(g:Int):=by omega
    have b9:Hid (∀i q,¬Hit l s i q):=by
     refine A5 fun i q h=> ?_
     have h1:=HZ.out.2.2 i q h
     have h2:=h.long
     have h3:=a9.out
     omega
    have HM:=A5 HC.out.mod
    by_cases e5:g=0
    ·have f5:((g:Int)==0)=true:=by simp;omega
     have f6:(g:Int)=0:=by omega
     by_cases k1:m≤a
     ·have d8:decide ((m:Int)≤(a:Int))=true:=by simp;omega
      have d9:decide (m≤a)=true:=by simp;omega
      have HD:Hid (O9 l s 0 0 5):=by
       refine A5 (.inr ⟨rfl,rfl,b9.out, ?_⟩)
       rw [if_pos]
       right
       exact List.eq_nil_of_length_eq_zero (by have:=o.out.2.1;omega)
      go_wp2
      go_ret3
      exact ⟨0,0,5,rfl,HM.out,HD⟩
     have d8:decide ((m:Int)≤(a:Int))=false:=by simp;omega
     have d9:decide (m≤a)=false:=by simp;omega
     have HD:Hid (O9 l s 0 0 3):=by
      refine A5 (.inr ⟨rfl,rfl,b9.out, ?_⟩)
      have h3:=o.out.2.1
      have h4:=a9.out
      rw [if_neg]
      rintro (h | h)
      ·omega
      rw [h] at h3;simp at h3;omega
     go_wp2
     go_ret3
     exact ⟨0,0,3,rfl,HM.out,HD⟩
    have f5:((g:Int)==0)=false:=by simp;omega
    have f6:¬(g:Int)=0:=by omega
    have HD:Hid (O9 l s 0 0 3):=by
     refine A5 (.inr ⟨rfl,rfl,b9.out, ?_⟩)
     have h3:=o.out.2.1
     have h4:=a9.out
     rw [if_neg]
     rintro (h | h)
     ·omega
     rw [h] at h3;simp at h3;omega
    go_wp2
    go_ret3
    exact ⟨0,0,3,rfl,HM.out,HD⟩
   have c8:(z:Int)≤(g:Int):=by omega
   by_cases h8:m < a+z
   ·have b8:(m:Int) < (a:Int)+(z:Int):=by omega
    have HD:Hid (O9 l s 0 0 5):=by
     refine A5 (.inr ⟨rfl,rfl,fun i q h=> ?_, ?_⟩)
     ·have h1:=HZ.out.2.2 i q h
      have h2:=h.2.2.1
      have h3:=o.out.2.1
      omega
     rw [if_pos]
     left
     have h3:=o.out.2.1
     have h4:=a9.out
     omega
    have HM:=A5 HC.out.mod
    go_wp2
    go_ret3
    exact ⟨0,0,5,rfl,HM.out,HD⟩
   have b8:¬(m:Int) < (a:Int)+(z:Int):=by omega
   obtain ⟨b,b2⟩:∃b,s[z-1]?=some b:=⟨s[z-1]'(by have:=o.out.2.1;omega),T03 _⟩
   have j3:=o.out.2.2 b (T08 b2)
   have HV:Hid (hiN (s.take z)=2*v+b):=by
    have h:=Z7l s (z-1) b b2
    rw [show z-1+1=z by omega] at h
    rw [h,←HZ.out.2.1];exact A5 rfl
   have j4:2*v+b≤65536:=by
    have h:=W0r s o.out.2.2 z
    rw [HV.out] at h
    have h2:2^z≤2^15:=T0l (by decide) (by omega)
    omega
   obtain ⟨c,hc⟩:∃c,c=l.count ((z:Nat):Int):=⟨_,rfl⟩
   have f0:c≤n:=by rw [hc];exact Nat.le_trans T0d (by have:=HL.out.1;omega)
   have j5:=HC.out.obj.cell (i:=z) (v:= .int .i64 (c:Int)) (by rw [O8,Z0n _ z (by omega) (by omega),hc];rfl)
   have g7:(z:Int) < 16:=by omega
   have g8:(a:Int)+(z:Int)-1=((a+z-1:Nat):Int):=by omega
   have e8:(0:Int)≤((a+z-1:Nat):Int):=T00 _
   have j6:((a+z-1:Nat):Int) < (m:Int):=by omega
   obtain ⟨xb,k8,rfl,e2⟩:=(HC.out.old hx).spot (by omega)
   have j7:=e2 (a+z-1) (.int .u8 (b:Int)) (by
    have h:=b2
    rw [o.out.1,List.getElem?_drop,show a+(z-1)=a+z-1 by omega] at h
    rw [Z3,h];rfl)
   have j8:2*f≤16384*n:=by
    have h:=X3e l z (by omega)
    rw [HZ.out.1,HL.out.1];exact h
   have d1:=A5 hc
   clear e2 hc b2
   have d2:Hid (2*(2*f+c)=Z8 l (z+1)):=by
    obtain ⟨y,rfl⟩:∃y,z=y+1:=⟨z-1,by omega⟩
    show Hid (2*(2*f+c)=2*(Z8 l (y+1)+l.count ((y+1:Nat):Int)))
    rw [HZ.out.1,d1.out];exact A5 rfl
   have HQ:Hid (∀i q,Hit l s i q→q=z→2*v+b < 2*f+c∧l[i]?=some (z:Int)∧G0 l i=2*v+b):=by
    refine A5 fun i q h e=> ?_
    subst e
    have h1:=h.2.2.2
    have h2:=Z0x l i (q:Int) h.1 (by simp [Q2];omega)
    have h3:=V1g l i q h.1
    rw [T0f] at h2
    rw [HV.out] at h1
    have h4:=HZ.out.1
    have h5:=d1.out
    exact ⟨by omega,h.1,by omega⟩
   by_cases f8:2*v+b < 2*f+c
   rotate_left
   ·have d3:¬(v:Int)*2+(b:Int) < (f:Int)*2+(c:Int):=by omega
    go_wp2
    go_roundg (gx-1)
    case measure=>omega
    case rel=>
     refine ⟨z+1,2*f+c,2*v+b,by omega,by omega,by omega,by go_num,by go_num,by go_num,by omega,by omega,by omega,A5 ⟨d2.out,by rw [T0n];exact HV.out.symm,fun i q h=> ?_⟩,rfl⟩
     have h1:=HZ.out.2.2 i q h
     by_cases e:q=z
     ·exact absurd (HQ.out i q h e).1 f8
     omega
   have d3:(v:Int)*2+(b:Int) < (f:Int)*2+(c:Int):=by omega
   go_wp2
   go_loopg [17] (n+1) (fun k t17 wq=>∃ (i:Nat),i≤n∧n-i < k∧t17= .int .i64 (i:Int)∧Hid (∀j,j < i→l[j]?=some (z:Int)→G0 l j≠2*v+b)∧wq=wr)
   case atStart=>exact ⟨0,by omega,by omega,rfl,A5 fun j hj=>by omega,rfl⟩
   case round=>
    obtain ⟨i,k9,l0,rfl,HJ,rfl⟩:=hrel
    have e4:(0:Int)≤(i:Int):=T00 _
    by_cases f7:i < n
    rotate_left
    ·have d4:¬(i:Int) < (n:Int):=by omega
     go_wp2
     go_roundg (gx-1)
     case measure=>omega
     case rel=>
      refine ⟨z+1,2*f+c,2*v+b,by omega,by omega,by omega,by go_num,by go_num,by go_num,by omega,by omega,by omega,A5 ⟨d2.out,by rw [T0n];exact HV.out.symm,fun j q h=> ?_⟩,rfl⟩
      have h1:=HZ.out.2.2 j q h
      by_cases e:q=z
      ·obtain ⟨_,h2,h3⟩:=HQ.out j q h e
       have a6:=(List.getElem?_eq_some_iff.1 h2).1
       exact absurd h3 (HJ.out j (by have:=HL.out.1;omega) h2)
      omega
    have d4:(i:Int) < (n:Int):=by omega
    obtain ⟨g1,i1,rfl,d⟩:=(HC.out.old hv).spot (by omega)
    obtain ⟨y,r⟩:∃y,l[i]?=some y:=⟨l[i]'(by have:=HL.out.1;omega),T03 _⟩
    have a3:=HL.out.2.2.1 y (T08 r)
    have e7:=d i _ (by rw [G5,r];rfl)
    obtain ⟨p,rfl⟩:=T0e a3.1
    obtain ⟨g2,i2,rfl,a0⟩:=(HC.out.old hu).spot (by omega)
    obtain ⟨cd,b3⟩:∃cd,cd=G0 l i:=⟨_,rfl⟩
    have f1:=a0 i (.int .u32 (cd:Int)) (by rw [O8,X59 l i (by have:=HL.out.1;omega),b3];rfl)
    have h0:cd≤16385*n:=by rw [b3,HL.out.1];exact Y2q l i
    have HY:=A5 r
    have d5:=A5 b3
    have h7:(0:Int)≤(cd:Int):=T00 _
    clear d a0 r a3 b3
    by_cases c0:p=z
    ·subst c0
     have d6:((p:Int)==(p:Int))=true:=by simp
     by_cases e0:cd=2*v+b
     ·have b4:(cd:Int)=(v:Int)*2+(b:Int):=by omega
      have f4:((cd:Int)==(v:Int)*2+(b:Int))=true:=by simp;omega
      have HD:Hid (O9 l s i p 0):=by
       refine A5 (.inl ⟨rfl,HY.out,by omega, ?_, ?_⟩)
       ·have:=o.out.2.1;omega
       rw [HV.out,←d5.out];exact e0.symm
      have HM:=A5 HC.out.mod
      clear b4
      go_wp2
      go_ret3
      exact ⟨i,p,0,rfl,HM.out,HD⟩
     have f4:((cd:Int)==(v:Int)*2+(b:Int))=false:=by simp;omega
     have b4:¬(cd:Int)=(v:Int)*2+(b:Int):=by omega
     go_wp2
     go_roundg (gk-1)
     case measure=>omega
     case rel=>
      refine ⟨i+1,by omega,by omega,by go_num,A5 fun j hj a6=> ?_,rfl⟩
      by_cases e:j=i
      ·subst e;rw [←d5.out];exact e0
      exact HJ.out j (by omega) a6
    have d6:((p:Int)==(z:Int))=false:=by simp;omega
    have d7:¬(p:Int)=(z:Int):=by omega
    go_wp2
    go_roundg (gk-1)
    case measure=>omega
    case rel=>
     refine ⟨i+1,by omega,by omega,by go_num,A5 fun j hj a6=> ?_,rfl⟩
     by_cases e:j=i
     ·subst e
      have h:=HY.out.symm.trans a6
      simp only [Option.some.injEq] at h
      exact absurd h d7
     exact HJ.out j (by omega) a6
end Go.Proofs.YtbkbkmgogbgofaaGreatDoor
