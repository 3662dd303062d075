/- The claim's texts, put together and shortened by a program (names, spaces). -/
import Derived.Test.YtbkbkmgogbgofaaGreatDoorZk26
import Derived.Deep.DeepCutAuto
import Derived.Test.YtbkbkmgogbgofaaGreatDoorZk23
open List renaming range→T00,length_map→T01,map_cons→T03,getElem?_map→T05,mem_cons_of_mem→T07,getElem?_range→T09,length_append→T0a,length_take→T0b,countP_cons→T0c,mem_of_getElem?→T0d,getElem?_eq_getElem→T0e,getElem?_eq_none→T0f,length_range→T0g,filter_cons_of_neg→T0h,filter_cons_of_pos→T0i,take_succ_cons→T0j,length_cons→T0k,map_take→T0l,getElem?_cons_succ→T0m,mem_cons_self→T0o,nodup_cons→T0q,mem_of_mem_take→T0r,range'→T0s,eq_nil_of_length_eq_zero→T0u,countP_eq_length_filter→T0v,filter_append→T0w,getElem?_replicate→T0y,countP_eq_zero→T0z,range'_succ→T0A,ext_getElem?→T0B,mem_append_right→T0C,mem_singleton→T0D
open Nat renaming sub_zero→T08,zero_add→T0n,le_refl→T0p,add_zero→T0t,mul_le_mul_right→T0x
open Int renaming toNat→T02,natCast_nonneg→T04
open Option renaming map_some→T06
namespace Go.Proofs.YtbkbkmgogbgofaaGreatDoor
set_option maxRecDepth 100000
set_option maxHeartbeats 6400000
open Go.RowKit
def isS (x:G9):Bool:=decide (x.2≠ -1)
def isP (x:G9):Bool:=decide (x.2= -1)
theorem Z3q:∀l:List G9,l.Perm (l.filter isS++l.filter isP)
 | []=>List.Perm.refl _
 | x::l=>by
  by_cases h:x.2= -1
  ·rw [T0h (by simp [isS,h]),T0i (by simp [isP,h])]
   exact ((Z3q l).cons x).trans List.perm_middle.symm
  rw [T0i (by simp [isS,h]),T0h (by simp [isP,h])]
  exact (Z3q l).cons x
theorem Y6 (p:G9→Bool):∀ (l:List G9) (k:Nat),(l.take k).filter p=(l.filter p).take ((l.take k).filter p).length
 | [],k=>by simp
 | x::l,0=>by simp
 | x::l,k+1=>by
  rw [T0j]
  by_cases h:p x=true
  ·rw [T0i h,T0i h,T0k,T0j,←Y6 p l k]
  rw [T0h h,T0h h,←Y6 p l k]
theorem X1c (l:List G9):(l.filter isS).length+Z1a l=l.length:=by
 have h:=(Z3q l).length_eq
 rw [T0a] at h
 have a:Z1a l=(l.filter isP).length:=by rw [Z1a,T0v];rfl
 omega
theorem Z93 (l:List G9):Z1a l=(l.filter isP).length:=by rw [Z1a,T0v];rfl
theorem Y28 (l:List G9) (s:Nat):S9 l s=S9 (l.filter isS) s:=by
 rw [S9,S9,List.countP_filter]
 congr 1
 funext x
 by_cases h:x.2=(s:Int)
 ·have:x.2≠ -1:=by omega
  simp [isS,h]
 simp [h]
theorem Y91:∀l:List G9,Asc l→Asc (V8 l)
 | [],_=>trivial
 | [a],_=>trivial
 | a::b::l,h=>by
  rw [V8]
  refine ⟨fun y hy=> ?_,Y91 l h.2.2⟩
  obtain ⟨c,d,hc,hd,rfl⟩:=Z3x l y hy
  have h1:=h.1 c (T07 _ hc)
  have h2:=h.2.1 d hd
  show a.1+b.1≤c.1+d.1
  omega
theorem X7z:∀l:List G9,Asc l→Up (l.map (·.1))
 | [],_=>trivial
 | a::l,h=>by
  refine ⟨fun b hb=> ?_,X7z l h.2⟩
  obtain ⟨x,hx,rfl⟩:=List.mem_map.1 hb
  exact h.1 x hx
theorem Y2w:∀l:List G9,(V8 l).map (·.1)=U3 (l.map (·.1))
 | []=>rfl
 | [a]=>rfl
 | a::b::l=>by
  rw [V8,T03,Y2w l];rfl
theorem X6v (S:List G9):∀t,Asc (O5 S t)
 | 0=>trivial
 | _+1=>Z0z _
section
variable {S:List G9} (hS:∀x∈S,x.2≠ -1)
include hS
theorem W1v (t:Nat):(O5 S (t+1)).filter isS=I4 S:=by
 rw [O5,Z6g,T0w,List.filter_eq_self.2 (fun x hx=>by simp [isS,hS x hx]),List.filter_eq_nil_iff.2 (fun x hx=>by
  obtain ⟨a,b,_,_,rfl⟩:=Z3x _ _ hx
  simp [isS]),List.append_nil]
theorem V56 (t:Nat):(O5 S (t+1)).filter isP=V8 (O5 S t):=by
 rw [O5,Z6g,T0w,List.filter_eq_nil_iff.2 (fun x hx=>by simp [isP,hS x hx]),List.filter_eq_self.2 (fun x hx=>by
  obtain ⟨a,b,_,_,rfl⟩:=Z3x _ _ hx
  simp [isP]),List.nil_append,X30 _ (Y91 _ (X6v S t))]
end
theorem W1w (S:List G9):∀t,(2*S.length- (O5 S t).length)*2^t≤2*S.length+2^t-1
 | 0=>by simp [O5]
 | t+1=>by
  have h:=W1w S t
  have hl:=Z53 S t
  have e:(O5 S (t+1)).length=S.length+(O5 S t).length / 2:=by rw [O5,J1,T0a,Z5]
  rw [e]
  have hp:0 < 2^t:=Nat.two_pow_pos t
  rw [Nat.pow_succ]
  obtain ⟨d,hd⟩:∃d,d=2*S.length- (O5 S t).length:=⟨_,rfl⟩
  obtain ⟨d2,hd2⟩:∃d2,d2=2*S.length- (S.length+(O5 S t).length / 2):=⟨_,rfl⟩
  rw [←hd] at h
  rw [←hd2]
  have h2:d2*2≤d+1:=by omega
  have h3:d2*(2^t*2)=d2*2*2^t:=by rw [Nat.mul_comm (2^t) 2,Nat.mul_assoc]
  have h4:d2*2*2^t≤(d+1)*2^t:=T0x _ h2
  have h5:(d+1)*2^t=d*2^t+2^t:=by rw [Nat.add_mul,Nat.one_mul]
  rw [h3]
  omega
theorem W85 (S:List G9) (m:Nat) (h:S.length≤2^m):2*S.length-2≤(O5 S m).length:=by
 have d:=W1w S m
 have f:0 < 2^m:=Nat.two_pow_pos m
 by_cases b:2*S.length-2≤(O5 S m).length
 ·exact b
 exfalso
 have a:3≤2*S.length- (O5 S m).length:=by omega
 have g:3*2^m≤(2*S.length- (O5 S m).length)*2^m:=T0x _ a
 omega
section
variable (S:List G9) (m:Nat)
def rlS (t:Nat):List G9:=O5 S (t+1)
def kS (t:Nat):Nat:=(stS (rlS S) m (2*S.length-2) (m-t)).1
def tkS (t:Nat):List G9:=(O5 S (t+1)).take (kS S m (t+1))
def X47:Nat→Nat
 | 0=>0
 | t+1=>((tkS S m t).filter isS).length
theorem W2u (t:Nat) (ht:t < m):kS S m t=2*Z1a (tkS S m t):=by
 unfold kS tkS
 rw [show m-t=(m- (t+1))+1 by omega]
 show 2*Z1a ((rlS S (m-1- (m- (t+1)))).take _)=_
 rw [show m-1- (m- (t+1))=t by omega];rfl
theorem W9f:kS S m m=2*S.length-2:=by unfold kS;rw [Nat.sub_self];rfl
end
section
variable {S:List G9} {m:Nat} (hS:∀x∈S,x.2≠ -1) (hn:S.length≤2^m)
include hS hn
theorem Y5f (t:Nat) (ht:t≤m):kS S m t≤(O5 S t).length:=by
 by_cases e:t=m
 ·subst e;rw [W9f];exact W85 S t hn
 rw [W2u S m t (by omega),Z93]
 unfold tkS
 rw [Y6,V56 hS]
 have h:=Z5 (O5 S t)
 rw [T0b]
 omega
theorem V37:Z9a ((I4 S).map (·.1)) m (fun t=>(O5 S t).map (·.1)) (X47 S m) (kS S m) where
 packs:=⟨rfl,fun t _=>X7z _ (X6v S (t+1)),fun t _=>by
  have h1:(O5 S (t+1)).Perm (I4 S++V8 (O5 S t)):=(W9 _).trans ((W9 S).symm.append_right _)
  have h2:=h1.map (·.1)
  rw [List.map_append,Y2w] at h2
  exact h2⟩
 top:=by rw [W9f,T01,J1]
 low:=fun t ht=>by
  rw [W2u S m t ht]
  have h1:=X1c (tkS S m t)
  have h2:(tkS S m t).length=kS S m (t+1):=by
   unfold tkS;rw [T0b];have:=Y5f hS hn (t+1) (by omega);omega
  show _=2*(kS S m (t+1)- ((tkS S m t).filter isS).length)
  omega
 few:=fun t ht=>by
  have h1:=X1c (tkS S m t)
  have h2:(tkS S m t).length≤kS S m (t+1):=by unfold tkS;rw [T0b];omega
  refine ⟨?_,by show ((tkS S m t).filter isS).length≤_;omega⟩
  show ((tkS S m t).filter isS).length≤_
  unfold tkS
  rw [Y6,W1v hS,T0b,T01];omega
 room:=fun t ht=>by rw [T01];exact Y5f hS hn t ht
 split:=fun t ht=>by
  have h1:=X1c (tkS S m t)
  have h2:(tkS S m t).length=kS S m (t+1):=by
   unfold tkS;rw [T0b];have:=Y5f hS hn (t+1) (by omega);omega
  have g:=Z93 (tkS S m t)
  have b:(tkS S m t).filter isS=(I4 S).take (X47 S m (t+1)):=by
   show _=(I4 S).take ((tkS S m t).filter isS).length
   have h:=Y6 isS (O5 S (t+1)) (kS S m (t+1))
   rw [W1v hS] at h;exact h
  have d:(tkS S m t).filter isP=(V8 (O5 S t)).take (kS S m (t+1)-X47 S m (t+1)):=by
   have h:=Y6 isP (O5 S (t+1)) (kS S m (t+1))
   rw [V56 hS] at h
   have f:((tkS S m t).filter isP).length=kS S m (t+1)-X47 S m (t+1):=by
    show _=kS S m (t+1)- ((tkS S m t).filter isS).length
    omega
   rw [←f];exact h
  have a:=(Z3q (tkS S m t)).map (·.1)
  rw [b,d,List.map_append,T0l,T0l,Y2w] at a
  rw [←T0l];exact a
end
def Z4s (h:Nat→Nat):Nat→Nat
 | 0=>0
 | t+1=>h t+Z4s h t
theorem Z7k {h g:Nat→Nat}:∀t,(∀u,u < t→h u=g u)→Z4s h t=Z4s g t
 | 0,_=>rfl
 | t+1,e=>by rw [Z4s,Z4s,e t (by omega),Z7k t fun u hu=>e u (by omega)]
theorem Y7f:∀t,Z4s (fun _=>0) t=0
 | 0=>rfl
 | t+1=>by rw [Z4s,Y7f t]
theorem Y11:∀ (l:List Nat) (c q:Nat),(P0 l c)[q]?=(l[q]?).map fun a=>a+if q < c then 1 else 0
 | [],c,q=>by simp [P0]
 | a::l,0,q=>by simp [P0]
 | a::l,c+1,0=>by simp [P0]
 | a::l,c+1,q+1=>by
  rw [P0,T0m,T0m,Y11 l c q]
  by_cases h:q < c
  ·simp [h]
  simp [h]
theorem X01 (n:Nat) (cnt:Nat→Nat) (q:Nat) (hq:q < n):∀t,(Z17 n cnt t)[q]?=some (Z4s (fun u=>if q < cnt (u+1) then 1 else 0) t)
 | 0=>by rw [Z17,T0y,if_pos hq];rfl
 | t+1=>by
  rw [Z17,Y11,X01 n cnt q hq t,T06,Z4s,Nat.add_comm]
theorem W1i (S:List G9) (m i:Nat):∀k,k≤m→(stS (rlS S) m (2*S.length-2) k).2 i+Z4s (fun u=>S9 (tkS S m u) i) (m-k)=Z4s (fun u=>S9 (tkS S m u) i) m
 | 0,_=>by rw [T08];show 0+_=_;omega
 | k+1,h=>by
  have ih:=W1i S m i k (by omega)
  obtain ⟨u,hu⟩:∃u,m-k=u+1:=⟨m-k-1,by omega⟩
  rw [hu,Z4s] at ih
  have e1:m- (k+1)=u:=by omega
  have e2:m-1-k=u:=by omega
  have e3:m- (u+1)=k:=by omega
  rw [e1]
  show (stS (rlS S) m (2*S.length-2) k).2 i+S9 ((rlS S (m-1-k)).take (stS (rlS S) m (2*S.length-2) k).1) i+_=_
  rw [e2]
  have e4:S9 (tkS S m u) i=S9 ((rlS S u).take (stS (rlS S) m (2*S.length-2) k).1) i:=by
   unfold tkS kS rlS;rw [e3]
  rw [←e4];omega
def gS (S:List G9) (m i:Nat):Nat:=(stS (rlS S) m (2*S.length-2) m).2 i
theorem W6m (S:List G9) (m i:Nat):gS S m i=Z4s (fun u=>S9 (tkS S m u) i) m:=by
 have h:=W1i S m i m (T0p _)
 rw [Nat.sub_self] at h
 exact h
theorem Y7v:∀ (Q:List G9) (c q a s:Nat),(Q.map (·.2)).Nodup→Q[q]?=some (a,(s:Int))→S9 (Q.take c) s=if q < c then 1 else 0
 | [],c,q,a,s,_,h=>by simp at h
 | x::Q,0,q,a,s,_,_=>by simp [S9]
 | x::Q,c+1,0,a,s,hd,h=>by
  obtain rfl:x=(a,(s:Int)):=by simpa using h
  rw [T03,T0q] at hd
  have h0:S9 (Q.take c) s=0:=by
   unfold S9
   rw [T0z]
   intro y g e
   exact hd.1 (List.mem_map.2 ⟨y,T0r g,by simpa using e⟩)
  rw [T0j]
  unfold S9 at*
  rw [T0c,h0];simp
 | x::Q,c+1,q+1,a,s,hd,h=>by
  rw [T03,T0q] at hd
  have b:(a,(s:Int))∈Q:=T0d (by simpa using h)
  have d:¬x.2=(s:Int):=fun e=>hd.1 (List.mem_map.2 ⟨_,b,e.symm⟩)
  have f:=Y7v Q c q a s hd.2 (by simpa using h)
  rw [T0j]
  unfold S9 at*
  rw [T0c,f]
  simp [d]
theorem Z0w:∀ (f:List Nat) (k:Nat) (x:G9),x∈T3 k f→∃i:Nat,k≤i∧x.2=(i:Int)∧f[i-k]?=some x.1∧0 < x.1
 | [],k,x,h=>by simp [T3] at h
 | a::f,k,x,h=>by
  rw [T3] at h
  by_cases ha:0 < a
  ·rw [if_pos ha] at h
   rcases List.mem_cons.1 h with h | h
   ·subst h
    exact ⟨k,T0p _,rfl,by simp,ha⟩
   obtain ⟨i,h1,h2,h3,h4⟩:=Z0w f (k+1) x h
   exact ⟨i,by omega,h2,by rw [show i-k=(i- (k+1))+1 by omega,T0m];exact h3,h4⟩
  rw [if_neg ha] at h
  obtain ⟨i,h1,h2,h3,h4⟩:=Z0w f (k+1) x h
  exact ⟨i,by omega,h2,by rw [show i-k=(i- (k+1))+1 by omega,T0m];exact h3,h4⟩
theorem Z61:∀ (f:List Nat) (k i b:Nat),f[i]?=some b→0 < b→(b,((k+i:Nat):Int))∈T3 k f
 | [],k,i,b,h,_=>by simp at h
 | a::f,k,0,b,h,hb=>by
  obtain rfl:a=b:=by simpa using h
  rw [T3,if_pos hb];simp
 | a::f,k,i+1,b,h,hb=>by
  have ih:=Z61 f (k+1) i b (by simpa using h) hb
  rw [show k+1+i=k+(i+1) by omega] at ih
  rw [T3]
  split
  ·exact T07 _ ih
  exact ih
theorem Y05:∀ (f:List Nat) (k:Nat),((T3 k f).map (·.2)).Nodup
 | [],_=>by simp [T3]
 | a::f,k=>by
  rw [T3]
  split
  ·rw [T03,T0q]
   refine ⟨fun h=> ?_,Y05 f (k+1)⟩
   obtain ⟨x,hx,e⟩:=List.mem_map.1 h
   obtain ⟨i,h1,h2,_⟩:=Z0w f (k+1) x hx
   have e2:x.2=(k:Int):=e
   omega
  exact Y05 f (k+1)
def cI (g:Nat→Nat):List G9→Nat
 | []=>0
 | x::l=>g x.2.toNat*x.1+cI g l
def kI (g:Nat→Nat):List G9→Nat
 | []=>0
 | x::l=>wtN (g x.2.toNat)+kI g l
theorem V3c (g:Nat→Nat) {l l2:List G9} (h:l.Perm l2):cI g l=cI g l2:=by
 induction h with
 | nil=>rfl
 | cons x _ ih=>rw [cI,cI,ih]
 | swap x y l=>simp only [cI];omega
 | trans _ _ ih1 ih2=>rw [ih1,ih2]
theorem V3m (g:Nat→Nat) {l l2:List G9} (h:l.Perm l2):kI g l=kI g l2:=by
 induction h with
 | nil=>rfl
 | cons x _ ih=>rw [kI,kI,ih]
 | swap x y l=>simp only [kI];omega
 | trans _ _ ih1 ih2=>rw [ih1,ih2]
theorem W6l (g:Nat→Nat):∀l:List G9,cst (l.map fun x=>g x.2.toNat) (l.map (·.1))=cI g l
 | []=>rfl
 | x::l=>by rw [T03,T03,cst,cI,W6l g l]
theorem V15 (g:Nat→Nat):∀l:List G9,kr (l.map fun x=>g x.2.toNat)=kI g l
 | []=>rfl
 | x::l=>by rw [T03,kr,kI,V15 g l]
theorem W8t (g:Nat→Nat):∀ (f:List Nat) (k:Nat),cst ((T0s k f.length).map g) f=cI g (T3 k f)
 | [],_=>rfl
 | a::f,k=>by
  rw [T0k,T0A,T03,cst,W8t g f (k+1),T3]
  by_cases ha:0 < a
  ·rw [if_pos ha,cI];simp
  rw [if_neg ha,show a=0 by omega];omega
theorem W7o (g:Nat→Nat):∀ (f:List Nat) (k:Nat),(∀i,f[i]?=some 0→g (k+i)=0)→kr ((T0s k f.length).map g)=kI g (T3 k f)
 | [],_,_=>rfl
 | a::f,k,h=>by
  have ih:=W7o g f (k+1) fun i hi=>by
   have:=h (i+1) (by simpa using hi)
   rw [show k+1+i=k+(i+1) by omega];exact this
  rw [T0k,T0A,T03,kr,ih,T3]
  by_cases ha:0 < a
  ·rw [if_pos ha,kI];simp
  rw [if_neg ha]
  have:=h 0 (by rw [show a=0 by omega];rfl)
  rw [T0t] at this
  rw [this,Y60];omega
theorem Y3e:∀ (f:List Nat) (k:Nat),(T3 k f).map (·.1)=Y4x f
 | [],_=>rfl
 | a::f,k=>by
  rw [T3,Y4x,List.filter_cons]
  by_cases ha:0 < a
  ·simp only [ha,if_true,decide_true,T03,Y3e f (k+1)];rfl
  simp only [ha,if_false,decide_false,Y3e f (k+1)];rfl
theorem X0f (f:List Nat) (m:Nat) (hm:1≤m) (hm2:m≤15) (h2:2≤U2 f) (hn:U2 f≤2^m):V6k f m ((T00 f.length).map (gS (T3 0 f) m)):=by
 obtain ⟨S,d⟩:∃S,S=T3 0 f:=⟨_,rfl⟩
 rw [←d]
 have b6:S.length=U2 f:=by rw [d,Z36]
 have hS:∀x∈S,x.2≠ -1:=fun x n=>by
  rw [d] at n
  obtain ⟨i,_,h,_⟩:=Z0w f 0 x n
  omega
 have hT:=V37 hS (by omega:S.length≤2^m)
 have b7:((I4 S).map (·.1)).length=S.length:=by rw [T01,J1]
 have r:∀x∈(I4 S).map (·.1),0 < x:=fun a ha=>by
  obtain ⟨x,n,rfl⟩:=List.mem_map.1 ha
  have g:=(W9 S).mem_iff.1 n
  rw [d] at g
  obtain ⟨i,_,_,_,h⟩:=Z0w f 0 x g
  exact h
 obtain ⟨l1,l2,l3⟩:=hT.fit r rfl hm hm2 (by omega)
 have a4:((I4 S).map (·.2)).Nodup:=by
  have h:=((W9 S).map (·.2)).symm
  refine h.nodup ?_
  rw [d];exact Y05 f 0
 have hg:∀ (q a s:Nat),(I4 S)[q]?=some (a,(s:Int))→gS S m s=Z4s (fun u=>if q < X47 S m (u+1) then 1 else 0) m:=fun q a s hq=>by
  rw [W6m]
  refine Z7k m fun u _=> ?_
  have e1:(tkS S m u).filter isS=(I4 S).take (X47 S m (u+1)):=by
   show _=(I4 S).take ((tkS S m u).filter isS).length
   have h:=Y6 isS (O5 S (u+1)) (kS S m (u+1))
   rw [W1v hS] at h;exact h
  show S9 (tkS S m u) s=_
  rw [Y28,e1,Y7v _ _ q a s a4 hq]
 have hz:∀i:Nat,f[i]?=some 0→gS S m i=0:=fun i l=>by
  rw [W6m,←Y7f m]
  refine Z7k m fun u _=> ?_
  show S9 (tkS S m u) i=0
  have e1:(tkS S m u).filter isS=(I4 S).take (X47 S m (u+1)):=by
   show _=(I4 S).take ((tkS S m u).filter isS).length
   have h:=Y6 isS (O5 S (u+1)) (kS S m (u+1))
   rw [W1v hS] at h;exact h
  rw [Y28,e1]
  unfold S9
  rw [T0z]
  intro x n e
  have g:=(W9 S).mem_iff.1 (T0r n)
  rw [d] at g
  obtain ⟨j,_,hj,a1,c1⟩:=Z0w f 0 x g
  have e2:x.2=(i:Int):=by simpa using e
  have:j=i:=by omega
  subst this
  rw [T08,l] at a1
  simp only [Option.some.injEq] at a1
  omega
 have a7:Z17 ((I4 S).map (·.1)).length (X47 S m) m=(I4 S).map fun x=>gS S m x.2.toNat:=by
  refine T0B fun q=> ?_
  by_cases hq:q < S.length
  ·obtain ⟨x,n⟩:∃x,(I4 S)[q]?=some x:=⟨(I4 S)[q]'(by rw [J1];exact hq),T0e _⟩
   have g:=(W9 S).mem_iff.1 (T0d n)
   rw [d] at g
   obtain ⟨s,_,hs,_⟩:=Z0w f 0 x g
   have a8:(I4 S)[q]?=some (x.1,(s:Int)):=by rw [n,←hs]
   rw [X01 _ _ q (by omega),T05,n,T06,hs,←hg q x.1 s a8];rfl
  rw [T0f (by rw [Z23];omega),T0f (by rw [T01,J1];omega)]
 rw [a7] at l1 l2 l3
 rw [V15] at l2
 rw [W6l] at l3
 have o:=W9 S
 have k:T00 f.length=T0s 0 f.length:=List.range_eq_range'
 have p:∀ (i a:Nat),((T00 f.length).map (gS S m))[i]?=some a→a=gS S m i∧i < f.length:=fun i a h=>by
  have l:=(List.getElem?_eq_some_iff.1 h).1
  rw [T01,T0g] at l
  rw [T05,T09 l] at h
  simp only [T06,Option.some.injEq] at h
  exact ⟨h.symm,l⟩
 have a0:∀ (i b:Nat),f[i]?=some b→0 < b→1≤gS S m i∧gS S m i≤m:=fun i b l hb=>by
  have h:=Z61 f 0 i b l hb
  rw [←d,T0n] at h
  have h3:=l1 (gS S m i) (List.mem_map.2 ⟨_,o.mem_iff.2 h,by simp⟩)
  exact h3
 have hA:((I4 S).map (·.1)).Perm (Y4x f):=by
  have h:=o.map (·.1)
  rw [d] at h⊢
  rw [Y3e] at h
  exact h
 have t:V2y f m ((T00 f.length).map (gS S m)):=by
  refine ⟨by simp,fun i a b ha hb=> ?_,fun a ha=> ?_, ?_⟩
  ·obtain ⟨rfl,_⟩:=p i a ha
   by_cases h0:0 < b
   ·have:=a0 i b hb h0
    exact ⟨fun _=>h0,fun _=>by omega⟩
   have y:b=0:=by omega
   rw [y] at hb
   have:=hz i hb
   exact ⟨fun h=>by omega,fun h=>by omega⟩
  ·obtain ⟨i,l⟩:=List.mem_iff_getElem?.1 ha
   obtain ⟨rfl,b2⟩:=p i a l
   have z:f[i]?=some f[i]:=T0e b2
   by_cases h0:0 < f[i]
   ·exact (a0 i _ z h0).2
   have y:f[i]=0:=by omega
   rw [y] at z
   rw [hz i z];omega
  rw [k,W7o (gS S m) f 0 (fun i l=>by rw [T0n];exact hz i l),←d,←V3m _ o]
  exact l2
 refine X9o hT.packs (X7z _ (Z0z S)) hA hm hm2 t ?_
 rw [k,W8t,←d,←V3c _ o]
 exact l3
theorem A4.pick {w0 w:World} {A R:A6} {Rs:List A6} (h:A4 w0 w (A::Rs)) (hR:R∈Rs):∃Rs',A4 w0 w (A::R::Rs'):=by
 obtain ⟨s,t,rfl⟩:=List.append_of_mem hR
 exact ⟨s++t,h.perm (List.perm_middle.cons _)⟩
theorem X00:∀f:List Int,(∀a∈f,0≤a)→U2 (f.map T02)=Z08 f
 | [],_=>rfl
 | a::f,h=>by
  have ih:=X00 f fun b hb=>h b (T07 _ hb)
  have ha:=h a T0o
  rw [T03,U2,ih,Z08,Z08,T0c]
  by_cases h0:0 < a
  ·rw [if_pos (by omega)];simp [h0];omega
  rw [if_neg (by omega)];simp [h0]
theorem V5r (n m N B:Nat) (S:List G9) (ms:List (Value×List G9)) (gl cap:Nat) (sv:Value) (w0 w:World) (Rs:List A6)
  (h:A4 w0 w (B0 190 1 (.slice (some ⟨B,0,none⟩) m m) m (ms.map (·.1))::J5 sv S::(mT ms++(B0 3 1 (.slice (some ⟨gl,0,none⟩) N cap) N (Z3a N fun _=>0)::Rs))))
  (hms:ms.length=m) (hms2:ms.map (·.2)=(T00 m).map (fun t=>O5 S (t+1))) (hn:S.length=n) (hn0:0 < n) (hn2:n≤300) (hm:m≤15) (hm1:1≤m) (hnm:n≤2^m) (hN:N≤1000) (hsy:∀x∈S,∃s:Nat,s < N∧x.2=(s:Int)):
  Calls Tryz.prog 134 #[.slice (some ⟨gl,0,none⟩) N cap,.slice (some ⟨B,0,none⟩) m m,.int .i64 ((2*n-2:Nat):Int)] w fun e w'=>e= .returned (.tuple #[])∧
   ∃Rs',A4 w0 w' (B0 3 1 (.slice (some ⟨gl,0,none⟩) N cap) N (Z3a N (gS S m))::Rs'):=by
 have hS:∀x∈S,x.2≠ -1:=fun x hx=>by
  obtain ⟨s,_,e⟩:=hsy x hx
  omega
 have h':A4 w0 w ((B0 190 1 (.slice (some ⟨B,0,none⟩) m m) m (ms.map (·.1))::J5 sv S::mT ms)++(B0 3 1 (.slice (some ⟨gl,0,none⟩) N cap) N (Z3a N fun _=>0)::Rs)):=h
 have o:=h'.perm List.perm_append_comm
 rw [List.cons_append] at o
 have g:∀t,t < m→∃r:Value×List G9,ms[t]?=some r∧r.2=O5 S (t+1):=fun t f=>by
  refine ⟨ms[t]'(by omega),T0e _, ?_⟩
  have e:=congrArg (fun l:List (List G9)=>l[t]?) hms2
  simp only [T05,T09 f,T06,T0e (show t < ms.length by omega),Option.some.injEq] at e
  exact e
 have d:∀t,t < m→∃Rs',A4 w0 w (B0 3 1 (.slice (some ⟨gl,0,none⟩) N cap) N (Z3a N fun _=>0)::J5 ((ms[t]?).getD (.slice none 0 0,[])).1 (O5 S (t+1))::Rs'):=fun t f=>by
  obtain ⟨r,q,z⟩:=g t f
  rw [q]
  refine o.pick ?_
  refine T0C _ (T07 _ (T07 _ (List.mem_map.2 ⟨r,T0d q, ?_⟩)))
  rw [z];rfl
 obtain ⟨Rs1,hB⟩:=o.pick (R:=B0 190 1 (.slice (some ⟨B,0,none⟩) m m) m (ms.map (·.1))) (T0C _ T0o)
 have j:∀t,(O5 S t).length≤600:=fun t=>by have:=Z53 S t;omega
 refine (W37 N m (2*n-2) gl 0 cap B (fun t=>((ms[t]?).getD (.slice none 0 0,[])).1) (fun t=>O5 S (t+1)) w hN hm o.own (fun t f=> ?_) (hB.swap.own.lt B rfl) (fun e=> ?_) (fun t=> ?_) (fun t f=> ?_) (fun t f e=> ?_) (fun k hk=> ?_) (fun t=> ?_) (fun t f=> ?_) (fun t f x hx=> ?_)).mono ?_
 ·obtain ⟨r,q,_⟩:=g t f
  refine h.rowAt ?_ (by omega)
  rw [T05,q];rfl
 ·exact hB.apart2 gl rfl (by rw [e];rfl)
 ·by_cases f:t < m
  ·obtain ⟨Rs',p⟩:=d t f
   obtain ⟨a,c,e,_,_⟩:=U1 p.swap
   exact ⟨a,_,c,e⟩
  rw [T0f (by omega)];exact ⟨none,0,0,rfl⟩
 ·obtain ⟨Rs',p⟩:=d t f
  exact p.swap.own
 ·obtain ⟨Rs',p⟩:=d t f
  exact p.apart2 gl rfl e
 ·have:=Y5f hS (by omega:S.length≤2^m) (m-k) (by omega)
  unfold kS at this
  rw [show m- (m-k)=k by omega,hn] at this
  rw [show m-1-k+1=m-k by omega]
  exact this
 ·have:=j (t+1);omega
 ·show 0 < (O5 S (t+1)).length
  rw [O5,J1,T0a];omega
 ·rw [O5] at hx
  rcases List.mem_append.1 ((W9 _).mem_iff.1 hx) with h1 | h1
  ·exact .inr (hsy x h1)
  obtain ⟨a,b,_,_,rfl⟩:=Z3x _ _ h1
  exact .inl rfl
 rintro e w' ⟨rfl,ho,y⟩
 refine ⟨rfl,_,o.turnOwn (v':= .slice (some ⟨gl,0,none⟩) N cap) ?_ rfl (y.mono fun k _ hk=>by rw [hk];rfl)⟩
 have hG:gS S m=(stS (fun t=>O5 S (t+1)) m (2*n-2) m).2:=by
  funext i
  unfold gS
  rw [hn];rfl
 rw [hG];exact ho
theorem V1l:(Tryz.prog.info? 3).map (fun i=>(i.zero,i.size,i.bytes))=some (some (.int .i64 0),1,8):=by kernel_rfl
theorem Y2z (n:Nat):List.replicate n (Value.int .i64 0)=Z3a n (fun _=>0):=by
 refine T0B fun j=> ?_
 by_cases h:j < n
 ·rw [Y35 _ _ _ h,T0y,if_pos h];rfl
 rw [T0f (by simp;omega),T0f (by simp [Z3a,D5];omega)]
theorem A4.itemAt {w0 w:World} {g off n cap:Nat} {l:List G9} {Rs:List A6} (h:A4 w0 w (J5 (.slice (some ⟨g,off,none⟩) n cap) l::Rs)) {j:Nat} {x:G9} (hx:l[j]?=some x):
  w.cell? ⟨g,off+j*2,none⟩=some (.int .i64 (x.1:Int))∧w.cell? ⟨g,off+j*2+1,none⟩=some (.int .i64 x.2):=by
 have i:=(List.getElem?_eq_some_iff.1 hx).1
 obtain ⟨k,b,d,f,_,_,a,_,_⟩:=h.site2 (by omega)
 simp only [Value.slice.injEq,Option.some.injEq,Addr.mk.injEq,and_true] at f
 obtain ⟨⟨rfl,rfl⟩,_,rfl⟩:=f
 exact a j x hx
theorem V03 {w0 w:World} {v:Value} {l:List G9} {Rs:List A6} (h:A4 w0 w (J5 v l::Rs)) (hl:0 < l.length):∃g off cap,v= .slice (some ⟨g,off,none⟩) l.length cap:=by
 obtain ⟨g,off,cap,a,_⟩:=h.site2 hl
 exact ⟨g,off,cap,a⟩
theorem A4.numAt {w0 w:World} {B n c:Nat} {G:Nat→Nat} {Rs:List A6} (h:A4 w0 w (B0 3 1 (.slice (some ⟨B,0,none⟩) n c) n (Z3a n G)::Rs)) {s:Nat} (hs:s < n) (u:Nat):
  w.cell? ⟨B,s,none⟩=some (.int .i64 (G s:Int))∧w.frozen? ⟨B,s,none⟩=false∧A4 w0 (w.setCell ⟨B,s,none⟩ (.int .i64 (u:Int))) (B0 3 1 (.slice (some ⟨B,0,none⟩) n c) n (Z3a n (fun j=>if j=s then u else G j))::Rs):=by
 obtain ⟨g,m,l,a,f,b⟩:=h.own.site (by omega)
 simp only [Option.some.injEq,Addr.mk.injEq,and_true] at l
 obtain ⟨rfl,rfl⟩:=l
 have i:=a s _ (Y35 n G s hs)
 have k:=f s
 have d:=h.putOwn (b s (.int .i64 (u:Int)) hs) (E5.set w B (0+s) _)
 rw [X0k] at d
 rw [T0n] at i k d
 exact ⟨i,k,d⟩
def D2 (f:List Nat) (m:Nat):List Nat:=
 match T3 0 f with
 | []=>(T00 f.length).map fun _=>0
 | [x]=>(T00 f.length).map fun (j:Nat)=>if (j:Int)=x.2 then 1 else 0
 | x::y::r=>(T00 f.length).map (gS (x::y::r) m)
theorem Y7b {f:List Nat} {m n:Nat} {S:List G9} (hS:S=T3 0 f) (h:S.length=0) (hn:f.length=n):((T00 n).map fun _=>0)=D2 f m:=by
 have e:T3 0 f=[]:=by rw [←hS];exact T0u h
 unfold D2
 rw [e,hn]
theorem Y9x {f:List Nat} {m n a s:Nat} {S:List G9} (hS:S=T3 0 f) (h:S=[(a,(s:Int))]) (hn:f.length=n):((T00 n).map fun j=>if j=s then 1 else 0)=D2 f m:=by
 have e:T3 0 f=[(a,(s:Int))]:=by rw [←hS];exact h
 unfold D2
 rw [e,hn]
 simp only [Int.natCast_inj]
theorem Y5w {f:List Nat} {m n:Nat} {S:List G9} (hS:S=T3 0 f) (h:2≤S.length) (hn:f.length=n):(T00 n).map (gS S m)=D2 f m:=by
 unfold D2
 rw [←hS,hn]
 match S,h with
 | _::_::_,_=>rfl
theorem X2q (v:Value) (n m:Nat) (f:List Int) (w:World) (hv:Rd w 1 v n (D3 f)) (hn:n=f.length) (hl:n≤288) (hm1:1≤m) (hm2:m≤15) (hf:Z35 f=true):
  Calls Tryz.prog 102 #[v,.int .i64 (m:Int)] w fun e w'=>(2^m < Z08 f∧e= .returned (.tuple #[.slice none 0 0,.int .i64 3])∧E5 w w' (fun _=>False))∨
   (Z08 f≤2^m∧∃ (v':Value) (l:List Nat) (Rs:List A6),e= .returned (.tuple #[v',.int .i64 0])∧A4 w w' (B0 3 1 v' n (D5 .i64 l)::Rs)∧Y42 (f.map T02) m l∧l=D2 (f.map T02) m):=by
 have HW:=A5 (X48 v f w n hn hv (by omega))
 rw [hf] at HW
 have a9:=(Y9m f).1 hf
 have y:U2 (f.map T02)=Z08 f:=X00 f fun a ha=>(a9 a ha).1
 obtain ⟨S,hS⟩:∃S,S=T3 0 (f.map T02):=⟨_,rfl⟩
 have HY:=A5 (X5g v f w w [] (A4.start w) n hn hv (by omega) a9)
 rw [←hS] at HY
 obtain ⟨c,hc⟩:∃c,c=S.length:=⟨_,rfl⟩
 have b3:c=Z08 f:=by rw [hc,hS,Z36,y]
 have e8:c≤n:=by
  have:=W1t (f.map T02) 0
  rw [←hS,←hc,T01,←hn] at this;exact this
 have c1:∀x∈S,∃s:Nat,s < n∧x.2=(s:Int)∧x.1≤1048576:=fun x hx=>by
  rw [hS] at hx
  obtain ⟨i,_,e,hi,_⟩:=Z0w _ 0 x hx
  have o:=(List.getElem?_eq_some_iff.1 hi).1
  rw [T01,T08,←hn] at o
  refine ⟨i,o,e, ?_⟩
  rw [T08,T05] at hi
  obtain ⟨a,ha,i3⟩:=Option.map_eq_some_iff.1 hi
  have:=a9 a (T0d ha)
  omega
 rw [←b3]
 obtain ⟨ao,i4,rfl,_,_⟩:=hv.form
 have g1:(0:Int)≤(n:Int):=T04 _
 have g2:(0:Int)≤(c:Int):=T04 _
 have g3:(0:Int)≤(m:Int):=T04 _
 have d:=A5 (And.intro hc.symm (And.intro hS (And.intro hn c1)))
 have b4:=A5 y
 have g4:decide ((m:Int) < 1)=false:=by simp;omega
 have g5:decide ((15:Int) < (m:Int))=false:=by simp;omega
 have g6:decide ((288:Int) < (n:Int))=false:=by simp;omega
 obtain ⟨z,hz⟩:∃z,z=2^m:=⟨_,rfl⟩
 have b0:z≤32768:=by rw [hz];exact Nat.pow_le_pow_right (by decide) hm2
 have HZ:=A5 hz
 have g7:wrap64 ((2:Int)^m)=(z:Int):=by
  rw [Y8,←hz]
  unfold wrap64;omega
 rw [←hz]
 clear hc hS hn c1 a9 hf hv y hz
 have b5:=A5 b3
 clear b3
 go_enter Tryz.func102,Tryz.ntmps102
 go_wp2_with fail
 refine HW.out.mono ?_
 rintro e w' ⟨rfl,rfl⟩
 go_wp2_with fail
 refine HY.out.mono ?_
 rintro e w1 ⟨sv,rfl,hh⟩
 obtain ⟨so,sc,rfl,e1,i7⟩:=U1 hh
 rw [d.out.1] at e1 hh⊢
 have HH:=A5 hh
 clear hh HW HY
 by_cases e0:z < c
 ·have c5:(z:Int) < (c:Int):=by omega
  go_wp2
  go_ret2
  exact .inl ⟨e0,rfl,HH.out.mod⟩
 have c5:¬(z:Int) < (c:Int):=by omega
 have a4:c≤z:=by omega
 obtain ⟨i0,hi,b0,b7,b8⟩:=info_parts V1l
 have c6:(f.map T02).length=n:=by rw [T01];exact d.out.2.2.1.symm
 have t:=A5 c6
 clear c6
 have h3:c=0∨c=1∨2≤c:=by omega
 rcases h3 with h3 | h3 | h3
 ·have a6:Hid (Y42 (f.map T02) m ((T00 n).map fun _=>0)):=by
   have c7:=b5.out
   have y:=b4.out
   refine A5 ⟨by rw [t.out];simp,fun _ i a b ha hb=> ?_,fun h=>by omega⟩
   have o:=(List.getElem?_eq_some_iff.1 ha).1
   rw [T01,T0g] at o
   rw [T05,T09 o] at ha
   simp only [T06,Option.some.injEq] at ha
   by_cases h0:0 < b
   ·have h:=Z61 _ 0 i b hb h0
    have c8:=d.out.1
    rw [h3] at c8
    rw [←d.out.2.1,T0u c8] at h
    simp at h
   rw [if_neg h0];exact ha.symm
  subst h3
  go_wp2_with ((with_reducible show wpList _ _ _ (⟨some 33,_,_,_,_,_⟩::_) _ _);refine wpList_make_own rfl 52 (.tmp 32) (.tmp 32) rfl 3 i0 (.int .i64 0) 1 Tryz.underlying52 hi b0 b7 .i64 n rfl rfl (by rw [b8];omega) (by unfold maxLen;omega) ?_;intro v1 w2 zs p hm1 q a7 r;rw [Z6l _ _ rfl,Y2z] at r;subst r;subst a7;have a1:=A5 (HH.out.pushOwn p hm1 q);clear hm1 q p)
  go_ret2
  exact .inr ⟨a4,_,(T00 n).map fun _=>0,_,rfl,a1.out,a6.out,Y7b d.out.2.1 d.out.1 t.out⟩
 ·subst h3
  obtain ⟨⟨a0,s0⟩,a3⟩:∃x,S=[x]:=List.length_eq_one_iff.1 d.out.1
  obtain ⟨s,e6,hs,i8⟩:=d.out.2.2.2 (a0,s0) (by rw [a3];simp)
  have hs:s0=(s:Int):=hs
  subst hs
  have a6:Hid (Y42 (f.map T02) m ((T00 n).map fun j=>if j=s then 1 else 0)):=by
   have c7:=b5.out
   have y:=b4.out
   refine A5 ⟨by rw [t.out];simp,fun _ i a b ha hb=> ?_,fun h=>by omega⟩
   have o:=(List.getElem?_eq_some_iff.1 ha).1
   rw [T01,T0g] at o
   rw [T05,T09 o] at ha
   simp only [T06,Option.some.injEq] at ha
   rw [←ha]
   by_cases h0:0 < b
   ·have h:=Z61 _ 0 i b hb h0
    rw [←d.out.2.1,a3,T0D,T0n] at h
    have h2:(i:Int)=(s:Int):=congrArg Prod.snd h
    rw [if_pos h0,if_pos (by omega)]
   have h1:(a0,(s:Int))∈T3 0 (f.map T02):=by rw [←d.out.2.1,a3];simp
   obtain ⟨j,_,e,hj,hp⟩:=Z0w _ 0 _ h1
   have e2:(s:Int)=(j:Int):=e
   have d8:¬i=s:=by
    intro e3
    have:j=i:=by omega
    subst this
    rw [T08,hb] at hj
    simp only [Option.some.injEq] at hj
    omega
   rw [if_neg h0,if_neg d8]
  have g8:(0:Int)≤(s:Int):=T04 _
  have c9:=A5 a3
  obtain ⟨g,i9,cp,hv⟩:=V03 HH.out (by rw [a3];exact Nat.zero_lt_one)
  simp only [Value.slice.injEq] at hv
  obtain ⟨rfl,e7,rfl⟩:=hv
  clear a3 e7
  go_wp2_with ((with_reducible show wpList _ _ _ (⟨some 33,_,_,_,_,_⟩::_) _ _);refine wpList_make_own rfl 52 (.tmp 32) (.tmp 32) rfl 3 i0 (.int .i64 0) 1 Tryz.underlying52 hi b0 b7 .i64 n rfl rfl (by rw [b8];omega) (by unfold maxLen;omega) ?_;intro v1 w2 zs p hm1 q a7 r;rw [Z6l _ _ rfl,Y2z] at r;subst r;subst a7;have a1:=A5 (HH.out.pushOwn p hm1 q);clear hm1 q p;have c2:=(a1.out.swap.itemAt (j:=0) (x:=(a0,(s:Int))) (by rw [c9.out];rfl)).2;obtain ⟨c3,f3,h3⟩:=a1.out.numAt e6 1;have HP:=A5 h3;simp only [Nat.zero_mul,T0t] at c2;clear h3)
  go_ret2
  exact .inr ⟨a4,_,_,_,rfl,HP.out,a6.out,Y9x d.out.2.1 c9.out t.out⟩
 have a6:Hid (Y42 (f.map T02) m ((T00 n).map (gS S m))):=by
  have c7:=b5.out
  have y:=b4.out
  have h5:=HZ.out
  refine A5 ⟨by rw [t.out];simp,fun h=>by omega,fun _=> ?_⟩
  rw [d.out.2.1,←t.out]
  exact X0f _ m hm1 hm2 (by omega) (by omega)
 have f1:¬(c:Int)=1:=by omega
 have f2:((c:Int)==1)=false:=by simp;omega
 have f4:(1:Int) < (c:Int):=by omega
 obtain ⟨k,hk⟩:∃k,k=2*c-2:=⟨_,rfl⟩
 have h6:2*(c:Int)-2=(k:Int):=by omega
 have HK:=A5 hk
 clear hk
 go_wp2_with first
  | ((with_reducible show wpList _ _ _ (⟨some 33,_,_,_,_,_⟩::_) _ _);refine wpList_make_own rfl 52 (.tmp 32) (.tmp 32) rfl 3 i0 (.int .i64 0) 1 Tryz.underlying52 hi b0 b7 .i64 n rfl rfl (by rw [b8];omega) (by unfold maxLen;omega) ?_;intro v1 w2 zs p hm1 q a7 r;rw [Z6l _ _ rfl,Y2z] at r;subst r;subst a7;have a1:=A5 (HH.out.pushOwn p hm1 q);clear hm1 q p)
  | fail
 have b1:∀x∈S,x.1≤1048576:=fun x hx=>by
  obtain ⟨_,_,_,h⟩:=d.out.2.2.2 x hx
  exact h
 refine (W9q c m S _ w _ _ a1.out.swap d.out.1 (by omega) (by omega) hm2 b1).mono ?_
 rintro e w3 ⟨B,ms,rfl,d1,b2,hh⟩
 have HR:=V5r c m n B S ms w1.heap.size n (.slice so c sc) w w3 [] hh d1 b2 d.out.1 (by omega) (by omega) hm2 hm1 (by have:=HZ.out;omega) (by omega) (fun x hx=>by
  obtain ⟨s,h1,h2,_⟩:=d.out.2.2.2 x hx
  exact ⟨s,h1,h2⟩)
 rw [←HK.out] at HR
 have d0:=A5 HR
 clear HR hh d1 b2 b1
 go_wp2_with fail
 refine d0.out.mono ?_
 rintro e w4 ⟨rfl,Rs4,hh⟩
 have HF:=A5 hh
 clear hh d0
 go_wp2
 go_ret2
 exact .inr ⟨a4,_,_,_,rfl,HF.out,a6.out,Y5w d.out.2.1 (by rw [d.out.1];exact h3) t.out⟩
theorem Z80 {w0 w:World} {Rs:List A6} (h:A4 w0 w Rs) (v:Value) (n m:Nat) (f:List Int) (hv:Rd w 1 v n (D3 f)) (hn:n=f.length) (hl:n≤288) (hm1:1≤m) (hm2:m≤15) (hf:Z35 f=true) (hc:Z08 f≤2^m):
  Calls Tryz.prog 102 #[v,.int .i64 (m:Int)] w fun e w'=>∃v',e= .returned (.tuple #[v',.int .i64 0])∧A4 w0 w' (B0 3 1 v' n (D5 .i64 (D2 (f.map T02) m))::Rs):=
 (X2q v n m f w hv hn hl hm1 hm2 hf).mono fun e w' h2=>by
  rcases h2 with ⟨h3,_⟩ | ⟨_,v',l,_,he,hh,_,rfl⟩
  ·omega
  exact ⟨v',he,h.pushOwn hh.own hh.mod hh.fresh⟩
theorem W70 (f:List Nat) (m:Nat) (_:f.length≤288) (hm1:1≤m) (hm2:m≤15) (hc:U2 f≤2^m):Y42 f m (D2 f m):=by
 obtain ⟨S,g⟩:∃S,S=T3 0 f:=⟨_,rfl⟩
 have hl:S.length=U2 f:=by rw [g,Z36]
 have l:S.length=0∨S.length=1∨2≤S.length:=by omega
 rcases l with l | l | l
 ·rw [←Y7b g l rfl]
  refine ⟨by simp,fun _ i a b ha hb=> ?_,fun h=>by omega⟩
  have d:=(List.getElem?_eq_some_iff.1 ha).1
  rw [T01,T0g] at d
  rw [T05,T09 d] at ha
  simp only [T06,Option.some.injEq] at ha
  by_cases n:0 < b
  ·have h:=Z61 _ 0 i b hb n
   rw [←g,T0u l] at h
   simp at h
  rw [if_neg n];exact ha.symm
 ·obtain ⟨⟨q,r⟩,k⟩:∃x,S=[x]:=List.length_eq_one_iff.1 l
  obtain ⟨s,_,o,z,_⟩:=Z0w f 0 (q,r) (by rw [←g,k];simp)
  have o:r=(s:Int):=o
  subst o
  rw [←Y9x g k rfl]
  refine ⟨by simp,fun _ i a b ha hb=> ?_,fun h=>by omega⟩
  have d:=(List.getElem?_eq_some_iff.1 ha).1
  rw [T01,T0g] at d
  rw [T05,T09 d] at ha
  simp only [T06,Option.some.injEq] at ha
  rw [←ha]
  by_cases n:0 < b
  ·have h:=Z61 _ 0 i b hb n
   rw [←g,k] at h
   simp only [T0D] at h
   have h2:((0+i:Nat):Int)=(s:Int):=congrArg Prod.snd h
   rw [if_pos n,if_pos (by omega)]
  have y:(q,(s:Int))∈T3 0 f:=by rw [←g,k];simp
  obtain ⟨j,_,e,t,hp⟩:=Z0w _ 0 _ y
  have e2:(s:Int)=(j:Int):=e
  have p:¬i=s:=by
   intro e3
   have:j=i:=by omega
   subst this
   rw [T08,hb] at t
   simp only [Option.some.injEq] at t
   omega
  rw [if_neg n,if_neg p]
 rw [←Y5w g l rfl]
 refine ⟨by simp,fun h=>by omega,fun _=> ?_⟩
 rw [g]
 exact X0f _ m hm1 hm2 (by omega) (by omega)
theorem W4k (xs:List Y0) (x:Y0) (k:Nat):Z6y (xs++[x]) k=Z6y xs k+(if x.1=k then 1 else 0):=by
 simp only [Z6y,List.countP_append,T0c,List.countP_nil,decide_eq_true_eq];omega
theorem V06 (xs:List Y0) (x:Y0):(Z10 xs).set x.1 (Z6y xs x.1+1)=Z10 (xs++[x]):=by
 refine Z8s (by simp [Z10]) fun k a=> ?_
 have a:k < 19:=by rw [W0] at a;exact a
 rw [List.getElem?_set,Y1s _ a,Y1s _ a,W4k,W0]
 by_cases c:x.1=k
 ·subst c
  rw [if_pos rfl,if_pos (by omega),if_pos rfl]
 rw [if_neg c,if_neg c,T0t]
def Z7u (xs:List Y0):Nat:=(xs.map fun x=>x.2.1).sum
theorem W60 (xs:List Y0) (x:Y0):Z7u (xs++[x])=Z7u xs+x.2.1:=by simp [Z7u]
theorem W2n:∀xs:List Y0,(∀x∈xs,x.2.1≤7)→Z7u xs≤7*xs.length
 | [],_=>T0p _
 | x::xs,h=>by
  have h1:=W2n xs fun y hy=>h y (T07 _ hy)
  have h2:=h x (T0o ..)
  simp only [Z7u,T03,List.sum_cons,T0k] at h1⊢
  omega
theorem Z95 (hd:List Int):∀xs:List Y0,(∀x∈xs,x.1 < 19)→(Z00 hd xs).length=Z2o hd (Z6y xs) 19+Z7u xs
 | [],_=>by
  rw [Z5x hd (Z6y []) 19 (fun _ _=>rfl)];rfl
 | x::xs,h=>by
  have ih:=Z95 hd xs fun y hy=>h y (T07 _ hy)
  have e1:Z6y (x::xs)=fun k=>Z6y xs k+(if x.1=k then 1 else 0):=by
   funext k
   simp only [Z6y,T0c,decide_eq_true_eq]
  have a:Z7u (x::xs)=x.2.1+Z7u xs:=by simp [Z7u]
  have b:Z00 hd (x::xs)=Y7i hd x++Z00 hd xs:=by simp [Z00]
  rw [b,T0a,Y2b,ih,e1,a,Y1a,Z7g _ _ _ (h x (T0o ..))]
  omega
theorem E2:S1 D2:=fun f m h1 h2 h3 h4=>W70 f m h1 h2 h3 h4
theorem V2o:(Tryz.prog.info? 203).map (·.zero)=some (some (X4 .i64 (Z10 []))):=by kernel_rfl
theorem W72 {A B:List Int}:[A,B].flatten=A++B:=by simp
theorem X6.whole {w:World} {C:Nat} {B:List Value} {T:TypeId} (h:X6 w C B T) (hB:B.length≤maxLen):Rd w 1 (.slice (some ⟨C,0,none⟩) B.length B.length) B.length B:=by
 have a:X6 w C ([]++(B++[])) T:=by simpa using h
 exact a.part hB
theorem Y6v (f:List Nat):(M0 f).map T02=f:=by
 unfold M0
 rw [List.map_map]
 conv=>rhs;rw [←List.map_id f]
 rfl
theorem Z9l {f:List Nat} (h:∀a∈f,a≤1048576):Z35 (M0 f)=true:=(Y9m _).2 fun a ha=>by
 obtain ⟨n,hn,rfl⟩:=List.mem_map.1 ha
 have:=h n hn
 exact ⟨T04 _,by omega⟩
theorem Z9j (f:List Nat):Z08 (M0 f)≤f.length:=by
 unfold Z08
 have:=List.countP_le_length (p:=fun a:Int=>decide (0 < a)) (l:=M0 f)
 rwa [K9] at this
theorem Y0n {w:World} {ao:Option Addr} {n cap N:Nat} {l:List Int} (h:Own w 3 1 (.slice ao n cap) n (D3 l)) (hN:N≤n):Own w 3 1 (.slice ao N cap) N (D3 (l.take N)):=by
 have a:=h.cut (L:=0) (H:=N) (Nat.zero_le _) hN
 rw [Z14 _ _ _ _ h.spotless,T08,Nat.zero_mul,List.drop_zero,Nat.mul_one] at a
 rw [show (D3 l).take N=D3 (l.take N) by simp [D3,T0l]] at a
 exact a
theorem W59 (y x N b:Nat) (h:b=14+3*N+(x+y)) (hb:b≤100000):IntKind.i64.wrap ((y:Int)+IntKind.i64.wrap (IntKind.i64.wrap (14+IntKind.i64.wrap (3*(N:Int)))+(x:Int)))=(b:Int):=by
 simp only [W7d]
 unfold wrap64
 omega
theorem V72 (w:World) (a:Addr) (v:Value):(w.setCell a v).heap.size=w.heap.size:=by simp [World.setCell]
def X7c (n1 n2:Nat) (iv hv:Value) (tv:Value) (bits:Nat):List Value:=[.int .i64 (n1:Int),.int .i64 (n2:Int),iv,hv,tv,.int .i64 (bits:Int)]
theorem Y4b {w:World} (litv dv:Value) (n1 n2:Nat) (lit dist:List Int) (h1:Rd w 1 litv n1 (D3 lit)) (h2:Rd w 1 dv n2 (D3 dist)) (c1:D0 lit 15=0) (c2:D0 dist 15=0) (hl1:257≤n1) (hl2:n1≤286) (hd1:1≤n2) (hd2:n2≤30) (hO:Z4p w):
  Calls Tryz.prog 105 #[litv,dv] w fun e w'=>∃ (B Bt:Nat) (iv hv:Value),e= .returned (.pointer (some ⟨B,0,none⟩))∧
   A4 w w' [E8 B (X7c n1 n2 iv hv (.pointer (some ⟨Bt,0,none⟩)) (Z60 lit dist (Y7 D2 (G4 lit dist)) (G4 lit dist)).length) 201,B0 205 3 iv (G4 lit dist).length (L9 (G4 lit dist)),
    B0 3 1 hv (Z2j (Y7 D2 (G4 lit dist))) (D3 ((W4 (Y7 D2 (G4 lit dist))).take (Z2j (Y7 D2 (G4 lit dist))))),J7 (Y7 D2 (G4 lit dist)) Bt]:=by
 obtain ⟨ao,e9,rfl,_,_⟩:=h1.form
 obtain ⟨bo,b2,rfl,_,_⟩:=h2.form
 have k1:=Z0o (m:=15) c1
 have k2:=Z0o (m:=15) c2
 have d3:n1=lit.length:=by have:=h1.1;rw [L6] at this;omega
 have d4:n2=dist.length:=by have:=h2.1;rw [L6] at this;omega
 have hA:=Y5a k1.2.1 k2.2.1
 have s:(lit++dist).length=n1+n2:=by rw [T0a];omega
 obtain ⟨xs,a5⟩:∃xs,xs=G4 lit dist:=⟨_,rfl⟩
 rw [←a5]
 obtain ⟨hd,c5⟩:∃hd,hd=Y7 D2 xs:=⟨_,rfl⟩
 rw [←c5]
 obtain ⟨N,hN⟩:∃N,N=Z2j hd:=⟨_,rfl⟩
 rw [←hN]
 obtain ⟨K,hK⟩:∃K,K=W4 hd:=⟨_,rfl⟩
 rw [←hK]
 obtain ⟨b,hb⟩:∃b,b=(Z60 lit dist hd xs).length:=⟨_,rfl⟩
 rw [←hb]
 obtain ⟨m,hm⟩:∃m,m=xs.length:=⟨_,rfl⟩
 rw [←hm]
 have d:=A5 (And.intro a5 (And.intro c5 (And.intro hN (And.intro hK (And.intro hb hm)))))
 clear a5 c5 hN hK hb hm
 have HP:=((A4.start w).newObj [.int .i64 (n1:Int),.int .i64 (n2:Int),.slice none 0 0,.slice none 0 0,.pointer none,.int .i64 0] 201).lit 52 1 [.slice ao n1 e9,.slice bo n2 b2] 2 (by decide) rfl
 rw [W2y] at HP
 have b3:=A5 (Y43 [.slice ao n1 e9,.slice bo n2 b2] [lit,dist] _ 2 _ HP.own.rd rfl rfl (fun i v l hv hl=>by
  match i,hv,hl with
  | 0,hv,hl=>simp at hv hl;subst hv;subst hl;rw [←d3];exact HP.old h1
  | 1,hv,hl=>simp at hv hl;subst hv;subst hl;rw [←d4];exact HP.old h2
  | i+2,hv,hl=>simp at hv) (by rw [W72,s];omega) (by rw [W72,s];omega) (by decide))
 rw [W72,s] at b3
 have g4:=A5 HP.drop
 have HA:=A5 (And.intro hA (And.intro s hO))
 have i4:(0:Int)≤(n1:Int):=T04 _
 have i5:(0:Int)≤(n2:Int):=T04 _
 clear HP h1 h2 c1 c2 k1 k2 hA s hO d3 d4
 go_enter Tryz.func105,Tryz.ntmps105
 go_wp2_with fail
 refine b3.out.mono ?_
 rintro e w1 ⟨v1,rfl,o⟩
 have H1:=A5 (g4.out.frame o)
 have b0:Rd w1 1 v1 (n1+n2) (D3 (lit++dist)):=o.own.rd
 have b4:=A5 (X5t v1 (n1+n2) (lit++dist) w1 b0 (by omega) HA.out.1)
 have d7:U9 (lit++dist) (n1+n2) 0=xs:=by
  have h:=d.out.1
  rw [G4,HA.out.2.1] at h
  exact h.symm
 rw [d7,←d.out.2.2.2.2.2] at b4
 clear o b0 b3 d7
 go_wp2_with fail
 refine b4.out.mono ?_
 rintro e w2 ⟨iv,rfl,o⟩
 obtain ⟨io,q,rfl,_,_⟩:=o.own.form
 have h2:A4 w w2 (E8 w.heap.size [.int .i64 (n1:Int),.int .i64 (n2:Int),.slice none 0 0,.slice none 0 0,.pointer none,.int .i64 0] 201::[B0 205 3 (.slice io m q) m (L9 xs)]):=(H1.out.frame o).third.two
 have f2:=h2.obj.frozen 2
 have k2:=h2.obj.cell (i:=2) rfl
 have H3:=A5 (h2.setObj 2 (.slice io m q))
 clear h2 o b4 H1
 go_wp2_with first
  | ((with_reducible show wpList _ _ _ (⟨some 6,_,_,_,_,_⟩::_) _ _);refine K1 rfl 203 rfl .i64 (Z10 []) V2o ?_;have h4:=H3.out.newObj (D5 .i64 (Z10 [])) 203;rw [V72] at h4;have c2:=h4.drop.obj.cell (i:=2) rfl;have H4:=A5 h4;clear h4)
  | fail
 have a2:Hid (∀x∈xs,x.1 < 19∧x.2.1≤7∧x.2.2 < 2^x.2.1):=by
  rw [d.out.1]
  exact A5 (Z47 HA.out.1 _ 0)
 have j6:m≤316:=by
  have h:=Z2z (all:=lit++dist) (lit++dist).length 0
  have h2:=d.out.2.2.2.2.2
  have h3:=HA.out.2.1
  rw [d.out.1] at h2
  unfold G4 at h2
  omega
 have j7:(0:Int)≤(m:Int):=T04 _
 clear c2
 go_loopg [30] (m+1) (fun k t30 wr=>∃i:Nat,i≤m∧m-i < k∧t30= .int .i64 (i:Int)∧Hid (A4 w wr (E8 w2.heap.size (D5 .i64 (Z10 (xs.take i))) 203::E8 w.heap.size [.int .i64 (n1:Int),.int .i64 (n2:Int),.slice io m q,.slice none 0 0,.pointer none,.int .i64 ((Z7u (xs.take i):Nat):Int)] 201::[B0 205 3 (.slice io m q) m (L9 xs)])))
 case atStart=>exact ⟨0,by omega,by omega,rfl,H4⟩
 case round=>
  obtain ⟨i,hi,hk,rfl,HH⟩:=hrel
  have j8:(0:Int)≤(i:Int):=T04 _
  by_cases l5:i < m
  ·have g6:(i:Int) < (m:Int):=by omega
   obtain ⟨⟨p,ex,va⟩,ht⟩:∃t,xs[i]?=some t:=⟨xs[i]'(by have:=d.out.2.2.2.2.2;omega),T0e _⟩
   obtain ⟨g,a9,rfl,c0,c1,c2⟩:=HH.out.third.own.rd.item ht
   have a3:=a2.out _ (T0d ht)
   simp only at a3
   have d8:xs.take (i+1)=xs.take i++[(p,ex,va)]:=by rw [List.take_add_one,ht];rfl
   have f:=V06 (xs.take i) (p,ex,va)
   have j:=W60 (xs.take i) (p,ex,va)
   rw [←d8] at f j
   simp only at f j
   have n:Z6y (xs.take i) p≤316:=Nat.le_trans (X2z _ _) (by simp;omega)
   have g7:Z7u (xs.take i)≤7*316:=by
    have h:=W2n (xs.take i) fun x hx=>(a2.out x (T0r hx)).2.1
    have h2:(xs.take i).length≤i:=by simp;omega
    omega
   have hg:=Y1s (xs.take i) a3.1
   obtain ⟨x,hx⟩:∃x,x=Z6y (xs.take i) p:=⟨_,rfl⟩
   obtain ⟨y,hy⟩:∃y,y=Z7u (xs.take i):=⟨_,rfl⟩
   rw [←hx] at f n hg
   rw [←hy] at j g7
   have r:=HH.out.newObj [.int .i64 (p:Int),.int .i64 (ex:Int),.int .i64 (va:Int)] 205
   rw [←hy] at r
   have HS:=A5 (And.intro f j)
   have H5:=A5 r
   have t0:=r.obj.cell (i:=0) rfl
   have t1:=r.obj.cell (i:=1) rfl
   have k1:=r.swap.obj.cell (i:=p) (v:= .int .i64 (x:Int)) (by simp [D5,hg])
   have f1:=r.swap.obj.frozen p
   have k7:(p:Int) < 19:=by omega
   have k8:(0:Int)≤(p:Int):=T04 _
   have k9:ex≤7:=a3.2.1
   clear r f j hx hy hg d8 ht a3
   go_wp2
   have h6:=H5.out.swap.setObj p (.int .i64 ((x:Int)+1))
   generalize (wr.alloc (.cells #[.int .i64 (p:Int),.int .i64 (ex:Int),.int .i64 (va:Int)] 205)).setCell ⟨w2.heap.size,p,none⟩ (.int .i64 ((x:Int)+1))=w5 at h6⊢
   have u1:=h6.swap.obj.cell (i:=1) rfl
   have k5:=h6.third.obj.cell (i:=5) rfl
   have f5:=h6.third.obj.frozen 5
   have H6:=A5 h6
   clear h6 t0 t1 k1 f1 H5
   go_still_tail 9,(by kernel_rfl)
   change wpList _ _ _ _ _ (World.drew _)
   have h7:=H6.out.third.drew.setObj 5 (.int .i64 ((y:Int)+(ex:Int)))
   have H7:Hid (A4 w (w5.drew.setCell ⟨w.heap.size,5,none⟩ (.int .i64 ((y:Int)+(ex:Int)))) (E8 w2.heap.size (D5 .i64 (Z10 (xs.take (i+1)))) 203::E8 w.heap.size [.int .i64 (n1:Int),.int .i64 (n2:Int),.slice (some ⟨g,a9,none⟩) m q,.slice none 0 0,.pointer none,.int .i64 ((Z7u (xs.take (i+1)):Nat):Int)] 201::[B0 205 3 (.slice (some ⟨g,a9,none⟩) m q) m (L9 xs)])):=by
    have z:A4 w _ (E8 w.heap.size [.int .i64 (n1:Int),.int .i64 (n2:Int),.slice (some ⟨g,a9,none⟩) m q,.slice none 0 0,.pointer none,.int .i64 ((y+ex:Nat):Int)] 201::E8 w2.heap.size ((D5 .i64 (Z10 (xs.take i))).set p (.int .i64 ((x+1:Nat):Int))) 203::_::[B0 205 3 (.slice (some ⟨g,a9,none⟩) m q) m (L9 xs)]):=h7
    rw [Y3,HS.out.1,←HS.out.2] at z
    exact A5 z.mid.swap.drop.swap
   clear h7 H6
   go_wp2
   go_roundg (gk-1)
   case measure=>omega
   case rel=>exact ⟨i+1,by omega,by omega,by go_num,H7⟩
  have g6:¬(i:Int) < (m:Int):=by omega
  have e2:xs.take i=xs:=List.take_of_length_le (by have:=d.out.2.2.2.2.2;omega)
  rw [e2] at HH
  have hF:=HH.out.obj.whole (by simp [D5,Z10];decide)
  have n:(D5 .i64 (Z10 xs)).length=19:=by simp [D5,Z10]
  rw [n,Z2s] at hF
  have e3:∀a∈Z10 xs,a≤1048576:=fun a ha=>by
   obtain ⟨k,_,rfl⟩:=List.mem_map.1 ha
   have h1:=X2z xs k
   have h2:=d.out.2.2.2.2.2
   omega
  have b6:=A5 (Z80 HH.out (.slice (some ⟨w2.heap.size,0,none⟩) 19 19) 19 7 (M0 (Z10 xs)) hF (by rw [K9,W0]) (by omega) (by omega) (by omega) (Z9l e3) (Nat.le_trans (Z9j _) (by rw [W0];decide)))
  rw [Y6v,Z2s,show M0 (D2 (Z10 xs) 7)=hd from d.out.2.1.symm,show ((7:Nat):Int)=7 from rfl] at b6
  clear hF n e3 e2
  go_wp2_with fail
  with_reducible refine b6.out.mono ?_
  rintro e w3 ⟨lv,rfl,h3⟩
  obtain ⟨la,lc,rfl,_,_⟩:=h3.own.form
  have H3:=A5 h3
  have e4:D0 hd 7=0:=by rw [d.out.2.1];exact Z56 E2 xs
  have b7:=A5 (Z3v (.slice la 19 lc) 19 hd 7 w3 h3.own.rd (by omega))
  rw [e4] at b7
  clear h3 b6 e4
  go_wp2_with fail
  with_reducible refine b7.out.mono ?_
  rintro e w4 (⟨h0,_⟩ | ⟨_,Bt,rfl,o⟩)
  ·exact absurd rfl h0
  have h4:A4 w w4 (E8 w.heap.size [.int .i64 (n1:Int),.int .i64 (n2:Int),.slice io m q,.slice none 0 0,.pointer none,.int .i64 ((Z7u xs:Nat):Int)] 201::J7 hd Bt::B0 3 1 (.slice la 19 lc) 19 (D3 hd)::E8 w2.heap.size (D5 .i64 (Z10 xs)) 203::[B0 205 3 (.slice io m q) m (L9 xs)]):=(H3.out.frame o).fourth
  have f4:=h4.obj.frozen 4
  have k4:=h4.obj.cell (i:=4) rfl
  have r:=h4.setObj 4 (.pointer (some ⟨Bt,0,none⟩))
  have H5:=A5 r
  have b8:=A5 (X70 (.slice la 19 lc) hd _ r.third.own.rd (HA.out.2.2.kept r.mod))
  rw [←d.out.2.2.2.1] at b8
  clear h4 r o b7 H3
  go_wp2_with fail
  with_reducible refine b8.out.mono ?_
  rintro e w5 ⟨oa,oc,rfl,o⟩
  have H6:=A5 (H5.out.frame o)
  have b9:=A5 (Y26 oa 19 oc 4 K w5 o.own.rd (by omega) (by omega) o.own.spotless)
  rw [d.out.2.2.2.1,show Z12 (W4 hd) 4 19=N from d.out.2.2.1.symm,show ((4:Nat):Int)=4 from rfl] at b9
  have e5:N≤19:=by rw [d.out.2.2.1];exact Z3r _
  clear o b8 H5
  go_wp2_with fail
  with_reducible refine b9.out.mono ?_
  rintro e w6 ⟨rfl,d6,rfl⟩
  have h7:A4 w (w5.drewN d6) (E8 w.heap.size [.int .i64 (n1:Int),.int .i64 (n2:Int),.slice io m q,.slice none 0 0,.pointer (some ⟨Bt,0,none⟩),.int .i64 ((Z7u xs:Nat):Int)] 201::B0 3 1 (.slice oa N oc) N (D3 (K.take N))::J7 hd Bt::B0 3 1 (.slice la 19 lc) 19 (D3 hd)::E8 w2.heap.size (D5 .i64 (Z10 xs)) 203::[B0 205 3 (.slice io m q) m (L9 xs)]):=by
   have h:A4 w (w5.drewN d6) (B0 3 1 (.slice oa 19 oc) 19 (D3 K)::_::_):=H6.out.drewN d6
   exact (h.recut (Y0n h.own e5) (by cases oa <;> rfl)).swap
  generalize w5.drewN d6=w7 at h7⊢
  have f3:=h7.obj.frozen 3
  have k3:=h7.obj.cell (i:=3) rfl
  have z:=h7.setObj 3 (.slice oa N oc)
  have H8:=A5 z
  clear h7 b9 H6
  go_wp2_with fail
  generalize w7.setCell ⟨w.heap.size,3,none⟩ (.slice oa N oc)=w8 at z H8⊢
  have j3:=z.obj.cell (i:=3) rfl
  have j5:=z.obj.cell (i:=5) rfl
  have g5:=z.obj.frozen 5
  have hF:=z.drop.drop.drop.drop.obj.whole (by simp [D5,Z10];decide)
  have n:(D5 .i64 (Z10 xs)).length=19:=by simp [D5,Z10]
  rw [n,Z2s] at hF
  have e6:=z.drop.drop.drop.own.rd
  have c3:hd.length=19:=by rw [d.out.2.1];exact Y37 E2 xs
  have c4:(M0 (Z10 xs)).length=19:=by rw [K9,W0]
  have e7:Z3i hd (M0 (Z10 xs)) (min hd.length (M0 (Z10 xs)).length)=Z2o hd (Z6y xs) 19:=by
   have h:=Y2g (l:=hd) (g:=Z6y xs) (N:=19) (fun a ha=>by
    rw [d.out.2.1] at ha
    have:=Z5w E2 xs a ha
    omega) (fun k _=>by have h1:=X2z xs k;have h2:=d.out.2.2.2.2.2;omega)
   unfold M0 Z10
   exact h
  have HC:=A5 (fun k=>Y85 (.slice la hd.length lc) (.slice (some ⟨w2.heap.size,0,none⟩) (M0 (Z10 xs)).length 19) hd (M0 (Z10 xs)) (w8.drewN k) (by rw [c3];exact e6.drewTo rfl) (by rw [c4];exact hF.drewTo rfl) (by omega))
  rw [e7,c3,c4] at HC
  have a4:b=14+3*N+(Z2o hd (Z6y xs) 19+Z7u xs):=by
   have h1:=Z3s lit dist hd xs
   rw [Z95 hd xs (fun x hx=>(a2.out x hx).1),←d.out.2.2.1,←d.out.2.2.2.2.1] at h1
   exact h1
  have e8:b≤100000:=by
   have h1:=Z3s lit dist hd xs
   have h2:=Z1x (hd:=hd) (by rw [d.out.2.1];exact Z5w E2 xs) (xs:=xs) (fun x hx=>(a2.out x hx).2.1)
   rw [←d.out.2.2.1,←d.out.2.2.2.2.1] at h1
   have h3:=d.out.2.2.2.2.2
   omega
  obtain ⟨x,hx⟩:∃x,x=Z2o hd (Z6y xs) 19:=⟨_,rfl⟩
  obtain ⟨y,hy⟩:∃y,y=Z7u xs:=⟨_,rfl⟩
  rw [←hx] at a4 HC
  rw [←hy] at a4 j5
  have HB:=A5 (W59 y x N b a4 e8)
  have a5:x≤100000:=by omega
  have l3:y≤100000:=by omega
  clear hF n e6 c3 c4 e7 a4 e8 hx hy z
  go_region_law ((first
   | (go_simp;go_at_call 129;refine (HC.out _).mono ?_;rintro e w9 ⟨rfl,d9,rfl⟩)))
  all_goals
   rw [HB.out]
   have H9:=A5 ((H8.out.drewN (1+d9)).setObj 5 (.int .i64 (b:Int)))
   go_wp2
   go_ret
   exact ⟨w.heap.size,Bt,.slice io m q,.slice oa N oc,rfl,H9.out.fourth.drop.fourth.drop.mid2⟩
end Go.Proofs.YtbkbkmgogbgofaaGreatDoor
