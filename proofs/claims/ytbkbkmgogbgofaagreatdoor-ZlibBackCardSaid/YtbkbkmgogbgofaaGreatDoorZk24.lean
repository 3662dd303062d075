/- The claim's texts, put together and shortened by a program (names, spaces). -/
import Derived.Test.YtbkbkmgogbgofaaGreatDoorZk23
import Derived.Test.YtbkbkmgogbgofaaGreatDoorProg
import Derived.Test.YtbkbkmgogbgofaaGreatDoorZk03
import Derived.Test.YtbkbkmgogbgofaaGreatDoorZk02
import Derived.StillTailTactics
import Derived.BigRegion
import Derived.Sort.LoopGhostIn
open List renaming mem_cons_self→T01,append_assoc→T02,mem_cons_of_mem→T04,cons_append→T05,take_succ_cons→T06,take_append_drop→T07,set_cons_zero→T09,length_set→T0a,set_append_right→T0b,getElem?_append_right→T0d,length_cons→T0e,replicate→T0f,append_nil→T0h,length_append→T0i,filter_cons_of_pos→T0j,filter_cons_of_neg→T0k,eq_nil_of_length_eq_zero→T0l,nil_append→T0n,set_cons_succ→T0o,replicate_succ→T0p,getElem?_set→T0r
open Nat renaming add_mul→T03,mul_assoc→T08,sub_self→T0c,le_refl→T0g,zero_le→T0m
open Int renaming natCast_nonneg→T00
open Array renaming getElem?_setIfInBounds→T0q
namespace Go.Proofs.YtbkbkmgogbgofaaGreatDoor
set_option maxRecDepth 100000
set_option maxHeartbeats 6400000
open Go.RowKit
structure Z9a (A:List Nat) (m:Nat) (W:Nat→List Nat) (cnt K:Nat→Nat):Prop where
 packs:W1g A m W
 top:K m=2*A.length-2
 low:∀t,t < m→K t=2*(K (t+1)-cnt (t+1))
 few:∀t,t < m→cnt (t+1)≤A.length∧cnt (t+1)≤K (t+1)
 room:∀t,t≤m→K t≤(W t).length
 split:∀t,t < m→((W (t+1)).take (K (t+1))).Perm (A.take (cnt (t+1))++(U3 (W t)).take (K (t+1)-cnt (t+1)))
theorem Y0o:∀ (l:List Nat) (k:Nat),Up l→∀a∈l.take k,∀b∈l.drop k,a≤b
 | [],k,_=>by simp
 | x::l,0,_=>by simp
 | x::l,k+1,h=>by
  intro a ha b hb
  rw [T06] at ha
  rw [List.drop_succ_cons] at hb
  rcases List.mem_cons.1 ha with ha | ha
  ·subst ha;exact h.1 b (List.mem_of_mem_drop hb)
  exact Y0o l k h.2 a ha b hb
theorem W1a:∀ (l:List Nat) (e:Nat),2*e≤l.length→(∀x∈l,0 < x)→∀a∈l.take (2*e),∃p∈(U3 l).take e,a < p
 | _,0,_,_=>by simp
 | [],e+1,h,_=>by simp at h
 | [x],e+1,h,_=>by simp at h;omega
 | x::y::l,e+1,h,hp=>by
  intro a ha
  rw [show 2*(e+1)=2*e+1+1 by omega,T06,T06] at ha
  rw [U3,T06]
  have hx:=hp x (by simp)
  have hy:=hp y (by simp)
  rcases List.mem_cons.1 ha with ha | ha
  ·exact ⟨x+y,T01,by omega⟩
  rcases List.mem_cons.1 ha with ha | ha
  ·exact ⟨x+y,T01,by omega⟩
  obtain ⟨p,h1,h2⟩:=W1a l e (by simp at h;omega) (fun z hz=>hp z (by simp [hz])) a ha
  exact ⟨p,T04 _ h1,h2⟩
theorem Y9i:∀l:List Nat,(∀x∈l,0 < x)→∀x∈U3 l,0 < x
 | [],_=>by simp [U3]
 | [a],_=>by simp [U3]
 | a::b::l,h=>by
  intro x hx
  rw [U3] at hx
  have:=h a (by simp)
  rcases List.mem_cons.1 hx with hx | hx
  ·omega
  exact Y9i l (fun z hz=>h z (by simp [hz])) x hx
section
variable {A:List Nat} {m:Nat} {W:Nat→List Nat} {cnt K:Nat→Nat} (h:Z9a A m W cnt K) (hA:∀x∈A,0 < x)
include h hA
theorem Z9a.pos:∀t,t≤m→∀x∈W t,0 < x
 | 0,_=>by rw [h.packs.none];simp
 | t+1,ht=>by
  intro x hx
  rcases List.mem_append.1 ((h.packs.made t (by omega)).mem_iff.1 hx) with h1 | h1
  ·exact hA x h1
  exact Y9i _ (Z9a.pos t (by omega)) x h1
theorem Z9a.mono (t:Nat) (ht:t+1 < m):cnt (t+1)≤cnt (t+2):=by
 by_cases j:cnt (t+1)≤cnt (t+2)
 ·exact j
 exfalso
 obtain ⟨c,hc⟩:∃c,c=cnt (t+2):=⟨_,rfl⟩
 have q:=h.few t (by omega)
 have r:=h.few (t+1) ht
 obtain ⟨x,o⟩:=W8y (l:=A) (i:=c) (by omega)
 have d:x∈A.take (cnt (t+1)):=List.mem_iff_getElem?.2 ⟨c,by rw [List.getElem?_take_of_lt (by omega)];exact o⟩
 have b:x∈(W (t+1)).take (K (t+1)):=(h.split t (by omega)).mem_iff.2 (List.mem_append.2 (.inl d))
 have s:=h.low (t+1) ht
 have a:=h.room (t+1) (by omega)
 rw [s] at b a
 obtain ⟨p,k,a2⟩:=W1a (W (t+1)) (K (t+2)-cnt (t+2)) a (Z9a.pos h hA (t+1) (by omega)) x b
 have f:p∈(W (t+2)).take (K (t+2)):=(h.split (t+1) ht).mem_iff.2 (List.mem_append.2 (.inr k))
 have y:((W (t+2)).drop (K (t+2))).Perm (A.drop (cnt (t+2))++(U3 (W (t+1))).drop (K (t+2)-cnt (t+2))):=by
  have n:=h.packs.made (t+1) ht
  rw [←T07 (K (t+2)) (W (t+2))] at n
  have z:(A++U3 (W (t+1))).Perm ((A.take (cnt (t+2))++(U3 (W (t+1))).take (K (t+2)-cnt (t+2)))++(A.drop (cnt (t+2))++(U3 (W (t+1))).drop (K (t+2)-cnt (t+2)))):=by
   have e3:A++U3 (W (t+1))=(A.take (cnt (t+2))++A.drop (cnt (t+2)))++((U3 (W (t+1))).take (K (t+2)-cnt (t+2))++(U3 (W (t+1))).drop (K (t+2)-cnt (t+2))):=by rw [T07,T07]
   rw [e3,T02,T02]
   refine List.Perm.append_left _ ?_
   rw [←T02,←T02]
   exact List.perm_append_comm.append_right _
  exact (List.perm_append_left_iff _).1 (((h.split (t+1) ht).append_right _).symm.trans (n.trans z))
 have g:x∈(W (t+2)).drop (K (t+2)):=y.mem_iff.2 (List.mem_append.2 (.inl (List.mem_iff_getElem?.2 ⟨0,by rw [List.getElem?_drop,←hc];exact o⟩)))
 have:=Y0o _ _ (h.packs.up (t+1) ht) p f x g
 omega
end
def P0:List Nat→Nat→List Nat
 | [],_=>[]
 | a::l,0=>a::l
 | a::l,c+1=>(a+1)::P0 l c
theorem Z6t:∀ (l:List Nat) (c:Nat),(P0 l c).length=l.length
 | [],_=>rfl
 | a::l,0=>rfl
 | a::l,c+1=>by rw [P0,T0e,T0e,Z6t l c]
theorem Y14:∀ (l A:List Nat) (c:Nat),l.length=A.length→cst (P0 l c) A=cst l A+I3 (A.take c)
 | [],[],c,_=>by simp [P0,cst,I3]
 | [],x::A,c,h=>by simp at h
 | a::l,[],c,h=>by simp at h
 | a::l,x::A,0,_=>by simp [P0,I3]
 | a::l,x::A,c+1,h=>by
  rw [P0,cst,cst,T06,I3,Y14 l A c (by simpa using h),T03,Nat.one_mul];omega
def Shp (t:Nat):List Nat→Nat→Prop
 | [],c=>c=0
 | a::l,0=>a=0∧Shp t l 0
 | a::l,c+1=>1≤a∧a≤t∧Shp t l c
def Z4n (t:Nat):List Nat→Nat
 | []=>0
 | a::l=>(if 0 < a then 2^(t-a) else 0)+Z4n t l
theorem X67 (t:Nat):∀l:List Nat,Shp t l 0→Shp (t+1) l 0∧Z4n (t+1) l=0∧Z4n t l=0
 | [],_=>⟨rfl,rfl,rfl⟩
 | a::l,h=>by
  obtain ⟨h1,h2⟩:=h
  obtain ⟨k1,k2,k3⟩:=X67 t l h2
  exact ⟨⟨h1,k1⟩,by rw [Z4n,k2,if_neg (by omega)],by rw [Z4n,k3,if_neg (by omega)]⟩
theorem Y6a (t:Nat):∀ (l:List Nat) (c c2:Nat),c≤c2→c2≤l.length→Shp t l c→Shp (t+1) (P0 l c2) c2∧Z4n (t+1) (P0 l c2)=Z4n t l+(c2-c)*2^t
 | [],c,c2,h1,h2,h=>by
  obtain rfl:c2=0:=by simpa using h2
  exact ⟨rfl,by simp [P0,Z4n]⟩
 | a::l,c,0,h1,_,h=>by
  obtain rfl:c=0:=by omega
  obtain ⟨k1,k2,k3⟩:=X67 t (a::l) h
  exact ⟨k1,by rw [P0,k2,k3];simp⟩
 | a::l,0,c2+1,_,h2,h=>by
  obtain ⟨h3,h4⟩:=h
  obtain ⟨k1,k2⟩:=Y6a t l 0 c2 (T0m _) (by simpa using h2) h4
  subst h3
  refine ⟨⟨by omega,by omega,k1⟩, ?_⟩
  rw [P0,Z4n,Z4n,k2,if_pos (by omega),if_neg (by omega),Nat.sub_zero,Nat.sub_zero,T03,Nat.one_mul,show t+1- (0+1)=t by omega];omega
 | a::l,c+1,c2+1,h1,h2,h=>by
  obtain ⟨h3,h4,h5⟩:=h
  obtain ⟨k1,k2⟩:=Y6a t l c c2 (by omega) (by simpa using h2) h5
  refine ⟨⟨by omega,by omega,k1⟩, ?_⟩
  rw [P0,Z4n,Z4n,k2,if_pos (by omega),if_pos (by omega),show t+1- (a+1)=t-a by omega,show c2+1- (c+1)=c2-c by omega];omega
def Z17 (n:Nat) (cnt:Nat→Nat):Nat→List Nat
 | 0=>T0f n 0
 | t+1=>P0 (Z17 n cnt t) (cnt (t+1))
theorem Z23 (n:Nat) (cnt:Nat→Nat):∀t,(Z17 n cnt t).length=n
 | 0=>by simp [Z17]
 | t+1=>by rw [Z17,Z6t,Z23 n cnt t]
theorem X7l (t:Nat):∀n:Nat,Shp t (T0f n 0) 0∧Z4n t (T0f n 0)=0
 | 0=>⟨rfl,rfl⟩
 | n+1=>by
  obtain ⟨h1,h2⟩:=X7l t n
  rw [T0p]
  exact ⟨⟨rfl,h1⟩,by rw [Z4n,h2];simp⟩
theorem X4w:∀A:List Nat,cst (T0f A.length 0) A=0
 | []=>rfl
 | a::A=>by rw [T0e,T0p,cst,X4w A];omega
theorem W2p (t:Nat):∀ (l:List Nat),Shp t l l.length→(∀a∈l,1≤a∧a≤t)
 | [],_=>by simp
 | a::l,h=>by
  obtain ⟨h1,h2,h3⟩:=h
  intro b hb
  rcases List.mem_cons.1 hb with hb | hb
  ·subst hb;exact ⟨h1,h2⟩
  exact W2p t l h3 b hb
theorem W1q (m:Nat) (hm:m≤15):∀l:List Nat,(∀a∈l,1≤a∧a≤m)→kr l=Z4n m l*2^(15-m)
 | [],_=>by simp [kr,Z4n]
 | a::l,h=>by
  have h1:=h a T01
  rw [kr,Z4n,W1q m hm l fun b hb=>h b (T04 _ hb),W1e a h1.1 (by omega),if_pos (by omega),T03,←Nat.pow_add,show m-a+(15-m)=15-a by omega]
theorem V3l (t:Nat):∀ (l:List Nat) (c:Nat),0 < c→Shp t l c→0 < Z4n t l
 | [],c,h,hs=>by
           have:c=0:=hs
           omega
 | a::l,c+1,_,hs=>by
  have:=hs.1
  rw [Z4n,if_pos (by omega)]
  have:0 < 2^(t-a):=Nat.two_pow_pos _
  omega
 | a::l,0,h,_=>by omega
section
variable {A:List Nat} {m:Nat} {W:Nat→List Nat} {cnt K:Nat→Nat} (h:Z9a A m W cnt K) (hA:∀x∈A,0 < x) (h0:cnt 0=0)
include h hA h0
theorem Z9a.stage:∀t,t≤m→Shp t (Z17 A.length cnt t) (cnt t)∧K t*2^t+2*Z4n t (Z17 A.length cnt t)=2*cnt t*2^t∧cst (Z17 A.length cnt t) A=I3 ((W t).take (K t))
 | 0,_=>by
  obtain ⟨k1,k2⟩:=X7l 0 A.length
  have hk:K 0=0:=by have h1:=h.room 0 (T0m _);rw [h.packs.none] at h1;simpa using h1
  rw [h0,hk]
  exact ⟨k1,by rw [Z17,k2],by rw [Z17,X4w];simp [I3]⟩
 | t+1,ht=>by
  obtain ⟨k1,k2,k3⟩:=Z9a.stage t (by omega)
  have hf:=h.few t (by omega)
  have hle:cnt t≤cnt (t+1):=by
   cases t with
   | zero=>rw [h0];exact T0m _
   | succ t=>exact h.mono hA t (by omega)
  obtain ⟨q,r⟩:=Y6a t (Z17 A.length cnt t) (cnt t) (cnt (t+1)) hle (by rw [Z23];exact hf.1) k1
  have b:=h.low t (by omega)
  have a:=h.room t (by omega)
  refine ⟨q, ?_, ?_⟩
  ·rw [Z17,r]
   obtain ⟨d,s⟩:∃d,cnt (t+1)=cnt t+d:=⟨cnt (t+1)-cnt t,by omega⟩
   obtain ⟨e,j⟩:∃e,K (t+1)=cnt (t+1)+e:=⟨K (t+1)-cnt (t+1),by omega⟩
   have f:K t=2*e:=by rw [b,j];omega
   rw [j,s,show cnt t+d-cnt t=d by omega,Nat.pow_succ]
   rw [f] at k2
   generalize 2^t=p at*
   generalize cnt t=c at*
   generalize Z4n t (Z17 A.length cnt t)=S at*
   have k:(c+d+e)*p=c*p+d*p+e*p:=by rw [T03,T03]
   have g:(c+d+e)*(p*2)=2*((c+d+e)*p):=by rw [←T08,Nat.mul_comm]
   have l:(c+d)*p=c*p+d*p:=T03 _ _ _
   have i:2*(c+d)*(p*2)=2*(2*((c+d)*p)):=by rw [←T08,Nat.mul_comm _ 2,T08 2 (c+d) p]
   rw [k] at g
   rw [l] at i
   have n:2*e*p=2*(e*p):=T08 _ _ _
   have o:2*c*p=2*(c*p):=T08 _ _ _
   rw [g,i,Nat.mul_add]
   rw [n,o] at k2
   omega
  rw [Z17,Y14 _ _ _ (Z23 _ _ _),k3,Y88 (h.split t (by omega)),Y2c,Z9c (W t) (K (t+1)-cnt (t+1)) (by rw [←b];exact a),←b]
  omega
theorem Z9a.fit (hm:1≤m) (hm2:m≤15) (hn:2≤A.length):(∀a∈Z17 A.length cnt m,1≤a∧a≤m)∧kr (Z17 A.length cnt m)=32768∧cst (Z17 A.length cnt m) A=I3 ((W m).take (2*A.length-2)):=by
 obtain ⟨g,i,j⟩:=h.stage hA h0 m (T0g _)
 obtain ⟨t,rfl⟩:∃t,m=t+1:=⟨m-1,by omega⟩
 have n:=h.few t (by omega)
 rw [h.top] at i j
 have k:0 < 2^(t+1):=Nat.two_pow_pos _
 have f:0 < cnt (t+1):=by
  rcases Nat.eq_zero_or_pos (cnt (t+1)) with e | e
  ·rw [e] at i
   have:0 < (2*A.length-2)*2^(t+1):=Nat.mul_pos (by omega) k
   omega
  exact e
 have o:=V3l (t+1) _ _ f g
 have d:cnt (t+1)=A.length:=by
  by_cases e:cnt (t+1)=A.length
  ·exact e
  exfalso
  have p:2*cnt (t+1)*2^(t+1)≤(2*A.length-2)*2^(t+1):=Nat.mul_le_mul_right _ (by omega)
  omega
 have b:=W2p (t+1) (Z17 A.length cnt (t+1)) (by rw [Z23,←d];rw [d] at g⊢;exact g)
 refine ⟨b, ?_,j⟩
 rw [W1q (t+1) hm2 _ b]
 have q:2*cnt (t+1)*2^(t+1)=(2*A.length-2)*2^(t+1)+2*2^(t+1):=by
  rw [d,←T03];congr 1;omega
 have l:Z4n (t+1) (Z17 A.length cnt (t+1))=2^(t+1):=by omega
 rw [l,←Nat.pow_add,show t+1+(15- (t+1))=15 by omega]
end
theorem X9o {f l A:List Nat} {m:Nat} {W:Nat→List Nat} (hp:W1g A m W) (hu:Up A) (hA:A.Perm (Y4x f)) (hm:1≤m) (hm2:m≤15) (hg:V2y f m l) (hc:cst l f=I3 ((W m).take (2*A.length-2))):V6k f m l:=by
 refine ⟨hg,fun l2 h2=> ?_⟩
 obtain ⟨d,g,i,j,o⟩:=V0u f l2 h2.len h2.sup
 obtain ⟨p,k,b,q⟩:=V78 hA.symm d g
 have n:=(hp.least hu k hm hm2 (fun a ha=>by
  have:=i a (b.mem_iff.1 ha)
  exact ⟨this.1,h2.le a this.2⟩) (by rw [V3j b,j];exact h2.whole)).1
 omega
abbrev G9:=Nat×Int
def ins (x:G9):List G9→List G9
 | []=>[x]
 | y::l=>if x.1≤y.1 then x::y::l else y::ins x l
def mrg (u v:List G9):List G9:=u.foldr ins v
def I4 (l:List G9):List G9:=mrg l []
def Asc:List G9→Prop
 | []=>True
 | x::l=>(∀y∈l,x.1≤y.1)∧Asc l
theorem X3s (x y:G9) (h:x.1≠y.1):∀l,ins x (ins y l)=ins y (ins x l)
 | []=>by
  simp only [ins]
  by_cases h1:x.1≤y.1
  ·rw [if_pos h1,if_neg (by omega)]
  rw [if_neg h1,if_pos (by omega)]
 | z::l=>by
  simp only [ins]
  by_cases h1:x.1≤z.1 <;> by_cases h2:y.1≤z.1
  ·rw [if_pos h1,if_pos h2]
   simp only [ins]
   by_cases h3:x.1≤y.1
   ·rw [if_pos h3,if_neg (by omega),if_pos h2]
   rw [if_neg h3,if_pos h1,if_pos (by omega)]
  ·rw [if_pos h1,if_neg h2]
   simp only [ins]
   rw [if_pos h1,if_neg (by omega),if_neg h2]
  ·rw [if_neg h1,if_pos h2]
   simp only [ins]
   rw [if_neg (by omega),if_neg h1,if_pos h2]
  rw [if_neg h1,if_neg h2]
  simp only [ins]
  rw [if_neg h1,if_neg h2,X3s x y h l]
theorem W1d (x:G9) (v:List G9):∀l,mrg (ins x l) v=ins x (mrg l v)
 | []=>rfl
 | y::l=>by
  simp only [ins]
  by_cases h:x.1≤y.1
  ·rw [if_pos h];rfl
  rw [if_neg h]
  show ins y (mrg (ins x l) v)=ins x (ins y (mrg l v))
  rw [W1d x v l,X3s x y (by omega)]
theorem Y97 (v:List G9):∀u,mrg (I4 u) v=mrg u v
 | []=>rfl
 | x::u=>by
  show mrg (ins x (I4 u)) v=ins x (mrg u v)
  rw [W1d,Y97 v u]
theorem W1j (u u2 v:List G9):mrg (u++u2) v=mrg u (mrg u2 v):=List.foldr_append
theorem Y34 (u v:List G9):I4 (u++v)=mrg (I4 u) (I4 v):=by
 rw [Y97];exact W1j u v []
theorem Y80 (x:G9):∀l,(ins x l).Perm (x::l)
 | []=>List.Perm.refl _
 | y::l=>by
  rw [ins]
  split
  ·exact List.Perm.refl _
  exact ((Y80 x l).cons y).trans (List.Perm.swap x y l)
theorem Y24 (v:List G9):∀u,(mrg u v).Perm (u++v)
 | []=>List.Perm.refl _
 | x::u=>(Y80 x _).trans ((Y24 v u).cons x)
theorem W9 (l:List G9):(I4 l).Perm l:=by
 have:=Y24 [] l
 rw [T0h] at this;exact this
theorem X9p (u v:List G9):(mrg u v).length=u.length+v.length:=by rw [(Y24 v u).length_eq,T0i]
theorem J1 (l:List G9):(I4 l).length=l.length:=(W9 l).length_eq
theorem W12 (x:G9):∀l,Asc l→Asc (ins x l)
 | [],_=>⟨by simp,trivial⟩
 | y::l,h=>by
  rw [ins]
  by_cases hx:x.1≤y.1
  ·rw [if_pos hx]
   refine ⟨fun z hz=> ?_,h⟩
   rcases List.mem_cons.1 hz with hz | hz
   ·rw [hz];exact hx
   have:=h.1 z hz;omega
  rw [if_neg hx]
  refine ⟨fun z hz=> ?_,W12 x l h.2⟩
  rcases List.mem_cons.1 ((Y80 x l).mem_iff.1 hz) with hz | hz
  ·rw [hz];omega
  exact h.1 z hz
theorem W30 (v:List G9) (hv:Asc v):∀u,Asc (mrg u v)
 | []=>hv
 | x::u=>W12 x _ (W30 v hv u)
theorem Z0z (l:List G9):Asc (I4 l):=W30 [] trivial l
theorem Y6x (x:G9):∀ (a t:List G9),(∀y∈a,y.1 < x.1)→ins x (a++t)=a++ins x t
 | [],_,_=>rfl
 | y::a,t,h=>by
  have h1:=h y T01
  rw [T05,ins,if_neg (by omega),Y6x x a t fun z hz=>h z (T04 _ hz)];rfl
theorem Y2l (x:G9):∀ (a t:List G9),(∀y∈t,x.1≤y.1)→ins x (a++t)=ins x a++t
 | [],[],_=>rfl
 | [],y::t,h=>by
  have h1:=h y T01
  rw [T0n]
  simp only [ins]
  rw [if_pos h1];rfl
 | y::a,t,h=>by
  rw [T05,ins,ins]
  by_cases h1:x.1≤y.1
  ·rw [if_pos h1,if_pos h1];rfl
  rw [if_neg h1,if_neg h1,Y2l x a t h];rfl
theorem X78 (a t:List G9):∀u:List G9,(∀x∈u,∀y∈a,y.1 < x.1)→mrg u (a++t)=a++mrg u t
 | [],_=>rfl
 | x::u,h=>by
  show ins x (mrg u (a++t))=a++ins x (mrg u t)
  rw [X78 a t u fun z hz=>h z (T04 _ hz),Y6x x a _ (h x T01)]
theorem Y33 (t:List G9):∀ (u a:List G9),(∀x∈u,∀y∈t,x.1≤y.1)→mrg u (a++t)=mrg u a++t
 | [],_,_=>rfl
 | x::u,a,h=>by
  show ins x (mrg u (a++t))=ins x (mrg u a)++t
  rw [Y33 t u a fun z hz=>h z (T04 _ hz),Y2l x _ t (h x T01)]
theorem Z1k:∀ (u v:List G9),Asc (u++v)↔Asc u∧Asc v∧∀x∈u,∀y∈v,x.1≤y.1
 | [],v=>by simp [Asc]
 | x::u,v=>by
  rw [T05]
  simp only [Asc,Z1k u v]
  constructor
  ·rintro ⟨h1,h2,h3,h4⟩
   refine ⟨⟨fun y hy=>h1 y (List.mem_append_left _ hy),h2⟩,h3,fun z hz y hy=> ?_⟩
   rcases List.mem_cons.1 hz with hz | hz
   ·rw [hz];exact h1 y (List.mem_append_right _ hy)
   exact h4 z hz y hy
  rintro ⟨⟨h1,h2⟩,h3,h4⟩
  refine ⟨fun y hy=> ?_,h2,h3,fun z hz y hy=>h4 z (T04 _ hz) y hy⟩
  rcases List.mem_append.1 hy with hy | hy
  ·exact h1 y hy
  exact h4 x T01 y hy
theorem X0b (x1 x2 y1 y2:List G9) (hx:Asc (x1++x2)) (h1:∀x∈x1,∀y∈y2,x.1≤y.1) (h2:∀y∈y1,∀x∈x2,y.1 < x.1):
  mrg (x1++x2) (y1++y2)=mrg x1 y1++mrg x2 y2:=by
 rw [W1j,X78 y1 y2 x2 fun x hx y b=>h2 y b x hx,Y33]
 intro x a y b
 rcases List.mem_append.1 ((Y24 y2 x2).mem_iff.1 b) with h | h
 ·exact ((Z1k x1 x2).1 hx).2.2 x a y h
 exact h1 x a y h
theorem Y7r (x:G9) (l:List G9) (h:∀y∈l,x.1≤y.1):ins x l=x::l:=Y2l x [] l h
theorem Z0c:∀u:List G9,Asc u→mrg u []=u
 | [],_=>rfl
 | x::u,h=>by
  show ins x (mrg u [])=x::u
  rw [Z0c u h.2,Y7r x u h.1]
theorem X30 (u:List G9) (h:Asc u):I4 u=u:=Z0c u h
theorem Y1y (v:List G9):mrg [] v=v:=rfl
theorem X2m (x:G9) (a t:List G9) (ha:∀y∈a,y.1 < x.1) (ht:∀y∈t,x.1≤y.1):mrg [x] (a++t)=a++x::t:=by
 show ins x (a++t)=_
 rw [Y6x x a t ha,Y7r x t ht]
theorem Z98 (x:G9) (a t:List G9) (hs:Asc (a++t)) (ha:∀y∈a,y.1≤x.1) (ht:∀y∈t,x.1 < y.1):mrg (a++t) [x]=a++x::t:=by
 have h:=X0b a t [x] [] hs (by simp) (fun y hy z hz=>by
  rw [List.mem_singleton.1 hy];exact ht z hz)
 rw [T0h] at h
 rw [h,Z0c t ((Z1k a t).1 hs).2.1]
 have b:mrg a [x]=a++[x]:=by
  have:=Y33 [x] a [] (fun z hz y hy=>by
   rw [List.mem_singleton.1 hy];exact ha z hz)
  rw [T0n] at this
  rw [this,Z0c a ((Z1k a t).1 hs).1]
 rw [b,T02];rfl
theorem Y06 (p:G9→Bool) (x:G9):∀l,Asc l→(ins x l).filter p=if p x=true then ins x (l.filter p) else l.filter p
 | [],_=>by
  simp only [ins]
  by_cases h:p x=true <;> simp [h,ins]
 | y::l,hl=>by
  rw [ins]
  by_cases h:x.1≤y.1
  ·rw [if_pos h]
   by_cases hp:p x=true
   ·rw [if_pos hp,T0j hp,Y7r x _ fun z hz=> ?_]
    rcases List.mem_cons.1 (List.mem_filter.1 hz).1 with hz | hz
    ·rw [hz];exact h
    have:=hl.1 z hz;omega
   rw [if_neg hp,T0k hp]
  rw [if_neg h]
  by_cases hy:p y=true
  ·rw [T0j hy,T0j hy,Y06 p x l hl.2]
   by_cases hp:p x=true
   ·rw [if_pos hp,if_pos hp,ins,if_neg h]
   rw [if_neg hp,if_neg hp]
  rw [T0k hy,T0k hy,Y06 p x l hl.2]
theorem Z6g (p:G9→Bool):∀l,(I4 l).filter p=I4 (l.filter p)
 | []=>rfl
 | x::l=>by
  show (ins x (I4 l)).filter p=_
  rw [Y06 p x _ (Z0z l),Z6g p l]
  by_cases hp:p x=true
  ·rw [if_pos hp,T0j hp];rfl
  rw [if_neg hp,T0k hp]
def V63 (x:G9):Value:= .agg #[.int .i64 (x.1:Int),.int .i64 x.2]
def Y4o (a b:Int):Int:=if a < b then -1 else if b < a then 1 else 0
theorem W1o (a:Int) (w:World):Calls Tryz.prog 197 #[.int .i64 a] w fun e w'=>e= .returned (.bool false)∧w'=w:=by
 go_enter Tryz.func197,Tryz.ntmps197
 go_wp2
 go_ret
 exact ⟨by simp,rfl⟩
theorem X53 (a b:Int) (w:World):Calls Tryz.prog 188 #[.int .i64 a,.int .i64 b] w fun e w'=>e= .returned (.int .i64 (Y4o a b))∧w'=w:=by
 have g:(a < b∧Y4o a b= -1)∨(¬a < b∧b < a∧Y4o a b=1)∨(¬a < b∧¬b < a∧Y4o a b=0):=by
  unfold Y4o
  by_cases f:a < b
  ·simp [f]
  by_cases d:b < a
  ·simp [f,d]
  simp [f,d]
 rcases g with ⟨f,d⟩ | ⟨f,h3,d⟩ | ⟨f,h3,d⟩
 all_goals
  rw [d]
  clear d
  go_enter Tryz.func188,Tryz.ntmps188
  go_wp2_with fail
  refine (W1o a w).mono ?_
  rintro e w' ⟨rfl,rfl⟩
  go_wp2_with fail
  refine (W1o b _).mono ?_
  rintro e w' ⟨rfl,rfl⟩
  go_wp2
  try (exfalso;omega)
  go_ret
  exact ⟨rfl,rfl⟩
theorem Y52 (x y:G9) (w:World):Calls Tryz.prog 187 #[V63 x,V63 y] w fun e w'=>e= .returned (.int .i64 (Y4o x.1 y.1))∧E5 w w' (fun _=>False):=by
 unfold V63
 go_enter Tryz.func187,Tryz.ntmps187
 go_wp2_with fail
 refine (X53 _ _ _).mono ?_
 rintro e w' ⟨rfl,rfl⟩
 go_wp2
 go_ret
 exact ⟨rfl,((E5.refl w _).alloc _).alloc _⟩
def J3 (l:List G9):List Value:=l.flatMap fun x=>[.int .i64 (x.1:Int),.int .i64 x.2]
theorem Z5g (l:List G9):(J3 l).length=l.length*2:=by
 induction l with
 | nil=>rfl
 | cons x l ih=>simp [J3] at ih⊢;omega
theorem Z1t (x:G9) (l:List G9):J3 (x::l)= .int .i64 (x.1:Int):: .int .i64 x.2::J3 l:=by simp [J3]
theorem W0t (l m:List G9):J3 (l++m)=J3 l++J3 m:=by simp [J3]
theorem Y0f:∀ (l:List G9) (j:Nat) (x:G9),l[j]?=some x→(J3 l)[j*2]?=some (.int .i64 (x.1:Int))∧(J3 l)[j*2+1]?=some (.int .i64 x.2)
 | [],_,_,h=>by simp at h
 | y::l,0,x,h=>by
  obtain rfl:y=x:=by simpa using h
  rw [Z1t];simp
 | y::l,j+1,x,h=>by
  have:=Y0f l j x (by simpa using h)
  rw [Z1t,show (j+1)*2=j*2+1+1 by omega,show j*2+1+1+1=(j*2+1)+1+1 by omega]
  simpa using this
theorem Y6d:∀ (l:List G9) (j:Nat) (x:G9),j < l.length→J3 (l.set j x)=((J3 l).set (j*2) (.int .i64 (x.1:Int))).set (j*2+1) (.int .i64 x.2)
 | [],_,_,h=>by simp at h
 | y::l,0,x,_=>by rw [T09,Z1t,Z1t];simp
 | y::l,j+1,x,h=>by
  rw [T0o,Z1t,Z1t,Y6d l j x (by simpa using h),show (j+1)*2=j*2+1+1 by omega]
  simp
theorem Z9m (l:List G9):∀u∈J3 l,u.oneCell'=true:=by
 intro u b
 obtain ⟨x,_,a⟩:=List.mem_flatMap.1 b
 rcases List.mem_cons.1 a with rfl | a
 ·rfl
 rw [List.mem_singleton.1 a];rfl
def J5 (v:Value) (l:List G9):A6:=B0 193 2 v l.length (J3 l)
theorem Own.site2 {w:World} {e:TypeId} {v:Value} {l:List G9} (h:Own w e 2 v l.length (J3 l)) (hn:0 < l.length):
  ∃g off cap,v= .slice (some ⟨g,off,none⟩) l.length cap∧l.length≤cap∧cap≤maxLen∧(∀j x,l[j]?=some x→w.cell? ⟨g,off+j*2,none⟩=some (.int .i64 (x.1:Int))∧w.cell? ⟨g,off+j*2+1,none⟩=some (.int .i64 x.2))∧
   (∀j,w.frozen? ⟨g,j,none⟩=false)∧
   ∀j x,j < l.length→Own ((w.setCell ⟨g,off+j*2,none⟩ (.int .i64 (x.1:Int))).setCell ⟨g,off+j*2+1,none⟩ (.int .i64 x.2)) e 2 v (l.set j x).length (J3 (l.set j x)):=by
 rcases h.2 with ⟨hv,h0⟩ | ⟨g,off,cap,cur,rfl,hg,hnc,hc,hsz,hcur⟩
 ·omega
 refine ⟨g,off,cap,rfl,hnc,hc,fun j x hx=> ?_,fun j=>frozen_of_row w g _ cur e hg,fun j x hj=> ?_⟩
 ·obtain ⟨k,m⟩:=Y0f l j x hx
  refine ⟨by rw [cell_of_row w g _ cur e (0,0) hg];exact hcur _ _ k,by rw [cell_of_row w g _ cur e (0,0) hg];exact hcur _ _ m⟩
 have d:=heap_setCell_same w g (off+j*2) cur e (.int .i64 (x.1:Int)) hg
 have f:=heap_setCell_same _ g (off+j*2+1) _ e (.int .i64 x.2) d
 refine ⟨by rw [T0a,Z5g,T0a],.inr ⟨g,off,cap,_,by rw [T0a],f,by rw [T0a];exact hnc,hc,by simpa using hsz,fun i v hv=> ?_⟩⟩
 rw [Y6d l j x hj] at hv
 have n:=Z5g l
 rw [T0q,T0q]
 rw [T0r,T0r] at hv
 simp only [T0a,Array.size_setIfInBounds] at hv⊢
 by_cases a:j*2+1=i
 ·rw [if_pos a,if_pos (by omega)] at hv
  rw [if_pos (by omega),if_pos (by omega)];exact hv
 rw [if_neg a] at hv
 rw [if_neg (by omega)]
 by_cases b:j*2=i
 ·rw [if_pos b,if_pos (by omega)] at hv
  rw [if_pos (by omega),if_pos (by omega)];exact hv
 rw [if_neg b] at hv
 rw [if_neg (by omega)]
 exact hcur i v hv
def swp (l:List G9) (i j:Nat) (x y:G9):List G9:=(l.set i y).set j x
theorem W8e (A B C:List G9) (x y:G9):swp (A++x::B++y::C) A.length (A.length+1+B.length) x y=A++y::B++x::C:=by
 unfold swp
 rw [T02,T0b _ _ (T0g _),T0c,T05,T09,T0b _ _ (by omega),show A.length+1+B.length-A.length=B.length+1 by omega,
  T0o,T0b _ _ (T0g _),T0c,T09,T02,T05]
theorem A4.site2 {w0 w:World} {v:Value} {l:List G9} {Rs:List A6} (h:A4 w0 w (J5 v l::Rs)) (hn:0 < l.length):
  ∃g off cap,v= .slice (some ⟨g,off,none⟩) l.length cap∧l.length≤cap∧cap≤maxLen∧(∀j x,l[j]?=some x→w.cell? ⟨g,off+j*2,none⟩=some (.int .i64 (x.1:Int))∧w.cell? ⟨g,off+j*2+1,none⟩=some (.int .i64 x.2))∧
   (∀j,w.frozen? ⟨g,j,none⟩=false)∧
   ∀j x,j < l.length→A4 w0 ((w.setCell ⟨g,off+j*2,none⟩ (.int .i64 (x.1:Int))).setCell ⟨g,off+j*2+1,none⟩ (.int .i64 x.2)) (J5 v (l.set j x)::Rs):=by
 obtain ⟨g,off,cap,rfl,f,i,m,n,o⟩:=h.own.site2 hn
 refine ⟨g,off,cap,rfl,f,i,m,n,fun j x hj=> ?_⟩
 have d:=o j x hj
 obtain ⟨F,b,q,a⟩:=h.take
 exact a _ _ F ⟨d,b.2⟩ ((((E5.refl w _).setCell (p:=⟨g,off+j*2,none⟩) (.inr ((b.2 g).2 rfl)) _)).setCell (p:=⟨g,off+j*2+1,none⟩) (.inr ((b.2 g).2 rfl)) _) (fun k hk=> .inl hk) (fun k hk=>by
  have:=(q k hk).2
  simpa [World.setCell] using this)
theorem A4.swap2 {w0 w:World} {ao:Option Addr} {N cap:Nat} {l:List G9} {Rs:List A6} (h:A4 w0 w (J5 (.slice ao N cap) l::Rs)) {i j:Nat} {x y:G9} (hi:l[i]?=some x) (hj:l[j]?=some y):
  ∃g off,ao=some ⟨g,off,none⟩∧w.cell? ⟨g,off+i*2,none⟩=some (.int .i64 (x.1:Int))∧w.cell? ⟨g,off+i*2+1,none⟩=some (.int .i64 x.2)∧
   w.cell? ⟨g,off+j*2,none⟩=some (.int .i64 (y.1:Int))∧w.cell? ⟨g,off+j*2+1,none⟩=some (.int .i64 y.2)∧(∀k,w.frozen? ⟨g,k,none⟩=false)∧
   Hid (A4 w0 ((((w.setCell ⟨g,off+i*2,none⟩ (.int .i64 (y.1:Int))).setCell ⟨g,off+i*2+1,none⟩ (.int .i64 y.2)).setCell ⟨g,off+j*2,none⟩ (.int .i64 (x.1:Int))).setCell ⟨g,off+j*2+1,none⟩ (.int .i64 x.2)) (J5 (.slice ao N cap) (swp l i j x y)::Rs)):=by
 have d:i < l.length:=(List.getElem?_eq_some_iff.1 hi).1
 have f:j < l.length:=(List.getElem?_eq_some_iff.1 hj).1
 obtain ⟨g,off,n,a,_,_,b,q,r⟩:=h.site2 (by omega)
 simp only [Value.slice.injEq] at a
 obtain ⟨rfl,rfl,rfl⟩:=a
 have p:=r i y d
 obtain ⟨t,o,m,a,_,_,_,_,s⟩:=p.site2 (by simp;omega)
 simp only [Value.slice.injEq,Option.some.injEq,Addr.mk.injEq,and_true] at a
 obtain ⟨⟨rfl,rfl⟩,_,rfl⟩:=a
 exact ⟨g,off,rfl,(b i x hi).1,(b i x hi).2,(b j y hj).1,(b j y hj).2,q,A5 (s j x (by simpa using f))⟩
end Go.Proofs.YtbkbkmgogbgofaaGreatDoor
namespace Go.Proofs.YtbkbkmgogbgofaaGreatDoor
set_option maxRecDepth 100000
set_option maxHeartbeats 6400000
open Go.RowKit
attribute [local go_sem] Oper.semAt_some
theorem X24 (v:Value) (w:World) (hv:∃a n c,v= .slice a n c):
  Calls Tryz.prog 164 #[v] w fun e w'=>e= .returned (.func (.func 184) #[] #[.pointer (some ⟨w.heap.size,0,none⟩)])∧w'=w.alloc (.cells #[v] 195):=by
 obtain ⟨a,n,c,rfl⟩:=hv
 go_enter Tryz.func164,Tryz.ntmps164
 go_wp2
 go_ret
 exact ⟨rfl,rfl⟩
theorem X4e (F:Fence) (n:Nat) (hf:F.fn 184) (hro:F.round=none) (hn:1≤n) (l C B m:Nat) (vals:Nat→Value) (hm:m≤15) (hvals:∀t,∃a k c,vals t= .slice a k c)
  (J:Nat→World→Prop) (hJ:∀k W,J k W→W.cell? ⟨C,0,none⟩=some (.slice (some ⟨B,0,none⟩) m m)∧∀t,t < m→W.cell? ⟨B,t,none⟩=some (vals t))
  (hY:∀k W,k < m→J k W→YieldAt F (n-1) Tryz.prog l #[.int .i64 ((m-1-k:Nat):Int),vals (m-1-k)] W fun e W'=>e= .returned (.bool true)∧J (k+1) W')
  (W:World) (h0:J 0 W):
  CallsIn F n Tryz.prog 184 #[.func (.yield l) #[] #[],.pointer (some ⟨C,0,none⟩)] W fun e W'=>(∃v,e= .returned v)∧J m W':=by
 have hC:=(hJ 0 W h0).1
 have z:(0:Int)≤(m:Int):=T00 _
 refine callsIn_of_wp Tryz.func184 rfl hf ?_ hro
 simp only [Tryz.ntmps184,List.size_toArray,T0e,List.length_nil,Nat.reduceAdd,Nat.reduceSub,Array.replicate_succ,Array.replicate_zero,List.push_toArray,List.append_toArray,T0n,T05]
 gi_wp2
 gi_loopg [3] (m+1) (fun g p wr=>∃ (k:Nat),k≤m∧m-k < g∧p= .int .i64 ((m:Int)-1- (k:Int))∧Hid (J k wr))
 case atStart=>exact ⟨0,by omega,by omega,by simp,h0⟩
 case round=>
  obtain ⟨k,hk,hg,rfl,d⟩:=hrel
  by_cases o:k < m
  ·have c0:=(hJ k wr d.out).1
   obtain ⟨q,r⟩:∃q,q=m-1-k:=⟨_,rfl⟩
   have i:q < m:=by omega
   have a0:(m:Int)-1- (k:Int)=(q:Int):=by omega
   have a1:(0:Int)≤(q:Int):=T00 _
   have c1:=(hJ k wr d.out).2 q i
   obtain ⟨va,vk,vc,s⟩:=hvals q
   rw [s] at c1
   obtain ⟨fn,x,f,y,hy,hR⟩:=hY k wr o d.out
   rw [←r,s] at hy
   have HQ:=A5 r
   clear r
   gi_wp2
   refine hR.mono ?_
   rintro e W3 ⟨rfl,b⟩
   have j:=A5 b
   clear b
   gi_wp2
   gi_roundg (gk-1)
   case measure=>omega
   case rel=>exact ⟨k+1,by omega,by omega,by go_num,j⟩
  obtain rfl:k=m:=by omega
  have a3:(k:Int)-1- (k:Int)= -1:=by omega
  gi_wp2
  go_end0
  exact ⟨⟨_,rfl⟩,d⟩
end Go.Proofs.YtbkbkmgogbgofaaGreatDoor
namespace Go.Proofs.YtbkbkmgogbgofaaGreatDoor
set_option maxRecDepth 100000
set_option maxHeartbeats 6400000
open Go.RowKit
theorem U1 {w0 w:World} {v:Value} {l:List G9} {Rs:List A6} (h:A4 w0 w (J5 v l::Rs)):∃ao cap,v= .slice ao l.length cap∧l.length≤cap∧cap≤maxLen:=h.own.form
theorem Z5k (a b n N:Nat) (P U M V S:List G9) (v c:Value) (w0 w:World) (Rs:List A6) (h:A4 w0 w (J5 v (P++(U++(M++(V++S))))::Rs)) (hN:(P++(U++(M++(V++S)))).length=N) (hN2:N≤100000)
  (ha:P.length=a) (hb:(P++(U++M)).length=b) (hU:U.length=n) (hV:V.length=n):
  Calls Tryz.prog 202 #[v,.int .i64 (a:Int),.int .i64 (b:Int),.int .i64 (n:Int),c] w fun e w'=>e= .returned (.tuple #[])∧A4 w0 w' (J5 v (P++(V++(M++(U++S))))::Rs):=by
 have h0:(0:Int)≤(a:Int):=T00 _
 have h1:(0:Int)≤(b:Int):=T00 _
 have h2:(0:Int)≤(n:Int):=T00 _
 have HL:Hid (P.length=a∧(P++(U++M)).length=b∧U.length=n∧V.length=n∧(P++(U++(M++(V++S)))).length=N):=A5 ⟨ha,hb,hU,hV,hN⟩
 have b4:b+n≤N:=by simp at hN hb;omega
 have b5:a+n≤b:=by simp at hb;omega
 obtain ⟨ao,a5,rfl,a6,c0⟩:=U1 h
 rw [hN] at a6 h⊢
 have H:=A5 h
 clear h hN ha hb hU hV
 go_enter Tryz.func202,Tryz.ntmps202
 go_wp2
 go_loopg [10] (n+1) (fun k t10 wr=>∃ (i:Nat) (l d f m:List G9),i≤n∧n-i < k∧t10= .int .i64 (i:Int)∧Hid (U=l++d∧V=f++m∧l.length=i∧f.length=i)∧
  Hid (A4 w0 wr (J5 (.slice ao N a5) (P++(f++(d++(M++(l++(m++S))))))::Rs)))
 case atStart=>exact ⟨0,[],U,[],V,by omega,by omega,rfl,A5 ⟨rfl,rfl,rfl,rfl⟩,H⟩
 case round=>
  obtain ⟨i,l,d,f,m,hi,hk,rfl,HE,HH⟩:=hrel
  have h3:(0:Int)≤(i:Int):=T00 _
  by_cases b8:i < n
  rotate_left
  ·have s:¬(i:Int) < (n:Int):=by omega
   obtain rfl:i=n:=by omega
   have HF:Hid (P++(f++(d++(M++(l++(m++S)))))=P++(V++(M++(U++S)))):=by
    obtain ⟨o,p,e3,e4⟩:=HE.out
    obtain ⟨l1,l2,r,z,l5⟩:=HL.out
    have h1:d=[]:=T0l (by rw [o,T0i] at r;omega)
    have h2:m=[]:=T0l (by rw [p,T0i] at z;omega)
    subst h1;subst h2
    rw [o,p];exact A5 (by simp)
   go_wp2
   go_end0
   exact ⟨rfl,by have h:=HH.out;rw [HF.out] at h;exact h⟩
  have s:(i:Int) < (n:Int):=by omega
  obtain ⟨o,p,e3,e4⟩:=HE.out
  obtain ⟨l1,l2,r,z,l5⟩:=HL.out
  match d,m,o,p with
  | [],_,o,_=>exfalso;rw [o] at r;simp at r;omega
  | _::_,[],_,p=>exfalso;rw [p] at z;simp at z;omega
  | x::d,y::m,o,p=>
   have q:Hid ((P++f).length=a+i∧(P++f).length+1+(d++(M++l)).length=b+i):=by
    refine A5 ⟨by simp;omega, ?_⟩
    rw [o] at r l2
    simp at l2 r⊢;omega
   have a3:Hid (P++(f++(x::d++(M++(l++(y::m++S)))))=(P++f)++x::(d++(M++l))++y::(m++S)):=A5 (by simp)
   have hh:=HH.out
   rw [a3.out] at hh
   have t:(P++f++x::(d++(M++l))++y::(m++S))[b+i]?=some y:=by
    rw [←q.out.2,T0d (by simp;omega),show (P++f).length+1+(d++(M++l)).length- (P++f++x::(d++(M++l))).length=0 by simp;omega];rfl
   obtain ⟨g,c5,rfl,c1,c2,c3,c4,hf,HS⟩:=hh.swap2 (i:=a+i) (j:=b+i) (x:=x) (y:=y) (by rw [←q.out.1];simp) t
   have HJ:Hid (swp (P++f++x::(d++(M++l))++y::(m++S)) (a+i) (b+i) x y=P++((f++[y])++(d++(M++((l++[x])++(m++S)))))):=by
    have h:=W8e (P++f) (d++(M++l)) (m++S) x y
    rw [q.out.2,q.out.1] at h
    refine A5 (h.trans (by simp))
   clear hh o p e3 e4 l1 l2 r z l5 t
   go_wp2
   go_region
   go_wp2
   go_roundg (gk-1)
   case measure=>omega
   case rel=>
    refine ⟨i+1,l++[x],d,f++[y],m,by omega,by omega,by go_num, ?_, ?_⟩
    ·obtain ⟨o,p,e3,e4⟩:=HE.out
     exact A5 ⟨by rw [o];simp,by rw [p];simp,by simp [e3],by simp [e4]⟩
    have h:=HS.out.drew
    rw [HJ.out] at h
    exact h
theorem X8i (a m b N:Nat) (P X Y S:List G9) (v c:Value) (w0 w:World) (Rs:List A6) (h:A4 w0 w (J5 v (P++(X++(Y++S)))::Rs)) (hN:(P++(X++(Y++S))).length=N) (hN2:N≤100000)
  (ha:P.length=a) (hm:(P++X).length=m) (hb:(P++(X++Y)).length=b) (hX:0 < X.length) (hY:0 < Y.length):
  Calls Tryz.prog 201 #[v,.int .i64 (a:Int),.int .i64 (m:Int),.int .i64 (b:Int),c] w fun e w'=>e= .returned (.tuple #[])∧A4 w0 w' (J5 v (P++(Y++(X++S)))::Rs):=by
 have h0:(0:Int)≤(a:Int):=T00 _
 have h1:(0:Int)≤(b:Int):=T00 _
 have h2:(0:Int)≤(m:Int):=T00 _
 obtain ⟨i0,a6⟩:∃i,i=X.length:=⟨_,rfl⟩
 obtain ⟨j0,a7⟩:∃j,j=Y.length:=⟨_,rfl⟩
 have e1:(m:Int)- (a:Int)=(i0:Int):=by simp at hm;omega
 have e2:(b:Int)- (m:Int)=(j0:Int):=by simp at hm hb;omega
 have b4:m≤N:=by simp at hm hN;omega
 have b5:b≤N:=by simp at hb hN;omega
 have b6:i0+j0≤N:=by simp at hN;omega
 have HL:Hid ((P++X).length=m∧(P++(X++(Y++S))).length=N∧X.length=i0∧Y.length=j0):=A5 ⟨hm,hN,a6.symm,a7.symm⟩
 have H:=A5 h
 have b7:0 < i0:=by omega
 have b8:0 < j0:=by omega
 clear h hN ha hm hb hX hY a6 a7
 have b9:=A5 e1
 have c0:=A5 e2
 go_enter Tryz.func201,Tryz.ntmps201
 go_wp2
 clear e1 e2
 go_loopg [10,11] (i0+j0+1) (fun k t10 t11 wr=>∃ (i j:Nat) (d U V f:List G9),i+j < k∧t10= .int .i64 (i:Int)∧t11= .int .i64 (j:Int)∧0 < i∧0 < j∧i≤N∧j≤N∧m+j≤N∧i≤m∧
  Hid (U.length=i∧V.length=j∧(d++U).length=m∧(d++(U++(V++f))).length=N∧d++(V++(U++f))=P++(Y++(X++S)))∧
  Hid (A4 w0 wr (J5 v (d++(U++(V++f)))::Rs)))
 case atStart=>
  refine ⟨i0,j0,P,X,Y,S,by omega,by go_num,by go_num,by omega,by omega,by omega,by omega, ?_, ?_,A5 ⟨HL.out.2.2.1,HL.out.2.2.2,HL.out.1,HL.out.2.1,rfl⟩,H⟩
  ·have:=HL.out;simp at this;omega
  have:=HL.out;simp at this;omega
 case round=>
  obtain ⟨i,j,d,U,V,f,hk,rfl,rfl,hi,hj,hiN,c4,c5,c6,HE,HH⟩:=hrel
  have h3:(0:Int)≤(i:Int):=T00 _
  have h4:(0:Int)≤(j:Int):=T00 _
  have em:(m:Int)- (i:Int)=((m-i:Nat):Int):=by omega
  rcases Nat.lt_trichotomy i j with hij | hij | hij
  ·have d1:¬(i:Int)=(j:Int):=by omega
   have d2:¬(j:Int) < (i:Int):=by omega
   have ej:(m:Int)+(j:Int)- (i:Int)=((m+j-i:Nat):Int):=by omega
   obtain ⟨z,l2,g,r,x⟩:=HE.out
   obtain ⟨y,t,rfl,l,n⟩:∃y t,V=y++t∧y.length=j-i∧t.length=i:=⟨V.take (j-i),V.drop (j-i),(T07 _ _).symm,by simp;omega,by simp;omega⟩
   have HR:=A5 (Z5k (m-i) (m+j-i) i N d U y t f v c w0 wr Rs (by have h:=HH.out;simpa using h) (by rw [←r];simp) hN2 (by simp at g;omega) (by simp at g⊢;omega) z n)
   have HG:Hid (t.length=i∧y.length=j-i∧(d++t).length=m∧(d++(t++(y++(U++f)))).length=N∧d++(y++(t++(U++f)))=P++(Y++(X++S))):=by
    refine A5 ⟨n,l,by simp at g⊢;omega, ?_,by rw [←x];simp⟩
    simp at r⊢;omega
   clear z l2 g r x l n
   go_wp2_with fail
   refine HR.out.mono ?_
   rintro e w1 ⟨rfl,q⟩
   have o:=A5 q
   clear q
   have ed:(j:Int)- (i:Int)=((j-i:Nat):Int):=by omega
   go_wp2
   go_roundg (gk-1)
   case measure=>omega
   case rel=>exact ⟨i,j-i,d,t,y,U++f,by omega,rfl,by go_num,by omega,by omega,by omega,by omega,by omega,by omega,HG,o⟩
  ·subst hij
   obtain ⟨z,l2,g,r,x⟩:=HE.out
   have HR:=A5 (Z5k (m-i) m i N d U [] V f v c w0 wr Rs (by have h:=HH.out;simpa using h) (by rw [←r];simp) hN2 (by simp at g;omega) (by simp at g⊢;omega) z l2)
   have HG:Hid (d++(V++([]++(U++f)))=P++(Y++(X++S))):=A5 (by rw [←x];simp)
   clear z l2 g r x
   go_wp2_with fail
   refine HR.out.mono ?_
   rintro e w1 ⟨rfl,q⟩
   rw [HG.out] at q
   have o:=A5 q
   clear q
   go_wp2
   go_end0
   exact ⟨rfl,o⟩
  have d1:¬(i:Int)=(j:Int):=by omega
  have d2:(j:Int) < (i:Int):=by omega
  obtain ⟨z,l2,g,r,x⟩:=HE.out
  obtain ⟨s,p,rfl,l,n⟩:∃s p,U=s++p∧s.length=j∧p.length=i-j:=⟨U.take j,U.drop j,(T07 _ _).symm,by simp;omega,by simp;omega⟩
  have HR:=A5 (Z5k (m-i) m j N d s p V f v c w0 wr Rs (by have h:=HH.out;simpa using h) (by rw [←r];simp) hN2 (by simp at g;omega) (by simp at g⊢;omega) l l2)
  have HG:Hid (p.length=i-j∧s.length=j∧((d++V)++p).length=m∧((d++V)++(p++(s++f))).length=N∧(d++V)++(s++(p++f))=P++(Y++(X++S))):=by
   refine A5 ⟨n,l,by simp at g⊢;omega, ?_,by rw [←x];simp⟩
   simp at r⊢;omega
  have a8:Hid (d++(V++(p++(s++f)))=(d++V)++(p++(s++f))):=A5 (by simp)
  clear z l2 g r x l n
  go_wp2_with fail
  refine HR.out.mono ?_
  rintro e w1 ⟨rfl,q⟩
  rw [a8.out] at q
  have o:=A5 q
  clear q
  have ed:(i:Int)- (j:Int)=((i-j:Nat):Int):=by omega
  go_wp2
  go_roundg (gk-1)
  case measure=>omega
  case rel=>exact ⟨i-j,j,d++V,p,s,f,by omega,by go_num,rfl,by omega,by omega,by omega,by omega,by omega,by omega,HG,o⟩
theorem X73 (A C:List G9) (x y:G9):swp (A++y::x::C) (A.length+1) A.length x y=A++x::y::C:=by
 unfold swp
 rw [T0b _ _ (by omega),show A.length+1-A.length=1 by omega,T0o,T09,T0b _ _ (T0g _),T0c,T09]
theorem Y5g (a b:Nat):decide (Y4o a b < 0)=decide (a < b):=by
 unfold Y4o
 by_cases d:a < b
 ·simp [d]
 by_cases f:b < a
 ·simp [d,f]
 simp [d,f]
theorem X5r (Z1 s1 s2:List G9) (x:G9) (h:I4 Z1=s1++s2) (h2:∀y∈s2,x.1 < y.1) (h1:∀y∈s1,y.1≤x.1):I4 (Z1++[x])=s1++x::s2:=by
 rw [Y34,h]
 have a:=Z0z Z1
 rw [h] at a
 exact Z98 x s1 s2 a h1 h2
theorem V1p (s3:List G9) (y x:G9) (h:Asc (s3++[y])) (hx:y.1≤x.1):∀z∈s3++[y],z.1≤x.1:=by
 intro z a
 rcases List.mem_append.1 a with a | a
 ·have:=((Z1k s3 [y]).1 h).2.2 z a y (by simp);omega
 rw [List.mem_singleton.1 a];exact hx
def Y0r:Value:= .func (.func 187) #[] #[]
theorem Z92 (a b N:Nat) (P Z S:List G9) (v:Value) (w0 w:World) (Rs:List A6) (h:A4 w0 w (J5 v (P++(Z++S))::Rs)) (hN:(P++(Z++S)).length=N) (hN2:N≤100000)
  (ha:P.length=a) (hb:(P++Z).length=b):
  Calls Tryz.prog 199 #[v,.int .i64 (a:Int),.int .i64 (b:Int),Y0r] w fun e w'=>e= .returned (.tuple #[])∧A4 w0 w' (J5 v (P++(I4 Z++S))::Rs):=by
 unfold Y0r
 have h0:(0:Int)≤(a:Int):=T00 _
 have h1:(0:Int)≤(b:Int):=T00 _
 have e9:a≤b:=by simp at hb;omega
 have f0:b≤N:=by simp at hb hN;omega
 have hZ:Z.length=b-a:=by simp at hb;omega
 obtain ⟨ao,b3,rfl,c7,f8⟩:=U1 h
 rw [hN] at c7 h⊢
 have HL:Hid (P.length=a∧Z.length=b-a∧(P++(Z++S)).length=N):=A5 ⟨ha,hZ,hN⟩
 have H:=A5 h
 clear h hN ha hb hZ
 go_enter Tryz.func199,Tryz.ntmps199
 go_wp2
 go_loopg [8] (N+3) (fun k t8 wr=>∃ (i:Nat) (l s:List G9),i≤N+1∧N+2-i < k∧t8= .int .i64 (i:Int)∧Hid (Z=l++s∧a+l.length=min i b∧a < i)∧
  Hid (A4 w0 wr (J5 (.slice ao N b3) (P++(I4 l++(s++S)))::Rs)))
 case atStart=>
  cases hz:Z with
  | nil=>
   refine ⟨a+1,[],[],by omega,by omega,by go_num,A5 ⟨rfl, ?_,by omega⟩, ?_⟩
   ·have:=HL.out.2.1;rw [hz] at this;simp at this⊢;omega
   have h:=H.out;rw [hz] at h;exact h
  | cons z Z'=>
   refine ⟨a+1,[z],Z', ?_,by omega,by go_num,A5 ⟨rfl, ?_,by omega⟩, ?_⟩
   ·omega
   ·have:=HL.out.2.1;rw [hz] at this;simp at this⊢;omega
   have h:=H.out;rw [hz] at h;exact h
 case round=>
  obtain ⟨i,l,s,hi,hk,rfl,HE,HH⟩:=hrel
  obtain ⟨gx,rfl⟩:∃g,g=gk:=⟨gk,rfl⟩
  have h3:(0:Int)≤(i:Int):=T00 _
  by_cases f6:i < b
  rotate_left
  ·have a6:¬(i:Int) < (b:Int):=by omega
   have HD:Hid (P++(I4 l++(s++S))=P++(I4 Z++S)):=by
    obtain ⟨t,e2,e3⟩:=HE.out
    have h2:s=[]:=T0l (by have:=HL.out.2.1;rw [t,T0i] at this;omega)
    rw [h2,T0h] at t
    rw [t,h2];exact A5 rfl
   go_wp2
   go_end0
   exact ⟨rfl,by have h:=HH.out;rw [HD.out] at h;exact h⟩
  have a6:(i:Int) < (b:Int):=by omega
  obtain ⟨t,e2,e3⟩:=HE.out
  have a7:s≠[]:=by
   intro e
   rw [e,T0h] at t
   have:=HL.out.2.1
   rw [t] at this;omega
  obtain ⟨x,o,rfl⟩:∃x o,s=x::o:=by
   cases s with
   | nil=>exact absurd rfl a7
   | cons x o=>exact ⟨x,o,rfl⟩
  have HZ:Hid (Z=l++(x::o)∧a+l.length=i∧a < i):=A5 ⟨t,by omega,e3⟩
  clear t e2 e3 a7 HE
  go_wp2
  go_loopg [9] (i+1) (fun k t9 wq=>∃ (j:Nat) (p n:List G9),a≤j∧j≤i∧j < k∧t9= .int .i64 (j:Int)∧Hid (I4 l=p++n∧a+p.length=j∧∀y∈n,x.1 < y.1)∧
   Hid (A4 w0 wq (J5 (.slice ao N b3) (P++(p++(x::n++(o++S))))::Rs)))
  case atStart=>
   refine ⟨i,I4 l,[], ?_,by omega,by omega,rfl,A5 ⟨by simp, ?_,by simp⟩, ?_⟩
   ·have:=HZ.out.2.2;omega
   ·rw [J1];exact HZ.out.2.1
   have h:=HH.out;exact A5 (by simpa using h)
  case round=>
   obtain ⟨j,p,n,f9,g0,g1,rfl,HF,HJ⟩:=hrel
   have h4:(0:Int)≤(j:Int):=T00 _
   by_cases c5:j=a
   ·subst c5
    have b8:decide ((j:Int) < (j:Int))=false:=by simp
    have HD:Hid (I4 (l++[x])=p++x::n):=by
     obtain ⟨f1,f2,f3⟩:=HF.out
     obtain rfl:p=[]:=T0l (by omega)
     exact A5 (X5r l [] n x f1 f3 (by simp))
    go_wp2
    go_quiet (fail)
    have a9:=A5 (HJ.out.drewN nq)
    generalize wr.drewN nq=w3 at a9⊢
    go_wp2
    go_roundg (gx-1)
    case measure=>omega
    case rel=>
     refine ⟨i+1,l++[x],o,by omega,by omega,by go_num,A5 ⟨by rw [HZ.out.1];simp, ?_,by omega⟩, ?_⟩
     ·have:=HZ.out.2.1;simp;omega
     rw [HD.out];have h:=a9.out;exact A5 (by simpa using h)
   have d3:(a:Int) < (j:Int):=by omega
   have b8:decide ((a:Int) < (j:Int))=true:=by simp;omega
   obtain ⟨f1,f2,f3⟩:=HF.out
   obtain ⟨f,y,rfl⟩:∃f y,p=f++[y]:=by
    have:p≠[]:=fun e=>by rw [e] at f2;simp at f2;omega
    exact ⟨p.dropLast,p.getLast this,(List.dropLast_concat_getLast this).symm⟩
   have r:Hid (P++((f++[y])++(x::n++(o++S)))=(P++f)++y::x::(n++(o++S))∧(P++f).length+1=j):=by
    refine A5 ⟨by simp, ?_⟩
    have:=HL.out.1
    simp at f2⊢;omega
   have hh:=HJ.out
   rw [r.out.1] at hh
   obtain ⟨m,b4⟩:∃m,m=j-1:=⟨_,rfl⟩
   have ej:(j:Int)-1=(m:Int):=by omega
   have d4:(0:Int)≤(m:Int):=T00 _
   have f4:j < N:=by omega
   have d5:m < N:=by omega
   have f5:IntKind.i64.wrap (m:Int)=(m:Int):=Z25 m (by omega)
   have d:=A5 b4
   clear b4
   obtain ⟨g,g2,rfl,c1,c2,c3,c4,hf,HS⟩:=hh.swap2 (i:=j) (j:=m) (x:=x) (y:=y) (by rw [←r.out.2,T0d (by omega),show (P++f).length+1- (P++f).length=1 by omega];rfl) (by rw [show m=(P++f).length by have:=r.out.2;have:=d.out;omega,T0d (by omega),T0c];rfl)
   have b0:=A5 hh
   clear hh f1 f2 f3 HS
   have b1:decide (Y4o (x.1:Int) (y.1:Int) < 0)=decide (x.1 < y.1):=Y5g _ _
   go_wp2
   go_still_tail 14,(by kernel_rfl)
   change wpList _ _ _ _ _ wr.drew
   have q:=A5 b0.out.drew
   clear c1 c2 c3 c4 hf b0 HJ HH
   generalize wr.drew=w2 at q⊢
   go_wp2_with fail
   refine (Y52 x y _).mono ?_
   rintro e w3 ⟨rfl,hm⟩
   obtain ⟨g',e8,b5,c1,c2,c3,c4,hf,HS⟩:=(q.out.same hm).swap2 (i:=j) (j:=m) (x:=x) (y:=y) (by rw [←r.out.2,T0d (by omega),show (P++f).length+1- (P++f).length=1 by omega];rfl) (by rw [show m=(P++f).length by have:=r.out.2;have:=d.out;omega,T0d (by omega),T0c];rfl)
   simp only [Option.some.injEq,Addr.mk.injEq,and_true] at b5
   obtain ⟨rfl,rfl⟩:=b5
   have b9:=A5 (q.out.same hm)
   clear hm q
   by_cases a2:x.1 < y.1
   ·have hd:decide (x.1 < y.1)=true:=by simp [a2]
    rw [hd] at b1
    have HE:Hid (swp (P++f++y::x::(n++(o++S))) j m x y=P++(f++(x::(y::n)++(o++S)))):=by
     have h:=X73 (P++f) (n++(o++S)) x y
     rw [r.out.2,show (P++f).length=m by have:=r.out.2;have:=d.out;omega] at h
     exact A5 (h.trans (by simp))
    go_wp2
    go_region
    go_wp2
    go_roundg (gk-1)
    case measure=>have:=d.out;omega
    case rel=>
     refine ⟨m,f,y::n,by omega,by omega,by have:=d.out;omega,rfl, ?_, ?_⟩
     ·obtain ⟨f1,f2,f3⟩:=HF.out
      refine A5 ⟨by rw [f1];simp,by have:=d.out;simp at f2;omega,fun z hz=> ?_⟩
      rcases List.mem_cons.1 hz with hz | hz
      ·rw [hz];exact a2
      exact f3 z hz
     have h:=HS.out.drew
     rw [HE.out] at h
     exact A5 h
   have hd:decide (x.1 < y.1)=false:=by simp [a2]
   rw [hd] at b1
   have HD:Hid (I4 (l++[x])=(f++[y])++x::n):=by
    obtain ⟨f1,f2,f3⟩:=HF.out
    have ha:=Z0z l
    rw [f1] at ha
    exact A5 (X5r l (f++[y]) n x f1 f3 (V1p f y x ((Z1k _ _).1 ha).1 (by omega)))
   go_wp2
   go_roundg (gx-1)
   case measure=>omega
   case rel=>
    refine ⟨i+1,l++[x],o,by omega,by omega,by go_num,A5 ⟨by rw [HZ.out.1];simp, ?_,by omega⟩, ?_⟩
    ·have:=HZ.out.2.1;simp;omega
    rw [HD.out];have h:=b9.out;rw [←r.out.1] at h;exact A5 (by simpa using h)
end Go.Proofs.YtbkbkmgogbgofaaGreatDoor
