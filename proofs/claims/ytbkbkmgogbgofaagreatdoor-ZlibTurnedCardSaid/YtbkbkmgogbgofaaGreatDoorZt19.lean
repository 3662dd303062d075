/- The claim's texts, put together and shortened by a program (names, spaces). -/
import Derived.Test.YtbkbkmgogbgofaaGreatDoorZt03
import Derived.Test.YtbkbkmgogbgofaaGreatDoorZt18
open List renaming replicate→T00,length_take→T01,length_append→T02,length_replicate→T03,length_drop→T04,take_append_of_le_length→T06,length_cons→T08,append_assoc→T09,drop_append_of_le_length→T0a,getElem?_append_left→T0b,getElem?_take→T0c,length_nil→T0d,getElem?_eq_getElem→T0e,drop_replicate→T0f,getElem?_drop→T0h,take_add_one→T0i,take_replicate→T0k,replicate_succ→T0l,getElem?_replicate→T0m,mem_of_mem_take→T0n,mem_of_mem_drop→T0o,take_of_length_le→T0p
open Nat renaming le_refl→T05,lt_trichotomy→T0g
open Int renaming toNat_natCast→T0j
open Option renaming filter→T07
namespace Go.Proofs.YtbkbkmgogbgofaaGreatDoor
set_option maxRecDepth 100000
set_option maxHeartbeats 6400000
open Go.RowKit
def at3 (x:List Nat) (i:Nat):List Nat:=(x.drop i).take 3
def W7 (x s:List Nat):Nat→Option Nat
 | 0=>none
 | k+1=>if at3 x k=s then some k else W7 x s k
theorem Y7 {x s:List Nat}:∀ {n k:Nat},W7 x s n=some k→k < n∧at3 x k=s∧∀j,k < j→j < n→at3 x j≠s
 | 0,k,h=>by simp [W7] at h
 | n+1,k,h=>by
  unfold W7 at h
  split at h <;> rename_i c
  ·injection h with h;subst h
   exact ⟨by omega,c,fun j h1 h2=>by omega⟩
  obtain ⟨h1,h2,h3⟩:=Y7 h
  refine ⟨by omega,h2,fun j hj1 hj2=> ?_⟩
  by_cases e:j=n
  ·subst e;exact c
  exact h3 j hj1 (by omega)
theorem Z7t {x s:List Nat}:∀ {n:Nat},W7 x s n=none→∀j,j < n→at3 x j≠s
 | 0,_,j,hj=>by omega
 | n+1,h,j,hj=>by
  unfold W7 at h
  split at h <;> rename_i c
  ·simp at h
  by_cases e:j=n
  ·subst e;exact c
  exact Z7t h j (by omega)
theorem Y9s {x s:List Nat} {n k:Nat} (h1:k < n) (h2:at3 x k=s) (h3:∀j,k < j→j < n→at3 x j≠s):W7 x s n=some k:=by
 cases e:W7 x s n with
 | none=>exact absurd h2 (Z7t e k h1)
 | some j=>
  obtain ⟨a,b,c⟩:=Y7 e
  rcases T0g j k with h | h | h
  ·exact absurd h2 (c k h h1)
  ·rw [h]
  exact absurd b (h3 j h a)
theorem W28 (x y:List Nat) (i:Nat) (h:i+3≤x.length):at3 (x++y) i=at3 x i:=by
 unfold at3
 rw [T0a (by omega),T06 (by rw [T04];omega)]
theorem Z68 (x y s:List Nat):∀n,n=0∨n+2≤x.length→W7 (x++y) s n=W7 x s n
 | 0,_=>rfl
 | n+1,h=>by
  unfold W7
  rw [W28 x y n (by omega),Z68 x y s n (by omega)]
def reach (W d:Nat):Nat:=if W < d then 0 else d
theorem W7t (W d:Nat):reach W d≤W∧reach W d≤d:=by unfold reach;split <;> omega
theorem X14 {W d:Nat} (h:0 < reach W d):reach W d=d∧d≤W:=by unfold reach at h⊢;split at h <;> simp_all <;> omega
def Z2e (W:Nat) (x:List Nat) (i:Nat):Nat:=match W7 x (at3 x i) i with
 | none=>0
 | some k=>reach W (i-k)
def far (W:Nat) (x:List Nat) (i d:Nat):Nat:=if Z2e W x (i-d)=0 then 0 else reach W (d+Z2e W x (i-d))
theorem Z8l (W:Nat) (x:List Nat) (i:Nat):Z2e W x i≤W∧Z2e W x i≤i:=by
 unfold Z2e
 split
 ·omega
 have:=W7t W (i- ‹Nat›);omega
theorem Y3c {W:Nat} {x:List Nat} {i:Nat} (h:0 < Z2e W x i):at3 x (i-Z2e W x i)=at3 x i:=by
 unfold Z2e at h⊢
 split at h
 ·omega
 rename_i k e
 obtain ⟨b,a,_⟩:=Y7 e
 rw [(X14 h).1,show i- (i-k)=k by omega,a]
theorem X4i {W:Nat} {x:List Nat} {i d:Nat} (hd:d≤i) (hs:at3 x (i-d)=at3 x i) (h:0 < far W x i d):far W x i d≤i∧far W x i d≤W∧at3 x (i-far W x i d)=at3 x i:=by
 unfold far at h⊢
 split at h
 ·omega
 rename_i c
 rw [if_neg c]
 have a:=X14 h
 have b:=Z8l W x (i-d)
 rw [a.1]
 refine ⟨by omega,a.2, ?_⟩
 rw [show i- (d+Z2e W x (i-d))=i-d-Z2e W x (i-d) by omega,Y3c (by omega),hs]
theorem Y8d (W:Nat) (x y:List Nat) (i:Nat) (h:i+3≤x.length):Z2e W (x++y) i=Z2e W x i:=by
 unfold Z2e
 rw [W28 x y i h,Z68 x y _ i (by omega)]
theorem V3m (W:Nat) (x y:List Nat) (i d:Nat) (h:i+3≤x.length):far W (x++y) i d=far W x i d:=by
 unfold far
 rw [Y8d W x y (i-d) (by omega)]
def P3 (x:List Nat) (a P:Nat) (s:List Nat):Option Nat:=(W7 x s P).filter fun k=>decide (a≤k)
def O6 (W:Nat) (x:List Nat) (a:Nat) (s:List Nat):Option Nat:=(W7 x s a).filter fun k=>decide (a≤k+W)
def W8j (W:Nat) (x:List Nat) (a P:Nat):Nat:=match P3 x a P (at3 x P) with
 | some k=>reach W (P-k)
 | none=>match O6 W x a (at3 x P) with
  | some k=>reach W (P-k)
  | none=>0
theorem W49 (W:Nat) (x:List Nat) (a P:Nat) (ha:a≤P):W8j W x a P=Z2e W x P:=by
 unfold W8j Z2e P3 O6
 cases e:W7 x (at3 x P) P with
 | none=>
  have b:W7 x (at3 x P) a=none:=by
   cases e3:W7 x (at3 x P) a with
   | none=>rfl
   | some k=>
    obtain ⟨g,d,_⟩:=Y7 e3
    exact absurd d (Z7t e k (by omega))
  rw [b];rfl
 | some k=>
  obtain ⟨g,d,i⟩:=Y7 e
  by_cases c:a≤k
  ·simp [T07,c]
  have b:W7 x (at3 x P) a=some k:=Y9s (by omega) d fun j hj1 hj2=>i j hj1 (by omega)
  rw [b]
  by_cases f:a≤k+W
  ·simp [T07,c,f]
  simp [T07,c,f]
  unfold reach
  rw [if_pos (by omega)]
theorem W68 (x y:List Nat) (a P:Nat) (h:P=0∨P+2≤x.length):P3 (x++y) a P=P3 x a P:=by
 funext s;unfold P3;rw [Z68 x y s P h]
theorem W0a (W:Nat) (x y:List Nat) (a P:Nat) (h:P=0∨P+2≤x.length) (ha:a≤P):O6 W (x++y) a=O6 W x a:=by
 funext s;unfold O6;rw [Z68 x y s a (by omega)]
theorem Y3w (x:List Nat) (a P:Nat) (ha:a≤P):P3 x a (P+1)=fun s=>if s=at3 x P then some P else P3 x a P s:=by
 funext s
 unfold P3
 rw [W7]
 by_cases c:at3 x P=s
 ·rw [if_pos c,if_pos c.symm];simp [T07,ha]
 rw [if_neg c,if_neg (fun h=>c h.symm)]
theorem X0n (x:List Nat) (P:Nat):P3 x P P=fun _=>none:=by
 funext s
 unfold P3
 cases e:W7 x s P with
 | none=>rfl
 | some k=>
  have:=(Y7 e).1
  simp [T07];omega
theorem X8z (W:Nat) (x:List Nat) (a:Nat):O6 W x (a+W)=P3 x a (a+W):=by
 funext s
 unfold O6 P3
 congr 1
 funext k
 simp
theorem Y7p (x:List Nat):P3 x 0 0=fun _=>none:=X0n x 0
theorem Y3x (W:Nat) (x:List Nat):O6 W x 0=fun _=>none:=by funext s;rfl
def same:List Nat→List Nat→Nat
 | a::p,b::q=>if a=b then same p q+1 else 0
 | _,_=>0
theorem Z43:∀ (a b:List Nat),same a b≤a.length∧same a b≤b.length∧(∀n,n < same a b→a[n]?=b[n]?)∧(same a b < a.length→same a b < b.length→a[same a b]?≠b[same a b]?)
 | [],b=>by simp [same]
 | a::p,[]=>by simp [same]
 | a::p,b::q=>by
  unfold same
  split <;> rename_i c
  ·subst c
   obtain ⟨h1,h2,h3,h4⟩:=Z43 p q
   refine ⟨by simp;omega,by simp;omega,fun n hn=> ?_,fun k1 k2=> ?_⟩
   ·cases n with
    | zero=>rfl
    | succ n=>simpa using h3 n (by omega)
   simpa using h4 (by simpa using k1) (by simpa using k2)
  refine ⟨by simp,by simp,fun n hn=>by omega,fun _ _=>by simpa using c⟩
theorem X35 {a b:List Nat} {n:Nat} (h1:n≤a.length) (h2:n≤b.length) (h3:∀j,j < n→a[j]?=b[j]?) (h4:n < a.length→n < b.length→a[n]?≠b[n]?):same a b=n:=by
 obtain ⟨g,i,d,f⟩:=Z43 a b
 rcases T0g (same a b) n with h | h | h
 ·exact absurd (h3 _ h) (f (by omega) (by omega))
 ·exact h
 exact absurd (d n h) (h4 (by omega) (by omega))
theorem V1n (a y b:List Nat) (h:b.length≤a.length):same (a++y) b=same a b:=by
 obtain ⟨i,d,f,g⟩:=Z43 a b
 refine X35 (by rw [T02];omega) d (fun j hj=> ?_) (fun h1 h2=> ?_)
 ·rw [T0b (by omega)];exact f j hj
 rw [T0b (by omega)];exact g (by omega) h2
def Z4y (x:List Nat) (i:Nat) (r:List Nat) (d:Nat) (f:Nat×Nat):Nat×Nat:=
 if (x.drop (i-d))[f.1]?=r[f.1]? then (if f.1 < same (x.drop (i-d)) r then (same (x.drop (i-d)) r,d) else f) else f
def Y08 (W:Nat) (x:List Nat) (i:Nat) (r:List Nat) (en:Nat):Nat→Nat→Nat×Nat→Nat×Nat
 | 0,_,f=>f
 | n+1,d,f=>if 0 < d∧f.1 < min en r.length then Y08 W x i r en n (far W x i d) (Z4y x i r d f) else f
def S8 (L:Nat) (x:List Nat) (i:Nat):List Nat:=(x.drop i).take L
def best (W L:Nat) (x:List Nat) (tr en i:Nat):Nat×Nat:=
 if (S8 L x i).length < 3 then (0,0) else Y08 W x i (S8 L x i) en tr (Z2e W x i) (0,0)
theorem Z15 (L:Nat) (x:List Nat) (i:Nat):(S8 L x i).length=min L (x.length-i):=by simp [S8]
def W9m (W L:Nat) (x:List Nat) (i:Nat) (f:Nat×Nat):Prop:=
 f.1=0∨(3≤f.1∧f.1≤(S8 L x i).length∧1≤f.2∧f.2≤W∧f.2≤i∧∀n,n < f.1→x[i-f.2+n]?=x[i+n]?)
theorem X9y {W L:Nat} {x:List Nat} {i d:Nat} {f:Nat×Nat} (hL:3≤L) (hr:3≤(S8 L x i).length) (hd1:0 < d) (hd2:d≤W) (hd3:d≤i) (hs:at3 x (i-d)=at3 x i) (hf:W9m W L x i f):W9m W L x i (Z4y x i (S8 L x i) d f):=by
 unfold Z4y
 split
 ·split
  ·rename_i q r
   obtain ⟨s,j,k,o⟩:=Z43 (x.drop (i-d)) (S8 L x i)
   have b:=Z15 L x i
   have g:3≤same (x.drop (i-d)) (S8 L x i):=by
    refine Nat.le_of_not_lt fun hlt=> ?_
    refine o (by rw [T04];omega) (by omega) ?_
    obtain ⟨m,p⟩:∃m,m=same (x.drop (i-d)) (S8 L x i):=⟨_,rfl⟩
    rw [←p] at hlt⊢
    have e:=congrArg (fun l=>l[m]?) hs
    simp only [at3,T0c,if_pos hlt] at e
    rw [e,S8,T0c,if_pos (by omega)]
   refine .inr ⟨g,j,hd1,hd2,hd3,fun n hn=> ?_⟩
   have:=k n hn
   have a:n < L:=by simp only at hn;omega
   rw [S8,T0c,if_pos a,T0h,T0h] at this
   exact this
  exact hf
 exact hf
theorem X0u {W L:Nat} {x:List Nat} {i en:Nat} (hL:3≤L) (hr:3≤(S8 L x i).length):∀ (n d:Nat) (f:Nat×Nat),(0 < d→d≤W∧d≤i∧at3 x (i-d)=at3 x i)→W9m W L x i f→W9m W L x i (Y08 W x i (S8 L x i) en n d f)
 | 0,_,f,_,hf=>hf
 | n+1,d,f,hd,hf=>by
  unfold Y08
  split
  ·rename_i c
   obtain ⟨h1,h2,h3⟩:=hd c.1
   refine X0u hL hr n _ _ (fun hp=> ?_) (X9y hL hr c.1 h1 h2 h3 hf)
   obtain ⟨k1,k2,k3⟩:=X4i h2 h3 hp
   exact ⟨k2,k1,k3⟩
  exact hf
theorem X0e (W L:Nat) (x:List Nat) (tr en i:Nat) (hL:3≤L):W9m W L x i (best W L x tr en i):=by
 unfold best
 split
 ·exact .inl rfl
 rename_i c
 refine X0u hL (by omega) _ _ _ (fun hp=> ?_) (.inl rfl)
 have a:=Z8l W x i
 exact ⟨a.1,a.2,Y3c hp⟩
theorem X3v (W:Nat) (x y:List Nat) (i:Nat) (r:List Nat) (en:Nat) (hi:i+3≤x.length) (hr:r.length≤x.length-i):∀ (n d:Nat) (f:Nat×Nat),f.1≤r.length→Y08 W (x++y) i r en n d f=Y08 W x i r en n d f
 | 0,_,_,_=>rfl
 | n+1,d,f,hf=>by
  unfold Y08
  split
  ·rename_i c
   have e1:Z4y (x++y) i r d f=Z4y x i r d f:=by
    unfold Z4y
    rw [T0a (by omega),V1n _ _ _ (by rw [T04];omega),T0b (by rw [T04];omega)]
   rw [e1,V3m W x y i d hi]
   refine X3v W x y i r en hi hr n _ _ ?_
   unfold Z4y
   split
   ·split
    ·exact (Z43 (x.drop (i-d)) r).2.1
    exact hf
   exact hf
  rfl
theorem X46 (W L:Nat) (x y:List Nat) (tr en i:Nat) (hL:3≤L) (h:i+L≤x.length):best W L (x++y) tr en i=best W L x tr en i:=by
 have e:S8 L (x++y) i=S8 L x i:=by
  unfold S8
  rw [T0a (by omega),T06 (by rw [T04];omega)]
 have a:=Z15 L x i
 unfold best
 rw [e,Y8d W x y i (by omega)]
 split
 ·rfl
 exact X3v W x y i _ en (by omega) (by omega) _ _ _ (by simp)
def Y77 (x:List Nat) (i:Nat):E1:=(((x[i]?.getD 0:Nat):Int),0,0)
def K5 (W L:Nat) (x:List Nat) (tr en la i:Nat):E1:=
 if (best W L x tr en i).1=0∨((best W L x tr en i).1 < la∧(best W L x tr en i).1 < (best W L x tr en (i+1)).1) then Y77 x i
 else (0,((best W L x tr en i).1:Int),((best W L x tr en i).2:Int))
def adv (t:E1):Nat:=max t.2.1.toNat 1
def par (W L:Nat) (x:List Nat) (tr en la stay:Nat):Nat→Nat→List E1×Nat
 | 0,i=>([],i)
 | n+1,i=>if stay < x.length-i then (K5 W L x tr en la i::(par W L x tr en la stay n (i+adv (K5 W L x tr en la i))).1,(par W L x tr en la stay n (i+adv (K5 W L x tr en la i))).2) else ([],i)
section
variable {W L:Nat} {x:List Nat} {tr en la stay:Nat}
theorem Z1z (t:E1):1≤adv t:=by unfold adv;omega
theorem Z7e (hL:3≤L) (i:Nat) (hi:i < x.length):i+adv (K5 W L x tr en la i)≤x.length∧adv (K5 W L x tr en la i)≤max L 1∧
  (K5 W L x tr en la i=Y77 x i∨∃l d:Nat,K5 W L x tr en la i=(0,(l:Int),(d:Int))∧3≤l∧l≤L∧i+l≤x.length∧1≤d∧d≤W∧d≤i∧∀n,n < l→x[i-d+n]?=x[i+n]?):=by
 have a:=X0e W L x tr en i hL
 have b:=Z15 L x i
 unfold K5
 split <;> rename_i c
 ·exact ⟨by unfold adv Y77;simp;omega,by unfold adv Y77;simp;omega,.inl rfl⟩
 rcases a with a | ⟨h1,h2,h3,h4,h5,h6⟩
 ·exact absurd (Or.inl a) c
 exact ⟨by unfold adv;simp;omega,by unfold adv;simp;omega,.inr ⟨_,_,rfl,h1,by omega,by omega,h3,h4,h5,h6⟩⟩
theorem W2w (y:List Nat) (hL:3≤L) (i:Nat) (h:i+1+L≤x.length):K5 W L (x++y) tr en la i=K5 W L x tr en la i:=by
 unfold K5 Y77
 rw [X46 W L x y tr en i hL (by omega),X46 W L x y tr en (i+1) hL (by omega),T0b (by omega)]
theorem W79 (hL:3≤L):∀n i,i≤x.length→(par W L x tr en la stay n i).2≤x.length∧i≤(par W L x tr en la stay n i).2
 | 0,i,h=>⟨h,T05 _⟩
 | n+1,i,h=>by
  unfold par
  split
  ·have:=Z7e (W:=W) (x:=x) (tr:=tr) (en:=en) (la:=la) hL i (by omega)
   have h1:=W79 hL n _ this.1
   have h2:=Z1z (K5 W L x tr en la i)
   exact ⟨h1.1,by simp only;omega⟩
  exact ⟨h,T05 _⟩
theorem X5k:∀n i,x.length-i≤n→x.length- (par W L x tr en la stay n i).2≤stay
 | 0,i,h=>by show x.length-i≤stay;omega
 | n+1,i,h=>by
  unfold par
  split
  ·have h2:=Z1z (K5 W L x tr en la i)
   exact X5k n _ (by omega)
  show x.length-i≤stay;omega
theorem X7f:∀n m i,x.length-i≤n→x.length-i≤m→par W L x tr en la stay n i=par W L x tr en la stay m i
 | 0,0,i,_,_=>rfl
 | 0,m+1,i,h,_=>by unfold par;rw [if_neg (by omega)]
 | n+1,0,i,_,h=>by unfold par;rw [if_neg (by omega)]
 | n+1,m+1,i,h1,h2=>by
  have h3:=Z1z (K5 W L x tr en la i)
  unfold par
  split
  ·rw [X7f n m _ (by omega) (by omega)]
  rfl
def L9 (W L:Nat) (x:List Nat) (tr en la stay i:Nat):List E1×Nat:=par W L x tr en la stay (x.length-i) i
theorem Z3d (i:Nat) (h:stay < x.length-i):L9 W L x tr en la stay i=(K5 W L x tr en la i::(L9 W L x tr en la stay (i+adv (K5 W L x tr en la i))).1,(L9 W L x tr en la stay (i+adv (K5 W L x tr en la i))).2):=by
 obtain ⟨m,a⟩:∃m,x.length-i=m+1:=⟨x.length-i-1,by omega⟩
 have b:=Z1z (K5 W L x tr en la i)
 unfold L9
 rw [a,par,if_pos h,X7f m (x.length- (i+adv (K5 W L x tr en la i))) _ (by omega) (T05 _)]
theorem U0 (i:Nat) (h:¬stay < x.length-i):L9 W L x tr en la stay i=([],i):=by
 unfold L9
 cases e:x.length-i with
 | zero=>rfl
 | succ m=>rw [par,if_neg h]
theorem Y7a (y:List Nat) (hL:3≤L) (hs:L≤stay):∀n i,x.length-i≤n→(L9 W L x tr en la stay i).1++(L9 W L (x++y) tr en la 0 (L9 W L x tr en la stay i).2).1=(L9 W L (x++y) tr en la 0 i).1
 | 0,i,h=>by rw [U0 (stay:=stay) i (by omega)];rfl
 | n+1,i,h=>by
  by_cases c:stay < x.length-i
  ·have h3:=Z1z (K5 W L x tr en la i)
   have e:=W2w (W:=W) (L:=L) (x:=x) (tr:=tr) (en:=en) (la:=la) y hL i (by omega)
   have ih:=Y7a y hL hs n (i+adv (K5 W L x tr en la i)) (by omega)
   rw [Z3d (stay:=stay) i c,Z3d (x:=x++y) (stay:=0) i (by rw [T02];omega),e]
   simp only [List.cons_append]
   rw [ih]
  rw [U0 (stay:=stay) i c];rfl
theorem W6h {d:Nat} (i:Nat) (hd1:1≤d) (hd:d≤i):∀l,i+l≤x.length→(∀n,n < l→x[i-d+n]?=x[i+n]?)→ext (x.take i) d l=x.take (i+l)
 | 0,_,_=>rfl
 | l+1,hl,h=>by
  have ih:=W6h i hd1 hd l (by omega) fun n hn=>h n (by omega)
  have h1:=h l (by omega)
  rw [ext,ih,T01,show min i x.length+l-d=i-d+l by omega,T0c,if_pos (by omega),h1,←Nat.add_assoc,T0i]
  have:i+l < x.length:=by omega
  rw [T0e this];rfl
theorem X8g (hL:3≤L) (hL2:L=258) (hW:W=32768) (i:Nat) (hi:i < x.length) (hm:x.length≤most):M9 (x.take i) (K5 W L x tr en la i)=(0,x.take (i+adv (K5 W L x tr en la i))):=by
 obtain ⟨g,_,a⟩:=Z7e (W:=W) (tr:=tr) (en:=en) (la:=la) hL i hi
 have b:(x.take i).length=i:=by rw [T01];omega
 rcases a with a | ⟨l,d,a,h3,h4,h5,h6,h7,h8,h9⟩
 ·rw [a]
  rw [Y9u (by simp [E8,Y77]) rfl (by rw [b];omega)]
  show (0,x.take i++[((x[i]?.getD 0:Nat):Int).toNat])=(0,x.take (i+1))
  rw [T0i,T0e hi];simp
 rw [a]
 have f:E8 (0,(l:Int),(d:Int))=true:=by
  subst hW
  unfold E8
  rw [Bool.or_eq_true]
  exact .inr (decide_eq_true ⟨rfl,⟨(by omega:(3:Int)≤(l:Int)),(by omega:(l:Int)≤258)⟩,(by omega:(1:Int)≤(d:Int)),(by omega:(d:Int)≤32768)⟩)
 rw [Y4k f (by show ¬(l:Int)=0;omega) (by rw [b];show ¬most < i+((l:Int)).toNat;omega) (by rw [b];show ¬i < ((d:Int)).toNat;omega)]
 show (0,ext (x.take i) ((d:Int)).toNat ((l:Int)).toNat)=(0,x.take (i+max ((l:Int)).toNat 1))
 rw [T0j,T0j,W6h i h6 h8 l h5 h9,show max l 1=l by omega]
theorem X9f (hL:3≤L) (i:Nat) (hi:i < x.length) (hb:∀b∈x,b < 256):0≤(K5 W L x tr en la i).1∧(K5 W L x tr en la i).1≤255:=by
 obtain ⟨_,_,a⟩:=Z7e (W:=W) (tr:=tr) (en:=en) (la:=la) hL i hi
 rcases a with a | ⟨l,d,a,_⟩
 ·rw [a]
  have:=hb x[i] (List.getElem_mem hi)
  unfold Y77
  rw [T0e hi]
  show (0:Int)≤((x[i]:Nat):Int)∧((x[i]:Nat):Int)≤255
  omega
 rw [a];exact ⟨Int.le_refl _,by show (0:Int)≤255;omega⟩
theorem Y47 (hL:3≤L) (hb:∀b∈x,b < 256):∀n i,x.length-i≤n→N9 (L9 W L x tr en la stay i).1
 | 0,i,h=>by rw [U0 i (by omega)];intro t ht;simp at ht
 | n+1,i,h=>by
  by_cases c:stay < x.length-i
  ·have h3:=Z1z (K5 W L x tr en la i)
   have ih:=Y47 hL hb n (i+adv (K5 W L x tr en la i)) (by omega)
   rw [Z3d i c]
   intro t ht
   rcases List.mem_cons.1 ht with rfl | ht
   ·exact X9f hL i (by omega) hb
   exact ih t ht
  rw [U0 i c];intro t ht;simp at ht
theorem Y43 (hL:3≤L) (hL2:L=258) (hW:W=32768) (hm:x.length≤most):∀n i,x.length-i≤n→i≤x.length→Q7 (x.take i) (L9 W L x tr en la stay i).1=(0,x.take (L9 W L x tr en la stay i).2)
 | 0,i,h,_=>by rw [U0 i (by omega)];rfl
 | n+1,i,h,hi=>by
  by_cases c:stay < x.length-i
  ·have h3:=Z1z (K5 W L x tr en la i)
   have h4:=(Z7e (W:=W) (x:=x) (tr:=tr) (en:=en) (la:=la) hL i (by omega)).1
   have ih:=Y43 hL hL2 hW hm n (i+adv (K5 W L x tr en la i)) (by omega) h4
   rw [Z3d i c]
   show Q7 (x.take i) (K5 W L x tr en la i::_)=_
   rw [Z0c,X8g hL hL2 hW i (by omega) hm,if_pos rfl]
   exact ih
  rw [U0 i c];rfl
theorem W6d (hL:3≤L) (i:Nat) (h:i≤x.length):(L9 W L x tr en la stay i).2≤x.length∧i≤(L9 W L x tr en la stay i).2:=W79 hL _ i h
theorem X8e (i:Nat):x.length- (L9 W L x tr en la stay i).2≤stay:=X5k _ i (T05 _)
end
section
variable {W L n c tr en la:Nat}
theorem W1w {i:Nat} (h:i+3≤n):at3 (T00 n c) i=T00 3 c:=by
 unfold at3
 rw [T0f,T0k,show min 3 (n-i)=3 by omega]
theorem V0t {i:Nat} (hW:1≤W) (hi:1≤i) (h:i+3≤n):Z2e W (T00 n c) i=1:=by
 have e:W7 (T00 n c) (at3 (T00 n c) i) i=some (i-1):=Y9s (by omega) (by rw [W1w h,W1w (by omega)]) (fun j h1 h2=>by omega)
 unfold Z2e
 rw [e]
 show reach W (i- (i-1))=1
 rw [show i- (i-1)=1 by omega,reach,if_neg (by omega)]
theorem X60:∀a b,b≤a→same (T00 a c) (T00 b c)=b
 | a,0,_=>by cases a <;> simp [same]
 | 0,b+1,h=>by omega
 | a+1,b+1,h=>by
  rw [T0l,T0l,same,if_pos rfl,X60 a b (by omega)]
theorem W5t (x:List Nat) (i:Nat) (r:List Nat) (d:Nat) (f:Nat×Nat) (h:¬f.1 < min en r.length):∀m,Y08 W x i r en m d f=f
 | 0=>rfl
 | m+1=>by unfold Y08;rw [if_neg fun h2=>h h2.2]
theorem W8l {i:Nat} (hW:1≤W) (hL:3≤L) (hi:1≤i) (h:i+3≤n) (ht:1≤tr) (he:1≤en):best W L (T00 n c) tr en i=(min L (n-i),1):=by
 have a:S8 L (T00 n c) i=T00 (min L (n-i)) c:=by rw [S8,T0f,T0k]
 obtain ⟨t,rfl⟩:∃t,tr=t+1:=⟨tr-1,by omega⟩
 unfold best
 rw [a,V0t hW hi h,if_neg (by rw [T03];omega),Y08,T03,if_pos ⟨by omega,by show 0 < _;omega⟩]
 have e:Z4y (T00 n c) i (T00 (min L (n-i)) c) 1 (0,0)=(min L (n-i),1):=by
  unfold Z4y
  rw [T0f,X60 _ _ (by omega),if_pos,if_pos (by show 0 < _;omega)]
  rw [T0m,T0m,if_pos (by show 0 < _;omega),if_pos (by show 0 < _;omega)]
 rw [e]
 exact W5t _ _ _ _ _ (by rw [T03];show ¬min L (n-i) < min en (min L (n-i));omega) _
theorem X3h (x:List Nat) (i:Nat) (hL:3≤L):(best W L x tr en i).1≤min L (x.length-i):=by
 rcases X0e W L x tr en i hL with h | h
 ·omega
 have:=Z15 L x i;omega
theorem W3r {i:Nat} (hW:1≤W) (hL:3≤L) (hi:1≤i) (h:i+3≤n) (ht:1≤tr) (he:1≤en):adv (K5 W L (T00 n c) tr en la i)=min L (n-i):=by
 have b:=W8l (c:=c) hW hL hi h ht he
 have d:=X3h (W:=W) (tr:=tr) (en:=en) (T00 n c) (i+1) hL
 rw [T03] at d
 unfold K5
 rw [b,if_neg]
 ·show max ((min L (n-i):Nat):Int).toNat 1=_;omega
 rintro (a | a)
 ·have a:min L (n-i)=0:=a
  omega
 have a:_∧min L (n-i) < _:=a
 omega
theorem Y9k (hW:1≤W) (hL:L=258) (ht:1≤tr) (he:1≤en):∀m i,1≤i→n-i≤m→258*(L9 W L (T00 n c) tr en la 0 i).1.length≤(n-i)+516
 | 0,i,hi,h=>by rw [U0 i (by rw [T03];omega)];simp
 | m+1,i,hi,h=>by
  by_cases e:0 < n-i
  rotate_left
  ·rw [U0 i (by rw [T03];omega)];simp
  have h3:=Z1z (K5 W L (T00 n c) tr en la i)
  have ih:=Y9k hW hL ht he m (i+adv (K5 W L (T00 n c) tr en la i)) (by omega) (by omega)
  rw [Z3d i (by rw [T03];exact e)]
  simp only [T08]
  by_cases c3:i+3≤n
  ·have h4:=W3r (L:=L) (c:=c) (la:=la) hW (by omega) hi c3 ht he
   by_cases c4:258≤n-i
   ·omega
   have h5:n- (i+adv (K5 W L (T00 n c) tr en la i))=0:=by omega
   have h6:(L9 W L (T00 n c) tr en la 0 (i+adv (K5 W L (T00 n c) tr en la i))).1=[]:=by
    rw [U0 _ (by rw [T03];omega)]
   rw [h6];simp
  by_cases k:n-i=1
  ·have h6:(L9 W L (T00 n c) tr en la 0 (i+adv (K5 W L (T00 n c) tr en la i))).1=[]:=by
    rw [U0 _ (by rw [T03];omega)]
   rw [h6];simp only [T0d];omega
  have f:(L9 W L (T00 n c) tr en la 0 (i+adv (K5 W L (T00 n c) tr en la i))).1.length≤1:=by
   obtain ⟨j,d⟩:∃j,j=i+adv (K5 W L (T00 n c) tr en la i):=⟨_,rfl⟩
   rw [←d]
   by_cases b:0 < n-j
   ·have g:=Z1z (K5 W L (T00 n c) tr en la j)
    rw [Z3d j (by rw [T03];exact b)]
    have a:(L9 W L (T00 n c) tr en la 0 (j+adv (K5 W L (T00 n c) tr en la j))).1=[]:=by
     rw [U0 _ (by rw [T03];omega)]
    rw [a];simp
   rw [U0 j (by rw [T03];omega)];simp
  omega
theorem W5g (hW:1≤W) (hL:L=258) (ht:1≤tr) (he:1≤en) (hn:517≤n):10*(L9 W L (T00 n c) tr en la 0 0).1.length < n:=by
 have a:=Z1z (K5 W L (T00 n c) tr en la 0)
 have b:=Y9k (n:=n) (c:=c) (la:=la) hW hL ht he n (0+adv (K5 W L (T00 n c) tr en la 0)) (by omega) (by omega)
 rw [Z3d 0 (by rw [T03];omega)]
 simp only [T08]
 omega
end
structure Q0 (St:Type) where
 f:St
 raw:List Nat
 list:List E1
 told:Nat
 acc:List Nat
 packs:Bool
section
variable {St:Type} (F:Nat→List E1→List Nat→Nat→List Nat)
def Z02 (s:Q0 St) (t:E1):Q0 St:={s with list:=s.list++[t],told:=s.told+adv t}
def Q6 (last:Bool) (s:Q0 St):Q0 St:={s with raw:=s.raw.drop s.told,list:=[],told:=0,acc:=s.acc++Z32 F s.packs s.list (s.raw.take s.told) last s.acc.length}
def Z10 (s:Q0 St) (t:E1):Q0 St:=if 16384≤(Z02 s t).told then Q6 F false (Z02 s t) else Z02 s t
def M0 (s:Q0 St) (ts:List E1):Q0 St:=ts.foldl (Z10 F) s
end
def Z0d (b:List Nat) (i:Nat):List Nat:=(b.drop (16384*i)).take 16384
section
variable (M:Z69) (F:Nat→List E1→List Nat→Nat→List Nat)
def P8 (lev:Int):Q0 M.St:=⟨M.start lev,[],[],0,[],decide (0 < lev)⟩
def X20 (s:Q0 M.St) (b:List Nat):Q0 M.St:={s with f:=M.write s.f b,raw:=s.raw++b}
def T1 (e:Bool) (s:Q0 M.St):Q0 M.St:=M0 F {s with f:=(M.toks s.f e).1} (M.toks s.f e).2
def Z11 (s:Q0 M.St) (b:List Nat):Nat→Q0 M.St
 | 0=>s
 | i+1=>T1 M F false (X20 M (Z11 s b i) (Z0d b i))
def X1j (n:Nat):Nat:=(n+16383) / 16384
def R8 (s:Q0 M.St) (b:List Nat):Q0 M.St:=Z11 M F s b (X1j b.length)
def L3 (s:Q0 M.St):List Nat:=J2 (Q6 F true (T1 M F true s)).acc
def Z1p (b:List Nat) (lev:Int):List Nat:=D9 (L3 M F (R8 M F (P8 M lev) b))
end
structure Z0g {St:Type} (x:List Nat) (Q:Nat) (s:Q0 St) (T:List Nat) (e P:Nat) (ks ss:List Nat):Prop where
 sum:P+s.told=Q
 le:Q≤x.length
 raw:s.raw=x.drop P
 byt:N9 s.list
 ex:Q7 (x.take P) s.list=(0,x.take Q)
 ch:Z1w x.length (T++s.acc) (x.take P) ks ss
 zero:s.packs=false→∀k∈ks,k=0
 size:(T++s.acc).length≤8*P+42*ks.length
 cnt:16384*ks.length≤P+16384*e
 even:T.length%8=0
theorem Z9a:∀ (l:List E1) (acc:List Nat),(Q7 acc l).1=0→Z36 l
 | [],_,_=>fun _ h=>by cases h
 | t::r,acc,h=>by
  rw [Z0c] at h
  split at h
  ·rename_i h0
   intro x hx
   rcases List.mem_cons.1 hx with rfl | hx
   ·unfold M9 at h0
    split at h0
    ·simp at h0
    simpa using ‹¬E8 x=false›
   exact Z9a r _ h x hx
  contradiction
theorem W50 {acc:List Nat} {t:E1} (h:(M9 acc t).1=0):(M9 acc t).2.length=acc.length+adv t:=by
 unfold M9 at h⊢
 split <;> rename_i d
 ·rw [if_pos d] at h;simp at h
 rw [if_neg d] at h
 have f:E8 t=true:=by simpa using d
 split <;> rename_i a
 ·rw [if_pos a] at h
  split <;> rename_i b
  ·rw [if_pos b] at h;simp at h
  unfold adv;rw [a];simp
 have:=V2 f a
 rw [if_neg a] at h
 split <;> rename_i b
 ·rw [if_pos b] at h;simp at h
 rw [if_neg b] at h
 split <;> rename_i g
 ·rw [if_pos g] at h;simp at h
 simp only [G1];unfold adv;omega
theorem Y7t {x y:List Nat} {A:Nat} (h:y <+:x.take A):y=x.take y.length:=by
 have a:=List.prefix_iff_eq_take.1 h
 rw [List.take_take,Nat.min_eq_left (by have:=h.length_le;rw [T01] at this;omega)] at a
 exact a
section
variable {St:Type} {F:Nat→List E1→List Nat→Nat→List Nat} {x:List Nat} {Q e P:Nat} {s:Q0 St} {T ks ss:List Nat}
theorem X3e {t:E1} {r:List E1} {A:Nat} (hQ:Q≤x.length) (h:Q7 (x.take Q) (t::r)=(0,x.take A)) (hA:A≤x.length):
  M9 (x.take Q) t=(0,x.take (Q+adv t))∧Q7 (x.take (Q+adv t)) r=(0,x.take A)∧Q+adv t≤A:=by
 rw [Z0c] at h
 by_cases a:(M9 (x.take Q) t).1=0
 ·rw [if_pos a] at h
  have f:=W50 a
  rw [T01,Nat.min_eq_left hQ] at f
  have b:=Y88 r _ (by rw [h])
  rw [h] at b
  have g:(M9 (x.take Q) t).2.length≤A:=by
   have:=b.length_le
   have i:(x.take A).length≤A:=by rw [T01];omega
   exact Nat.le_trans this i
  have d:=Y7t b
  rw [f] at d
  refine ⟨Prod.ext a d, ?_,by omega⟩
  rw [←d];exact h
 rw [if_neg a] at h;simp at h;exact absurd h.1 a
theorem X5n (h:Z0g x Q s T e P ks ss) {t:E1} {r:List E1} {A:Nat} (hx:Q7 (x.take Q) (t::r)=(0,x.take A)) (hA:A≤x.length) (hb:0≤t.1∧t.1≤255):
  Z0g x (Q+adv t) (Z02 s t) T e P ks ss∧Q7 (x.take (Q+adv t)) r=(0,x.take A)∧Q+adv t≤A:=by
 obtain ⟨b,d,f⟩:=X3e h.le hx hA
 refine ⟨⟨?_,by omega,h.raw, ?_, ?_,h.ch,h.zero,h.size,h.cnt,h.even⟩,d,f⟩
 ·show P+(s.told+adv t)=_
  have:=h.sum;omega
 ·intro u a
  rcases List.mem_append.1 a with a | a
  ·exact h.byt u a
  simp at a;subst a;exact hb
 show Q7 (x.take P) (s.list++[t])=_
 rw [Z7p,h.ex,if_pos rfl,Z0c,b,if_pos rfl];rfl
theorem X6p (h:Z0g x Q s T e P ks ss) (hr:∀b∈x,b < 256) (ht:s.told≤16642):(s.raw.take s.told).length=s.told∧x.take P++s.raw.take s.told=x.take Q∧(∀b∈s.raw.take s.told,b < 256)∧Z36 s.list∧s.list.length < 1048576∧s.told≤s.raw.length:=by
 have a:=h.sum
 have g:=h.le
 have d:s.told≤s.raw.length:=by rw [h.raw,T04];omega
 refine ⟨by rw [T01];omega, ?_,fun b hb=> ?_,Z9a _ _ (by rw [h.ex]), ?_,d⟩
 ·rw [h.raw,←a,List.take_add]
 ·have:=T0n hb
  rw [h.raw] at this
  exact hr b (T0o this)
 have f:=Z8f _ _ _ h.ex
 rw [T01,T01] at f
 omega
theorem X4v {kind P Q:Nat} {l' l:List E1} {raw:List Nat} (h:l'=l∨kind=0∧l'=[]) (hraw:x.take P++raw=x.take Q) (he:Q7 (x.take P) l=(0,x.take Q)):∃o,Q7 (x.take P) l'=(0,o)∧Z5m kind raw (x.take P) o=x.take Q∧o.length≤x.length:=by
 rcases h with rfl | ⟨rfl,rfl⟩
 ·refine ⟨_,he, ?_,by rw [T01];omega⟩
  unfold Z5m;split
  ·exact hraw
  rfl
 exact ⟨_,rfl,hraw,by rw [T01];omega⟩
theorem W2y (HF:Z1c F) (h:Z0g x Q s T e P ks ss) (hr:∀b∈x,b < 256) (ht:s.told≤16642) (d:Nat) (hd:16384≤s.told+16384*d):
  ∃ks' ss',Z0g x Q (Q6 F false s) T (e+d) Q ks' ss':=by
 obtain ⟨t,y,z,h4,h5,h6⟩:=X6p h hr ht
 have r:=h.sum
 have j:=h.le
 obtain ⟨a,l',m,g,hz,hl,hB,hE,hS⟩:=X32 HF (packs:=s.packs) h.byt z (by omega) h4 h5 false (T++s.acc).length
 obtain ⟨o,ho,i,n⟩:=X4v hl y h.ex
 have l:Z32 F s.packs s.list (s.raw.take s.told) false s.acc.length=A9 3 (2*a)++m:=by
  rw [Z91 HF (b:=(T++s.acc).length) (by rw [T02];have:=h.even;omega),hE]
  congr 2
  exact Nat.zero_add _
 have p:=Z1w.snoc (T++s.acc) (x.take P) ks ss a l' _ m o h.ch g hB ho n (by rw [T01,t];omega) (by rw [i,T01,T01];omega)
 rw [i] at p
 have f:T++(Q6 F false s).acc=T++s.acc++(A9 3 (2*a)++m):=by
  show T++(s.acc++_)=_
  rw [l,T09]
 refine ⟨_,_,⟨(by simp [Q6]),j, ?_,(fun _ h=>by cases h),rfl,(by rw [f];exact p), ?_, ?_, ?_,h.even⟩⟩
 ·show s.raw.drop s.told=_
  rw [h.raw,List.drop_drop,r]
 ·intro q k g
  rcases List.mem_append.1 g with g | g
  ·exact h.zero q k g
  simp at g;subst g;exact hz q
 ·rw [f]
  have:=h.size
  simp only [T02,B5,T08,T0d] at this⊢
  omega
 have:=h.cnt
 simp only [T02,T08,T0d]
 omega
theorem X45 (HF:Z1c F) (hr:∀b∈x,b < 256) (h:Z0g x Q s T e P ks ss) (ht:s.told < 16384) {t:E1} {r:List E1} {A:Nat} (hx:Q7 (x.take Q) (t::r)=(0,x.take A)) (hA:A≤x.length) (hb:0≤t.1∧t.1≤255):
  ∃P' ks' ss',Z0g x (Q+adv t) (Z10 F s t) T e P' ks' ss'∧(Z10 F s t).told < 16384∧Q7 (x.take (Q+adv t)) r=(0,x.take A)∧Q+adv t≤A:=by
 obtain ⟨g,i,j⟩:=X5n h hx hA hb
 unfold Z10
 by_cases d:16384≤(Z02 s t).told
 ·rw [if_pos d]
  have k:(Z02 s t).told≤16642:=by
   have a:=(X3e h.le hx hA).1
   have n:adv t≤258:=by
    by_cases f:E8 t=true
    ·by_cases l:t.2.1=0
     ·unfold adv;omega
     have:=V2 f l
     unfold adv;omega
    rw [Y95 (by simpa using f)] at a;cases a
   show s.told+adv t≤_
   omega
  obtain ⟨ks',ss',m⟩:=W2y HF g hr k 0 (by omega)
  exact ⟨_,ks',ss',m,by show (0:Nat) < _;omega,i,j⟩
 rw [if_neg d]
 exact ⟨_,_,_,g,by omega,i,j⟩
theorem X61 (HF:Z1c F) (hr:∀b∈x,b < 256) {A:Nat} (hA:A≤x.length):∀ (r:List E1) {Q P:Nat} {s:Q0 St} {ks ss:List Nat},Z0g x Q s T e P ks ss→s.told < 16384→Q7 (x.take Q) r=(0,x.take A)→N9 r→
  ∃P' ks' ss',Z0g x A (M0 F s r) T e P' ks' ss'∧(M0 F s r).told < 16384
 | [],Q,P,s,ks,ss,h,ht,hx,_=>by
  have:Q=A:=by
   have a:x.take Q=x.take A:=(congrArg Prod.snd hx)
   have d:=congrArg List.length a
   rw [T01,T01] at d
   have:=h.le
   omega
  subst this
  exact ⟨_,_,_,h,ht⟩
 | t::r,Q,P,s,ks,ss,h,ht,hx,hb=>by
  obtain ⟨P',ks',ss',a,d,f,g⟩:=X45 HF hr h ht hx hA (hb t (List.mem_cons_self ..))
  exact X61 HF hr hA r a d f fun u hu=>hb u (List.mem_cons_of_mem _ hu)
end
def Y8q (M:Z69) (f:M.St):Nat:=(M.inp f).length-M.wait f
structure S9 (M:Z69) (x:List Nat) (s:Q0 M.St) (T:List Nat) (e:Nat):Prop where
 ok:M.Ok s.f
 inp:M.inp s.f=x
 byt:∀b∈x,b < 256
 low:s.told < 16384
 mid:∃P ks ss,Z0g x (Y8q M s.f) s T e P ks ss
section
variable {M:Z69} {F:Nat→List E1→List Nat→Nat→List Nat} {x:List Nat} {s:Q0 M.St} {T:List Nat} {e:Nat}
theorem Y9g (L:V0 M) {f:M.St} (h:M.Ok f) (hm:(M.inp f).length≤most):Y8q M f≤(M.inp f).length∧Q7 [] (M.outs f)=(0,(M.inp f).take (Y8q M f)):=⟨Nat.sub_le _ _,(L.means f h hm).2⟩
theorem V2p {x y:List Nat} {a b:Nat} {o:List E1} (ha:a≤x.length) (hb:b≤y.length) (h1:Q7 [] o=(0,x.take a)) (h2:Q7 [] o=(0,y.take b)):a=b:=by
 have:=congrArg List.length (congrArg Prod.snd (h1.symm.trans h2))
 simp only [T01] at this
 omega
theorem Y2f (lev:Int) (L:V0 M):S9 M [] (P8 M lev) [] 0:=by
 have a:=L.inp_start lev
 have d:Y8q M (P8 M lev).f=0:=by
  unfold Y8q
  rw [show (P8 M lev).f=M.start lev from rfl,a]
  exact Nat.zero_sub _
 refine ⟨L.ok_start lev,a,(fun b h=>by cases h),(by show (0:Nat) < _;omega),0,[],[], ?_⟩
 rw [d]
 exact ⟨rfl,T05 _,rfl,(fun _ h=>by cases h),rfl,.nil,(fun _ k h=>by cases h),Nat.zero_le _,Nat.zero_le _,rfl⟩
theorem W2n (L:V0 M) (h:S9 M x s T e) (b:List Nat) (hb:∀c∈b,c < 256) (hl:x.length+b.length≤most):S9 M (x++b) (X20 M s b) T e:=by
 have d:M.inp (M.write s.f b)=x++b:=by rw [L.inp_write,h.inp]
 have g:=L.ok_write s.f b h.ok hb (by rw [h.inp];unfold most at hl;omega)
 have i:=Y9g L h.ok (by rw [h.inp];omega)
 have j:=Y9g L g (by rw [d,T02];exact hl)
 rw [L.outs_write,d] at j
 rw [h.inp] at i
 have n:=V2p i.1 j.1 i.2 j.2
 obtain ⟨P,l,m,a⟩:=h.mid
 have k:P≤x.length:=by have:=a.sum;have:=a.le;omega
 refine ⟨g,d,fun c hc=>(List.mem_append.1 hc).elim (h.byt c) (hb c),h.low,P,l,m, ?_⟩
 show Z0g (x++b) (Y8q M (M.write s.f b)) _ T e P l m
 rw [←n]
 refine ⟨a.sum,by rw [T02];have:=a.le;omega, ?_,a.byt, ?_, ?_,a.zero,a.size,a.cnt,a.even⟩
 ·show s.raw++b=_
  rw [a.raw,T0a k]
 ·show Q7 ((x++b).take P) s.list=_
  rw [T06 k,T06 i.1]
  exact a.ex
 rw [T06 k]
 exact a.ch.more (by rw [T02];omega)
theorem Y0w (L:V0 M) (HF:Z1c F) (h:S9 M x s T e) (b:Bool) (hl:x.length≤most):S9 M x (T1 M F b s) T e:=by
 have d:M.inp (M.toks s.f b).1=x:=by rw [L.inp_toks,h.inp]
 have g:=L.ok_toks s.f b h.ok
 have o:=Y9g L h.ok (by rw [h.inp];exact hl)
 have j:=Y9g L g (by rw [d];exact hl)
 rw [L.outs_toks,d] at j
 rw [h.inp] at o
 rw [Z7p,o.2,if_pos rfl] at j
 obtain ⟨P,q,y,a⟩:=h.mid
 have k:N9 (M.toks s.f b).2:=by
  have:=L.bytes _ g
  rw [L.outs_toks] at this
  exact fun t ht=>this t (List.mem_append_right _ ht)
 have l:Z0g x (Y8q M s.f) {s with f:=(M.toks s.f b).1} T e P q y:=⟨a.sum,a.le,a.raw,a.byt,a.ex,a.ch,a.zero,a.size,a.cnt,a.even⟩
 obtain ⟨z,m,n,h3,h4⟩:=X61 HF h.byt j.1 _ l h.low j.2 k
 have p:∀ (r:List E1) (u:Q0 M.St),(M0 F u r).f=u.f:=by
  intro r
  induction r with
  | nil=>exact fun _=>rfl
  | cons t r ih=>
   intro u
   show (M0 F (Z10 F u t) r).f=_
   rw [ih]
   unfold Z10
   split <;> rfl
 have i:(T1 M F b s).f=(M.toks s.f b).1:=p _ _
 exact ⟨by rw [i];exact g,by rw [i];exact d,h.byt,h4,z,m,n,by rw [i];exact h3⟩
theorem Y7s (b:List Nat) (i:Nat):b.take (16384*i)++Z0d b i=b.take (16384*(i+1)):=by
 unfold Z0d
 rw [Nat.mul_succ,List.take_add]
theorem Y6s (L:V0 M) (HF:Z1c F) (h:S9 M x s T e) (b:List Nat) (hb:∀c∈b,c < 256) (hl:x.length+b.length≤most):∀i,S9 M (x++b.take (16384*i)) (Z11 M F s b i) T e
 | 0=>by
  rw [Nat.mul_zero,List.take_zero,List.append_nil]
  exact h
 | i+1=>by
  have ih:=Y6s L HF h b hb hl i
  rw [←Y7s,←T09]
  have hp:∀c∈Z0d b i,c < 256:=fun c hc=>hb c (T0o (T0n hc))
  have hle:(x++b.take (16384*i)).length+(Z0d b i).length≤most:=by
   rw [←T02,T09,Y7s,T02,T01]
   omega
  exact Y0w L HF (W2n L ih (Z0d b i) hp hle) false (by rw [T02];exact hle)
theorem X16 (L:V0 M) (HF:Z1c F) (h:S9 M x s T e) (b:List Nat) (hb:∀c∈b,c < 256) (hl:x.length+b.length≤most):S9 M (x++b) (R8 M F s b) T e:=by
 have a:=Y6s L HF h b hb hl (X1j b.length)
 rw [T0p (by unfold X1j;omega)] at a
 exact a
theorem W8k (L:V0 M) (HF:Z1c F) (h:S9 M x s T e) (hl:x.length≤most):∃P ks ss,Z0g x x.length (T1 M F true s) T e P ks ss:=by
 obtain ⟨P,ks,ss,b⟩:=(Y0w L HF h true hl).mid
 have d:∀ (r:List E1) (u:Q0 M.St),(M0 F u r).f=u.f:=by
  intro r
  induction r with
  | nil=>exact fun _=>rfl
  | cons t r ih=>
   intro u
   show (M0 F (Z10 F u t) r).f=_
   rw [ih]
   unfold Z10
   split <;> rfl
 have a:(T1 M F true s).f=(M.toks s.f true).1:=d _ _
 have:Y8q M (T1 M F true s).f=x.length:=by
  unfold Y8q
  rw [a,L.wait_end _ h.ok,L.inp_toks,h.inp,Nat.sub_zero]
 rw [this] at b
 exact ⟨P,ks,ss,b⟩
theorem X13 (L:V0 M) (HF:Z1c F) (h:S9 M x s T e) (hl:x.length≤most):
  (T++L3 M F s).length%8=0∧isBits (T++L3 M F s)∧(T++L3 M F s).length≤8*x.length+42*(x.length / 16384+e+1)+7∧
   ∀N,x.length≤N→∃tk ks ss p,S7 (T++L3 M F s) N ((T++L3 M F s).length+1) 0 [] [] [] []=⟨0,p,x,tk,ks,ss,(T++L3 M F s).length / 8⟩∧ss.length=ks.length∧V1e ss∧(s.packs=false→∀k∈ks,k=0)∧∀v∈ss,v≤x.length:=by
 obtain ⟨P,ks,ss,d⟩:=W8k L HF h hl
 have hI:=Y0w (F:=F) L HF h true hl
 have n:∀ (r:List E1) (v:Q0 M.St),(M0 F v r).packs=v.packs:=by
  intro r
  induction r with
  | nil=>exact fun _=>rfl
  | cons t r ih=>
   intro v
   show (M0 F (Z10 F v t) r).packs=_
   rw [ih]
   unfold Z10
   split <;> rfl
 have l:(T1 M F true s).packs=s.packs:=n _ _
 unfold L3
 generalize T1 M F true s=u at*
 have a0:=hI.low
 obtain ⟨h1,h2,h3,h4,h5,h6⟩:=X6p d h.byt (by omega)
 obtain ⟨a,l',g,hk,hz,z,hB,hE,hS⟩:=X32 HF (packs:=u.packs) d.byt h3 (by omega) h4 h5 true (T++u.acc).length
 obtain ⟨o,ho,i,c0⟩:=X4v z h2 d.ex
 have hx:x.take x.length=x:=T0p (T05 _)
 rw [hx] at i
 have q:(Q6 F true u).acc=u.acc++(A9 3 (1+2*a)++g):=by
  show u.acc++Z32 F u.packs u.list (u.raw.take u.told) true u.acc.length=_
  rw [Z91 HF (b:=(T++u.acc).length) (by rw [T02];have:=d.even;omega),hE]
  rfl
 have y:T++J2 (Q6 F true u).acc=J2 (T++u.acc++(A9 3 (1+2*a)++g)):=by
  rw [q,T09 T u.acc]
  have m:∀A:List Nat,T++J2 A=J2 (T++A):=fun A=>by
   unfold J2
   rw [T09,show (8- (T++A).length%8)%8=(8-A.length%8)%8 by rw [T02];have:=d.even;omega]
  exact m _
 rw [y]
 have j:isBits (T++u.acc++(A9 3 (1+2*a)++g)):=D5 d.ch.bits01 (D5 (F4 _ _) hB.isBits)
 have a8:(J2 (T++u.acc++(A9 3 (1+2*a)++g))).length≤(T++u.acc++(A9 3 (1+2*a)++g)).length+7:=Y3j _
 have a9:(T++u.acc++(A9 3 (1+2*a)++g)).length=(T++u.acc).length+3+g.length:=by
  simp only [T02,B5];omega
 have b0:=d.size
 have a1:=d.cnt
 have a2:=d.sum
 refine ⟨Z5e _,Y8x j,by omega,fun N hN=> ?_⟩
 obtain ⟨tk,h7⟩:=d.ch.last hN hk hB ho (by omega) (by rw [T01,h1];omega)
 rw [i] at h7
 refine ⟨tk,ks++[a],ss++[x.length],(T++u.acc++(A9 3 (1+2*a)++g)).length, ?_, ?_, ?_, ?_,fun v hv=> ?_⟩
 ·rw [h7]
  congr 1
  have m:=Y8n (T++u.acc++(A9 3 (1+2*a)++g))
  rw [Q5] at m
  exact m.symm
 ·simp only [T02,T08,T0d]
  have:=d.ch.count.2
  omega
 ·refine Y91 d.ch.gaps.1 ?_
  rw [d.ch.gaps.2,T01]
  omega
 ·intro hp k f
  rcases List.mem_append.1 f with f | f
  ·exact d.zero (l.trans hp) k f
  simp at f;subst f;exact hz (l.trans hp)
 rcases List.mem_append.1 hv with hv | hv
 ·exact d.ch.stops v hv
 simp only [List.mem_singleton] at hv;omega
theorem W7j (L:V0 M) (HF:Z1c F) (b:List Nat) (lev:Int) (hb:∀c∈b,c < 256) (hl:b.length≤most):
  D6 (Z1p M F b lev)=L3 M F (R8 M F (P8 M lev) b)∧(∀c∈Z1p M F b lev,c < 256)∧(Z1p M F b lev).length≤b.length+6*(b.length / 16384+1)+6∧
   ∀N,b.length≤N→∃tk ks ss p,S7 (D6 (Z1p M F b lev)) N ((D6 (Z1p M F b lev)).length+1) 0 [] [] [] []=⟨0,p,b,tk,ks,ss,(Z1p M F b lev).length⟩∧ss.length=ks.length∧V1e ss∧(lev≤0→∀k∈ks,k=0)∧∀v∈ss,v≤b.length:=by
 have l:=X16 (F:=F) L HF (Y2f lev L) b hb (by simpa using hl)
 rw [List.nil_append] at l
 obtain ⟨n,f,q,o⟩:=X13 L HF l hl
 rw [List.nil_append] at n f q o
 have m:D6 (Z1p M F b lev)=L3 M F (R8 M F (P8 M lev) b):=Y8y _ f n
 have a:(Z1p M F b lev).length=(L3 M F (R8 M F (P8 M lev) b)).length / 8:=Q5 _
 refine ⟨m,Y5g _ f,by omega,fun N hN=> ?_⟩
 obtain ⟨tk,ks,ss,p,s,x,y,g,j⟩:=o N hN
 rw [m,a]
 refine ⟨tk,ks,ss,p,s,x,y,fun hv=>g ?_,j⟩
 have d:∀ (r:List E1) (v:Q0 M.St),(M0 F v r).packs=v.packs:=by
  intro r
  induction r with
  | nil=>exact fun _=>rfl
  | cons t r ih=>
   intro v
   show (M0 F (Z10 F v t) r).packs=_
   rw [ih]
   unfold Z10
   split <;> rfl
 have:∀i,(Z11 M F (P8 M lev) b i).packs=decide (0 < lev):=by
  intro i
  induction i with
  | zero=>rfl
  | succ i ih=>exact (d _ _).trans ih
 show (Z11 M F (P8 M lev) b _).packs=false
 rw [this]
 exact decide_eq_false (by omega)
end
end Go.Proofs.YtbkbkmgogbgofaaGreatDoor
