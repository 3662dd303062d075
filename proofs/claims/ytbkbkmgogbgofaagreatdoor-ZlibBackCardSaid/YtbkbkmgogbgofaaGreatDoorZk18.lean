/- The claim's texts, put together and shortened by a program (names, spaces). -/
import Derived.Test.YtbkbkmgogbgofaaGreatDoorZk17
import Derived.Test.YtbkbkmgogbgofaaGreatDoorZk02
import Derived.Maps.Own
import Derived.Maps.OwnOps
import Derived.DeepKeys4
import Derived.WalkSpells
import Derived.Test.YtbkbkmgogbgofaaGreatDoorProg
import Derived.Test.YtbkbkmgogbgofaaGreatDoorZk03
import Derived.Test.YtbkbkmgogbgofaaGreatDoorZk04
import Derived.Test.YtbkbkmgogbgofaaGreatDoorZk08
import Derived.Test.YtbkbkmgogbgofaaGreatDoorZk05
import Derived.StillTailTactics
open List renaming length_take→T00,length_append→T01,append_assoc→T02,length_drop→T04,mem_of_mem_take→T05,getElem_set→T06,mem_of_mem_drop→T07,length_cons→T08,length_nil→T09,take_append_of_le_length→T0a,take_of_length_le→T0b,mem_singleton→T0c,mem_append_right→T0e,take_append_drop→T0f,getElem_of_mem→T0g,map_toArray→T0h
open Nat renaming le_refl→T03
open Int renaming natCast_nonneg→T0i
open Array renaming toList_push→T0d
namespace Go.Proofs.YtbkbkmgogbgofaaGreatDoor
set_option maxRecDepth 100000
set_option maxHeartbeats 6400000
open Go.RowKit
structure O6 (St:Type) where
 f:St
 raw:List Nat
 list:List E3
 told:Nat
 acc:List Nat
 packs:Bool
section
variable {St:Type} (F:Nat→List E3→List Nat→Nat→List Nat)
def Z4 (s:O6 St) (t:E3):O6 St:={s with list:=s.list++[t],told:=s.told+adv t}
def R0 (last:Bool) (s:O6 St):O6 St:={s with raw:=s.raw.drop s.told,list:=[],told:=0,acc:=s.acc++Z31 F s.packs s.list (s.raw.take s.told) last s.acc.length}
def Z2d (s:O6 St) (t:E3):O6 St:=if 16384≤(Z4 s t).told then R0 F false (Z4 s t) else Z4 s t
def O1 (s:O6 St) (ts:List E3):O6 St:=ts.foldl (Z2d F) s
def Z4y (s:O6 St):O6 St:={s with acc:=s.acc.drop (8*(D4 s.acc).length)}
end
def Z0f (b:List Nat) (i:Nat):List Nat:=(b.drop (16384*i)).take 16384
section
variable (M:Z5h) (F:Nat→List E3→List Nat→Nat→List Nat)
def Z4m (K8:Int):O6 M.St:=⟨M.start K8,[],[],0,[],decide (0 < K8)⟩
def X1l (s:O6 M.St) (b:List Nat):O6 M.St:={s with f:=M.write s.f b,raw:=s.raw++b}
def T1 (e:Bool) (s:O6 M.St):O6 M.St:=O1 F {s with f:=(M.toks s.f e).1} (M.toks s.f e).2
def Z1v (s:O6 M.St) (b:List Nat):Nat→O6 M.St
 | 0=>s
 | i+1=>T1 M F false (X1l M (Z1v s b i) (Z0f b i))
def X1e (n:Nat):Nat:=(n+16383) / 16384
def Z1d (s:O6 M.St) (b:List Nat):O6 M.St:=Z1v M F s b (X1e b.length)
def L3 (s:O6 M.St):List Nat:=J2 (R0 F true (T1 M F true s)).acc
end
structure Z0i {St:Type} (x:List Nat) (Q:Nat) (s:O6 St) (T:List Nat) (e P:Nat) (ks ss:List Nat):Prop where
 sum:P+s.told=Q
 le:Q≤x.length
 raw:s.raw=x.drop P
 byt:O3 s.list
 ex:S0 (x.take P) s.list=(0,x.take Q)
 ch:Z1q x.length (T++s.acc) (x.take P) ks ss
 zero:s.packs=false→∀k∈ks,k=0
 size:(T++s.acc).length≤8*P+42*ks.length
 cnt:16384*ks.length≤P+16384*e
 even:T.length%8=0
theorem Z9d:∀ (l:List E3) (acc:List Nat),(S0 acc l).1=0→Z37 l
 | [],_,_=>fun _ h=>by cases h
 | t::r,acc,h=>by
  rw [Z0a] at h
  split at h
  ·rename_i h0
   intro x hx
   rcases List.mem_cons.1 hx with rfl | hx
   ·unfold N7 at h0
    split at h0
    ·simp at h0
    simpa using ‹¬E9 x=false›
   exact Z9d r _ h x hx
  contradiction
theorem W4q {acc:List Nat} {t:E3} (h:(N7 acc t).1=0):(N7 acc t).2.length=acc.length+adv t:=by
 unfold N7 at h⊢
 split <;> rename_i d
 ·rw [if_pos d] at h;simp at h
 rw [if_neg d] at h
 have f:E9 t=true:=by simpa using d
 split <;> rename_i a
 ·rw [if_pos a] at h
  split <;> rename_i b
  ·rw [if_pos b] at h;simp at h
  unfold adv;rw [a];simp
 have:=V5 f a
 rw [if_neg a] at h
 split <;> rename_i b
 ·rw [if_pos b] at h;simp at h
 rw [if_neg b] at h
 split <;> rename_i g
 ·rw [if_pos g] at h;simp at h
 simp only [G3];unfold adv;omega
theorem Y5q {x y:List Nat} {A:Nat} (h:y <+:x.take A):y=x.take y.length:=by
 have a:=List.prefix_iff_eq_take.1 h
 rw [List.take_take,Nat.min_eq_left (by have:=h.length_le;rw [T00] at this;omega)] at a
 exact a
section
variable {St:Type} {F:Nat→List E3→List Nat→Nat→List Nat} {x:List Nat} {Q e P:Nat} {s:O6 St} {T ks ss:List Nat}
theorem X23 {t:E3} {r:List E3} {A:Nat} (hQ:Q≤x.length) (h:S0 (x.take Q) (t::r)=(0,x.take A)) (hA:A≤x.length):
  N7 (x.take Q) t=(0,x.take (Q+adv t))∧S0 (x.take (Q+adv t)) r=(0,x.take A)∧Q+adv t≤A:=by
 rw [Z0a] at h
 by_cases a:(N7 (x.take Q) t).1=0
 ·rw [if_pos a] at h
  have f:=W4q a
  rw [T00,Nat.min_eq_left hQ] at f
  have b:=Y6q r _ (by rw [h])
  rw [h] at b
  have g:(N7 (x.take Q) t).2.length≤A:=by
   have:=b.length_le
   have i:(x.take A).length≤A:=by rw [T00];omega
   exact Nat.le_trans this i
  have d:=Y5q b
  rw [f] at d
  refine ⟨Prod.ext a d, ?_,by omega⟩
  rw [←d];exact h
 rw [if_neg a] at h;simp at h;exact absurd h.1 a
theorem X5d (h:Z0i x Q s T e P ks ss) {t:E3} {r:List E3} {A:Nat} (hx:S0 (x.take Q) (t::r)=(0,x.take A)) (hA:A≤x.length) (hb:0≤t.1∧t.1≤255):
  Z0i x (Q+adv t) (Z4 s t) T e P ks ss∧S0 (x.take (Q+adv t)) r=(0,x.take A)∧Q+adv t≤A:=by
 obtain ⟨b,d,f⟩:=X23 h.le hx hA
 refine ⟨⟨?_,by omega,h.raw, ?_, ?_,h.ch,h.zero,h.size,h.cnt,h.even⟩,d,f⟩
 ·show P+(s.told+adv t)=_
  have:=h.sum;omega
 ·intro u a
  rcases List.mem_append.1 a with a | a
  ·exact h.byt u a
  simp at a;subst a;exact hb
 show S0 (x.take P) (s.list++[t])=_
 rw [Z74,h.ex,if_pos rfl,Z0a,b,if_pos rfl];rfl
theorem X5n (h:Z0i x Q s T e P ks ss) (hr:∀b∈x,b < 256) (ht:s.told≤16642):(s.raw.take s.told).length=s.told∧x.take P++s.raw.take s.told=x.take Q∧(∀b∈s.raw.take s.told,b < 256)∧Z37 s.list∧s.list.length < 1048576∧s.told≤s.raw.length:=by
 have a:=h.sum
 have g:=h.le
 have d:s.told≤s.raw.length:=by rw [h.raw,T04];omega
 refine ⟨by rw [T00];omega, ?_,fun b hb=> ?_,Z9d _ _ (by rw [h.ex]), ?_,d⟩
 ·rw [h.raw,←a,List.take_add]
 ·have:=T05 hb
  rw [h.raw] at this
  exact hr b (T07 this)
 have f:=Z8d _ _ _ h.ex
 rw [T00,T00] at f
 omega
theorem X4r {kind P Q:Nat} {l' l:List E3} {raw:List Nat} (h:l'=l∨kind=0∧l'=[]) (hraw:x.take P++raw=x.take Q) (he:S0 (x.take P) l=(0,x.take Q)):∃o,S0 (x.take P) l'=(0,o)∧Z63 kind raw (x.take P) o=x.take Q∧o.length≤x.length:=by
 rcases h with rfl | ⟨rfl,rfl⟩
 ·refine ⟨_,he, ?_,by rw [T00];omega⟩
  unfold Z63;split
  ·exact hraw
  rfl
 exact ⟨_,rfl,hraw,by rw [T00];omega⟩
theorem W5l (HF:Z19 F) (h:Z0i x Q s T e P ks ss) (hr:∀b∈x,b < 256) (ht:s.told≤16642) (d:Nat) (hd:16384≤s.told+16384*d):
  ∃ks' ss',Z0i x Q (R0 F false s) T (e+d) Q ks' ss':=by
 obtain ⟨t,y,z,h4,h5,h6⟩:=X5n h hr ht
 have r:=h.sum
 have j:=h.le
 obtain ⟨a,l',m,g,hz,hl,hB,hE,hS⟩:=X1d HF (packs:=s.packs) h.byt z (by omega) h4 h5 false (T++s.acc).length
 obtain ⟨o,ho,i,n⟩:=X4r hl y h.ex
 have l:Z31 F s.packs s.list (s.raw.take s.told) false s.acc.length=A9 3 (2*a)++m:=by
  rw [Z94 HF (b:=(T++s.acc).length) (by rw [T01];have:=h.even;omega),hE]
  congr 2
  exact Nat.zero_add _
 have p:=Z1q.snoc (T++s.acc) (x.take P) ks ss a l' _ m o h.ch g hB ho n (by rw [T00,t];omega) (by rw [i,T00,T00];omega)
 rw [i] at p
 have f:T++(R0 F false s).acc=T++s.acc++(A9 3 (2*a)++m):=by
  show T++(s.acc++_)=_
  rw [l,T02]
 refine ⟨_,_,⟨(by simp [R0]),j, ?_,(fun _ h=>by cases h),rfl,(by rw [f];exact p), ?_, ?_, ?_,h.even⟩⟩
 ·show s.raw.drop s.told=_
  rw [h.raw,List.drop_drop,r]
 ·intro q k g
  rcases List.mem_append.1 g with g | g
  ·exact h.zero q k g
  simp at g;subst g;exact hz q
 ·rw [f]
  have:=h.size
  simp only [T01,B5,T08,T09] at this⊢
  omega
 have:=h.cnt
 simp only [T01,T08,T09]
 omega
theorem X42 (HF:Z19 F) (hr:∀b∈x,b < 256) (h:Z0i x Q s T e P ks ss) (ht:s.told < 16384) {t:E3} {r:List E3} {A:Nat} (hx:S0 (x.take Q) (t::r)=(0,x.take A)) (hA:A≤x.length) (hb:0≤t.1∧t.1≤255):
  ∃P' ks' ss',Z0i x (Q+adv t) (Z2d F s t) T e P' ks' ss'∧(Z2d F s t).told < 16384∧S0 (x.take (Q+adv t)) r=(0,x.take A)∧Q+adv t≤A:=by
 obtain ⟨g,i,j⟩:=X5d h hx hA hb
 unfold Z2d
 by_cases d:16384≤(Z4 s t).told
 ·rw [if_pos d]
  have k:(Z4 s t).told≤16642:=by
   have a:=(X23 h.le hx hA).1
   have n:adv t≤258:=by
    by_cases f:E9 t=true
    ·by_cases l:t.2.1=0
     ·unfold adv;omega
     have:=V5 f l
     unfold adv;omega
    rw [Y94 (by simpa using f)] at a;cases a
   show s.told+adv t≤_
   omega
  obtain ⟨ks',ss',m⟩:=W5l HF g hr k 0 (by omega)
  exact ⟨_,ks',ss',m,by show (0:Nat) < _;omega,i,j⟩
 rw [if_neg d]
 exact ⟨_,_,_,g,by omega,i,j⟩
theorem X5s (HF:Z19 F) (hr:∀b∈x,b < 256) {A:Nat} (hA:A≤x.length):∀ (r:List E3) {Q P:Nat} {s:O6 St} {ks ss:List Nat},Z0i x Q s T e P ks ss→s.told < 16384→S0 (x.take Q) r=(0,x.take A)→O3 r→
  ∃P' ks' ss',Z0i x A (O1 F s r) T e P' ks' ss'∧(O1 F s r).told < 16384
 | [],Q,P,s,ks,ss,h,ht,hx,_=>by
  have:Q=A:=by
   have a:x.take Q=x.take A:=(congrArg Prod.snd hx)
   have d:=congrArg List.length a
   rw [T00,T00] at d
   have:=h.le
   omega
  subst this
  exact ⟨_,_,_,h,ht⟩
 | t::r,Q,P,s,ks,ss,h,ht,hx,hb=>by
  obtain ⟨P',ks',ss',a,d,f,g⟩:=X42 HF hr h ht hx hA (hb t (List.mem_cons_self ..))
  exact X5s HF hr hA r a d f fun u hu=>hb u (List.mem_cons_of_mem _ hu)
end
def Y8j (M:Z5h) (f:M.St):Nat:=(M.inp f).length-M.wait f
structure O4 (M:Z5h) (x:List Nat) (s:O6 M.St) (T:List Nat) (e:Nat):Prop where
 ok:M.Ok s.f
 inp:M.inp s.f=x
 byt:∀b∈x,b < 256
 low:s.told < 16384
 mid:∃P ks ss,Z0i x (Y8j M s.f) s T e P ks ss
section
variable {M:Z5h} {F:Nat→List E3→List Nat→Nat→List Nat} {x:List Nat} {s:O6 M.St} {T:List Nat} {e:Nat}
theorem Y9p (L:V0 M) {f:M.St} (h:M.Ok f) (hm:(M.inp f).length≤most):Y8j M f≤(M.inp f).length∧S0 [] (M.outs f)=(0,(M.inp f).take (Y8j M f)):=⟨Nat.sub_le _ _,(L.means f h hm).2⟩
theorem V4r {x y:List Nat} {a b:Nat} {o:List E3} (ha:a≤x.length) (hb:b≤y.length) (h1:S0 [] o=(0,x.take a)) (h2:S0 [] o=(0,y.take b)):a=b:=by
 have:=congrArg List.length (congrArg Prod.snd (h1.symm.trans h2))
 simp only [T00] at this
 omega
theorem W4o (K8:Int) (L:V0 M):O4 M [] (Z4m M K8) [] 0:=by
 have a:=L.inp_start K8
 have d:Y8j M (Z4m M K8).f=0:=by
  unfold Y8j
  rw [show (Z4m M K8).f=M.start K8 from rfl,a]
  exact Nat.zero_sub _
 refine ⟨L.ok_start K8,a,(fun b h=>by cases h),(by show (0:Nat) < _;omega),0,[],[], ?_⟩
 rw [d]
 exact ⟨rfl,T03 _,rfl,(fun _ h=>by cases h),rfl,.nil,(fun _ k h=>by cases h),Nat.zero_le _,Nat.zero_le _,rfl⟩
theorem W25 (L:V0 M) (h:O4 M x s T e) (b:List Nat) (hb:∀c∈b,c < 256) (hl:x.length+b.length≤most):O4 M (x++b) (X1l M s b) T e:=by
 have d:M.inp (M.write s.f b)=x++b:=by rw [L.inp_write,h.inp]
 have g:=L.ok_write s.f b h.ok hb (by rw [h.inp];unfold most at hl;omega)
 have i:=Y9p L h.ok (by rw [h.inp];omega)
 have j:=Y9p L g (by rw [d,T01];exact hl)
 rw [L.outs_write,d] at j
 rw [h.inp] at i
 have n:=V4r i.1 j.1 i.2 j.2
 obtain ⟨P,l,m,a⟩:=h.mid
 have k:P≤x.length:=by have:=a.sum;have:=a.le;omega
 refine ⟨g,d,fun c hc=>(List.mem_append.1 hc).elim (h.byt c) (hb c),h.low,P,l,m, ?_⟩
 show Z0i (x++b) (Y8j M (M.write s.f b)) _ T e P l m
 rw [←n]
 refine ⟨a.sum,by rw [T01];have:=a.le;omega, ?_,a.byt, ?_, ?_,a.zero,a.size,a.cnt,a.even⟩
 ·show s.raw++b=_
  rw [a.raw,List.drop_append_of_le_length k]
 ·show S0 ((x++b).take P) s.list=_
  rw [T0a k,T0a i.1]
  exact a.ex
 rw [T0a k]
 exact a.ch.more (by rw [T01];omega)
theorem Y18 (L:V0 M) (HF:Z19 F) (h:O4 M x s T e) (b:Bool) (hl:x.length≤most):O4 M x (T1 M F b s) T e:=by
 have d:M.inp (M.toks s.f b).1=x:=by rw [L.inp_toks,h.inp]
 have g:=L.ok_toks s.f b h.ok
 have o:=Y9p L h.ok (by rw [h.inp];exact hl)
 have j:=Y9p L g (by rw [d];exact hl)
 rw [L.outs_toks,d] at j
 rw [h.inp] at o
 rw [Z74,o.2,if_pos rfl] at j
 obtain ⟨P,q,y,a⟩:=h.mid
 have k:O3 (M.toks s.f b).2:=by
  have:=L.bytes _ g
  rw [L.outs_toks] at this
  exact fun t ht=>this t (T0e _ ht)
 have l:Z0i x (Y8j M s.f) {s with f:=(M.toks s.f b).1} T e P q y:=⟨a.sum,a.le,a.raw,a.byt,a.ex,a.ch,a.zero,a.size,a.cnt,a.even⟩
 obtain ⟨z,m,n,h3,h4⟩:=X5s HF h.byt j.1 _ l h.low j.2 k
 have p:∀ (r:List E3) (u:O6 M.St),(O1 F u r).f=u.f:=by
  intro r
  induction r with
  | nil=>exact fun _=>rfl
  | cons t r ih=>
   intro u
   show (O1 F (Z2d F u t) r).f=_
   rw [ih]
   unfold Z2d
   split <;> rfl
 have i:(T1 M F b s).f=(M.toks s.f b).1:=p _ _
 exact ⟨by rw [i];exact g,by rw [i];exact d,h.byt,h4,z,m,n,by rw [i];exact h3⟩
theorem Y7z (b:List Nat) (i:Nat):b.take (16384*i)++Z0f b i=b.take (16384*(i+1)):=by
 unfold Z0f
 rw [Nat.mul_succ,List.take_add]
theorem Y5v (L:V0 M) (HF:Z19 F) (h:O4 M x s T e) (b:List Nat) (hb:∀c∈b,c < 256) (hl:x.length+b.length≤most):∀i,O4 M (x++b.take (16384*i)) (Z1v M F s b i) T e
 | 0=>by
  rw [Nat.mul_zero,List.take_zero,List.append_nil]
  exact h
 | i+1=>by
  have ih:=Y5v L HF h b hb hl i
  rw [←Y7z,←T02]
  have hp:∀c∈Z0f b i,c < 256:=fun c hc=>hb c (T07 (T05 hc))
  have hle:(x++b.take (16384*i)).length+(Z0f b i).length≤most:=by
   rw [←T01,T02,Y7z,T01,T00]
   omega
  exact Y18 L HF (W25 L ih (Z0f b i) hp hle) false (by rw [T01];exact hle)
theorem W4l (L:V0 M) (HF:Z19 F) (h:O4 M x s T e) (b:List Nat) (hb:∀c∈b,c < 256) (hl:x.length+b.length≤most):O4 M (x++b) (Z1d M F s b) T e:=by
 have a:=Y5v L HF h b hb hl (X1e b.length)
 rw [T0b (by unfold X1e;omega)] at a
 exact a
theorem W7c (L:V0 M) (HF:Z19 F) (h:O4 M x s T e) (hl:x.length≤most):∃P ks ss,Z0i x x.length (T1 M F true s) T e P ks ss:=by
 obtain ⟨P,ks,ss,b⟩:=(Y18 L HF h true hl).mid
 have d:∀ (r:List E3) (u:O6 M.St),(O1 F u r).f=u.f:=by
  intro r
  induction r with
  | nil=>exact fun _=>rfl
  | cons t r ih=>
   intro u
   show (O1 F (Z2d F u t) r).f=_
   rw [ih]
   unfold Z2d
   split <;> rfl
 have a:(T1 M F true s).f=(M.toks s.f true).1:=d _ _
 have:Y8j M (T1 M F true s).f=x.length:=by
  unfold Y8j
  rw [a,L.wait_end _ h.ok,L.inp_toks,h.inp,Nat.sub_zero]
 rw [this] at b
 exact ⟨P,ks,ss,b⟩
theorem W73 (h:O4 M x s T e):O4 M x (Z4y s) (T++D7 (D4 s.acc)) e∧T++s.acc=T++D7 (D4 s.acc)++(Z4y s).acc:=by
 obtain ⟨P,n,o,d⟩:=h.mid
 have a:isBits s.acc:=fun b hb=>d.ch.bits01 b (T0e _ hb)
 have f:D7 (D4 s.acc)++s.acc.drop (8*(D4 s.acc).length)=s.acc:=by
  have k:(D4 s.acc).length=s.acc.length / 8:=O7 _
  have l:(s.acc.take (8*(s.acc.length / 8))).length%8=0:=by rw [T00];omega
  have g:=Z91 (s.acc.take (8*(s.acc.length / 8))) (fun b hb=>a b (T05 hb)) l
  have m:D4 (s.acc.take (8*(s.acc.length / 8)))=D4 s.acc:=by
   have j:=Z0e (D4 (s.acc.take (8*(s.acc.length / 8)))) (s.acc.drop (8*(s.acc.length / 8))) (Z69 _ fun b hb=>a b (T05 hb)) (by rw [T04];omega)
   rw [g,T0f] at j
   exact j.symm
  rw [m] at g
  rw [g,k,T0f]
 have i:T++s.acc=T++D7 (D4 s.acc)++(Z4y s).acc:=by
  show _=T++D7 (D4 s.acc)++s.acc.drop _
  rw [T02,f]
 refine ⟨⟨h.ok,h.inp,h.byt,h.low,P,n,o,⟨d.sum,d.le,d.raw,d.byt,d.ex, ?_,d.zero, ?_,d.cnt, ?_⟩⟩,i⟩
 ·rw [←i];exact d.ch
 ·rw [←i];exact d.size
 rw [T01,E1];have:=d.even;omega
theorem X0s (L:V0 M) (HF:Z19 F) (h:O4 M x s T e) (hl:x.length≤most):
  (T++L3 M F s).length%8=0∧isBits (T++L3 M F s)∧(T++L3 M F s).length≤8*x.length+42*(x.length / 16384+e+1)+7∧
   ∀N,x.length≤N→∃tk ks ss p,T6 (T++L3 M F s) N ((T++L3 M F s).length+1) 0 [] [] [] []=⟨0,p,x,tk,ks,ss,(T++L3 M F s).length / 8⟩∧ss.length=ks.length∧V39 ss∧(s.packs=false→∀k∈ks,k=0)∧∀v∈ss,v≤x.length:=by
 obtain ⟨P,ks,ss,d⟩:=W7c L HF h hl
 have hI:=Y18 (F:=F) L HF h true hl
 have n:∀ (r:List E3) (v:O6 M.St),(O1 F v r).packs=v.packs:=by
  intro r
  induction r with
  | nil=>exact fun _=>rfl
  | cons t r ih=>
   intro v
   show (O1 F (Z2d F v t) r).packs=_
   rw [ih]
   unfold Z2d
   split <;> rfl
 have l:(T1 M F true s).packs=s.packs:=n _ _
 unfold L3
 generalize T1 M F true s=u at*
 have a0:=hI.low
 obtain ⟨h1,h2,h3,h4,h5,h6⟩:=X5n d h.byt (by omega)
 obtain ⟨a,l',g,hk,hz,z,hB,hE,hS⟩:=X1d HF (packs:=u.packs) d.byt h3 (by omega) h4 h5 true (T++u.acc).length
 obtain ⟨o,ho,i,c0⟩:=X4r z h2 d.ex
 have hx:x.take x.length=x:=T0b (T03 _)
 rw [hx] at i
 have q:(R0 F true u).acc=u.acc++(A9 3 (1+2*a)++g):=by
  show u.acc++Z31 F u.packs u.list (u.raw.take u.told) true u.acc.length=_
  rw [Z94 HF (b:=(T++u.acc).length) (by rw [T01];have:=d.even;omega),hE]
  rfl
 have y:T++J2 (R0 F true u).acc=J2 (T++u.acc++(A9 3 (1+2*a)++g)):=by
  rw [q,T02 T u.acc]
  have m:∀A:List Nat,T++J2 A=J2 (T++A):=fun A=>by
   unfold J2
   rw [T02,show (8- (T++A).length%8)%8=(8-A.length%8)%8 by rw [T01];have:=d.even;omega]
  exact m _
 rw [y]
 have j:isBits (T++u.acc++(A9 3 (1+2*a)++g)):=D8 d.ch.bits01 (D8 (F5 _ _) hB.isBits)
 have a8:(J2 (T++u.acc++(A9 3 (1+2*a)++g))).length≤(T++u.acc++(A9 3 (1+2*a)++g)).length+7:=Y31 _
 have a9:(T++u.acc++(A9 3 (1+2*a)++g)).length=(T++u.acc).length+3+g.length:=by
  simp only [T01,B5];omega
 have b0:=d.size
 have a1:=d.cnt
 have a2:=d.sum
 refine ⟨Z5c _,Y8f j,by omega,fun N hN=> ?_⟩
 obtain ⟨tk,h7⟩:=d.ch.last hN hk hB ho (by omega) (by rw [T00,h1];omega)
 rw [i] at h7
 refine ⟨tk,ks++[a],ss++[x.length],(T++u.acc++(A9 3 (1+2*a)++g)).length, ?_, ?_, ?_, ?_,fun v hv=> ?_⟩
 ·rw [h7]
  congr 1
  have m:=Y8p (T++u.acc++(A9 3 (1+2*a)++g))
  rw [O7] at m
  exact m.symm
 ·simp only [T01,T08,T09]
  have:=d.ch.count.2
  omega
 ·refine Y9g d.ch.gaps.1 ?_
  rw [d.ch.gaps.2,T00]
  omega
 ·intro hp k f
  rcases List.mem_append.1 f with f | f
  ·exact d.zero (l.trans hp) k f
  simp at f;subst f;exact hz (l.trans hp)
 rcases List.mem_append.1 hv with hv | hv
 ·exact d.ch.stops v hv
 simp only [T0c] at hv;omega
end
section
variable {κ ε:Type} {P:Program} {k:TypeId}
structure W7q (P:Program) (k:TypeId) (kv:κ→Value) (ok:κ→Prop):Prop where
 keyed:Go.Maps.Keyed P k
 is:∀s,ok s→∃l,keyOf P k (kv s)=some l
 inj:∀s s',kv s=kv s'→s=s'
def X0 (kv:κ→Value) (ok:κ→Prop) (ev:ε→Value) (w:World) (b:Nat) (g:κ→Option ε) (n:Nat):Prop:=
 ∃es clock,w.heap[b]?=some (.map es clock)∧(∀x∈es.toList,∃s p,ok s∧g s=some p∧x.key=kv s∧x.val=ev p)∧(∀s p,ok s→g s=some p→∃x∈es.toList,x.key=kv s)∧
  es.toList.Pairwise (fun x y=>x.key≠y.key)∧es.size≤n
variable {kv:κ→Value} {ok:κ→Prop} {ev:ε→Value} {w:World} {b n:Nat} {g:κ→Option ε}
theorem X0.lt (h:X0 kv ok ev w b g n):b < w.heap.size:=by
 obtain ⟨f,a,d,_⟩:=h
 exact (Array.getElem?_eq_some_iff.1 d).1
theorem X0.kept (h:X0 kv ok ev w b g n) {w':World} {S:Nat→Prop} (hm:E5 w w' S) (hs:¬S b):X0 kv ok ev w' b g n:=by
 have d:=h.lt
 obtain ⟨f,a,i,rest⟩:=h
 exact ⟨f,a,(hm.block b d hs).trans i,rest⟩
theorem X0.look {t e:TypeId} {z:Value} (h:X0 kv ok ev w b g n) (K:W7q P k kv ok) (ht:P.underlying t=some (.map k e)) (hz:(zeroValue e).run P w= .ok z w) (s:κ) (hs:ok s):
  (Instr.lookup t (.map (some b)) (kv s) true).run P w= .ok (.tuple #[((g s).map ev).getD z,.bool (g s).isSome]) w:=by
 obtain ⟨q,a,r,y,h2,_,_⟩:=h
 obtain ⟨l,d⟩:=K.is s hs
 have hk:∀x∈q.toList,∃l,keyOf P k x.key=some l:=fun x m=>by
  obtain ⟨f,p,o1,_,i,_⟩:=y x m
  rw [i];exact K.is f o1
 rcases K.keyed.find w d q.toList hk with ⟨f1,f2⟩ | ⟨j,x,f1,f2,f3⟩
 ·have hg:g s=none:=by
   cases c:g s with
   | none=>rfl
   | some p=>
    obtain ⟨x,m,o⟩:=h2 s p hs c
    exact absurd o (f2 x m)
  rw [hg]
  simp [Instr.lookup,run_underlying ht,MapKept.run_getObj_map r,K.keyed.check w _ d,f1,hz,Result.andThen]
 obtain ⟨f,p,o1,i,o3,o4⟩:=y x (List.mem_of_getElem? f2)
 have e:f=s:=K.inj _ _ (o3.symm.trans f3)
 subst e
 rw [i]
 rw [o4] at f1
 simp [Instr.lookup,run_underlying ht,MapKept.run_getObj_map r,K.keyed.check w _ d,f1,Result.andThen]
theorem X0.store {t e:TypeId} (h:X0 kv ok ev w b g n) (K:W7q P k kv ok) (ht:P.underlying t=some (.map k e)) (s:κ) (hs:ok s) (p:ε) (g':κ→Option ε) (h1:g' s=some p) (h2:∀s',s'≠s→g' s'=g s'):
  ∃w',(Instr.mapUpdate t (.map (some b)) (kv s) (ev p)).run P w= .ok () w'∧X0 kv ok ev w' b g' (n+1)∧E5 w w' (fun j=>j=b):=by
 obtain ⟨q,d,hb,k1,k2,k3,k4⟩:=h
 obtain ⟨l,hl⟩:=K.is s hs
 have hk:∀x∈q.toList,∃l,keyOf P k x.key=some l:=fun x hx=>by
  obtain ⟨s',p,o1,_,o2,_⟩:=k1 x hx
  rw [o2];exact K.is s' o1
 have a3:∀o,E5 w (ChangeMaps.setBlock w b o) (fun j=>j=b):=fun o=>
  ⟨rfl,rfl,rfl,by simp [ChangeMaps.setBlock],fun j _ hj=>ChangeMaps.heap_setBlock_other hb _ hj⟩
 rcases K.keyed.find w hl q.toList hk with ⟨f1,f2⟩ | ⟨j,x,f1,f2,f3⟩
 ·refine ⟨ChangeMaps.setBlock w b (.map (q.push ⟨kv s,ev p,d⟩) (d+1)), ?_,⟨q.push ⟨kv s,ev p,d⟩,d+1,ChangeMaps.heap_setBlock_same hb _, ?_, ?_, ?_,by simp;omega⟩,a3 _⟩
  ·simp [Instr.mapUpdate,run_underlying ht,MapKept.run_getObj_map hb,K.keyed.check w false hl,f1,MapKept.run_setObj_map _ hb,Result.andThen,ChangeMaps.setBlock]
  ·intro y z
   simp only [T0d,List.mem_append,T0c] at z
   rcases z with z | rfl
   ·obtain ⟨s',p',o1,o2,o3,o4⟩:=k1 y z
    exact ⟨s',p',o1,by rw [h2 s' fun e=>f2 y z (by rw [o3,e])];exact o2,o3,o4⟩
   exact ⟨s,p,hs,h1,rfl,rfl⟩
  ·intro s' p' o1 o2
   by_cases c:s'=s
   ·subst c;exact ⟨⟨kv s',ev p,d⟩,by simp,rfl⟩
   obtain ⟨y,z,a2⟩:=k2 s' p' o1 (by rw [←h2 s' c];exact o2)
   exact ⟨y,by simp only [T0d,List.mem_append];exact .inl z,a2⟩
  rw [T0d,List.pairwise_append]
  exact ⟨k3,List.pairwise_singleton _ _,fun a ha c hc=>by
   simp only [T0c] at hc;subst hc;exact f2 a ha⟩
 have hj:q[j]?=some x:=by simpa using f2
 have a4:j < q.toList.length:=(List.getElem?_eq_some_iff.1 f2).1
 have f:(q.modify j (fun e'=>{e' with key:=kv s,val:=ev p})).toList=q.toList.set j {x with key:=kv s,val:=ev p}:=by rw [Array.toList_modify,ChangeMaps.modify_eq_set _ _ _ _ f2]
 have a5:=List.pairwise_iff_getElem.1 k3
 have m:∀i (r:i < q.toList.length),i≠j→(q.toList[i]).key≠kv s:=by
  intro i r b4 e
  have hx:q.toList[j]=x:=(List.getElem?_eq_some_iff.1 f2).2
  rcases Nat.lt_or_gt_of_ne b4 with c | c
  ·exact a5 i j r a4 c (by rw [e,hx,f3])
  exact a5 j i a4 r c (by rw [e,hx,f3])
 refine ⟨ChangeMaps.setBlock w b (.map (q.modify j (fun e'=>{e' with key:=kv s,val:=ev p})) d), ?_,⟨q.modify j (fun e'=>{e' with key:=kv s,val:=ev p}),d,ChangeMaps.heap_setBlock_same hb _, ?_, ?_, ?_,by simp;omega⟩,a3 _⟩
 ·simp [Instr.mapUpdate,run_underlying ht,MapKept.run_getObj_map hb,K.keyed.check w false hl,f1,hj,f3,K.keyed.stays w hl,MapKept.run_setObj_map _ hb,Result.andThen,ChangeMaps.setBlock]
 ·intro y z
  rw [f] at z
  obtain ⟨i,r,rfl⟩:=T0g z
  rw [List.length_set] at r
  rw [T06]
  by_cases c:j=i
  ·rw [if_pos c];exact ⟨s,p,hs,h1,rfl,rfl⟩
  rw [if_neg c]
  obtain ⟨s',p',o1,o2,o3,o4⟩:=k1 _ (List.getElem_mem r)
  exact ⟨s',p',o1,by rw [h2 s' fun e=>m i r (fun e2=>c e2.symm) (by rw [o3,e])];exact o2,o3,o4⟩
 ·intro s' p' o1 o2
  rw [f]
  by_cases c:s'=s
  ·subst c
   exact ⟨_,List.mem_iff_getElem.2 ⟨j,by simpa using a4,rfl⟩,by simp⟩
  obtain ⟨y,z,a2⟩:=k2 s' p' o1 (by rw [←h2 s' c];exact o2)
  obtain ⟨i,r,rfl⟩:=T0g z
  have b3:j≠i:=fun e=>c (K.inj _ _ (by
   subst e
   have hx:q.toList[j]=x:=(List.getElem?_eq_some_iff.1 f2).2
   rw [←a2,hx,f3]))
  exact ⟨q.toList[i],List.mem_iff_getElem.2 ⟨i,by simpa using r,by rw [T06,if_neg b3]⟩,a2⟩
 rw [f,List.pairwise_iff_getElem]
 intro i i' r a7 b5
 rw [List.length_set] at r a7
 rw [T06,T06]
 split
 ·rw [if_neg (by omega)];exact fun e=>m i' a7 (by omega) e.symm
 split
 ·exact m i r (by omega)
 exact a5 i i' r a7 b5
theorem X0.clear {t e ty:TypeId} (h:X0 kv ok ev w b g n) (ht:P.underlying t=some (.map k e)):
  ∃w',(Builtin.clear_ #[t] ty #[.map (some b)]).run P w= .ok (.tuple #[]) w'∧X0 kv ok ev w' b (fun _=>none) 0∧E5 w w' (fun j=>j=b):=by
 obtain ⟨f,a,d,_⟩:=h
 refine ⟨ChangeMaps.setBlock w b (.map #[] a), ?_,⟨#[],a,ChangeMaps.heap_setBlock_same d _,by simp,by simp,by simp,T03 _⟩,⟨rfl,rfl,rfl,by simp [ChangeMaps.setBlock],fun j _ hj=>ChangeMaps.heap_setBlock_other d _ hj⟩⟩
 simp [Builtin.clear_,run_underlying ht,MapKept.run_getObj_map d,MapKept.run_setObj_map _ d,Result.andThen,ChangeMaps.setBlock]
theorem X0.made (w:World):X0 kv ok ev (w.alloc (.map #[] 0)) w.heap.size (fun _=>none) 0:=
 ⟨#[],0,(MapKept.heap_alloc w _).1,by simp,by simp,by simp,T03 _⟩
def Y8v (kv:κ→Value) (ok:κ→Prop) (ev:ε→Value) (v:Value) (g:κ→Option ε) (n:Nat):A6 where
 res:=fun w F=>∃b,v= .map (some b)∧X0 kv ok ev w b g n∧∀j,F j↔j=b
 loc:=fun _ _ _ _ ⟨b,hv,h,hF⟩ hm hS=>⟨b,hv,h.kept hm (hS b ((hF b).2 rfl)),hF⟩
variable {w0 w':World} {Rs:List A6} {v:Value}
theorem A4.map (h:A4 w0 w (Y8v kv ok ev v g n::Rs)):∃b,v= .map (some b)∧X0 kv ok ev w b g n:=by
 obtain ⟨F,⟨b,a,d,_⟩,_⟩:=h
 exact ⟨b,a,d⟩
theorem A4.putMap {g':κ→Option ε} {n':Nat} (h:A4 w0 w (Y8v kv ok ev (.map (some b)) g n::Rs)) (h1:X0 kv ok ev w' b g' n') (hm:E5 w w' (fun j=>j=b)):A4 w0 w' (Y8v kv ok ev (.map (some b)) g' n'::Rs):=by
 obtain ⟨F,⟨k,d,l,f⟩,i,a⟩:=h.take
 simp only [Value.map.injEq,Option.some.injEq] at d
 subst d
 exact a w' _ F ⟨b,rfl,h1,f⟩ (hm.mono fun j _ hj=>(f j).2 hj) (fun j hj=> .inl hj) (fun j hj=>Nat.lt_of_lt_of_le (i j hj).2 hm.size)
theorem A4.newMap (h:A4 w0 w Rs):A4 w0 (w.alloc (.map #[] 0)) (Y8v kv ok ev (.map (some w.heap.size)) (fun _=>none) 0::Rs):=
 h.push _ (fun j=>j=w.heap.size) ⟨_,rfl,X0.made w,fun _=>Iff.rfl⟩ ((E5.refl w _).alloc _) (fun j hj=>by subst hj;exact ⟨T03 _,by simp⟩)
theorem A4.moreMap {n':Nat} (h:A4 w0 w (Y8v kv ok ev v g n::Rs)) (hn:n≤n'):A4 w0 w (Y8v kv ok ev v g n'::Rs):=by
 obtain ⟨F,⟨b,d,⟨f,a,i,j,k,l,m⟩,o⟩,p⟩:=h
 exact ⟨F,⟨b,d,⟨f,a,i,j,k,l,Nat.le_trans m hn⟩,o⟩,p⟩
theorem Y1t {t e:TypeId} {ops:Array Oper} {rest:List Oper} {o:Oper} {a:Act} {Q:Exit→Act→World→Prop} (hgd:o.guard=none) (x:Operand) (hop:o.op= .call {callee:= .builtin .clear,args:=#[x],argTypes:=#[t]})
  (ht:P.underlying t=some (.map k e)) (hx:a.eval x= .map (some b)) (hh:A4 w0 w (Y8v kv ok ev (.map (some b)) g n::Rs))
  (h:∀w',A4 w0 w' (Y8v kv ok ev (.map (some b)) (fun _=>none) 0::Rs)→wpList P ops Q rest (a.put o.dst (.tuple #[])) w'):wpList P ops Q (o::rest) a w:=by
 refine wpList_plain hgd fun K' hK'=> ?_
 obtain ⟨m,f,i⟩:=hh.map
 simp only [Value.map.injEq,Option.some.injEq] at f
 subst f
 obtain ⟨w',d,j,l⟩:=i.clear (ty:=o.type) ht
 unfold Oper.wp execOp
 simp only [hop,resolve,invoke,builtin,Sem.run_bind,Sem.run_pure,Result.andThen_ok,T0h,List.map_cons,List.map_nil,hx,d]
 exact hK' _ _ (h w' (hh.putMap j l))
end
theorem Y56:(Tryz.prog.info? 218).map (·.zero)=some (some (X4 .u8 [0,0,0])):=by kernel_rfl
theorem Z8h:(Tryz.prog.info? 218).map (·.size)=some 3:=by kernel_rfl
theorem Z2u:(Tryz.prog.info? 5).map (fun i=>(i.zero,i.size,i.bytes))=some (some (.int .u8 0),1,1):=by kernel_rfl
theorem Y5n:(Tryz.prog.info? 39).map (fun i=>(i.zero,i.size,i.bytes))=some (some (.int .u16 0),1,2):=by kernel_rfl
def Z3l (s:List Nat):Prop:=s.length=3∧∀b∈s,b < 256
theorem X9y:Go.Maps.Keyed Tryz.prog 218:=
 Go.Maps.Keyed.of_law (deep_law_laid (show laidOutB Tryz.prog=true by kernel_rfl) (m:=2) (by omega) (show 218 < Tryz.prog.types.size from of_decide_eq_true (by kernel_rfl)) (by kernel_rfl) (by rw [Tryz.underlying218]))
theorem W9c {k:IntKind} {a b:List Nat} (h:X4 k a=X4 k b):a=b:=by
 unfold X4 D5 at h
 have d:=Value.agg.inj h
 have f:a.map (fun (b:Nat)=>Value.int k (b:Int))=b.map (fun (b:Nat)=>Value.int k (b:Int)):=by simpa using d
 exact List.map_inj_right (fun x y h=>by injection h with _ h;omega) |>.1 f
theorem Z5t:W7q Tryz.prog 218 (X4 .u8) Z3l where
 keyed:=X9y
 is:=by
  rintro s ⟨j,l⟩
  match s,j with
  | [a,b,c],_=>
   have n:a < 256:=l a (by simp)
   have f:b < 256:=l b (by simp)
   have o:c < 256:=l c (by simp)
   have g:∀x:Nat,x < 256→(Lit.int .u8 (x:Int)).wf=true:=fun x hx=>by
    show (decide ((0:Int)≤(x:Int)) && decide ((x:Int)≤255))=true
    rw [Bool.and_eq_true,decide_eq_true_eq,decide_eq_true_eq];omega
   have p:Tryz.prog.keyType 218=true:=by kernel_rfl
   have d:Tryz.prog.cellsOf 218=3:=by kernel_rfl
   have i:Tryz.prog.cellsOf 5=1:=by kernel_rfl
   obtain ⟨m,r⟩:∃m,Tryz.prog.types.size=m+1:=⟨Tryz.prog.types.size-1,by
    have:0 < Tryz.prog.types.size:=of_decide_eq_true (by kernel_rfl)
    omega⟩
   have q:(X4 .u8 [a,b,c]).formed Tryz.prog 218=true:=by simp [X4,D5,Value.formed,Tryz.underlying218,d]
   have j:Tryz.prog.keyLits (m+1+1) 218 [.int .u8 (a:Int),.int .u8 (b:Int),.int .u8 (c:Int)]=some [.int .u8 (a:Int),.int .u8 (b:Int),.int .u8 (c:Int)]:=by
    have k:∀x:Nat,x < 256→Tryz.prog.keyLits (m+1) 5 [.int .u8 (x:Int)]=some [.int .u8 (x:Int)]:=fun x hx=>by simp [Program.keyLits,Tryz.underlying5,g x hx]
    unfold Program.keyLits
    rw [Tryz.underlying218]
    simp [d,i,List.range,List.range.loop,k a n,k b f,k c o]
   unfold keyOf
   rw [Tryz.underlying218]
   simp only [p,q,r,Bool.and_true,if_true]
   rw [show (X4 .u8 [a,b,c]).cells.toList=[.int .u8 (a:Int),.int .u8 (b:Int),.int .u8 (c:Int)] by simp [X4,D5,Value.cells],j]
   exact ⟨_,rfl⟩
 inj:=fun _ _ h=>W9c h
theorem Z7a (d:Nat) (hd:d < 2000000000) (w:World):
  Calls Tryz.prog 151 #[.int .i64 (d:Int)] w fun e w'=>e= .returned (.int .i64 ((reach 32768 d:Nat):Int))∧w'=w:=by
 have b:(0:Int)≤(d:Int):=T0i _
 rcases Nat.lt_or_ge 32768 d with h | h
 ·have f:(32768:Int) < (d:Int):=by omega
  have a:=A5 (show reach 32768 d=0 from if_pos h)
  clear h
  go_enter Tryz.func151,Tryz.ntmps151
  go_wp2
  go_ret
  exact ⟨by rw [a.out];rfl,rfl⟩
 have f:¬(32768:Int) < (d:Int):=by omega
 have a:=A5 (show reach 32768 d=d from if_neg (by omega))
 clear h
 go_enter Tryz.func151,Tryz.ntmps151
 go_wp2
 go_ret
 exact ⟨by rw [a.out];rfl,rfl⟩
theorem Y4t {P:Program} {w:World} {ops:Array Oper} {rest:List Oper} {o:Oper} {ac:Act} {Q:Exit→Act→World→Prop} (hgd:o.guard=none) (d s:Operand) (dT sT:TypeId)
  (ho:o.op= .call {callee:= .builtin .copy,args:=#[d,s],argTypes:=#[dT,sT]}) (e:TypeId) (i:TypeInfo) (ht:P.underlying dT=some (.slice e)) (hi:P.info? e=some i) (hs:i.size=1)
  (B n:Nat) (T:TypeId) (k:IntKind) (zs:List Nat) (l:List Nat) (y:Value) (hd:ac.eval d= .slice (some ⟨B,0,none⟩) zs.length zs.length) (hy:ac.eval s=y) (hB:X6 w B (D5 k zs) T) (hsrc:Rd w 1 y n (D5 k l)) (hn:zs.length≤n) (h0:0 < zs.length)
  (h:∀w',X6 w' B (D5 k (l.take zs.length)) T→E5 w w' (fun j=>j=B)→wpList P ops Q rest (ac.put o.dst (goInt ((zs.length:Nat):Int))) w'):wpList P ops Q (o::rest) ac w:=by
 refine wpList_plain hgd fun K hK=> ?_
 obtain ⟨q,sa,m,rfl,a0,a1,a2,p⟩:=hsrc
 have f:Nat.min n zs.length=zs.length:=Nat.min_eq_right hn
 have t:n=l.length:=by rw [Z7p] at q;omega
 rcases p with hm0 | ⟨b,so,rfl,hc⟩
 ·omega
 have a:(D5 k (l.take zs.length)).length=zs.length:=by rw [Z7p,T00];omega
 have r:=run_loadCells_list (P:=P) w ⟨b,so,none⟩ (D5 k (l.take zs.length)) (fun j u hu=>by
  rw [Addr.add_lit]
  refine hc j u ?_
  rw [O8,List.getElem?_take] at hu
  rw [O8]
  split at hu
  ·exact hu
  simp at hu)
 rw [a] at r
 have g:=run_storeCells_at P B 0 T (D5 k (l.take zs.length)) 0 (D5 k zs).toArray w hB (by rw [a];simp [D5]) (Y1c k _)
 have x:((D5 k zs).toArray.toList.take (0+0)++D5 k (l.take zs.length)++(D5 k zs).toArray.toList.drop (0+0+(D5 k (l.take zs.length)).length)).toArray=(D5 k (l.take zs.length)).toArray:=by
  rw [a];simp [D5]
 rw [x] at g
 have z:(Builtin.copy_ #[dT,sT] o.type #[.slice (some ⟨B,0,none⟩) zs.length zs.length,.slice (some ⟨b,so,none⟩) n m]).run P w= .ok (goInt ((zs.length:Nat):Int)) (w.setRow B (D5 k (l.take zs.length)).toArray):=by
  simp [Builtin.copy_,run_underlying ht,Builtin.lenOf,Builtin.firstCells,sizeOf,typeInfo,hi,hs,f,r,g]
 unfold Oper.wp execOp
 simp only [ho,resolve,invoke,builtin,Sem.run_bind,Sem.run_pure,Result.andThen_ok,T0h,List.map_cons,List.map_nil,hd,hy,z]
 exact hK _ _ (h _ (setRow_heap w B _ _ T (0,0) hB) ⟨rfl,rfl,rfl,by simp,fun j _ hne=>setRow_other w B j _ hne⟩)
theorem Y4k (v:Value) (n:Nat) (l:List Nat) (w:World) (hv:Rd w 1 v n (D9 l)) (hn:3≤n):
  Calls Tryz.prog 150 #[v] w fun e w'=>e= .returned (X4 .u8 (l.take 3))∧E5 w w' (fun _=>False):=by
 obtain ⟨ao,a3,rfl,_,_⟩:=hv.form
 obtain ⟨i0,j,a5,m,a6⟩:=info_parts Z2u
 have a:X6 ((w.alloc (.cells (D5 .u8 [0,0,0]).toArray 218)).alloc (.cells (D5 .u8 [0,0,0]).toArray 218)) w.heap.size (D5 .u8 [0,0,0]) 218:=(X6.new w _ _).alloc _
 have b:X6 ((w.alloc (.cells (D5 .u8 [0,0,0]).toArray 218)).alloc (.cells (D5 .u8 [0,0,0]).toArray 218)) (w.heap.size+1) (D5 .u8 [0,0,0]) 218:=by
  have:=X6.new (w.alloc (.cells (D5 .u8 [0,0,0]).toArray 218)) (D5 .u8 [0,0,0]) 218
  rw [show (w.alloc (.cells (D5 .u8 [0,0,0]).toArray 218)).heap.size=w.heap.size+1 by simp] at this
  exact this
 have f:E5 w ((w.alloc (.cells (D5 .u8 [0,0,0]).toArray 218)).alloc (.cells (D5 .u8 [0,0,0]).toArray 218)) (fun _=>False):=((E5.refl w _).alloc _).alloc _
 have r:=A5 (hv.kept f (fun _ _ h=>h))
 have s:=A5 a
 have t:=A5 b
 have x:=A5 f
 have d:(l.take 3).length=3:=by have:=hv.1;rw [E6] at this;rw [T00];omega
 have g:=A5 d
 clear hv a b f d
 go_enter Tryz.func150,Tryz.ntmps150
 go_wp2_with (first
  | (refine K1 rfl _ rfl .u8 _ Y56 ?_)
  | (refine Y4t rfl (.tmp 4) (.tmp 5) 26 26 rfl 5 i0 Tryz.underlying26 j m (w.heap.size+1) n 218 .u8 [0,0,0] l _ rfl rfl t.out r.out hn (by decide) ?_;intro w3 o i;have y:=A5 (s.out.kept i (by omega));have z:=A5 o;have M3:=A5 i;clear o i)
  | (refine Z06 rfl 218 _ rfl _ 3 Tryz.underlying218 rfl Z8h (w.heap.size+1) .u8 (l.take 3) 218 rfl g.out z.out ?_)
  | (refine N5 rfl 218 _ _ rfl 3 Z8h w.heap.size .u8 [0,0,0] (l.take 3) 218 rfl rfl rfl g.out y.out ?_;intro w4 p q;have H4:=A5 p;have M4:=A5 q;clear p q))
 refine X3f rfl _ 3 Tryz.underlying218 rfl Z8h w.heap.size .u8 (l.take 3) 218 rfl g.out H4.out rfl ⟨rfl, ?_⟩
 have hs:w.heap.size≤w.heap.size+1:=by omega
 exact ((x.out.trans M3.out (fun k hk e=>by omega)).trans M4.out (fun k hk e=>by omega))
def Z6j (tr en la:Nat) (lv:Value) (gone:Nat) (lm om bv:Value) (at':Nat):List Value:=
 [.int .i64 (tr:Int),.int .i64 (en:Int),.int .i64 (la:Int),lv,.int .i64 (gone:Int),lm,om,bv,.int .i64 (at':Int)]
def Z3k (v:Value) (g:List Nat→Option Nat) (n:Nat):A6:=Y8v (X4 .u8) Z3l (fun p:Nat=> .int .i64 (p:Int)) v g n
def Y2h (tr en la at' gone:Nat) (bs bk:List Nat) (g h:List Nat→Option Nat) (n:Nat) (B:C4) (lv bv:Value) (m1 m2:Nat):List A6:=
 [Q0 B (Z6j tr en la lv gone (.map (some m1)) (.map (some m2)) bv at'),B0 5 1 lv bs.length (D9 bs),B0 39 1 bv bk.length (D5 .u16 bk),Z3k (.map (some m1)) g n,Z3k (.map (some m2)) h n]
def Z81 (tr en la at' gone:Nat) (bs bk:List Nat) (g h:List Nat→Option Nat) (n:Nat) (B:C4):A6:=
 exT fun q:Value×Value×Nat×Nat=>Z0g (Y2h tr en la at' gone bs bk g h n B q.1 q.2.1 q.2.2.1 q.2.2.2)
section
variable {w0 w:World} {Rs:List A6} {tr en la at' gone n:Nat} {B:C4} {bs bk:List Nat} {g h:List Nat→Option Nat}
theorem Z3m (H:A4 w0 w (Z81 tr en la at' gone bs bk g h n B::Rs)):∃ (lv bv:Value) (m1 m2:Nat),A4 w0 w (Y2h tr en la at' gone bs bk g h n B lv bv m1 m2++Rs):=by
 obtain ⟨⟨lv,bv,m1,m2⟩,a⟩:=H.ex
 exact ⟨lv,bv,m1,m2,a.unall⟩
theorem Z7b (lv bv:Value) (m1 m2:Nat) (H:A4 w0 w (Y2h tr en la at' gone bs bk g h n B lv bv m1 m2++Rs)):A4 w0 w (Z81 tr en la at' gone bs bk g h n B::Rs):=
 A4.mk (R:=fun q:Value×Value×Nat×Nat=>Z0g (Y2h tr en la at' gone bs bk g h n B q.1 q.2.1 q.2.2.1 q.2.2.2)) (lv,bv,m1,m2) H.all
theorem W6 {lv bv:Value} {m1 m2:Nat} (H:A4 w0 w (Y2h tr en la at' gone bs bk g h n B lv bv m1 m2++Rs)):
  X7 w B (Z6j tr en la lv gone (.map (some m1)) (.map (some m2)) bv at')∧Own w 5 1 lv bs.length (D9 bs)∧Own w 39 1 bv bk.length (D5 .u16 bk)∧
   X0 (X4 .u8) Z3l (fun p:Nat=> .int .i64 (p:Int)) w m1 g n∧X0 (X4 .u8) Z3l (fun p:Nat=> .int .i64 (p:Int)) w m2 h n:=by
 have a:A4 w0 w (Q0 B (Z6j tr en la lv gone (.map (some m1)) (.map (some m2)) bv at')::B0 5 1 lv bs.length (D9 bs)::B0 39 1 bv bk.length (D5 .u16 bk)::Z3k (.map (some m1)) g n::Z3k (.map (some m2)) h n::Rs):=H
 have f:=a.objp
 have i:=a.drop.own
 have j:=a.drop.drop.own
 obtain ⟨m,b,k⟩:=a.drop.drop.drop.map
 obtain ⟨o,d,l⟩:=a.drop.drop.drop.drop.map
 simp only [Value.map.injEq,Option.some.injEq] at b d
 subst b;subst d
 exact ⟨f,i,j,k,l⟩
end
theorem Y1n (w:World):(zeroValue 3).run Tryz.prog w= .ok (.int .i64 0) w:=by kernel_rfl
theorem X6l {x:List Nat} {P:Nat} (h:P+3≤x.length) (hb:∀b∈x,b < 256):∃a b c:Nat,at3 x P=[a,b,c]∧Z3l (at3 x P):=by
 have d:(at3 x P).length=3:=by unfold at3;rw [T00,T04];omega
 have f:Z3l (at3 x P):=⟨d,fun b h=>hb b (T07 (T05 h))⟩
 match e:at3 x P,d with
 | [a,b,c],_=>exact ⟨a,b,c,rfl,by rw [←e];exact f⟩
section
variable {w0 w:World} {Rs:List A6} {tr en la at' cut n a P:Nat} {B:C4} {x bk:List Nat}
theorem Y4i (H:A4 w0 w (Z81 tr en la at' cut (x.drop cut) bk (P9 x a P) (P3 32768 x a) n B::Rs)) (hcut:cut≤P) (hx:P+3≤x.length) (hlen:x.length < 1000000000) (ha:a≤P) (hb:∀b∈x,b < 256):
  Calls Tryz.prog 118 #[.pointer (some ⟨B.b,B.o+3,none⟩),.int .i64 ((P-cut:Nat):Int)] w fun e w'=>e= .returned (.int .i64 ((Z2c 32768 x P:Nat):Int))∧E5 w w' (fun _=>False):=by
 obtain ⟨i0,e8,g6,e9,g7⟩:=info_parts Z2u
 obtain ⟨lv,bv,m1,m2,HF⟩:=Z3m H
 obtain ⟨hB,hO,_,d1,d2⟩:=W6 HF
 obtain ⟨L,hL⟩:∃L,L=(x.drop cut).length:=⟨_,rfl⟩
 obtain ⟨i,hi⟩:∃i,i=P-cut:=⟨_,rfl⟩
 have b2:L=x.length-cut:=by rw [hL,T04]
 rw [←hL] at hO
 rw [←hi]
 have c1:i≤L:=by omega
 obtain ⟨ao,a8,rfl,f1,g8⟩:=hO.form
 have c3:=hB.cell (i:=3) rfl
 have a4:∀wg,(Instr.sliceAt 26 (.slice ao L a8) (some (.int .i64 (i:Int))) none none).run Tryz.prog wg= .ok (.slice (if a8=i then ao else ao.map fun (x:Addr)=>x.add (i*1)) (L-i) (a8-i)) wg:=fun wg=>
  O0 (P:=Tryz.prog) 26 5 i0 1 Tryz.underlying26 e8 e9 ao L a8 i L (some (.int .i64 (i:Int))) none ⟨_,rfl⟩ rfl c1 f1
 have a3:=hO.rd.cut (L:=i) (H:=L) c1 (T03 _)
 unfold sliced at a3
 generalize (if a8=i then ao else ao.map fun (x:Addr)=>x.add (i*1))=a' at a4 a3
 have e2:((D9 (x.drop cut)).drop (i*1)).take ((L-i)*1)=D9 (x.drop P):=by
  rw [Nat.mul_one,Nat.mul_one,T0b (by rw [T04,E6,←hL];omega)]
  simp only [D9,←List.map_drop,List.drop_drop]
  rw [show cut+i=P by omega]
 rw [e2] at a3
 obtain ⟨K,hK⟩:∃K,K=L-i:=⟨_,rfl⟩
 rw [←hK] at a3 a4
 have HS:=A5 (Y4k _ K (x.drop P) w a3 (by omega))
 obtain ⟨z,s1,s2,hs,hg⟩:=X6l hx hb
 have c2:(x.drop P).take 3=[z,s1,s2]:=hs
 rw [c2] at HS
 have HS:Hid (Calls Tryz.prog 150 _ w fun e w'=>e= .returned (.agg #[.int .u8 (z:Int),.int .u8 (s1:Int),.int .u8 (s2:Int)])∧E5 w w' (fun _=>False)):=HS
 have d:=W44 32768 x a P ha
 unfold W9u at d
 rw [hs] at d hg
 have HB:=A5 hB
 have H1:=A5 d1
 have H2:=A5 d2
 have f4:(0:Int)≤(i:Int):=T0i _
 clear hB d1 d2 HF H hO a3 e2 hK c2
 rcases e1:P9 x a P [z,s1,s2] with _ | k
 ·rcases e3:P3 32768 x a [z,s1,s2] with _ | k
  ·rw [e1,e3] at d
   have HN:Hid (0=Z2c 32768 x P):=A5 d
   clear d hi hL b2
   go_enter Tryz.func118,Tryz.ntmps118
   go_wp2_with fail
   refine HS.out.mono ?_
   rintro e y ⟨rfl,g⟩
   have m:=A5 (HB.out.kept g (fun h=>h))
   have q:=A5 (H1.out.kept g (fun h=>h))
   have HM:=A5 g
   clear HS g
   have HA:=A5 (X6.new y (D5 .u8 [0,0,0]) 218)
   have c5:=A5 (m.out.alloc (.cells (D5 .u8 [0,0,0]).toArray 218))
   have b6:=A5 (H2.out.kept HM.out (fun h=>h))
   have c6:=A5 (q.out.kept ((E5.refl y (fun _=>False)).alloc (.cells (D5 .u8 [0,0,0]).toArray 218)) (fun h=>h))
   go_wp2_with (first
    | (refine K1 rfl _ rfl .u8 _ Y56 ?_)
    | (refine N5 rfl 218 _ _ rfl 3 Z8h y.heap.size .u8 [0,0,0] [z,s1,s2] 218 rfl rfl rfl rfl HA.out ?_;intro j b4 m4;have H4:=A5 b4;have M4:=A5 m4;clear b4 m4))
   have f:E5 y j (fun _=>False):=((E5.refl y (fun _=>False)).alloc _).trans M4.out (fun k hk e=>by omega)
   have a6:=A5 (HM.out.same f)
   have l:=A5 (m.out.kept f (fun h=>h))
   have r:=q.out.kept f (fun h=>h)
   have hq:=fun k=>(show X0 (X4 .u8) Z3l (fun p:Nat=> .int .i64 (p:Int)) (j.drewN k) m1 (P9 x a P) n from r.kept ((E5.refl j (fun _=>False)).drewN k) (fun h=>h)).look Z5t (t:=65) Tryz.underlying65 (Y1n _) [z,s1,s2] hg
   rw [e1] at hq
   have hq:∀k',(Instr.lookup 65 (.map (some m1)) (.agg #[.int .u8 (z:Int),.int .u8 (s1:Int),.int .u8 (s2:Int)]) true).run Tryz.prog (j.drewN k')= .ok (.tuple #[.int .i64 0,.bool false]) (j.drewN k'):=hq
   have s:=b6.out.kept f (fun h=>h)
   have a2:=fun k=>(show X0 (X4 .u8) Z3l (fun p:Nat=> .int .i64 (p:Int)) (j.drewN k) m2 (P3 32768 x a) n from s.kept ((E5.refl j (fun _=>False)).drewN k) (fun h=>h)).look Z5t (t:=65) Tryz.underlying65 (Y1n _) [z,s1,s2] hg
   rw [e3] at a2
   have a2:∀k',(Instr.lookup 65 (.map (some m2)) (.agg #[.int .u8 (z:Int),.int .u8 (s1:Int),.int .u8 (s2:Int)]) true).run Tryz.prog (j.drewN k')= .ok (.tuple #[.int .i64 0,.bool false]) (j.drewN k'):=a2
   have d6:=l.out.cell (i:=6) rfl
   have q0:=H4.out.cell0 rfl
   have q1:=H4.out.cell (i:=1) rfl
   have q2:=H4.out.cell (i:=2) rfl
   have d5:=l.out.cell (i:=5) rfl
   have d4:=l.out.cell (i:=4) rfl
   clear r f s
   go_quiet (fail)
   go_wp2
   go_quiet (fail)
   go_wp2
   go_ret
   exact ⟨by rw [←HN.out];rfl,a6.out.drewN _⟩
  rw [e1,e3] at d
  have d:reach 32768 (P-k)=Z2c 32768 x P:=d
  have hk:k < P:=by
   unfold P3 at e3
   have:=Option.filter_eq_some_iff.1 e3
   have:=(Z0 this.1).1
   omega
  have hd:((cut:Int)+(i:Int))- (k:Int)=((P-k:Nat):Int):=by omega
  have HR:=A5 (Z7a (P-k) (by omega))
  have HN:=A5 d
  obtain ⟨D,hD⟩:∃D,D=P-k:=⟨_,rfl⟩
  rw [←hD] at hd HR HN
  have d0:(cut:Int)+(i:Int)=(P:Int):=by omega
  have e6:P < 1000000000:=by omega
  have e7:(P:Int)- (k:Int)=(D:Int):=by omega
  clear d hi hL b2 hD hd
  go_enter Tryz.func118,Tryz.ntmps118
  go_wp2_with fail
  refine HS.out.mono ?_
  rintro e y ⟨rfl,g⟩
  have m:=A5 (HB.out.kept g (fun h=>h))
  have q:=A5 (H1.out.kept g (fun h=>h))
  have HM:=A5 g
  clear HS g
  have HA:=A5 (X6.new y (D5 .u8 [0,0,0]) 218)
  have c5:=A5 (m.out.alloc (.cells (D5 .u8 [0,0,0]).toArray 218))
  have b6:=A5 (H2.out.kept HM.out (fun h=>h))
  have c6:=A5 (q.out.kept ((E5.refl y (fun _=>False)).alloc (.cells (D5 .u8 [0,0,0]).toArray 218)) (fun h=>h))
  go_wp2_with (first
   | (refine K1 rfl _ rfl .u8 _ Y56 ?_)
   | (refine N5 rfl 218 _ _ rfl 3 Z8h y.heap.size .u8 [0,0,0] [z,s1,s2] 218 rfl rfl rfl rfl HA.out ?_;intro j b4 m4;have H4:=A5 b4;have M4:=A5 m4;clear b4 m4))
  have f:E5 y j (fun _=>False):=((E5.refl y (fun _=>False)).alloc _).trans M4.out (fun k hk e=>by omega)
  have a6:=A5 (HM.out.same f)
  have l:=A5 (m.out.kept f (fun h=>h))
  have r:=q.out.kept f (fun h=>h)
  have hq:=fun k=>(show X0 (X4 .u8) Z3l (fun p:Nat=> .int .i64 (p:Int)) (j.drewN k) m1 (P9 x a P) n from r.kept ((E5.refl j (fun _=>False)).drewN k) (fun h=>h)).look Z5t (t:=65) Tryz.underlying65 (Y1n _) [z,s1,s2] hg
  rw [e1] at hq
  have hq:∀k',(Instr.lookup 65 (.map (some m1)) (.agg #[.int .u8 (z:Int),.int .u8 (s1:Int),.int .u8 (s2:Int)]) true).run Tryz.prog (j.drewN k')= .ok (.tuple #[.int .i64 0,.bool false]) (j.drewN k'):=hq
  have s:=b6.out.kept f (fun h=>h)
  have a2:=fun k=>(show X0 (X4 .u8) Z3l (fun p:Nat=> .int .i64 (p:Int)) (j.drewN k) m2 (P3 32768 x a) n from s.kept ((E5.refl j (fun _=>False)).drewN k) (fun h=>h)).look Z5t (t:=65) Tryz.underlying65 (Y1n _) [z,s1,s2] hg
  rw [e3] at a2
  have a2:∀k',(Instr.lookup 65 (.map (some m2)) (.agg #[.int .u8 (z:Int),.int .u8 (s1:Int),.int .u8 (s2:Int)]) true).run Tryz.prog (j.drewN k')= .ok (.tuple #[.int .i64 (k:Int),.bool true]) (j.drewN k'):=a2
  have d6:=l.out.cell (i:=6) rfl
  have q0:=H4.out.cell0 rfl
  have q1:=H4.out.cell (i:=1) rfl
  have q2:=H4.out.cell (i:=2) rfl
  have d5:=l.out.cell (i:=5) rfl
  have d4:=l.out.cell (i:=4) rfl
  clear r f s
  go_quiet (fail)
  go_wp2
  go_quiet (fail)
  go_wp2_with fail
  refine (HR.out _).mono ?_
  rintro e w5 ⟨rfl,rfl⟩
  go_wp2
  go_ret
  exact ⟨by rw [←HN.out];rfl,a6.out.drewN _⟩
 rw [e1] at d
 have d:reach 32768 (P-k)=Z2c 32768 x P:=d
 have hk:k < P:=by
  unfold P9 at e1
  have:=Option.filter_eq_some_iff.1 e1
  exact (Z0 this.1).1
 have hd:((cut:Int)+(i:Int))- (k:Int)=((P-k:Nat):Int):=by omega
 have HR:=A5 (Z7a (P-k) (by omega))
 have HN:=A5 d
 obtain ⟨D,hD⟩:∃D,D=P-k:=⟨_,rfl⟩
 rw [←hD] at hd HR HN
 have d0:(cut:Int)+(i:Int)=(P:Int):=by omega
 have e6:P < 1000000000:=by omega
 have e7:(P:Int)- (k:Int)=(D:Int):=by omega
 clear d hi hL b2 hD hd
 go_enter Tryz.func118,Tryz.ntmps118
 go_wp2_with fail
 refine HS.out.mono ?_
 rintro e y ⟨rfl,g⟩
 have m:=A5 (HB.out.kept g (fun h=>h))
 have q:=A5 (H1.out.kept g (fun h=>h))
 have HM:=A5 g
 clear HS g
 have HA:=A5 (X6.new y (D5 .u8 [0,0,0]) 218)
 have c5:=A5 (m.out.alloc (.cells (D5 .u8 [0,0,0]).toArray 218))
 have c6:=A5 (q.out.kept ((E5.refl y (fun _=>False)).alloc (.cells (D5 .u8 [0,0,0]).toArray 218)) (fun h=>h))
 go_wp2_with (first
  | (refine K1 rfl _ rfl .u8 _ Y56 ?_)
  | (refine N5 rfl 218 _ _ rfl 3 Z8h y.heap.size .u8 [0,0,0] [z,s1,s2] 218 rfl rfl rfl rfl HA.out ?_;intro j b4 m4;have H4:=A5 b4;have M4:=A5 m4;clear b4 m4))
 have f:E5 y j (fun _=>False):=((E5.refl y (fun _=>False)).alloc _).trans M4.out (fun k hk e=>by omega)
 have a6:=A5 (HM.out.same f)
 have l:=A5 (m.out.kept f (fun h=>h))
 have r:=q.out.kept f (fun h=>h)
 have hq:=fun k=>(show X0 (X4 .u8) Z3l (fun p:Nat=> .int .i64 (p:Int)) (j.drewN k) m1 (P9 x a P) n from r.kept ((E5.refl j (fun _=>False)).drewN k) (fun h=>h)).look Z5t (t:=65) Tryz.underlying65 (Y1n _) [z,s1,s2] hg
 rw [e1] at hq
 have hq:∀k',(Instr.lookup 65 (.map (some m1)) (.agg #[.int .u8 (z:Int),.int .u8 (s1:Int),.int .u8 (s2:Int)]) true).run Tryz.prog (j.drewN k')= .ok (.tuple #[.int .i64 (k:Int),.bool true]) (j.drewN k'):=hq
 have q0:=H4.out.cell0 rfl
 have q1:=H4.out.cell (i:=1) rfl
 have q2:=H4.out.cell (i:=2) rfl
 have d5:=l.out.cell (i:=5) rfl
 have d4:=l.out.cell (i:=4) rfl
 clear r f
 go_quiet (fail)
 go_wp2_with fail
 refine (HR.out _).mono ?_
 rintro e w5 ⟨rfl,rfl⟩
 go_wp2
 go_ret
 exact ⟨by rw [←HN.out];rfl,a6.out.drewN _⟩
end
end Go.Proofs.YtbkbkmgogbgofaaGreatDoor
