/- The claim's texts, put together and shortened by a program (names, spaces). -/
import Derived.Test.YtbkbkmgogbgofaaGreatDoorZt22
import Derived.Test.YtbkbkmgogbgofaaGreatDoorZt04
import Derived.Test.YtbkbkmgogbgofaaGreatDoorZt03
import Derived.Test.YtbkbkmgogbgofaaGreatDoorZt18
import Derived.Test.YtbkbkmgogbgofaaGreatDoorZt13
import Derived.Test.YtbkbkmgogbgofaaGreatDoorZt05
import Derived.Test.YtbkbkmgogbgofaaGreatDoorZt10
import Derived.Test.YtbkbkmgogbgofaaGreatDoorZt11
import Derived.Test.YtbkbkmgogbgofaaGreatDoorZt02
open List renaming length_append→T00,getElem?_eq_getElem→T01,replicate→T03,mem_of_getElem?→T04,append_assoc→T06,getElem?_take→T0a,getElem?_eq_none→T0b,take_of_length_le→T0c,perm_append_comm→T0d,ext_getElem?→T0e,getElem?_replicate→T0f,length_cons→T0g,mem_cons_of_mem→T0h,mem_cons_self→T0i,getElem?_drop→T0k,mem_of_mem_take→T0l,count_replicate→T0m,getElem?_cons_zero→T0n,flatMap_cons→T0o,getElem?_map→T0p,take_add_one→T0q
open Nat renaming le_refl→T05,zero_le→T08,le_trans→T09,pow_le_pow_right→T0j
open Int renaming natCast_nonneg→T02,eq_ofNat_of_zero_le→T07
namespace Go.Proofs.YtbkbkmgogbgofaaGreatDoor
set_option maxRecDepth 100000
set_option maxHeartbeats 6400000
open Go.RowKit
structure Y46 (f:List Nat) (m:Nat) (l:List Nat):Prop where
 len:l.length=f.length
 few:U2 f < 2→∀ (i a b:Nat),l[i]?=some a→f[i]?=some b→a=if 0 < b then 1 else 0
 best:2≤U2 f→V69 f m l
section
variable {w0 w:World} {Rs:List A6}
end
def L8 (l:List Nat):List Int:=l.map fun (n:Nat)=>(n:Int)
theorem K9 (l:List Nat):(L8 l).length=l.length:=by simp [L8]
theorem W80 (l:List Nat) (k:Nat):(L8 l)[k]?=(l[k]?).map fun (n:Nat)=>(n:Int):=by simp [L8]
theorem Y6d {l:List Int} {m:Nat} (hm:1≤m) (hm2:m≤15) (hl:l.length≤288) (ha:∀a∈l,0≤a∧a≤(m:Int)) (hs:F0 l=0∨F0 l=32768∨F0 l=16384∧l.count 1=1):D1 l (m:Int)=0:=by
 unfold D1 U3
 rw [if_neg,if_pos hs]
 have b:decide ((m:Int) < 1∨15 < (m:Int)∨288 < l.length)=false:=by rw [decide_eq_false_iff_not];omega
 have d:Z0w l (m:Int)=true:=(Z1v l m).2 ha
 rw [b,d];decide
theorem Z0y {l:List Int} {m:Nat} (h:D1 l (m:Int)=0):l.length≤288∧(∀a∈l,0≤a∧a≤(m:Int))∧(F0 l=0∨F0 l=32768∨F0 l=16384∧l.count 1=1):=by
 unfold D1 at h
 split at h
 ·cases h
 rename_i b
 split at h
 ·rename_i d
  simp only [U3,Bool.or_eq_true,decide_eq_true_eq,Bool.not_eq_true',not_or,Bool.not_eq_false] at b
  exact ⟨by omega,(Z1v l m).1 b.2,d⟩
 cases h
structure Z5f (f:List Nat) (m:Nat) (l:List Nat):Prop where
 len:l.length=f.length
 le:∀a∈l,a≤m
 sup:∀ (i a b:Nat),l[i]?=some a→f[i]?=some b→(0 < a↔0 < b)
 sum:kr l=0∧U2 f=0∨kr l=32768∨kr l=16384∧(L8 l).count 1=1
theorem V13:∀ (l f:List Nat),l.length=f.length→(∀ (i a b:Nat),l[i]?=some a→f[i]?=some b→a=if 0 < b then 1 else 0)→kr l=16384*U2 f∧(L8 l).count 1=U2 f∧∀a∈l,a≤1
 | [],[],_,_=>⟨rfl,rfl,fun _ h=>by cases h⟩
 | [],_::_,h,_=>by simp at h
 | _::_,[],h,_=>by simp at h
 | a::l,b::f,h,hh=>by
  obtain ⟨h1,h2,h3⟩:=V13 l f (by simpa using h) fun i x y hx hy=>hh (i+1) x y hx hy
  have h0:=hh 0 a b rfl rfl
  have e:(L8 (a::l)).count 1=(L8 l).count 1+(if a=1 then 1 else 0):=by
   simp only [L8,List.map_cons,List.count_cons,beq_iff_eq]
   congr 1
   by_cases c:a=1
   ·subst c;rfl
   rw [if_neg (by omega),if_neg c]
  rw [kr,U2,h1,e,h2]
  by_cases c:0 < b
  ·rw [if_pos c] at h0⊢
   subst h0
   rw [show wtN 1=16384 by decide,if_pos rfl]
   exact ⟨by omega,by omega,fun x hx=>by rcases List.mem_cons.1 hx with rfl | hx;exact T05 _;exact h3 x hx⟩
  rw [if_neg c] at h0⊢
  subst h0
  rw [Y5k,if_neg (by decide)]
  exact ⟨by omega,by omega,fun x hx=>by rcases List.mem_cons.1 hx with rfl | hx;exact T08 _;exact h3 x hx⟩
theorem Y46.for {f l:List Nat} {m:Nat} (h:Y46 f m l) (hm:1≤m):Z5f f m l:=by
 by_cases j:U2 f < 2
 ·obtain ⟨k,n,o⟩:=V13 l f h.len (h.few j)
  refine ⟨h.len,fun a ha=>T09 (o a ha) hm,fun i a b ha hb=> ?_, ?_⟩
  ·have:=h.few j i a b ha hb
   rw [this]
   split <;> omega
  have d:U2 f=0∨U2 f=1:=by omega
  rcases d with d | d
  ·exact .inl ⟨by rw [k,d],d⟩
  exact .inr (.inr ⟨by rw [k,d],by rw [n,d]⟩)
 have g:=(h.best (by omega)).good
 exact ⟨g.len,g.le,g.sup,.inr (.inl g.whole)⟩
section
variable {f l:List Nat} {m:Nat}
theorem Z5f.all (h:Z5f f m l):∀a∈L8 l,0≤a∧a≤(m:Int):=fun a ha=>by
 obtain ⟨n,hn,rfl⟩:=List.mem_map.1 ha
 have:=h.le n hn
 exact ⟨T02 _,by omega⟩
theorem Z5f.check (h:Z5f f m l) (hm:1≤m) (hm2:m≤15) (hf:f.length≤288):D1 (L8 l) (m:Int)=0:=by
 refine Y6d hm hm2 (by rw [K9,h.len];exact hf) h.all ?_
 have e:F0 (L8 l)=kr l:=V51 l
 rw [e]
 rcases h.sum with h1 | h1 | h1
 ·exact .inl h1.1
 ·exact .inr (.inl h1)
 exact .inr (.inr h1)
theorem Z5f.has (h:Z5f f m l) {k b:Nat} (hb:f[k]?=some b) (h0:0 < b):K7 (L8 l) k:=by
 have a:k < l.length:=by rw [h.len];exact (List.getElem?_eq_some_iff.1 hb).1
 refine ⟨((l[k]:Nat):Int),by rw [W80,T01 a];rfl, ?_⟩
 have:=(h.sup k l[k] b (T01 a) hb).2 h0
 omega
end
def Z14 (l:List Int) (least:Nat):Nat→Nat
 | 0=>0
 | n+1=>if least < n+1∧l[n]?.getD 0=0 then Z14 l least n else n+1
def Z6y (l:List Int) (least:Nat):List Int:=l.take (Z14 l least l.length)
section
variable {l:List Int} {least:Nat}
theorem Z3t:∀n,Z14 l least n≤n
 | 0=>T05 _
 | n+1=>by unfold Z14;have:=Z3t n;split <;> omega
theorem Y0i:∀n,least≤n→least≤Z14 l least n
 | 0,h=>h
 | n+1,h=>by
  unfold Z14
  split
  ·exact Y0i n (by omega)
  exact h
theorem Z5o:∀n k,Z14 l least n≤k→k < n→l[k]?.getD 0=0
 | 0,k,_,h=>by omega
 | n+1,k,h,h2=>by
  unfold Z14 at h
  split at h
  ·rename_i hc
   by_cases e:k=n
   ·subst e;exact hc.2
   exact Z5o n k h (by omega)
  omega
theorem Z37:(Z6y l least).length=Z14 l least l.length:=by
 have:=Z3t (l:=l) (least:=least) l.length
 simp [Z6y];omega
theorem V1d (k:Nat):(Z6y l least)[k]?.getD 0=l[k]?.getD 0:=by
 unfold Z6y
 rw [T0a]
 split
 ·rfl
 rename_i h
 by_cases a:k < l.length
 ·exact (Z5o (least:=least) l.length k (by omega) a).symm
 rw [T0b (by omega)]
theorem X4w {k:Nat} (h:K7 l k):K7 (Z6y l least) k:=by
 obtain ⟨a,f,g⟩:=h
 have d:=V1d (l:=l) (least:=least) k
 rw [f] at d
 cases e:(Z6y l least)[k]? with
 | none=>rw [e] at d;simp at d;omega
 | some b=>rw [e] at d;simp at d;exact ⟨b,e,by omega⟩
theorem X7j (l:List Int) (least:Nat):∃z,l=Z6y l least++T03 z 0:=by
 refine ⟨l.length-Z14 l least l.length, ?_⟩
 have d:l.drop (Z14 l least l.length)=T03 (l.length-Z14 l least l.length) 0:=by
  refine T0e fun j=> ?_
  rw [T0k,T0f]
  by_cases b:j < l.length-Z14 l least l.length
  ·rw [if_pos b]
   have a:=Z5o (l:=l) (least:=least) l.length (Z14 l least l.length+j) (by omega) (by omega)
   rw [T01 (by omega)] at a⊢
   simp at a
   rw [a]
  rw [if_neg b,T0b (by omega)]
 conv=>lhs;rw [←List.take_append_drop (Z14 l least l.length) l,d]
 rfl
theorem Y3k:∀z:Nat,F0 (T03 z 0)=0
 | 0=>rfl
 | z+1=>by
  rw [List.replicate_succ,sum_cons,Y3k z]
  decide
theorem Y85 {m:Nat} (h:D1 l (m:Int)=0) (hm:1≤m) (hm2:m≤15):D1 (Z6y l least) (m:Int)=0:=by
 obtain ⟨n,k,d⟩:=Z0y h
 obtain ⟨z,f⟩:=X7j l least
 have g:(Z6y l least).length≤l.length:=by rw [Z37];exact Z3t _
 have b:∀a∈Z6y l least,a∈l:=fun a ha=>T0l ha
 have i:F0 l=F0 (Z6y l least):=by
  have e:F0 l=F0 (Z6y l least++T03 z 0):=congrArg F0 f
  rw [e]
  show tot _ 15=tot _ 15
  rw [Y5y]
  have:=Y3k z
  unfold F0 at this
  rw [this,Nat.add_zero]
 have j:l.count 1=(Z6y l least).count 1:=by
  have e:l.count 1=(Z6y l least++T03 z 0).count 1:=congrArg (List.count 1) f
  rw [e,List.count_append,T0m]
  simp
 rw [i,j] at d
 exact Y6d hm hm2 (by omega) (fun a ha=>k a (b a ha)) d
end
def N1 (v:Int):List Int→Nat
 | []=>0
 | a::r=>if a=v then N1 v r+1 else 0
theorem Y1f (v:Int):∀l:List Int,N1 v l≤l.length
 | []=>T05 _
 | a::r=>by unfold N1;have:=Y1f v r;split <;> simp <;> omega
theorem Y2i (v:Int):∀ (l:List Int) (k:Nat),k < N1 v l→l[k]?=some v
 | [],k,h=>by simp [N1] at h
 | a::r,k,h=>by
  unfold N1 at h
  split at h
  ·rename_i e
   cases k with
   | zero=>rw [T0n,e]
   | succ k=>exact Y2i v r k (by omega)
  omega
theorem Y5l (v:Int):∀ (l:List Int) (a:Int),l[N1 v l]?=some a→a≠v
 | [],_,h=>by simp at h
 | b::r,a,h=>by
  unfold N1 at h
  split at h
  ·rw [List.getElem?_cons_succ] at h;exact Y5l v r a h
  rename_i e
  rw [T0n,Option.some.injEq] at h
  rw [←h];exact e
theorem W3k {v:Int} {l:List Int} (h:l[0]?=some v):1≤N1 v l:=by
 cases l with
 | nil=>cases h
 | cons a r=>
  simp at h
  unfold N1
  rw [if_pos h];omega
abbrev Y0:=Nat×Nat×Nat
def U7 (all:List Int) (a:Nat):Y0×Nat:=
 if all[a]?.getD 0=0∧11≤N1 (all[a]?.getD 0) (all.drop a) then ((18,7,min (N1 (all[a]?.getD 0) (all.drop a)) 138-11),min (N1 (all[a]?.getD 0) (all.drop a)) 138)
 else if all[a]?.getD 0=0∧3≤N1 (all[a]?.getD 0) (all.drop a) then ((17,3,min (N1 (all[a]?.getD 0) (all.drop a)) 10-3),min (N1 (all[a]?.getD 0) (all.drop a)) 10)
 else if 0 < a∧all[a-1]?.getD 0=all[a]?.getD 0∧3≤N1 (all[a]?.getD 0) (all.drop a) then ((16,2,min (N1 (all[a]?.getD 0) (all.drop a)) 6-3),min (N1 (all[a]?.getD 0) (all.drop a)) 6)
 else (((all[a]?.getD 0).toNat,0,0),1)
def U8 (all:List Int):Nat→Nat→List Y0
 | 0,_=>[]
 | f+1,a=>if a < all.length then (U7 all a).1::U8 all f (a+(U7 all a).2) else []
def Y5q (hd:List Int) (x:Y0):List Nat:=D8 hd x.1++A9 x.2.1 x.2.2
section
variable {all:List Int}
theorem Y6y {a:Nat} (h:a < all.length):1≤(U7 all a).2∧a+(U7 all a).2≤all.length:=by
 have b:=Y1f (all[a]?.getD 0) (all.drop a)
 rw [List.length_drop] at b
 unfold U7
 split
 ·simp only;omega
 split
 ·simp only;omega
 split
 ·simp only;omega
 simp only;omega
theorem W5p (hA:∀x∈all,0≤x∧x≤15) (a:Nat):(U7 all a).1.1 < 19∧(U7 all a).1.2.1≤7∧(U7 all a).1.2.2 < 2^(U7 all a).1.2.1:=by
 unfold U7
 split
 ·simp only;omega
 split
 ·simp only;omega
 split
 ·simp only;omega
 refine ⟨?_,T08 _,Nat.lt_succ_self 0⟩
 show (all[a]?.getD 0).toNat < 19
 cases e:all[a]? with
 | none=>decide
 | some v=>have:=hA v (T04 e);show v.toNat < 19;omega
theorem Z4b (hA:∀x∈all,0≤x∧x≤15):∀f a,∀x∈U8 all f a,x.1 < 19∧x.2.1≤7∧x.2.2 < 2^x.2.1
 | 0,_,x,h=>by cases h
 | f+1,a,x,h=>by
  unfold U8 at h
  split at h
  ·rcases List.mem_cons.1 h with rfl | h
   ·exact W5p hA a
   exact Z4b hA f _ x h
  cases h
theorem Z30:∀f a,(U8 all f a).length≤f
 | 0,_=>T05 _
 | f+1,a=>by
  unfold U8
  split
  ·rw [T0g];have:=Z30 f (a+(U7 all a).2);omega
  exact T08 _
theorem Y0y {a n:Nat} {v:Int} (h:n≤N1 v (all.drop a)):all.take a++T03 n v=all.take (a+n):=by
 rw [List.take_add]
 congr 1
 refine T0e fun j=> ?_
 rw [T0f,T0a]
 by_cases b:j < n
 ·rw [if_pos b,if_pos b,Y2i v _ j (by omega)]
 rw [if_neg b,if_neg b]
theorem Y7h {hd:List Int} (hA:∀x∈all,0≤x∧x≤15):∀f a,a≤all.length→all.length-a≤f→(∀x∈U8 all f a,K7 hd x.1)→V7 hd (all.take a) ((U8 all f a).flatMap (Y5q hd)) all
 | 0,a,h1,h2,_=>by
  have e:all.take a=all:=T0c (by omega)
  rw [e]
  exact .done all
 | f+1,a,h1,h2,hs=>by
  unfold U8 at hs⊢
  by_cases h:a < all.length
  rotate_left
  ·rw [if_neg h]
   have e:all.take a=all:=T0c (by omega)
   rw [e]
   exact .done all
  rw [if_pos h] at hs⊢
  obtain ⟨g1,g2⟩:=Y6y h
  have ih:=Y7h hA f (a+(U7 all a).2) g2 (by omega) fun x hx=>hs x (T0h _ hx)
  have hs1:=hs _ (T0i ..)
  rw [T0o]
  generalize hR:(U8 all f (a+(U7 all a).2)).flatMap (Y5q hd)=R at ih⊢
  have hv:all[a]?=some (all[a]?.getD 0):=by rw [T01 h];rfl
  have hvm:=hA _ (T04 hv)
  generalize hvv:all[a]?.getD 0=v at hv hvm
  have hrun:(all.drop a)[0]?=some v:=by rw [T0k];exact hv
  have hpos:=W3k hrun
  unfold U7 at ih hs1⊢
  rw [hvv] at ih hs1⊢
  unfold Y5q
  split
  ·rename_i c
   rw [if_pos c] at ih hs1
   obtain ⟨rfl,c2⟩:=c
   have e:=Y0y (all:=all) (a:=a) (n:=min (N1 0 (all.drop a)) 138) (v:=0) (by omega)
   rw [←e] at ih
   have hm:11+(min (N1 0 (all.drop a)) 138-11)=min (N1 0 (all.drop a)) 138:=by omega
   simp only [T06]
   refine .many _ _ _ _ (by omega) hs1 ?_
   rw [hm];exact ih
  rename_i c
  rw [if_neg c] at ih hs1
  split
  ·rename_i c1
   rw [if_pos c1] at ih hs1
   obtain ⟨rfl,c2⟩:=c1
   have e:=Y0y (all:=all) (a:=a) (n:=min (N1 0 (all.drop a)) 10) (v:=0) (by omega)
   rw [←e] at ih
   have hm:3+(min (N1 0 (all.drop a)) 10-3)=min (N1 0 (all.drop a)) 10:=by omega
   simp only [T06]
   refine .zeros _ _ _ _ (by omega) hs1 ?_
   rw [hm];exact ih
  rename_i c1
  rw [if_neg c1] at ih hs1
  split
  ·rename_i c2
   rw [if_pos c2] at ih hs1
   obtain ⟨c3,c4,c5⟩:=c2
   have e:=Y0y (all:=all) (a:=a) (n:=min (N1 v (all.drop a)) 6) (v:=v) (by omega)
   rw [←e] at ih
   have hm:3+(min (N1 v (all.drop a)) 6-3)=min (N1 v (all.drop a)) 6:=by omega
   simp only [T06]
   refine .same _ v _ _ _ ?_ (by omega) hs1 ?_
   ·rw [List.getLast?_eq_getElem?,T0a,List.length_take,if_pos (by omega),show min a all.length-1=a-1 by omega]
    rw [T01 (by omega)] at c4⊢
    simp at c4
    rw [c4]
   rw [hm];exact ih
  rename_i c2
  rw [if_neg c2] at ih hs1
  have e:=Y0y (all:=all) (a:=a) (n:=1) (v:=v) (by omega)
  rw [←e] at ih
  have hz:A9 0 0=[]:=rfl
  simp only [hz,List.append_nil]
  refine .one _ _ _ _ (by omega) hs1 ?_
  have e2:((v.toNat:Nat):Int)=v:=by omega
  rw [e2]
  exact ih
end
def Q8 (Ln:List Nat→Nat→List Nat):Prop:=∀ (f:List Nat) (m:Nat),f.length≤288→1≤m→m≤15→U2 f≤2^m→Y46 f m (Ln f m)
def Y8z (d:List Int):List Int:=if F0 d=0 then d.set 0 1 else d
def K1 (Ln:List Nat→Nat→List Nat) (l:List E1):List Int:=Z6y (L8 (Ln (Z1j l) 15)) 257
def K2 (Ln:List Nat→Nat→List Nat) (l:List E1):List Int:=Z6y (Y8z (L8 (Ln (Z0o l) 15))) 1
def G4 (lit dist:List Int):List Y0:=U8 (lit++dist) (lit++dist).length 0
def Z6w (xs:List Y0) (k:Nat):Nat:=xs.countP fun x=>decide (x.1=k)
def Z13 (xs:List Y0):List Nat:=(List.range 19).map (Z6w xs)
def Z0 (Ln:List Nat→Nat→List Nat) (xs:List Y0):List Int:=L8 (Ln (Z13 xs) 7)
def V3 (hd:List Int):List Int:=M2.map fun s=>hd[s]?.getD 0
def Z2j (hd:List Int):Nat:=Z14 (V3 hd) 4 19
def Z5 (hd:List Int) (xs:List Y0):List Nat:=xs.flatMap (Y5q hd)
def Z5r (lit dist hd:List Int) (xs:List Y0):List Nat:=U5 lit dist hd (Z2j hd) (Z5 hd xs)
def G3 (Ln:List Nat→Nat→List Nat) (kind:Nat) (l:List E1) (raw:List Nat) (a:Nat):List Nat:=
 if kind=0 then G6 a raw
 else if kind=1 then P7 I0 G7 l
 else Z5r (K1 Ln l) (K2 Ln l) (Z0 Ln (G4 (K1 Ln l) (K2 Ln l))) (G4 (K1 Ln l) (K2 Ln l))++P7 (K1 Ln l) (K2 Ln l) l
theorem Z33:∀l:List Nat,U2 l≤l.length
 | []=>T05 _
 | a::l=>by rw [U2,T0g];have:=Z33 l;split <;> omega
section
variable {Ln:List Nat→Nat→List Nat} {l:List E1}
theorem X2y (H:Q8 Ln) (l:List E1):Z5f (Z1j l) 15 (Ln (Z1j l) 15):=
 (H (Z1j l) 15 (by rw [N3];decide) (by decide) (by decide) (T09 (Z33 _) (by rw [N3];decide))).for (by decide)
theorem X3n (H:Q8 Ln) (l:List E1):Z5f (Z0o l) 15 (Ln (Z0o l) 15):=
 (H (Z0o l) 15 (by rw [N5];decide) (by decide) (by decide) (T09 (Z33 _) (by rw [N5];decide))).for (by decide)
theorem W4 (xs:List Y0):(Z13 xs).length=19:=by simp [Z13]
theorem Y1i (xs:List Y0) {k:Nat} (h:k < 19):(Z13 xs)[k]?=some (Z6w xs k):=by simp [Z13,h]
theorem X2s (xs:List Y0) (k:Nat):Z6w xs k≤xs.length:=List.countP_le_length
theorem Y0x (H:Q8 Ln) (xs:List Y0):Z5f (Z13 xs) 7 (Ln (Z13 xs) 7):=
 (H (Z13 xs) 7 (by rw [W4];decide) (by decide) (by decide) (T09 (Z33 _) (by rw [W4];decide))).for (by decide)
theorem W0o (H:Q8 Ln) (l:List E1):D1 (L8 (Ln (Z1j l) 15)) 15=0:=(X2y H l).check (by decide) (by decide) (by rw [N3];decide)
theorem Z2v (H:Q8 Ln) (l:List E1):D1 (K1 Ln l) 15=0:=Y85 (m:=15) (W0o H l) (by decide) (by decide)
theorem W44 {l:List Int} (h:∀a∈l,a=0) (hl:0 < l.length):l.set 0 1=1::T03 (l.length-1) 0:=by
 match l,hl with
 | a::r,_=>
  show 1::r=_
  congr 1
  exact List.eq_replicate_iff.2 ⟨by simp,fun b hb=>h b (T0h _ hb)⟩
theorem X2z {l:List Int} (hh:∀a∈l,0≤a∧a≤15) (hs:F0 l=0):∀a∈l,a=0:=by
 intro a d
 obtain ⟨i,g⟩:=List.getElem?_of_mem d
 have k:=hh a d
 refine Classical.byContradiction fun hne=> ?_
 obtain ⟨n,j⟩:∃n:Nat,a=((n+1:Nat):Int):=⟨a.toNat-1,by omega⟩
 subst j
 have b:=Y30 l i n g (by omega)
 have m:=Z87 l (n+1) 15 (by omega)
 have f:1≤2^(14-n):=Nat.one_le_two_pow
 unfold F0 at hs
 generalize 2^(14-n)=z at b f
 generalize F9 l i*z=y at b
 omega
theorem Z9w {d:List Int} (h:D1 d 15=0) (hl:1≤d.length):D1 (Y8z d) 15=0∧(Y8z d).length=d.length∧∀k,K7 d k→Y8z d=d:=by
 obtain ⟨g,f,i⟩:=Z0y (m:=15) h
 unfold Y8z
 by_cases c:F0 d=0
 ·rw [if_pos c]
  have b:=X2z f c
  refine ⟨?_,by simp,fun k ⟨a,ha,ha0⟩=>by have:=b a (T04 ha);omega⟩
  rw [W44 b hl]
  refine Y6d (m:=15) (by decide) (by decide) (by simp;omega) (fun a ha=> ?_) (.inr (.inr ⟨?_, ?_⟩))
  ·rcases List.mem_cons.1 ha with rfl | ha
   ·decide
   rw [List.eq_of_mem_replicate ha];decide
  ·rw [sum_cons,Y3k];decide
  rw [List.count_cons,T0m];simp
 rw [if_neg c]
 exact ⟨h,rfl,fun _ _=>rfl⟩
theorem Z9m (H:Q8 Ln) (l:List E1):D1 (L8 (Ln (Z0o l) 15)) 15=0:=(X3n H l).check (by decide) (by decide) (by rw [N5];decide)
theorem Z7s (H:Q8 Ln) (l:List E1):(L8 (Ln (Z0o l) 15)).length=30:=by rw [K9,(X3n H l).len,N5]
theorem X64 (H:Q8 Ln) (l:List E1):(L8 (Ln (Z1j l) 15)).length=286:=by rw [K9,(X2y H l).len,N3]
theorem X94 (H:Q8 Ln) (l:List E1):D1 (Y8z (L8 (Ln (Z0o l) 15))) 15=0:=(Z9w (Z9m H l) (by rw [Z7s H l];decide)).1
theorem X73 (H:Q8 Ln) (l:List E1):(Y8z (L8 (Ln (Z0o l) 15))).length=30:=by rw [(Z9w (Z9m H l) (by rw [Z7s H l];decide)).2.1,Z7s H l]
theorem Z2u (H:Q8 Ln) (l:List E1):D1 (K2 Ln l) 15=0:=Y85 (m:=15) (X94 H l) (by decide) (by decide)
theorem Y5d (H:Q8 Ln) (l:List E1):∀a∈K1 Ln l,0≤a∧a≤15:=(Z0y (m:=15) (Z2v H l)).2.1
theorem Y55 (H:Q8 Ln) (l:List E1):∀a∈K2 Ln l,0≤a∧a≤15:=(Z0y (m:=15) (Z2u H l)).2.1
theorem Y5b (H:Q8 Ln) (l:List E1):257≤(K1 Ln l).length∧(K1 Ln l).length≤286:=by
 have h:=X64 H l
 unfold K1
 rw [Z37,h]
 exact ⟨Y0i _ (by decide),Z3t _⟩
theorem Y53 (H:Q8 Ln) (l:List E1):1≤(K2 Ln l).length∧(K2 Ln l).length≤30:=by
 have h:=X73 H l
 unfold K2
 rw [Z37,h]
 exact ⟨Y0i _ (by decide),Z3t _⟩
theorem X2a (H:Q8 Ln) {l:List E1} {k:Nat} (hk:k < 286) (h:0 < Z5v l k):K7 (K1 Ln l) k:=X4w ((X2y H l).has (X5q l hk) h)
theorem V37 (H:Q8 Ln) {l:List E1} {k:Nat} (hk:k < 30) (h:0 < Z5z l k):K7 (K2 Ln l) k:=by
 have a:=(X3n H l).has (X43 l hk) h
 unfold K2
 rw [(Z9w (Z9m H l) (by rw [Z7s H l];decide)).2.2 k a]
 exact X4w a
theorem Y6n (H:Q8 Ln) {l:List E1} (hs:∀t∈l,E8 t=true) (hb:N9 l):X22 (K1 Ln l) (K2 Ln l) l:=
 ⟨X2a H (by decide) (X68 l),fun t ht=>⟨X2a H (Y21 (hs t ht) (hb t ht)) (W84 ht),fun h0=>V37 H (Z6c (hs t ht) h0).1 (W8p ht h0)⟩⟩
theorem Y76:∀k,k < 288→K7 I0 k:=by
 intro k a
 have h:I0[k]?=some (Z49 k):=by simp [I0,a]
 refine ⟨_,h, ?_⟩
 unfold Z49
 repeat (first | decide | split)
theorem Y5r {l:List E1} (hs:∀t∈l,E8 t=true) (hb:N9 l):X22 I0 G7 l:=
 ⟨Y76 256 (by decide),fun t ht=>⟨Y76 _ (by have:=Y21 (hs t ht) (hb t ht);omega),fun h0=>by
  have:=(Z6c (hs t ht) h0).1
  exact ⟨5,by unfold G7;rw [T0f,if_pos (by omega)],by decide⟩⟩⟩
theorem Y3g (H:Q8 Ln) (xs:List Y0):(Z0 Ln xs).length=19:=by unfold Z0;rw [K9,(Y0x H xs).len,W4]
theorem Z4v (H:Q8 Ln) (xs:List Y0):D1 (Z0 Ln xs) 7=0:=(Y0x H xs).check (by decide) (by decide) (by rw [W4];decide)
theorem Z5s (H:Q8 Ln) (xs:List Y0):∀a∈Z0 Ln xs,0≤a∧a≤7:=(Y0x H xs).all
theorem Y2n (H:Q8 Ln) {xs:List Y0} {x:Y0} (h:x∈xs) (hx:x.1 < 19):K7 (Z0 Ln xs) x.1:=
 (Y0x H xs).has (Y1i xs hx) (List.countP_pos_iff.2 ⟨x,h,by simp⟩)
theorem Z6m (hd:List Int):(V3 hd).length=19:=by simp [V3];rfl
theorem Z8s (hd:List Int) {i:Nat} (h:i < 19):(V3 hd)[i]?=some (hd[F7 i]?.getD 0):=by
 unfold V3 F7
 have:i < M2.length:=h
 rw [T0p,T01 this];rfl
theorem Y9p:∀j,j < 19→∃i,i < 19∧F7 i=j:=by
 intro j a
 have h:∀j,j < 19→(List.range 19).any (fun i=>decide (F7 i=j))=true:=by decide+kernel
 obtain ⟨i,b,e⟩:=List.any_eq_true.1 (h j a)
 exact ⟨i,List.mem_range.1 b,of_decide_eq_true e⟩
theorem W59 {i c:Nat} (h:i < c) (hi:i < 19):F7 i∈M2.take c:=by
 have a:i < M2.length:=hi
 have e:M2[i]?=some (F7 i):=by unfold F7;rw [T01 a];rfl
 refine T04 (i:=i) ?_
 rw [T0a,if_pos h,e]
theorem W5y {hd:List Int} (hl:hd.length=19):Z50 hd (Z2j hd)=hd:=by
 refine T0e fun j=> ?_
 unfold Z50
 by_cases f:j < 19
 ·rw [T0p,List.getElem?_range f]
  have g:hd[j]?=some (hd[j]?.getD 0):=by rw [T01 (by omega)];rfl
  rw [g]
  simp only [Option.map_some,Option.some.injEq]
  split
  ·rfl
  rename_i a
  obtain ⟨i,b,e⟩:=Y9p j f
  have k:Z2j hd≤i:=by
   refine Classical.byContradiction fun h=>a ?_
   rw [←e]
   exact W59 (by omega) b
  have d:=Z5o (l:=V3 hd) (least:=4) 19 i k b
  rw [Z8s hd b,e] at d
  exact d.symm
 rw [T0b (by simp;omega),T0b (by omega)]
theorem W6b {hd:List Int} {k:Nat} (hk:k < 19) (h:K7 hd k):∃i,i < Z2j hd∧0 < hd[F7 i]?.getD 0:=by
 obtain ⟨i,d,e⟩:=Y9p k hk
 obtain ⟨a,g,j⟩:=h
 have f:0 < hd[F7 i]?.getD 0:=by rw [e,g];exact j
 refine ⟨i,Classical.byContradiction fun hc=> ?_,f⟩
 have b:=Z5o (l:=V3 hd) (least:=4) 19 i (by unfold Z2j at hc;omega) d
 rw [Z8s hd d] at b
 have m:hd[F7 i]?.getD 0=0:=b
 omega
theorem Y54 {lit dist:List Int} (h1:∀a∈lit,0≤a∧a≤15) (h2:∀a∈dist,0≤a∧a≤15):∀a∈lit++dist,0≤a∧a≤15:=fun a ha=>(List.mem_append.1 ha).elim (h1 a) (h2 a)
theorem W5q {l:List Int} {m:Nat} (h:D1 l (m:Int)=0):F0 l≤32768:=by have:=(Z0y h).2.2;omega
theorem W4z (H:Q8 Ln) (l:List E1):Y5m (K1 Ln l) (K2 Ln l) (Z0 Ln (G4 (K1 Ln l) (K2 Ln l))) (Z2j (Z0 Ln (G4 (K1 Ln l) (K2 Ln l)))) (Z5 (Z0 Ln (G4 (K1 Ln l) (K2 Ln l))) (G4 (K1 Ln l) (K2 Ln l))):=by
 have i:=Y54 (Y5d H l) (Y55 H l)
 have j:=Y5b H l
 have hd:=Y53 H l
 have b:=Z4b i (K1 Ln l++K2 Ln l).length 0
 have o:=Y3g H (G4 (K1 Ln l) (K2 Ln l))
 have k:0 < (K1 Ln l++K2 Ln l).length:=by rw [T00];omega
 have g:∃x,x∈G4 (K1 Ln l) (K2 Ln l):=by
  unfold G4
  obtain ⟨n,q⟩:∃n,(K1 Ln l++K2 Ln l).length=n+1:=⟨(K1 Ln l++K2 Ln l).length-1,by omega⟩
  rw [q,U8,if_pos (by omega)]
  exact ⟨_,T0i ..⟩
 obtain ⟨x,g⟩:=g
 have d:=(b x g).1
 have f:K7 (K1 Ln l) 256:=X2a H (by decide) (X68 l)
 have p:=Y7h (hd:=Z0 Ln (G4 (K1 Ln l) (K2 Ln l))) i (K1 Ln l++K2 Ln l).length 0 (T08 _) (by omega) fun y hy=>Y2n H hy (b y hy).1
 exact {
  a1:=j.1
  a2:=j.2
  b1:=hd.1
  b2:=hd.2
  c1:=Y0i _ (by decide)
  c2:=Z3t _
  h7:=Z5s H _
  part:=W5y o
  check:=Z4v H _
  sum:=W5q (m:=7) (Z4v H _)
  any:=W6b d (Y2n H g d)
  lens:=p
  lit15:=Z2v H l
  dist15:=Z2u H l
  stop:=by
   obtain ⟨a,r,s⟩:=f
   rw [r]
   show a≠0
   omega}
theorem W3a (H:Q8 Ln) (kind:Nat) (l:List E1) (raw:List Nat) (a:Nat) (hm:kind=0∧raw.length≤65535∨(kind=1∨kind=2)∧(∀t∈l,E8 t=true)) (hb:N9 l) (hr:∀b∈raw,b < 256):O9 l raw a kind (G3 Ln kind l raw a):=by
 rcases hm with ⟨rfl,h2⟩ | ⟨rfl | rfl,h2⟩
 ·exact .stored hr h2
 ·exact .fixed _ (Y60 h2 hb (Y5r h2 hb))
 exact .dynamic _ _ _ _ _ _ (W4z H l) (Y60 h2 hb (Y6n H h2 hb))
theorem Z51 (a:Nat) (raw:List Nat):(G6 a raw).length=W5 a-a+32+8*raw.length:=by
 unfold G6
 simp only [T00,List.length_replicate,B5,E4];omega
theorem Y1q (hd:List Int) (x:Y0):(Y5q hd x).length=Z6p hd x.1+x.2.1:=by unfold Y5q;rw [T00,Q9,B5]
theorem Z2c {hd:List Int} (h7:∀a∈hd,0≤a∧a≤7):∀ {xs:List Y0},(∀x∈xs,x.2.1≤7)→(Z5 hd xs).length≤14*xs.length
 | [],_=>T05 _
 | x::xs,h=>by
  have ih:=Z2c h7 (xs:=xs) fun y hy=>h y (T0h _ hy)
  unfold Z5 at ih⊢
  have h1:=Z4e (m:=7) h7 x.1
  have h2:=h x (T0i ..)
  rw [T0o,T00,Y1q,T0g];omega
theorem Z3v (lit dist hd:List Int) (xs:List Y0):(Z5r lit dist hd xs).length=14+3*Z2j hd+(Z5 hd xs).length:=by
 unfold Z5r U5
 simp only [T00,B5,S2];omega
theorem Y5p (H:Q8 Ln) (kind:Nat) (l:List E1) (raw:List Nat) (a:Nat) (hm:kind=0∧raw.length≤65535∨(kind=1∨kind=2)∧(∀t∈l,E8 t=true)):(G3 Ln kind l raw a).length < 1000000+100*l.length:=by
 rcases hm with ⟨rfl,h2⟩ | ⟨rfl | rfl,h2⟩
 ·show (G6 a raw).length < _
  rw [Z51]
  have:=X7a a
  omega
 ·show (P7 I0 G7 l).length < _
  have:=Z3e (Z0y (m:=15) Z12.1).2.1 (Z0y (m:=15) Z12.2).2.1 h2
  omega
 show (Z5r _ _ _ _++P7 _ _ _).length < _
 have g:=Z3e (Y5d H l) (Y55 H l) h2
 have b:=Y54 (Y5d H l) (Y55 H l)
 have i:=Z2c (Z5s H (G4 (K1 Ln l) (K2 Ln l))) (xs:=G4 (K1 Ln l) (K2 Ln l)) fun x hx=>(Z4b b _ _ x hx).2.1
 have d:=Z30 (all:=K1 Ln l++K2 Ln l) (K1 Ln l++K2 Ln l).length 0
 have j:=Y5b H l
 have k:=Y53 H l
 have n:Z2j (Z0 Ln (G4 (K1 Ln l) (K2 Ln l)))≤19:=Z3t _
 have o:(K1 Ln l++K2 Ln l).length=(K1 Ln l).length+(K2 Ln l).length:=T00
 have f:(G4 (K1 Ln l) (K2 Ln l)).length≤(K1 Ln l++K2 Ln l).length:=d
 rw [T00,Z3v]
 omega
theorem X7u (kind:Nat) (l:List E1) (raw:List Nat) (a b:Nat) (h:a%8=b%8):G3 Ln kind l raw a=G3 Ln kind l raw b:=by
 unfold G3
 rw [Y5v h raw]
end
def wrB (l:List E1):Bool:=decide (l.length < 1048576) && l.all E8
theorem V43 (l:List E1):wrB l=true↔l.length < 1048576∧∀t∈l,E8 t=true:=by simp [wrB]
theorem Y25 (v:Value) (n:Nat) (l:List E1) (w:World) (hv:Rd w 3 v n (I5 l)) (hn:n < 1000000000):
  Calls Tryz.prog 86 #[v] w fun e w'=>e= .returned (.bool (wrB l))∧E2 w w' (fun _=>False):=by
 obtain ⟨ao,b0,rfl,_,_⟩:=hv.form
 have m:=A5 hv.toks_len
 have HV:=A5 hv
 have a4:(0:Int)≤(n:Int):=T02 _
 clear hv
 by_cases a1:1048576≤n
 ·have y:decide ((1048575:Int) < (n:Int))=true:=by simp;omega
  have o:Hid (wrB l=false):=by
   unfold Hid wrB
   rw [decide_eq_false (by have:=m.out;omega)];rfl
  go_enter Tryz.func86,Tryz.ntmps86
  go_wp2
  go_ret
  rw [o.out]
  exact ⟨rfl,E2.refl _ _⟩
 have y:decide ((1048575:Int) < (n:Int))=false:=by simp;omega
 have o:Hid (wrB l=l.all E8):=by
  unfold Hid wrB
  rw [decide_eq_true (by have:=m.out;omega)];rfl
 go_enter Tryz.func86,Tryz.ntmps86
 go_wp2
 go_loopg [10] (n+1) (fun k t10 wr=>∃i:Nat,i≤n∧n-i < k∧t10= .int .i64 (i:Int)∧Hid ((l.take i).all E8=true)∧Hid (E2 w wr (fun _=>False)))
 case atStart=>exact ⟨0,by omega,by omega,rfl,A5 rfl,A5 (E2.refl _ _)⟩
 case round=>
  obtain ⟨i,hi,hk,rfl,HS,p⟩:=hrel
  have a5:(0:Int)≤(i:Int):=T02 _
  by_cases a8:i < n
  rotate_left
  ·have z:¬(i:Int) < (n:Int):=by omega
   have hF:Hid (l.all E8=true):=by
    have h:=HS.out
    rw [T0c (by have:=m.out;omega)] at h
    exact A5 h
   go_wp2
   go_ret
   rw [o.out,hF.out]
   exact ⟨rfl,p.out⟩
  have z:(i:Int) < (n:Int):=by omega
  obtain ⟨⟨q,r,s⟩,x⟩:∃t,l[i]?=some t:=⟨l[i]'(by have:=m.out;omega),T01 _⟩
  obtain ⟨g,b1,rfl,c0,c1,c2⟩:=(HV.out.kept p.out (fun _ _ h=>h)).tok x
  have HT:Hid ((l.take (i+1)).all E8=E8 (q,r,s)):=A5 (by
   rw [T0q,x]
   simp [HS.out])
  have f:Hid (E8 (q,r,s)=false→l.all E8=false):=A5 fun h=>by
   refine Classical.byContradiction fun h2=> ?_
   have h3:l.all E8=true:=by simpa using h2
   rw [List.all_eq_true.1 h3 _ (T04 x)] at h
   cases h
  clear x
  have a:=A5 (W38 (q,r,s))
  unfold Y6k at a
  simp only at a
  generalize E8 (q,r,s)=b at a HT f
  cases b with
  | false=>
   go_wp2_with fail
   refine (a.out _).mono ?_
   rintro e w3 ⟨rfl,j⟩
   have d:=A5 ((p.out.alloc _).same j)
   clear j
   go_wp2
   go_ret
   rw [o.out,f.out (by first | rfl | trivial)]
   exact ⟨rfl,d.out⟩
  | true=>
   go_wp2_with fail
   refine (a.out _).mono ?_
   rintro e w3 ⟨rfl,j⟩
   have d:=A5 ((p.out.alloc _).same j)
   clear j
   go_wp2
   go_roundg (gk-1)
   case measure=>omega
   case rel=>exact ⟨i+1,by omega,by omega,by go_num,HT,d⟩
section
variable {w0 w:World} {Rs:List A6}
theorem W3s (l:List Int) (B:Nat) (Bw:D0) (bs:List Nat) (s:Int) (h:A4 w0 w (wrT Bw bs::J7 l B::Rs)) (hF:Y4o l) (hlen:bs.length < 1000000000000):
  Calls Tryz.prog 224 #[.pointer (some ⟨B,0,none⟩),.pointer (some ⟨Bw.b,Bw.o,none⟩),.int .i64 s] w fun e w'=>
   (∃i p:Nat,s=(i:Int)∧l[i]?=some (p:Int)∧0 < p∧e= .returned (.bool true)∧A4 w0 w' (wrT Bw (bs++W6 p (F9 l i))::J7 l B::Rs))∨
   ((∀i p:Nat,s=(i:Int)→l[i]?=some (p:Int)→p=0)∧e= .returned (.bool false)∧A4 w0 w' (wrT Bw bs::J7 l B::Rs)):=by
 obtain ⟨⟨lv,cv,S⟩,h1⟩:=h.swap.ex
 have r:A4 w0 w (Y0v l l.length B lv cv S::wrT Bw bs::Rs):=h1
 have t:=unK r
 obtain ⟨n,hn⟩:∃n,n=l.length:=⟨_,rfl⟩
 have f:=t.swap.own
 have k:=t.third.own
 rw [←hn] at f k
 obtain ⟨lo,c2,rfl,_,_⟩:=f.form
 obtain ⟨co,c3,rfl,_,_⟩:=k.form
 have a9:=t.obj.cell (i:=0) (V68 _ _ _ _)
 have b0:=t.obj.cell (i:=1) (W8s _ _ _ _)
 have H0:=A5 h
 have HN:=A5 hn
 have HF:=A5 hF
 have b1:n≤288:=by have:=hF.2.1;omega
 clear h h1 r t hn hF
 have c7:(0:Int)≤(n:Int):=T02 _
 have z:s < 0∨0≤s∧(n:Int)≤s∨0≤s∧s < (n:Int):=by omega
 rcases z with z | ⟨z,h4⟩ | ⟨z,h4⟩
 ·have a0:decide (s < 0)=true:=by simp;omega
  have HR:Hid (∀i p:Nat,s=(i:Int)→l[i]?=some (p:Int)→p=0):=fun i p h=>by omega
  clear f k a9 b0
  go_enter Tryz.func224,Tryz.ntmps224
  go_wp2
  go_ret
  exact .inr ⟨HR.out,rfl,H0.out⟩
 ·have a0:decide (s < 0)=false:=by simp;omega
  have b2:decide ((n:Int)≤s)=true:=by simp;omega
  have HR:Hid (∀i p:Nat,s=(i:Int)→l[i]?=some (p:Int)→p=0):=fun i p h r=>by
   have:=(List.getElem?_eq_some_iff.1 r).1
   have:=HN.out
   omega
  clear f k
  go_enter Tryz.func224,Tryz.ntmps224
  go_wp2
  go_ret
  exact .inr ⟨HR.out,rfl,H0.out⟩
 obtain ⟨i,rfl⟩:=T07 z
 have c8:i < n:=by omega
 obtain ⟨a,q⟩:∃a,l[i]?=some a:=⟨l[i]'(by have:=HN.out;omega),T01 _⟩
 have ha:=HF.out.1 a (T04 q)
 obtain ⟨p,rfl⟩:=T07 ha.1
 have a0:decide ((i:Int) < 0)=false:=by simp
 have b2:decide ((n:Int)≤(i:Int))=false:=by simp;omega
 have d0:decide (n≤i)=false:=by simp;omega
 obtain ⟨g,d8,rfl,m,_,_⟩:=f.site (by omega)
 have d1:=m i _ (by rw [G5,q];rfl)
 obtain ⟨g2,c4,rfl,d,_,_⟩:=k.site (by omega)
 have b3:=d i _ (X0q l i (by have:=HN.out;omega))
 have a2:=Y3o l i
 obtain ⟨x,hx⟩:∃x,x=F9 l i:=⟨_,rfl⟩
 rw [←hx] at b3 a2
 have HX:=A5 hx
 have a3:x < 4294967296:=by have:=HN.out;omega
 have a4:=A5 q
 clear m d f k q hx a2
 by_cases hp:p=0
 ·subst hp
  have HR:Hid (∀j p:Nat,(i:Int)=(j:Int)→l[j]?=some (p:Int)→p=0):=fun j p h r=>by
   obtain rfl:i=j:=by omega
   have:=a4.out.symm.trans r
   simp only [Option.some.injEq] at this
   omega
  go_enter Tryz.func224,Tryz.ntmps224
  go_wp2
  go_ret
  exact .inr ⟨HR.out,rfl,H0.out⟩
 have d3:((p:Int)==0)=false:=by simp;omega
 have b4:0 < p:=by omega
 have d4:(0:Int)≤(p:Int):=T02 _
 have a5:p≤15:=by omega
 have HP:=A5 (Z6v H0.out (Z47 x p) p (by have:=X2h x p (by omega);have r:2^p≤2^15:=T0j (by decide) a5;omega) (by omega) (by omega))
 have HE:Hid (A9 p (Z47 x p)=W6 p (F9 l i)):=by unfold Hid;rw [HX.out];exact Y41 _ _ (by omega)
 have a6:=A5 (Z7a x p w a3 (by omega))
 obtain ⟨y,hy⟩:∃y,y=Z47 x p:=⟨_,rfl⟩
 rw [←hy] at HP HE a6
 clear hp hy
 go_enter Tryz.func224,Tryz.ntmps224
 go_wp2_with fail
 refine a6.out.mono ?_
 rintro e w3 ⟨rfl,rfl⟩
 go_wp2_with fail
 refine HP.out.mono ?_
 rintro e w4 ⟨rfl,hh⟩
 rw [HE.out] at hh
 have H4:=A5 hh
 clear hh HP
 go_wp2
 go_ret
 exact .inl ⟨i,p,rfl,a4.out,b4,rfl,H4.out⟩
end
section
variable {w0 w:World} {S:A6} {size:Nat} {v:Value} {n:Nat} {xs:List Value} {Rs:List A6}
theorem Y8g {B:D0} {l news:List Nat} (h:A4 w0 w (wrT B l::S::Rs)) (hr:Y9 w0 S 1 v n (D7 news)) (hn256:∀b∈news,b < 256) (hnl:n < 1099511627776) (hl:l.length < 1099511600000):
  Calls Tryz.prog 220 #[.pointer (some ⟨B.b,B.o,none⟩),v] w fun e w'=>e= .returned (.tuple #[])∧A4 w0 w' (wrT B (J2 l++D6 news)::S::Rs):=by
 have j:=hr.rd h.swap
 have a:=h.mod
 obtain ⟨F,p,⟨d,q,i⟩,r,f,s,g⟩:=h.take2
 have m:0 < n→∀k,v.ownBlock=some k→¬Z1q B.b d k:=fun hn k hk hs=>by
  rcases (hr w p a r).2 hn k hk with h4 | h4
  ·have:=(s k ((i k).2 hs)).1;omega
  exact f k h4 ((i k).2 hs)
 exact (W4v B d v l news n w q hl j m hn256 hnl).mono fun _ w' ⟨h5,d',hW',hm,hmv⟩=>⟨h5,g w' _ _ ⟨d',hW',fun _=>Iff.rfl⟩ (hm.mono fun k _ hk=>(i k).2 hk) (Y2x i hmv) hW'.lt⟩
end
section
variable {w0 w:World} {Rs:List A6}
theorem X4r {l:List Int} {B:Nat} {Bw:D0} {bs:List Nat} (k:Nat) (h:A4 w0 w (wrT Bw bs::J7 l B::Rs)) (hF:Y4o l) (hk:K7 l k) (hlen:bs.length < 1000000000000):
  Calls Tryz.prog 224 #[.pointer (some ⟨B,0,none⟩),.pointer (some ⟨Bw.b,Bw.o,none⟩),.int .i64 (k:Int)] w fun e w'=>e= .returned (.bool true)∧A4 w0 w' (wrT Bw (bs++D8 l k)::J7 l B::Rs):=
 (W3s l B Bw bs (k:Int) h hF hlen).mono fun e w' h2=>by
  obtain ⟨a,ha,ha0⟩:=hk
  rcases h2 with ⟨i,p,hi,hp,hp0,he,hh⟩ | ⟨hno,_,_⟩
  ·obtain rfl:k=i:=by omega
   refine ⟨he, ?_⟩
   unfold D8
   rw [hp]
   exact hh
  have:=hno k a.toNat rfl (by rw [ha];congr 1;omega)
  omega
theorem W26 (w:World) (o:Obj):(w.alloc o).heap.size=w.heap.size+1:=by
 show (w.heap.push o).size=_
 simp
def Z3k (lv:Value) (B1 B2 bits:Nat):Value:= .agg #[lv,.pointer (some ⟨B1,0,none⟩),.pointer (some ⟨B2,0,none⟩),.int .i64 (bits:Int)]
theorem V1u {lit dist:List Int} {B1 B2 bits:Nat} {Bw:D0} {acc:List Nat} (lv:Value) (t:E1) (h:A4 w0 w (wrT Bw acc::J7 lit B1::J7 dist B2::Rs)) (hF1:Y4o lit) (hF2:Y4o dist) (hs:E8 t=true) (hb:0≤t.1∧t.1≤255) (h1:K7 lit (X0 t)) (h2:t.2.1≠0→K7 dist (Z2h t)) (hacc:acc.length < 100000000000) (hlit:∀a∈lit,0≤a∧a≤15) (hdist:∀a∈dist,0≤a∧a≤15):
  Calls Tryz.prog 223 #[Z3k lv B1 B2 bits,.pointer (some ⟨Bw.b,Bw.o,none⟩),Y6k t] w fun e w'=>e= .returned (.tuple #[])∧A4 w0 w' (wrT Bw (acc++Z6x lit dist t)::J7 lit B1::J7 dist B2::Rs):=by
 obtain ⟨a,n,d⟩:=t
 by_cases l:n=0
 ·subst l
  have b9:0≤a:=hb.1
  have d5:a≤255:=hb.2
  obtain ⟨z,rfl⟩:=T07 b9
  have hz:z≤255:=by omega
  have p:K7 lit z:=h1
  have HH:=A5 (X4r z ((h.alloc (.cells #[lv,.pointer (some ⟨B1,0,none⟩),.pointer (some ⟨B2,0,none⟩),.int .i64 (bits:Int)] 148)).alloc (.cells #[.int .u8 (z:Int),.int .i64 0,.int .i64 d] 112)) hF1 p (by omega))
  have hw:IntKind.i64.wrap (z:Int)=(z:Int):=Z2b z (by omega)
  have hE:Hid (D8 lit z=Z6x lit dist ((z:Int),0,d)):=by
   unfold Hid Z6x
   rw [if_pos rfl];rfl
  clear h h1 h2 p hs hb
  unfold Z3k Y6k
  simp only
  go_enter Tryz.func223,Tryz.ntmps223
  go_wp2_with fail
  refine HH.out.mono ?_
  rintro e w3 ⟨rfl,f⟩
  rw [hE.out] at f
  have H3:=A5 f
  clear f HH
  go_wp2
  refine bodyPost_ret (results_none rfl _ _ _) rfl ?_
  exact ⟨rfl,H3.out⟩
 obtain ⟨ha,⟨a3,a4⟩,a5,a6⟩:=V2 hs l
 have ha:a=0:=ha
 have a3:3≤n:=a3
 have a4:n≤258:=a4
 have a5:1≤d:=a5
 have a6:d≤32768:=a6
 subst ha
 have g:=Y19 hs l
 have j:=Z6c hs l
 have p:K7 lit (257+Y0a (0,n,d)):=by
  unfold X0 at h1
  rw [if_neg l] at h1
  exact h1
 have a2:=h2 l
 have hE:Hid (Z6x lit dist (0,n,d)=D8 lit (257+Y0a (0,n,d))++(A9 (lX (Y0a (0,n,d))) (n.toNat-lB (Y0a (0,n,d)))++(D8 dist (Z2h (0,n,d))++A9 (dX (Z2h (0,n,d))) (d.toNat-dB (Z2h (0,n,d)))))):=by
  unfold Hid Z6x
  rw [if_neg l]
 generalize Y0a (0,n,d)=c at g p hE
 generalize Z2h (0,n,d)=q at j a2 hE
 obtain ⟨n,rfl⟩:=T07 (show 0≤n by omega)
 obtain ⟨d,rfl⟩:=T07 (show 0≤d by omega)
 simp only [Int.toNat_natCast] at g j hE
 have a7:=X12 c g.1
 have a8:=X0w q j.1
 have a9:=X5j g (by omega)
 have b0:=X11 j (by omega)
 have c1:2^lX c≤2^5:=T0j (by decide) a7
 have b1:2^dX q≤2^13:=T0j (by decide) a8
 obtain ⟨x,hx⟩:∃x,x=n-lB c:=⟨_,rfl⟩
 obtain ⟨y,hy⟩:∃y,y=d-dB q:=⟨_,rfl⟩
 obtain ⟨lx,r⟩:∃lx,lx=lX c:=⟨_,rfl⟩
 obtain ⟨dx,s⟩:∃dx,dx=dX q:=⟨_,rfl⟩
 rw [←hx] at a9 hE
 rw [←hy] at b0 hE
 rw [←r] at a9 hE c1 a7
 rw [←s] at b0 hE b1 a8
 have d0:x < 32:=by omega
 have d1:y < 8192:=by omega
 have HL:=A5 (Y3q ((n:Nat):Int))
 have HD:=A5 (Y20 ((d:Nat):Int))
 have d7:IntKind.u32.wrap (x:Int)=(x:Int):=by
  unfold IntKind.wrap;simp [IntKind.bits,IntKind.signed];omega
 have d8:IntKind.u32.wrap (y:Int)=(y:Int):=by
  unfold IntKind.wrap;simp [IntKind.bits,IntKind.signed];omega
 have c3:Hid (∀v,Z8d ((n:Nat):Int) v→v= .tuple #[.int .i64 ((257+c:Nat):Int),.int .i64 (lx:Int),.int .i64 (x:Int)]):=A5 fun v hv=>by
  rcases hv with ⟨h,_⟩ | ⟨k,c2,q2,x2,z2,e1,_,_,e2,rfl,rfl,rfl,rfl⟩
  ·omega
  obtain rfl:n=k:=by omega
  obtain rfl:=e2.same g
  rw [r,hx]
 have c4:Hid (∀v,Z6i ((d:Nat):Int) v→v= .tuple #[.int .i64 (q:Int),.int .i64 (dx:Int),.int .i64 (y:Int)]):=A5 fun v hv=>by
  rcases hv with ⟨h,_⟩ | ⟨k,c2,q2,x2,z2,e1,_,_,e2,rfl,rfl,rfl,rfl⟩
  ·omega
  obtain rfl:d=k:=by omega
  obtain rfl:=e2.same j
  rw [s,hy,Nat.zero_add]
 have d9:(D8 lit (257+c)).length≤15:=by rw [Q9];exact Z4e (m:=15) hlit _
 have e0:(D8 dist q).length≤15:=by rw [Q9];exact Z4e (m:=15) hdist _
 have HA:=A5 ((h.newObj [lv,.pointer (some ⟨B1,0,none⟩),.pointer (some ⟨B2,0,none⟩),.int .i64 (bits:Int)] 148).newObj [.int .u8 0,.int .i64 ((n:Nat):Int),.int .i64 ((d:Nat):Int)] 112)
 rw [W26] at HA
 have c5:=A5 (HA.out.perm ((T0d (l₁:=[_,_]) (l₂:=[_,_,_])).append_right Rs))
 have HC:=A5 (And.intro g.1 (And.intro j.1 (And.intro p a2)))
 clear h h1 h2 p a2 hs hb g j hx hy r s hlit hdist
 have e3:(257+c:Nat) < 288:=by have:=HC.out.1;omega
 unfold Z3k Y6k
 simp only
 go_enter Tryz.func223,Tryz.ntmps223
 go_wp2_with fail
 refine (HL.out _).mono ?_
 rintro e w1 ⟨⟨v,rfl,hv⟩,rfl⟩
 obtain rfl:=c3.out v hv
 clear hv HL
 have b2:=A5 (X4r (257+c) c5.out hF1 HC.out.2.2.1 (by omega))
 go_wp2_with fail
 refine b2.out.mono ?_
 rintro e w2 ⟨rfl,f⟩
 have k0:=f.drop.drop.drop.obj.cell (i:=2) rfl
 have k1:=f.drop.drop.drop.drop.obj.cell (i:=1) rfl
 have k2:=f.drop.drop.drop.drop.obj.cell (i:=2) rfl
 have b3:=A5 (Z6v f x lx (by omega) (by omega) (by rw [T00];omega))
 clear f b2
 go_wp2_with fail
 refine b3.out.mono ?_
 rintro e w3 ⟨rfl,f⟩
 have j0:=f.drop.drop.drop.obj.cell (i:=2) rfl
 have j1:=f.drop.drop.drop.drop.obj.cell (i:=1) rfl
 have j2:=f.drop.drop.drop.drop.obj.cell (i:=2) rfl
 have b4:=A5 (X4r q f.mid hF2 HC.out.2.2.2 (by simp only [T00,B5];omega))
 clear f b3 k0 k1 k2
 go_wp2_with fail
 refine (HD.out _).mono ?_
 rintro e w1 ⟨⟨v,rfl,hv⟩,rfl⟩
 obtain rfl:=c4.out v hv
 clear hv HD
 go_wp2_with fail
 refine b4.out.mono ?_
 rintro e w4 ⟨rfl,f⟩
 have b5:=A5 (Z6v f.mid y dx (by omega) (by omega) (by simp only [T00,B5];omega))
 clear f b4 j0 j1 j2
 go_wp2_with fail
 refine b5.out.mono ?_
 rintro e w5 ⟨rfl,f⟩
 have b6:acc++D8 lit (257+c)++A9 lx x++D8 dist q++A9 dx y=acc++Z6x lit dist (0,(n:Int),(d:Int)):=by rw [hE.out];simp
 rw [b6] at f
 have H9:=A5 (f.perm ((T0d (l₁:=[_,_,_]) (l₂:=[_,_])).append_right Rs)).drop.drop
 clear f b6 b5
 go_wp2
 go_end0
 exact ⟨rfl,H9.out⟩
theorem V0p (lit dist:List Int) (l:List E1) (i:Nat) (t:E1) (h:l[i]?=some t):(l.take (i+1)).flatMap (Z6x lit dist)=(l.take i).flatMap (Z6x lit dist)++Z6x lit dist t:=by
 rw [T0q,h];simp
theorem Y66 {lit dist:List Int} {B1 B2 bits n:Nat} {Bw:D0} {acc:List Nat} {S:A6} (lv:Value) (l:List E1) (h:A4 w0 w (wrT Bw acc::J7 lit B1::J7 dist B2::S::Rs)) (hr:Y9 w0 S 3 lv n (I5 l)) (hF1:Y4o lit) (hF2:Y4o dist) (hs:∀t∈l,E8 t=true) (hb:N9 l) (hc:X22 lit dist l) (hn:n < 1048576) (hacc:acc.length < 10000000000):
  Calls Tryz.prog 222 #[Z3k lv B1 B2 bits,.pointer (some ⟨Bw.b,Bw.o,none⟩)] w fun e w'=>e= .returned (.tuple #[])∧A4 w0 w' (wrT Bw (acc++P7 lit dist l)::J7 lit B1::J7 dist B2::S::Rs):=by
 have j:=hr.rd h.drop.drop.drop
 obtain ⟨ao,m,rfl,_,_⟩:=j.form
 have HL:=A5 j.toks_len
 have HR:=A5 hr
 have p:=A5 (And.intro hs (And.intro hb hc))
 have b2:(0:Int)≤(n:Int):=T02 _
 have H0:=A5 ((h.newObj [.slice ao n m,.pointer (some ⟨B1,0,none⟩),.pointer (some ⟨B2,0,none⟩),.int .i64 (bits:Int)] 148).perm ((T0d (l₁:=[_]) (l₂:=[_,_,_,_])).append_right Rs))
 obtain ⟨C,hC⟩:∃C,C=w.heap.size:=⟨_,rfl⟩
 have y:=A5 hacc
 have z:=H0.out.drop.drop.drop.drop.obj.cell (i:=0) rfl
 clear j hr h hs hb hc hC hacc
 unfold Z3k
 go_enter Tryz.func222,Tryz.ntmps222
 go_wp2
 clear z
 go_loopg [9] (n+1) (fun k t9 wr=>∃i:Nat,i≤n∧n-i < k∧t9= .int .i64 (i:Int)∧
  Hid (A4 w0 wr (wrT Bw (acc++(l.take i).flatMap (Z6x lit dist))::J7 lit B1::J7 dist B2::S::E7 w.heap.size [.slice ao n m,.pointer (some ⟨B1,0,none⟩),.pointer (some ⟨B2,0,none⟩),.int .i64 (bits:Int)] 148::Rs)))
 case atStart=>
  refine ⟨0,by omega,by omega,rfl, ?_⟩
  rw [List.take_zero,List.flatMap_nil,List.append_nil]
  exact H0
 case round=>
  obtain ⟨i,hi,hk,rfl,x⟩:=hrel
  have b3:(0:Int)≤(i:Int):=T02 _
  have f:Hid ((acc++(l.take i).flatMap (Z6x lit dist)).length < 100000000000):=by
   have h1:=Z3e hF1.1 hF2.1 (l:=l.take i) fun t r=>p.out.1 t (T0l r)
   unfold P7 at h1
   rw [T00] at h1
   rw [T00]
   have h2:(l.take i).length≤i:=by simp;omega
   have h3:=y.out
   exact A5 (by omega)
  by_cases b7:i < n
  ·have a0:(i:Int) < (n:Int):=by omega
   obtain ⟨⟨ta,tl,td⟩,r⟩:∃t,l[i]?=some t:=⟨l[i]'(by have:=HL.out;omega),T01 _⟩
   obtain ⟨g,a3,rfl,c0,c1,c2⟩:=(HR.out.rd x.out.drop.drop.drop).tok r
   have a:=T04 r
   have q:=x.out.alloc (.cells #[.int .u8 ta,.int .i64 tl,.int .i64 td] 112)
   have z:=q.drop.drop.drop.drop.obj.cell (i:=0) rfl
   have k1:=q.drop.drop.drop.drop.obj.cell (i:=1) rfl
   have k2:=q.drop.drop.drop.drop.obj.cell (i:=2) rfl
   have k3:=q.drop.drop.drop.drop.obj.cell (i:=3) rfl
   have d:=A5 (V1u (bits:=bits) (.slice (some ⟨g,a3,none⟩) n m) (ta,tl,td) q hF1 hF2 (p.out.1 _ a) (p.out.2.1 _ a) (p.out.2.2.2 _ a).1 (p.out.2.2.2 _ a).2 f.out hF1.1 hF2.1)
   rw [T06,←V0p lit dist l i _ r] at d
   unfold Z3k Y6k at d
   simp only at d
   clear q r a
   go_wp2_with fail
   refine d.out.mono ?_
   rintro e w2 ⟨rfl,s⟩
   have H2:=A5 s
   clear s d c0 c1 c2 z k1 k2 k3
   go_wp2
   go_roundg (gk-1)
   case measure=>omega
   case rel=>exact ⟨i+1,by omega,by omega,by go_num,H2⟩
  have a0:¬(i:Int) < (n:Int):=by omega
  have hE:Hid (acc++(l.take i).flatMap (Z6x lit dist)++D8 lit 256=acc++P7 lit dist l):=by
   rw [T0c (by have:=HL.out;omega),P7,T06]
   exact A5 rfl
  have k1:=x.out.drop.drop.drop.drop.obj.cell (i:=1) rfl
  have d:=A5 (X4r 256 x.out hF1 p.out.2.2.1 (by have:=f.out;omega))
  rw [hE.out] at d
  clear x
  go_wp2_with fail
  refine d.out.mono ?_
  rintro e w2 ⟨rfl,s⟩
  have H2:=A5 (s.perm ((T0d (l₁:=[_,_,_,_]) (l₂:=[_])).append_right Rs)).drop
  clear s d k1
  go_wp2
  go_end0
  exact ⟨rfl,H2.out⟩
end
end Go.Proofs.YtbkbkmgogbgofaaGreatDoor
