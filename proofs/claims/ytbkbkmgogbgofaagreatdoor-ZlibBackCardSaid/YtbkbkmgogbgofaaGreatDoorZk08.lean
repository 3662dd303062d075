/- The claim's texts, put together and shortened by a program (names, spaces). -/
import Derived.Test.YtbkbkmgogbgofaaGreatDoorZk02
import Derived.Test.YtbkbkmgogbgofaaGreatDoorZk03
import Derived.Test.YtbkbkmgogbgofaaGreatDoorProg
import Derived.StillTailTactics
import Derived.Test.YtbkbkmgogbgofaaGreatDoorZk01
open List renaming getElem?_eq_getElem→T00,range_succ→T01,filter_append→T02,take_of_length_le→T05,length→T07,length_append→T08,append_nil→T0a,append_assoc→T0b,take_add_one→T0c,count_append→T0d,set_cons_zero→T0e,set_cons_succ→T0f
open Nat renaming le_refl→T03,pow_le_pow_right→T06,lt_of_le_of_lt→T0g
open Int renaming natCast_nonneg→T04,toNat_natCast→T09
namespace Go.Proofs.YtbkbkmgogbgofaaGreatDoor
set_option maxRecDepth 100000
set_option maxHeartbeats 6400000
open Go.RowKit
theorem W5i (l:List Int) (z:Nat) (h:1≤z):Z8 l (z+1)=2*(Z8 l z+l.count (z:Int)):=by
 obtain ⟨n,rfl⟩:∃n,z=n+1:=⟨z-1,by omega⟩
 rfl
theorem W0c (l:List Int) (i z:Nat) (h:l[i]?=some (z:Int)):(l.take i).count (z:Int) < l.count (z:Int):=by
 have a:=V2 l i (z:Int) (z:Int) h
 have b:=Z2w l (i+1) (z:Int)
 rw [if_pos rfl] at a;omega
def X4k (l:List Int) (bs:List Nat) (z:Nat):Prop:=∀i q,Hit l bs i q→z≤q
theorem X4k.one (l:List Int) (bs:List Nat):X4k l bs 1:=fun _ _ h=>h.2.1
theorem W95 {l:List Int} {bs:List Nat} {i z:Nat} (h:Hit l bs i z) (hz:z≤15):hiN (bs.take z)=Z8 l z+(l.take i).count (z:Int)∧hiN (bs.take z) < Z8 l z+l.count (z:Int):=by
 have a:=h.2.2.2
 have b:=h.2.1
 rw [Z0x l i _ h.1 (by simp [Q2];omega),T09] at a
 have d:=W0c l i z h.1
 exact ⟨a,by omega⟩
theorem X4k.next {l:List Int} {bs:List Nat} {z:Nat} (h:X4k l bs z) (hz:z≤15) (hv:Z8 l z+l.count (z:Int)≤hiN (bs.take z)):X4k l bs (z+1):=fun i q hh=>by
 have h1:=h i q hh
 by_cases e:q=z
 ·subst e;have:=(W95 hh hz).2;omega
 omega
theorem W4j {l:List Int} {bs:List Nat} {z b:Nat} (hz:1≤z) (hv:Z8 l z+l.count (z:Int)≤hiN (bs.take z)) (hb:bs[z]?=some b):Z8 l (z+1)≤hiN (bs.take (z+1)):=by
 rw [W5i l z hz,Z7l bs z b hb];omega
theorem V5g {l:List Int} {bs:List Nat} {z i:Nat} (hz:1≤z) (hzb:z≤bs.length) (hi:l[i]?=some (z:Int)) (hc:G0 l i=hiN (bs.take z)):Hit l bs i z:=⟨hi,hz,hzb,hc.symm⟩
theorem X5x {l:List Int} {bs:List Nat} {i z:Nat} (h:Hit l bs i z):O9 l bs i z 0:= .inl ⟨rfl,h⟩
theorem X9k (l:List Int):O9 l [] 0 0 5:=
 .inr ⟨rfl,rfl,fun i q hh=>by have h1:=hh.2.1;have h2:=hh.2.2.1;simp at h2;omega,by rw [if_pos (.inr rfl)]⟩
def grp (l:List Int) (k n:Nat):List Nat:=if n=0 then [] else (List.range k).filter fun i=>l[i]?==some (n:Int)
def Z2h (l:List Int) (k n:Nat):Nat:=if grp l k n=[] then 0 else Z8 l n
theorem Z85 (l:List Int) (n:Nat):grp l 0 n=[]:=by unfold grp;split <;> rfl
theorem W4n (l:List Int) (n:Nat):Z2h l 0 n=0:=by unfold Z2h;rw [if_pos (Z85 l n)]
theorem Y7h (l:List Int) (k z:Nat) (h:l[k]?=some (z:Int)) (hz:1≤z):grp l (k+1) z=grp l k z++[k]:=by
 unfold grp
 rw [if_neg (by omega),if_neg (by omega),T01,T02]
 simp [h]
theorem X3m (l:List Int) (k z n:Nat) (h:l[k]?=some (z:Int)) (hn:n≠z):grp l (k+1) n=grp l k n:=by
 unfold grp
 by_cases a:n=0
 ·rw [if_pos a,if_pos a]
 rw [if_neg a,if_neg a,T01,T02]
 have:¬z=n:=fun e=>hn e.symm
 simp [h];omega
theorem X5y (l:List Int) (k n:Nat) (h:l[k]?=some 0):grp l (k+1) n=grp l k n:=by
 by_cases a:n=0
 ·subst a;unfold grp;rfl
 exact X3m l k 0 n h a
theorem X4x (l:List Int) (n:Nat):∀k,k≤l.length→∀r i:Nat,(grp l k n)[r]?=some i→l[i]?=some (n:Int)∧(l.take i).count (n:Int)=r∧i < k
 | 0,_,r,i,h=>by rw [Z85] at h;simp at h
 | k+1,hk,r,i,h=>by
  have ih:=X4x l n k (by omega)
  by_cases h0:n=0
  ·subst h0;simp [grp] at h
  obtain ⟨a,ha⟩:∃a,l[k]?=some a:=⟨l[k]'(by omega),T00 _⟩
  by_cases e:a=(n:Int)
  rotate_left
  ·have:grp l (k+1) n=grp l k n:=by
    unfold grp
    rw [if_neg h0,if_neg h0,T01,T02]
    simp [ha,e]
   rw [this] at h
   obtain ⟨h1,h2,h3⟩:=ih r i h
   exact ⟨h1,h2,by omega⟩
  subst e
  rw [Y7h l k n ha (by omega),List.getElem?_append] at h
  split at h
  ·obtain ⟨h1,h2,h3⟩:=ih r i h
   exact ⟨h1,h2,by omega⟩
  rename_i hr
  have hr0:r- (grp l k n).length=0:=by
   by_cases o:r- (grp l k n).length=0
   ·exact o
   rw [List.getElem?_eq_none (by simp;omega)] at h;cases h
  rw [hr0] at h
  simp only [List.getElem?_cons_zero,Option.some.injEq] at h
  subst h
  refine ⟨ha, ?_,by omega⟩
  have j:(grp l k n).length=(l.take k).count (n:Int):=by
   clear ih ha hr hr0
   have:∀m,m≤l.length→(grp l m n).length=(l.take m).count (n:Int):=by
    intro m
    induction m with
    | zero=>intro _;rw [Z85];rfl
    | succ m ihm=>
     intro p
     have d:=ihm (by omega)
     obtain ⟨b,g⟩:∃b,l[m]?=some b:=⟨l[m]'(by omega),T00 _⟩
     rw [T0c,g,T0d,←d]
     by_cases f:b=(n:Int)
     ·subst f
      rw [Y7h l m n g (by omega)];simp
     have:grp l (m+1) n=grp l m n:=by
      unfold grp
      rw [if_neg h0,if_neg h0,T01,T02]
      simp [g,f]
     rw [this];simp [f]
   exact this k (by omega)
  omega
theorem W1s (l:List Int) (n:Nat) (h0:1≤n):∀m,m≤l.length→(grp l m n).length=(l.take m).count (n:Int):=by
 intro m
 induction m with
 | zero=>intro _;rw [Z85];rfl
 | succ m ihm=>
  intro g
  have a:=ihm (by omega)
  obtain ⟨b,f⟩:∃b,l[m]?=some b:=⟨l[m]'(by omega),T00 _⟩
  rw [T0c,f,T0d,←a]
  by_cases d:b=(n:Int)
  ·subst d
   rw [Y7h l m n f h0];simp
  have:grp l (m+1) n=grp l m n:=by
   unfold grp
   rw [if_neg (by omega),if_neg (by omega),T01,T02]
   simp [f,d]
  rw [this];simp [d]
theorem V31 (l:List Int) (n:Nat) (h0:1≤n):(grp l l.length n).length=l.count (n:Int):=by
 rw [W1s l n h0 _ (T03 _),T05 (T03 _)]
theorem W9g (l:List Int) (k n:Nat):(grp l k n).length≤k:=by
 unfold grp
 split
 ·exact Nat.zero_le _
 have:=List.length_filter_le (fun i=>l[i]?==some (n:Int)) (List.range k)
 simpa using this
theorem V3o (l:List Int) (k z:Nat) (h:l[k]?=some (z:Int)) (hz:1≤z) (hz2:z≤15):Z2h l (k+1) z=if (grp l k z).length=0 then G0 l k else Z2h l k z:=by
 have a:=(List.getElem?_eq_some_iff.1 h).1
 unfold Z2h
 rw [Y7h l k z h hz,if_neg (by simp)]
 by_cases e:grp l k z=[]
 ·rw [if_pos (by rw [e];rfl)]
  have:=W1s l z hz k (by omega)
  rw [e] at this
  rw [Z0x l k _ h (by simp [Q2];omega),T09,←this];rfl
 rw [if_neg (fun h=>e (List.eq_nil_of_length_eq_zero h)),if_neg e]
theorem W9w (l:List Int) (k z n:Nat) (h:l[k]?=some (z:Int)) (hn:n≠z):Z2h l (k+1) n=Z2h l k n:=by
 unfold Z2h;rw [X3m l k z n h hn]
theorem W3x (l:List Int) (k n:Nat) (h:l[k]?=some 0):Z2h l (k+1) n=Z2h l k n:=by
 unfold Z2h;rw [X5y l k n h]
theorem W8u (l:List Int) (n r i:Nat) (hn:1≤n) (hn2:n≤15) (h:(grp l l.length n)[r]?=some i):l[i]?=some (n:Int)∧G0 l i=Z8 l n+r:=by
 obtain ⟨a,b,_⟩:=X4x l n _ (T03 _) r i h
 refine ⟨a, ?_⟩
 rw [Z0x l i _ a (by simp [Q2];omega),T09,b]
theorem X8k (l:List Int) (hl:∀a∈l,0≤a∧a≤15) (h:F4 l≤16384*l.count 1):lng l≤1:=by
 induction l with
 | nil=>exact Nat.zero_le _
 | cons a l d=>
  have n:=hl a List.mem_cons_self
  have f:∀b∈l,0≤b∧b≤15:=fun b g=>hl b (List.mem_cons_of_mem _ g)
  have g:=(Y86 l f).1
  have d:=d f
  rw [sum_cons,List.count_cons] at h
  show max a.toNat (lng l)≤1
  by_cases j:a=1
  ·subst j
   have i:Z1y 15 1=16384:=by decide
   rw [i,if_pos (by decide)] at h
   have k:=d (by omega)
   have:(1:Int).toNat=1:=rfl
   omega
  rw [if_neg (by simpa using j)] at h
  by_cases m:a=0
  ·subst m
   have k:=d (by omega)
   have:(0:Int).toNat=0:=rfl
   omega
  exfalso
  have i:1≤Z1y 15 a:=by
   unfold Z1y
   rw [if_pos (by omega)]
   exact Nat.pos_of_ne_zero (by simp)
  omega
theorem Y9s (l:List Int) (hl:∀a∈l,0≤a∧a≤15) (h:F4 l=0∨F4 l=16384∧l.count 1=1):lng l≤1:=
 X8k l hl (by rcases h with h | ⟨h,h2⟩ <;> omega)
theorem W0e (v:Value) (l:List Int) (most:Int) (w:World) (hv:Rd w 1 v l.length (D3 l)) (hl:l.length < 1000000):
  Calls Tryz.prog 181 #[v,.int .i64 most] w fun e w'=>e= .returned (.bool (Z0s l most))∧w=w':=by
 obtain ⟨ao,q,rfl,_,_⟩:=hv.form
 obtain ⟨n,r⟩:∃n,n=l.length:=⟨_,rfl⟩
 rw [←r] at hv hl
 have m:=A5 r
 clear r
 have s:Hid (Rd w 1 (.slice ao n q) n (D3 l)):=hv
 rw [show l.length=n from m.out.symm]
 go_enter Tryz.func181,Tryz.ntmps181
 go_wp2
 go_loopg [9] (n+1) (fun k t9 wr=>∃ (i:Nat),i≤n∧n-i < k∧t9= .int .i64 (i:Int)∧Hid (Z0s (l.take i) most=true)∧wr=w)
 case atStart=>exact ⟨0,by omega,by omega,rfl,rfl,rfl⟩
 case round=>
  obtain ⟨i,hi,hk,rfl,j,rfl⟩:=hrel
  by_cases z:i < n
  rotate_left
  ·have o:¬(i:Int) < (n:Int):=by omega
   have f:Hid (Z0s l most=true):=by unfold Hid;have h:=j.out;rwa [T05 (by have:=m.out;omega)] at h
   go_wp2
   go_ret
   exact ⟨by rw [f.out];rfl,rfl⟩
  obtain ⟨g,a1,rfl,b⟩:=hv.spot (by omega)
  obtain ⟨a,d⟩:∃a,l[i]?=some a:=⟨l[i]'(by have:=m.out;omega),T00 _⟩
  have t:=b i _ (by rw [G5,d];rfl)
  have x:(0:Int)≤(i:Int):=T04 _
  have o:(i:Int) < (n:Int):=by omega
  have p:=A5 (Z1n l i a d)
  have y:a < 0∨0≤a∧most < a∨0≤a∧a≤most:=by omega
  rcases y with h | ⟨h,h2⟩ | ⟨h,h2⟩
  ·have f:Hid (Z0s l most=false):=by unfold Hid;refine Z67 l (i+1) most ?_;rw [p.out,Z2p,j.out];simp;omega
   clear b d
   go_wp2
   go_ret
   exact ⟨by rw [f.out];rfl,rfl⟩
  ·have f:Hid (Z0s l most=false):=by unfold Hid;refine Z67 l (i+1) most ?_;rw [p.out,Z2p,j.out];simp;omega
   clear b d
   go_wp2
   go_ret
   exact ⟨by rw [f.out];rfl,rfl⟩
  have f:Hid (Z0s (l.take (i+1)) most=true):=by unfold Hid;rw [p.out,Z2p,j.out];simp;omega
  clear b d
  go_wp2
  go_roundg (gk-1)
  case measure=>omega
  case rel=>exact ⟨i+1,by omega,by omega,by go_num,f,rfl⟩
theorem W5f (v:Value) (l:List Int) (most:Int) (w:World) (hv:Rd w 1 v l.length (D3 l)) (hl:l.length < 1000000):
  Calls Tryz.prog 156 #[v,.int .i64 most] w fun e w'=>e= .returned (.int .i64 ((D0 l most:Nat):Int))∧E5 w w' (fun _=>False):=by
 obtain ⟨ao,b4,rfl,_,_⟩:=hv.form
 have g:=A5 (Y3h _ l w hv hl)
 have b:=A5 (W0e _ l most w hv hl)
 have x:=A5 hl
 obtain ⟨n,t⟩:∃n,n=l.length:=⟨_,rfl⟩
 rw [←t] at hv hl g b
 rw [←t]
 have HN:=A5 t
 clear t hv
 have a9:(0:Int)≤(n:Int):=T04 _
 have h4:most < 1∨1≤most∧15 < most∨1≤most∧most≤15∧288 < n∨1≤most∧most≤15∧n≤288:=by omega
 rcases h4 with h | ⟨h,h2⟩ | ⟨h,h2,h3⟩ | ⟨h,h2,h3⟩
 ·have a:Hid (D0 l most=1):=by unfold Hid D0;rw [if_pos];simp [U4];omega
  go_enter Tryz.func156,Tryz.ntmps156
  go_wp2
  go_ret
  exact ⟨by rw [a.out];rfl,E5.refl _ _⟩
 ·have a:Hid (D0 l most=1):=by unfold Hid D0;rw [if_pos];simp [U4];omega
  go_enter Tryz.func156,Tryz.ntmps156
  go_wp2
  go_ret
  exact ⟨by rw [a.out];rfl,E5.refl _ _⟩
 ·have a:Hid (D0 l most=1):=by unfold Hid D0;rw [if_pos];have:=HN.out;simp [U4];omega
  have y:(288:Int) < (n:Int):=by omega
  go_enter Tryz.func156,Tryz.ntmps156
  go_wp2
  go_ret
  exact ⟨by rw [a.out];rfl,E5.refl _ _⟩
 have y:¬(288:Int) < (n:Int):=by omega
 have b1:¬15 < most:=by omega
 have h1:¬most < 1:=by omega
 have j:Hid (U4 l most= !Z0s l most):=by
  unfold Hid U4
  have:=HN.out
  rw [decide_eq_false (by omega)];rfl
 cases hA:Z0s l most with
 | false=>
  rw [hA] at b
  have a:Hid (D0 l most=1):=by unfold Hid D0;rw [j.out,hA];rfl
  clear hA
  go_enter Tryz.func156,Tryz.ntmps156
  go_wp2_with fail
  refine b.out.mono ?_
  rintro e w1 ⟨rfl,rfl⟩
  go_wp2
  go_ret
  exact ⟨by rw [a.out];rfl,E5.refl _ _⟩
 | true=>
  rw [hA] at b
  have a:Hid (D0 l most=if F4 l=0∨F4 l=32768∨F4 l=16384∧l.count 1=1 then 0 else 3):=by
   unfold Hid D0;rw [j.out,hA];rfl
  clear hA
  have HL:=A5 (T4 l)
  have z:=A5 (T4 [])
  go_enter Tryz.func156,Tryz.ntmps156
  go_wp2_with fail
  refine b.out.mono ?_
  rintro e w0 ⟨rfl,rfl⟩
  go_wp2_with fail
  refine g.out.mono ?_
  rintro e w1 ⟨rfl,o⟩
  have k:=A5 (((A4.start w).same o).newObj (D5 .i64 (P5 [])) 197)
  clear o
  go_wp2_with (first
   | refine K1 rfl _ rfl .i64 _ V07 ?_
   | (refine N5 rfl _ _ _ rfl 16 Y3n _ .i64 (P5 []) (P5 l) _ rfl rfl z.out HL.out k.out.obj ?_;intro w3 p q;have m:=A5 p;have a0:=A5 q;clear q)
   | refine Z06 rfl _ _ rfl _ 16 (by rfl) rfl Y3n w1.heap.size .i64 (P5 l) _ rfl HL.out m.out ?_)
  refine (X51 l w3 x.out).mono ?_
  rintro e w4 ⟨rfl,r⟩
  have f:=A5 ((k.out.putObj m.out a0.out).same r)
  have d:=f.out.obj.cell (i:=1) (v:= .int .i64 ((l.count 1:Nat):Int)) (by rw [O8,Z0n _ 1 (by omega) (by omega)];rfl)
  clear r p
  obtain ⟨s,hs⟩:∃s,s=F4 l:=⟨_,rfl⟩
  obtain ⟨c,hc⟩:∃c,c=l.count 1:=⟨_,rfl⟩
  rw [←hc] at a d
  rw [←hs] at a⊢
  clear hs hc
  have h5:s=0∨s=32768∨s=16384∧c=1∨s=16384∧c≠1∨s≠0∧s≠32768∧s≠16384:=by omega
  rcases h5 with rfl | rfl | ⟨rfl,rfl⟩ | ⟨rfl,hc1⟩ | ⟨hs0,hs1,hs2⟩
  ·go_wp2
   go_ret
   exact ⟨by rw [a.out];rfl,f.out.mod⟩
  ·go_wp2
   go_ret
   exact ⟨by rw [a.out];rfl,f.out.mod⟩
  ·go_wp2
   go_ret
   exact ⟨by rw [a.out];rfl,f.out.mod⟩
  ·have a1:¬(c:Int)=1:=by omega
   go_wp2
   go_ret
   exact ⟨by rw [a.out,if_neg (by omega)];rfl,f.out.mod⟩
  have a1:¬(s:Int)=0:=by omega
  have a4:¬(s:Int)=32768:=by omega
  have a5:¬(s:Int)=16384:=by omega
  go_wp2
  go_ret
  exact ⟨by rw [a.out,if_neg (by omega)];rfl,f.out.mod⟩
theorem X9h (v:Value) (l:List Int) (w:World) (hv:Rd w 1 v l.length (D3 l)) (hl:l.length < 1000000):
  Calls Tryz.prog 78 #[v] w fun e w'=>e= .returned (.int .i64 ((F4 l:Nat):Int))∧w=w':=by
 obtain ⟨ao,b5,rfl,_,_⟩:=hv.form
 obtain ⟨n,hn⟩:∃n,n=l.length:=⟨_,rfl⟩
 rw [←hn] at hv hl⊢
 have HN:=A5 hn
 clear hn
 go_enter Tryz.func78,Tryz.ntmps78
 go_wp2
 go_loopg [3,4] (n+1) (fun k t3 t4 wr=>∃ (i s:Nat),i≤n∧n-i < k∧t4= .int .i64 (i:Int)∧t3= .int .i64 (s:Int)∧Hid (s=F4 (l.take i))∧s≤16384*i∧wr=w)
 case atStart=>exact ⟨0,0,by omega,by omega,rfl,rfl,by simp [Hid,F4,Z6d],by omega,rfl⟩
 case round=>
  obtain ⟨i,s,hi,hk,rfl,rfl,o,hs,rfl⟩:=hrel
  obtain ⟨gx,rfl⟩:∃g,g=gk:=⟨gk,rfl⟩
  by_cases b3:i < n
  rotate_left
  ·have r:¬(i:Int) < (n:Int):=by omega
   go_wp2
   go_ret
   exact ⟨Z8t (by rw [o.out,T05 (by have:=HN.out;omega)]),rfl⟩
  obtain ⟨g,b6,rfl,b⟩:=hv.spot (by omega)
  obtain ⟨a,d⟩:∃a,l[i]?=some a:=⟨l[i]'(by have:=HN.out;omega),T00 _⟩
  have a6:=b i _ (by rw [G5,d];rfl)
  have a7:(0:Int)≤(i:Int):=T04 _
  have r:(i:Int) < (n:Int):=by omega
  have t:=A5 (Y8w l i a d)
  clear b d
  have h3:a < 1∨1≤a∧15 < a∨1≤a∧a≤15:=by omega
  rcases h3 with h | ⟨h,h2⟩ | ⟨h,h2⟩
  ·have f:Hid (Z1y 15 a=0):=by unfold Hid Z1y;rw [if_neg (by omega)]
   go_wp2
   go_roundg (gx-1)
   case measure=>omega
   case rel=>exact ⟨i+1,s,by omega,by omega,by go_num,rfl,by unfold Hid;rw [t.out,f.out];exact o.out,by omega,rfl⟩
  ·have f:Hid (Z1y 15 a=0):=by unfold Hid Z1y;rw [if_neg (by omega)]
   go_wp2
   go_roundg (gx-1)
   case measure=>omega
   case rel=>exact ⟨i+1,s,by omega,by omega,by go_num,rfl,by unfold Hid;rw [t.out,f.out];exact o.out,by omega,rfl⟩
  obtain ⟨m,rfl⟩:=Int.eq_ofNat_of_zero_le (show 0≤a by omega)
  have f:Hid (Z1y 15 (m:Int)=2^(15-m)):=by unfold Hid Z1y;rw [if_pos (by omega)];rfl
  have a5:m≤15:=by omega
  have a9:1≤m:=by omega
  go_wp2
  go_loopg [5,6] (m+1) (fun k t5 t6 wq=>∃ (j p:Nat),j≤m∧m-j < k∧t6= .int .i64 (j:Int)∧t5= .int .i64 (p:Int)∧Hid (p=2^(15-j))∧p≤32768∧wq=wr)
  case atStart=>exact ⟨0,32768,by omega,by omega,rfl,rfl,rfl,by omega,rfl⟩
  case round=>
   obtain ⟨j,p,hj,b7,rfl,rfl,HP,hp,rfl⟩:=hrel
   by_cases b4:j < m
   ·have x:(j:Int) < (m:Int):=by omega
    obtain ⟨q,hq⟩:∃q,q=2^(15- (j+1)):=⟨_,rfl⟩
    have y:p=2*q:=by rw [HP.out,hq,show 15-j=(15- (j+1))+1 by omega,Nat.pow_succ,Nat.mul_comm]
    have b0:(p:Int) / 2=(q:Int):=by omega
    have HQ:=A5 hq
    clear hq y
    go_wp2
    go_roundg (gk-1)
    case measure=>omega
    case rel=>exact ⟨j+1,q,by omega,by omega,by go_num,rfl,HQ,by omega,rfl⟩
   obtain rfl:j=m:=by omega
   have x:¬(j:Int) < (j:Int):=by omega
   have b2:p≤16384:=by
                rw [HP.out];have z:15-j≤14:=by omega
                exact T06 (n:=2) (by decide) z
   go_wp2
   go_roundg (gx-1)
   case measure=>omega
   case rel=>exact ⟨i+1,s+p,by omega,by omega,by go_num,by go_num,by unfold Hid;rw [t.out,f.out,HP.out,o.out],by omega,rfl⟩
theorem Z68 (v:Value) (l:List Int) (most:Int) (w:World) (hv:Rd w 1 v l.length (D3 l)) (hl:l.length < 1000000):
  Calls Tryz.prog 63 #[v,.int .i64 most] w fun e w'=>e= .returned (.int .i64 ((D0 l most:Nat):Int))∧w=w':=by
 obtain ⟨ao,c1,rfl,_,_⟩:=hv.form
 have a1:=A5 (X9h _ l w hv hl)
 obtain ⟨n,hn⟩:∃n,n=l.length:=⟨_,rfl⟩
 rw [←hn] at hv hl a1
 rw [←hn]
 have HN:=A5 hn
 clear hn
 have b4:(0:Int)≤(n:Int):=T04 _
 have h4:most < 1∨1≤most∧15 < most∨1≤most∧most≤15∧288 < n∨1≤most∧most≤15∧n≤288:=by omega
 rcases h4 with h | ⟨h,h2⟩ | ⟨h,h2,h3⟩ | ⟨h,h2,h3⟩
 ·have b:Hid (D0 l most=1):=by unfold Hid D0;rw [if_pos];simp [U4];omega
  clear hv
  go_enter Tryz.func63,Tryz.ntmps63
  go_wp2
  go_ret
  exact ⟨by rw [b.out];rfl,rfl⟩
 ·have b:Hid (D0 l most=1):=by unfold Hid D0;rw [if_pos];simp [U4];omega
  clear hv
  go_enter Tryz.func63,Tryz.ntmps63
  go_wp2
  go_ret
  exact ⟨by rw [b.out];rfl,rfl⟩
 ·have b:Hid (D0 l most=1):=by unfold Hid D0;rw [if_pos];have:=HN.out;simp [U4];omega
  have a8:(288:Int) < (n:Int):=by omega
  clear hv
  go_enter Tryz.func63,Tryz.ntmps63
  go_wp2
  go_ret
  exact ⟨by rw [b.out];rfl,rfl⟩
 have a8:¬(288:Int) < (n:Int):=by omega
 have b6:¬15 < most:=by omega
 have h1:¬most < 1:=by omega
 have a9:Hid (U4 l most= !Z0s l most):=by
  unfold Hid U4
  have:=HN.out
  rw [decide_eq_false (by omega)];rfl
 go_enter Tryz.func63,Tryz.ntmps63
 go_wp2
 go_loopg [5,6,7] (n+1) (fun k t5 t6 t7 wr=>∃ (i c o:Nat),i≤n∧n-i < k∧t7= .int .i64 (i:Int)∧t5= .int .i64 (c:Int)∧t6= .int .i64 (o:Int)∧c≤i∧o≤i∧Hid (Z0s (l.take i) most=true)∧Hid (c=Z08 (l.take i))∧Hid (o=(l.take i).count 1)∧wr=w)
 case atStart=>exact ⟨0,0,0,by omega,by omega,rfl,rfl,rfl,by omega,by omega,rfl,rfl,rfl,rfl⟩
 case round=>
  obtain ⟨i,c,o,hi,hk,rfl,rfl,rfl,hc,ho,HA,HC,HO,rfl⟩:=hrel
  by_cases c0:i < n
  ·obtain ⟨g,c2,rfl,q⟩:=hv.spot (by omega)
   obtain ⟨a,z⟩:∃a,l[i]?=some a:=⟨l[i]'(by have:=HN.out;omega),T00 _⟩
   have b7:=q i _ (by rw [G5,z];rfl)
   have b8:(0:Int)≤(i:Int):=T04 _
   have b0:(i:Int) < (n:Int):=by omega
   have r:=A5 (Z1n l i a z)
   clear q z
   have d:a < 0∨0≤a∧most < a∨0≤a∧a≤most:=by omega
   rcases d with d | ⟨d,h6⟩ | ⟨d,h6⟩
   ·have b:Hid (D0 l most=1):=by unfold Hid;refine X0v (Z67 l (i+1) most ?_);rw [r.out,Z2p,HA.out];simp;omega
    go_wp2
    go_ret
    exact ⟨by rw [b.out];rfl,rfl⟩
   ·have b:Hid (D0 l most=1):=by unfold Hid;refine X0v (Z67 l (i+1) most ?_);rw [r.out,Z2p,HA.out];simp;omega
    go_wp2
    go_ret
    exact ⟨by rw [b.out];rfl,rfl⟩
   have b:Hid (Z0s (l.take (i+1)) most=true):=by unfold Hid;rw [r.out,Z2p,HA.out];simp;omega
   have h7:a=0∨a=1∨1 < a:=by omega
   rcases h7 with rfl | rfl | h7
   ·have f:Hid (c=Z08 (l.take (i+1))):=by unfold Hid;rw [r.out,Z9g,←HC.out];rfl
    have j:Hid (o=(l.take (i+1)).count 1):=by unfold Hid;rw [r.out,Z89,←HO.out];rfl
    go_wp2
    go_roundg (gk-1)
    case measure=>omega
    case rel=>exact ⟨i+1,c,o,by omega,by omega,by go_num,rfl,rfl,by omega,by omega,b,f,j,rfl⟩
   ·have f:Hid (c+1=Z08 (l.take (i+1))):=by unfold Hid;rw [r.out,Z9g,←HC.out];rfl
    have j:Hid (o+1=(l.take (i+1)).count 1):=by unfold Hid;rw [r.out,Z89,←HO.out];rfl
    go_wp2
    go_roundg (gk-1)
    case measure=>omega
    case rel=>exact ⟨i+1,c+1,o+1,by omega,by omega,by go_num,by go_num,by go_num,by omega,by omega,b,f,j,rfl⟩
   have f:Hid (c+1=Z08 (l.take (i+1))):=by unfold Hid;rw [r.out,Z9g,←HC.out,if_pos (by omega)]
   have j:Hid (o=(l.take (i+1)).count 1):=by unfold Hid;rw [r.out,Z89,←HO.out,if_neg (by omega)];rfl
   go_wp2
   go_roundg (gk-1)
   case measure=>omega
   case rel=>exact ⟨i+1,c+1,o,by omega,by omega,by go_num,by go_num,rfl,by omega,by omega,b,f,j,rfl⟩
  have b0:¬(i:Int) < (n:Int):=by omega
  have HE:Hid (l.take i=l):=by unfold Hid;exact T05 (by have:=HN.out;omega)
  rw [HE.out] at HA HC HO
  have HB:Hid (U4 l most=false):=by unfold Hid;rw [a9.out,HA.out];rfl
  have x:=A5 (W4e l most HB.out)
  have b:Hid (D0 l most=if F4 l=0∨F4 l=32768∨F4 l=16384∧l.count 1=1 then 0 else 3):=by
   unfold Hid D0;rw [HB.out];rfl
  rw [←HC.out,←HO.out] at x
  rw [←HO.out] at b
  go_wp2_with fail
  refine a1.out.mono ?_
  rintro e w1 ⟨rfl,rfl⟩
  obtain ⟨s,hs⟩:∃s,s=F4 l:=⟨_,rfl⟩
  rw [←hs] at b x⊢
  clear hs
  have d:32768 < s∨s=32768∨s < 32768∧c=0∨s < 32768∧c=1∧o=1∨s < 32768∧c=1∧o≠1∨s < 32768∧c≠1∧c≠0:=by omega
  rcases d with d | d | ⟨d,h6⟩ | ⟨d,h6,h7⟩ | ⟨d,h7,h6⟩ | ⟨d,h6,h7⟩
  ·have m:Hid (D0 l most=3):=by unfold Hid;rw [b.out,if_neg (x.out.1 (by omega))]
   have p:decide ((32768:Int) < (s:Int))=true:=by simp;omega
   go_wp2
   go_ret
   exact ⟨by rw [m.out];rfl,rfl⟩
  ·have m:Hid (D0 l most=0):=by unfold Hid;rw [b.out,if_pos (by have:=x.out;omega)]
   have p:decide ((32768:Int) < (s:Int))=false:=by simp;omega
   have t:decide ((s:Int) < 32768)=false:=by simp;omega
   go_wp2
   go_ret
   exact ⟨by rw [m.out];rfl,rfl⟩
  ·have m:Hid (D0 l most=0):=by unfold Hid;rw [b.out,if_pos (by have:=x.out;omega)]
   have p:decide ((32768:Int) < (s:Int))=false:=by simp;omega
   have t:decide ((s:Int) < 32768)=true:=by simp;omega
   have y:(((c:Nat):Int)==0)=true:=by simp;omega
   go_wp2
   go_ret
   exact ⟨by rw [m.out];rfl,rfl⟩
  ·have m:Hid (D0 l most=0):=by unfold Hid;rw [b.out,if_pos (by have:=x.out;omega)]
   have p:decide ((32768:Int) < (s:Int))=false:=by simp;omega
   have t:decide ((s:Int) < 32768)=true:=by simp;omega
   have y:(((c:Nat):Int)==0)=false:=by simp;omega
   have a3:(((c:Nat):Int)==1)=true:=by simp;omega
   have b1:(((o:Nat):Int)==1)=true:=by simp;omega
   go_wp2
   go_ret
   exact ⟨by rw [m.out];rfl,rfl⟩
  ·have m:Hid (D0 l most=3):=by unfold Hid;rw [b.out,if_neg (x.out.1 (by omega))]
   have p:decide ((32768:Int) < (s:Int))=false:=by simp;omega
   have t:decide ((s:Int) < 32768)=true:=by simp;omega
   have y:(((c:Nat):Int)==0)=false:=by simp;omega
   have a3:(((c:Nat):Int)==1)=true:=by simp;omega
   have b1:(((o:Nat):Int)==1)=false:=by simp;omega
   go_wp2
   go_ret
   exact ⟨by rw [m.out];rfl,rfl⟩
  have m:Hid (D0 l most=3):=by unfold Hid;rw [b.out,if_neg (x.out.1 (by omega))]
  have p:decide ((32768:Int) < (s:Int))=false:=by simp;omega
  have t:decide ((s:Int) < 32768)=true:=by simp;omega
  have y:(((c:Nat):Int)==0)=false:=by simp;omega
  have a3:(((c:Nat):Int)==1)=false:=by simp;omega
  go_wp2
  go_ret
  exact ⟨by rw [m.out];rfl,rfl⟩
structure C4 where
 b:Nat
 o:Nat
 pre:List Value
 post:List Value
 T:TypeId
 len:pre.length=o
def C4.whole (b:Nat) (T:TypeId):C4:=⟨b,0,[],[],T,rfl⟩
theorem X6.cell0 {w:World} {B:Nat} {cs:List Value} {T:TypeId} (h:X6 w B cs T) {v:Value} (hv:cs[0]?=some v):w.cell? ⟨B,0,none⟩=some v:=h.cell hv
theorem X6.frozen0 {w:World} {B:Nat} {cs:List Value} {T:TypeId} (h:X6 w B cs T):w.frozen? ⟨B,0,none⟩=false:=h.frozen 0
def X7 (w:World) (p:C4) (cs:List Value):Prop:=X6 w p.b (p.pre++(cs++p.post)) p.T
section
variable {w w':World} {p:C4} {cs:List Value}
theorem X7.lt (h:X7 w p cs):p.b < w.heap.size:=X6.lt h
theorem X7.cell (h:X7 w p cs) {i:Nat} {v:Value} (hv:cs[i]?=some v):w.cell? ⟨p.b,p.o+i,none⟩=some v:=by
 refine X6.cell h ?_
 have a:=(List.getElem?_eq_some_iff.1 hv).1
 rw [←p.len,List.getElem?_append_right (by omega),Nat.add_sub_cancel_left,List.getElem?_append_left a]
 exact hv
theorem X7.cell0 (h:X7 w p cs) {v:Value} (hv:cs[0]?=some v):w.cell? ⟨p.b,p.o,none⟩=some v:=h.cell (i:=0) hv
theorem X7.frozen (h:X7 w p cs) (i:Nat):w.frozen? ⟨p.b,p.o+i,none⟩=false:=X6.frozen h _
theorem X7.frozen0 (h:X7 w p cs):w.frozen? ⟨p.b,p.o,none⟩=false:=X6.frozen h _
theorem Y9f (p:C4) (cs:List Value) (i:Nat) (u:Value) (hi:i < cs.length):(p.pre++(cs++p.post)).set (p.o+i) u=p.pre++(cs.set i u++p.post):=by
 rw [List.set_append_right _ _ (by have:=p.len;omega),show p.o+i-p.pre.length=i by have:=p.len;omega,List.set_append_left _ _ hi]
theorem X7.set (h:X7 w p cs) (i:Nat) (u:Value) (hi:i < cs.length:=by exact Nat.le_of_ble_eq_true rfl):X7 (w.setCell ⟨p.b,p.o+i,none⟩ u) p (cs.set i u):=by
 unfold X7
 rw [←Y9f p cs i u hi]
 exact X6.set h _ _
theorem X7.set0 (h:X7 w p cs) (u:Value) (hi:0 < cs.length:=by exact Nat.le_of_ble_eq_true rfl):X7 (w.setCell ⟨p.b,p.o,none⟩ u) p (cs.set 0 u):=h.set 0 u hi
theorem X7.kept (h:X7 w p cs) {S:Nat→Prop} (hm:E5 w w' S) (hs:¬S p.b):X7 w' p cs:=X6.kept h hm hs
theorem X7.alloc (h:X7 w p cs) (o:Obj):X7 (w.alloc o) p cs:=X6.alloc h o
theorem X7.grown (h:X7 w p cs) {row:Option Nat} (hg:w.grownBy w' row) (hr:row≠some p.b):X7 w' p cs:=X6.grown h hg hr
theorem X7.drew (h:X7 w p cs):X7 w.drew p cs:=h
end
def Q0 (p:C4) (cs:List Value):A6:=E8 p.b (p.pre++(cs++p.post)) p.T
theorem X9s (B:Nat) (cs:List Value) (T:TypeId):Q0 (.whole B T) cs=E8 B cs T:=by
 show E8 B ([]++(cs++[])) T=_
 rw [T0a];rfl
section
variable {w0 w:World} {p:C4} {cs:List Value} {Rs:List A6}
theorem A4.objp (h:A4 w0 w (Q0 p cs::Rs)):X7 w p cs:=A4.obj h
theorem A4.setObjP (h:A4 w0 w (Q0 p cs::Rs)) (i:Nat) (u:Value) (hi:i < cs.length:=by exact Nat.le_of_ble_eq_true rfl):A4 w0 (w.setCell ⟨p.b,p.o+i,none⟩ u) (Q0 p (cs.set i u)::Rs):=by
 unfold Q0
 rw [←Y9f p cs i u hi]
 exact A4.setObj h _ _
theorem A4.setObjP0 (h:A4 w0 w (Q0 p cs::Rs)) (u:Value) (hi:0 < cs.length:=by exact Nat.le_of_ble_eq_true rfl):A4 w0 (w.setCell ⟨p.b,p.o,none⟩ u) (Q0 p (cs.set 0 u)::Rs):=h.setObjP 0 u hi
theorem A4.newObjP (h:A4 w0 w Rs) (cs:List Value) (T:TypeId):A4 w0 (w.alloc (.cells cs.toArray T)) (Q0 (.whole w.heap.size T) cs::Rs):=by
 rw [X9s]
 exact h.newObj cs T
theorem A4.apartP {e:TypeId} {size n:Nat} {v:Value} {xs:List Value} (h:A4 w0 w (Q0 p cs::B0 e size v n xs::Rs)):v.ownBlock≠some p.b:=A4.apart h
end
theorem Y1r (n:Int) (w:World) (h:0≤n∧n≤32):
  Calls Tryz.prog 106 #[.int .i64 n] w fun e w'=>e= .returned (.bool true)∧w=w':=by
 obtain ⟨a,b⟩:=h
 go_enter Tryz.func106,Tryz.ntmps106
 go_wp2
 go_ret
 exact ⟨rfl,rfl⟩
theorem V2v (v k:Nat) (hv:v < 18446744073709551616) (hk:k≤32):
  bits .and .u64 (v:Int) (IntKind.u64.wrap (IntKind.u64.wrap (2^k)-1))=((v%2^k:Nat):Int):=by
 have d:(2:Nat)^k≤2^32:=T06 (by decide) hk
 have f:0 < (2:Nat)^k:=Nat.two_pow_pos k
 have a:IntKind.u64.wrap (2^k)=((2^k:Nat):Int):=by
  rw [IntWalk.u64_in]
  ·simp
  rw [Y8];omega
 rw [a]
 have b:IntKind.u64.wrap (((2^k:Nat):Int)-1)=((2^k-1:Nat):Int):=by
  rw [IntWalk.u64_in _ (by omega)];omega
 rw [b,bits_and_u64_nat v (2^k-1) hv (by omega),Nat.and_two_pow_sub_one_eq_mod]
theorem X8f (v k:Nat) (w:World) (hv:v < 18446744073709551616) (hk:k≤32):
  Calls Tryz.prog 107 #[.int .u64 (v:Int),.int .i64 (k:Int)] w fun e w'=>e= .returned (.int .u64 ((v%2^k:Nat):Int))∧w'=w:=by
 go_enter Tryz.func107,Tryz.ntmps107
 go_wp2
 go_ret
 exact ⟨Z8t (V2v v k hv hk),rfl⟩
def WIs (w:World) (B:C4) (d:Value) (bs:List Nat) (s c:Nat):Prop:=
 X7 w B [d,.int .u64 (s:Int),.int .i64 (c:Int)]∧Own w 5 1 d bs.length (D9 bs)∧d.ownBlock≠some B.b∧s < 2^c∧(∀b∈bs,b < 256)
def Wr (w:World) (B:C4) (d:Value) (l:List Nat):Prop:=∃bs s c,WIs w B d bs s c∧c < 8∧l=D7 bs++A9 c s
def Z1l (B:Nat) (d:Value) (k:Nat):Prop:=k=B∨d.ownBlock=some k
def Y9d (w:World) (d d':Value):Prop:=d'.ownBlock=d.ownBlock∨∀k,d'.ownBlock=some k→w.heap.size≤k
def Z4k (w w':World) (B:C4) (d:Value) (l':List Nat):Prop:=∃d',Wr w' B d' l'∧E5 w w' (Z1l B.b d)∧Y9d w d d'
theorem WIs.kept {w w':World} {B:C4} {d:Value} {bs:List Nat} {s c:Nat} (h:WIs w B d bs s c) {S:Nat→Prop} (hm:E5 w w' S) (hS:∀k,Z1l B.b d k→¬S k):WIs w' B d bs s c:=
 ⟨h.1.kept hm (hS B.b (.inl rfl)),h.2.1.kept hm (fun k hk=>hS k (.inr hk)),h.2.2⟩
theorem Wr.kept {w w':World} {B:C4} {d:Value} {l:List Nat} (h:Wr w B d l) {S:Nat→Prop} (hm:E5 w w' S) (hS:∀k,Z1l B.b d k→¬S k):Wr w' B d l:=by
 obtain ⟨a,s,c,f,r⟩:=h
 exact ⟨a,s,c,f.kept hm hS,r⟩
theorem Wr.lt {w:World} {B:C4} {d:Value} {l:List Nat} (h:Wr w B d l):∀k,Z1l B.b d k→k < w.heap.size:=by
 obtain ⟨g,s,c,a,_⟩:=h
 rintro k (rfl | f)
 ·exact a.1.lt
 exact a.2.1.lt k f
theorem Wr.ne {w:World} {B:C4} {d:Value} {l:List Nat} (h:Wr w B d l):d.ownBlock≠some B.b:=by
 obtain ⟨f,s,c,a,_⟩:=h
 exact a.2.2.1
theorem Z4k.next {w w1 w2:World} {B:C4} {d d1:Value} {l2:List Nat} (_:∀k,Z1l B.b d k→k < w.heap.size) (hm:E5 w w1 (Z1l B.b d)) (hv:Y9d w d d1) (h2:Z4k w1 w2 B d1 l2):Z4k w w2 B d l2:=by
 obtain ⟨j,l,i,a⟩:=h2
 refine ⟨j,l,hm.trans i ?_, ?_⟩
 ·rintro k g (rfl | f)
  ·exact .inl rfl
  rcases hv with hv | hv
  ·exact .inr (hv ▸ f)
  exact absurd (hv k f) (by omega)
 rcases a with a | a
 ·rcases hv with hv | hv
  ·exact .inl (a.trans hv)
  exact .inr fun k g=>hv k (a ▸ g)
 exact .inr fun k g=>Nat.le_trans hm.size (a k g)
theorem Z4k.stay {w:World} {B:C4} {d:Value} {l:List Nat} (h:Wr w B d l):Z4k w w B d l:=⟨d,h,E5.refl _ _,.inl rfl⟩
theorem Tryz.infoByte:(Tryz.prog.info? 5).map (fun i=>(i.zero,i.size,i.bytes))=some (some (.int .u8 0),1,1):=by kernel_rfl
def V1j (w:World) (B:C4) (d:Value) (L:List Nat) (k:Nat) (wr:World):Prop:=
 ∃ao cap bs s c,WIs wr B (.slice ao bs.length cap) bs s c∧D7 bs++A9 c s=L∧c≤k∧E5 w wr (Z1l B.b d)∧Y9d w d (.slice ao bs.length cap)
theorem X4i {w wr w1:World} {B:C4} {d:Value} {L:List Nat} {ao ao1:Option Addr} {cap cap1:Nat} {bs:List Nat} {s c k:Nat} {o:Obj}
  (hb:X7 wr B [.slice ao bs.length cap,.int .u64 (s:Int),.int .i64 (c:Int)]) (hne:Value.ownBlock (.slice ao bs.length cap)≠some B.b) (hs:s < 2^c) (hb256:∀b∈bs,b < 256)
  (hL:D7 bs++A9 c s=L) (h8:8≤c) (hk:c-8≤k) (hM:E5 w wr (Z1l B.b d)) (hO:Y9d w d (.slice ao bs.length cap)) (hBd:B.b < w.heap.size)
  (hown1:Own w1 5 1 (.slice ao1 (bs.length+1) cap1) (bs.length+1) (D9 bs++[.int .u8 (IntKind.u8.wrap s)])) (hgrow:(wr.alloc o).drew.grownBy w1 (Value.ownBlock (.slice ao bs.length cap)))
  (hat:Value.ownBlock (.slice ao1 (bs.length+1) cap1)=Value.ownBlock (.slice ao bs.length cap)∨Value.ownBlock (.slice ao1 (bs.length+1) cap1)=some (wr.alloc o).drew.heap.size)
  (hb1:X7 w1 B [.slice ao bs.length cap,.int .u64 (s:Int),.int .i64 (c:Int)]):
  V1j w B d L k (((w1.setCell ⟨B.b,B.o,none⟩ (.slice ao1 (bs.length+1) cap1)).setCell ⟨B.b,B.o+1,none⟩ (.int .u64 ((s:Int) / 256))).setCell ⟨B.b,B.o+2,none⟩ (.int .i64 ((c:Int)-8))):=by
 have f:(bs++[s%256]).length=bs.length+1:=by simp
 have l:(wr.alloc o).drew.heap.size=wr.heap.size+1:=by show (wr.heap.push o).size=_;simp
 have q:=hM.size
 have j:Value.ownBlock (.slice ao1 (bs.length+1) cap1)≠some B.b:=by
  rcases hat with h | h
  ·rw [h];exact hne
  rw [h,l];intro e;injection e with e;have:=hb.lt;omega
 have m:E5 w w1 (Z1l B.b d):=by
  refine ((hM.alloc o).drew).grown hgrow fun k hk=> ?_
  rcases hO with hO | hO
  ·exact .inr (.inr (hO ▸ hk))
  exact .inl (hO k hk)
 have g:∀ (w0:World) (i:Nat) (u:Value),E5 w w0 (Z1l B.b d)→E5 w (w0.setCell ⟨B.b,i,none⟩ u) (Z1l B.b d):=fun w0 i u h=>h.setCell (.inr (.inl rfl)) u
 have a:∀ (w0:World) (i:Nat) (u:Value),Own w0 5 1 (.slice ao1 (bs.length+1) cap1) (bs.length+1) (D9 (bs++[s%256]))→Own (w0.setCell ⟨B.b,i,none⟩ u) 5 1 (.slice ao1 (bs.length+1) cap1) (bs.length+1) (D9 (bs++[s%256])):=fun w0 i u h=>
  h.kept (S:=fun k=>k=B.b) ((E5.refl w0 (fun k=>k=B.b)).setCell (p:=⟨B.b,i,none⟩) (.inr rfl) u) (fun k hk e=>j (by rw [hk,e]))
 refine ⟨ao1,cap1,bs++[s%256],s / 256,c-8,⟨?_, ?_,by rw [f];exact j, ?_, ?_⟩, ?_,hk,g _ _ _ (g _ _ _ (g _ _ _ m)), ?_⟩
 ·have:=((hb1.set0 (.slice ao1 (bs.length+1) cap1)).set 1 (.int .u64 ((s:Int) / 256))).set 2 (.int .i64 ((c:Int)-8))
  simp only [T0e,T0f] at this
  rw [f,show ((s / 256:Nat):Int)=(s:Int) / 256 by omega,show ((c-8:Nat):Int)=(c:Int)-8 by omega]
  exact this
 ·rw [f]
  refine a _ _ _ (a _ _ _ (a _ _ _ ?_))
  have e:D9 bs++[Value.int .u8 (IntKind.u8.wrap s)]=D9 (bs++[s%256]):=by
   rw [J8,IntKind.wrap_u8];simp [D9]
  rw [←e];exact hown1
 ·have:2^c=2^(c-8)*256:=by rw [show (256:Nat)=2^8 from rfl,←Nat.pow_add];congr 1;omega
  omega
 ·intro b n
  rcases List.mem_append.1 n with h | h
  ·exact hb256 b h
  simp at h;omega
 ·rw [←hL,M7,Q6,Z62,T0a,T0b]
  congr 1
  have r:=Z0m 8 (c-8) s
  rw [show 8+(c-8)=c by omega] at r
  rw [r,show s%256=s%2^8 from rfl,Z0r]
 rw [f]
 rcases hat with h | h
 ·rcases hO with hO | hO
  ·exact .inl (h.trans hO)
  exact .inr fun k hk=>hO k (h ▸ hk)
 exact .inr fun k hk=>by rw [h,l] at hk;injection hk with hk;omega
theorem Y9k (B:C4) (d:Value) (bs:List Nat) (s c:Nat) (w:World) (h:WIs w B d bs s c) (hc:c < 64) (hbs:(D7 bs++A9 c s).length < 1099511627776):
  Calls Tryz.prog 56 #[.pointer (some ⟨B.b,B.o,none⟩)] w fun e w'=>e= .returned (.tuple #[])∧Z4k w w' B d (D7 bs++A9 c s):=by
 obtain ⟨i,hi,a0,a1,a2⟩:=info_parts Tryz.infoByte
 have m:V1j w B d (D7 bs++A9 c s) c w:=by
  obtain ⟨t,l,rfl,_,_⟩:=h.2.1.form
  exact ⟨t,l,bs,s,c,h,rfl,T03 _,E5.refl _ _,.inl rfl⟩
 have x:=h.1.lt
 go_enter Tryz.func56,Tryz.ntmps56
 go_wp2
 go_loopg [] c (fun k wr=>V1j w B d (D7 bs++A9 c s) k wr∧k < 64)
 case atStart=>exact ⟨m,hc⟩
 case round=>
  obtain ⟨⟨t,l,f,s',c',hW,hL,b6,hM,hO⟩,b7⟩:=hrel
  have y:=hW
  obtain ⟨j,q,r,hs,p⟩:=hW
  have c0:=j.cell0 rfl
  have c1:=j.cell (i:=1) rfl
  have c2:=j.cell (i:=2) rfl
  have f0:=j.frozen0
  have f1:=j.frozen 1
  have f2:=j.frozen 2
  have a5:f.length < 1099511627776:=by have:=congrArg T07 hL;simp only [T08,E1] at this hbs;omega
  have HL:=A5 hL
  clear hL
  have fa:∀o,(wr.alloc o).frozen? ⟨B.b,B.o,none⟩=false:=fun o=>(j.alloc o).frozen0
  have b2:∀o,(wr.alloc o).cell? ⟨B.b,B.o,none⟩=some (.slice t f.length l):=fun o=>(j.alloc o).cell0 rfl
  by_cases h8:8≤c'
  ·go_wp2
   go_region_law
    ((refine Z3e _ (by rfl) (.tmp 11) (.tmp 17) 26 (by rfl) 5 i (.int .u8 0) 1 1 Tryz.underlying26 hi a0 a1 a2 (by rfl) (by decide) (.slice t f.length l) f.length (D9 f) (by rfl) (by exact (q.alloc _).drew) (.slice (some ⟨wr.heap.size,0,none⟩) 1 1) 1 [.int .u8 (IntKind.u8.wrap s')] (by rfl) (by exact (Rd.lit _ [_] _ 1 1 (by decide) rfl).drew) (by simp [Value.oneCell']) (by unfold maxLen;omega) (by omega) ?_;intro b4 a7 w1 n g z;have a:=(j.alloc _).drew.grown g r;have e0:=a.cell0 rfl;have e1:=a.cell (i:=1) rfl;have e2:=a.cell (i:=2) rfl;have g0:=a.frozen0;have g1:=a.frozen 1;have g2:=a.frozen 2))
   all_goals
    go_wp2
    go_roundg (c'-8)
    case measure=>omega
    case rel=>exact ⟨X4i j r hs p HL.out h8 (T03 _) hM hO x n g z a,by omega⟩
  go_wp2
  go_end0
  exact ⟨rfl,_,⟨f,s',c',y,by omega,HL.out.symm⟩,hM,hO⟩
theorem W99 (s v c:Nat) (hs:s < 2^c) (hc:c < 8) (hv:v < 4294967296):
  bits .or .u64 (s:Int) (IntKind.u64.wrap ((v:Int)*2^c))=((s+2^c*v:Nat):Int):=by
 have a:(2:Nat)^c≤2^7:=T06 (by decide) (by omega)
 have d:2^c*v < 2^7*4294967296:=T0g (Nat.mul_le_mul_right _ a) (by omega)
 have b:IntKind.u64.wrap ((v:Int)*2^c)=((2^c*v:Nat):Int):=by
  have:((v:Int)*2^c)=((2^c*v:Nat):Int):=by rw [Y8,Nat.mul_comm];simp
  rw [this,IntWalk.u64_in _ (by omega)]
 rw [b,bits_or_u64_nat s _ (by omega) (by omega),Nat.or_comm,←Nat.two_pow_add_eq_or_of_lt hs,Nat.add_comm]
theorem X46 {bs:List Nat} {s c:Nat}:(D7 bs++A9 c s).length=8*bs.length+c:=by rw [T08,E1,B5]
theorem Y9q (v k m:Nat) (w:World) (hv:v < 18446744073709551616) (hk:k≤32) (hm:m=v%2^k):
  Calls Tryz.prog 107 #[.int .u64 (v:Int),.int .i64 (k:Int)] w fun e w'=>e= .returned (.int .u64 (m:Int))∧w'=w:=by
 rw [hm];exact X8f v k w hv hk
theorem V30 {w:World} {B:C4} {d:Value} {bs:List Nat} {s c n m q:Nat} (hb:X7 w B [d,.int .u64 (s:Int),.int .i64 (c:Int)]) (hown:Own w 5 1 d bs.length (D9 bs)) (hne:d.ownBlock≠some B.b)
  (hs:s < 2^c) (hb256:∀b∈bs,b < 256) (hm:m < 2^n) (hq:q=s+2^c*m):
  WIs ((w.setCell ⟨B.b,B.o+1,none⟩ (.int .u64 (q:Int))).setCell ⟨B.b,B.o+2,none⟩ (.int .i64 ((c:Int)+(n:Int)))).drew B d bs q (c+n)∧
   E5 w ((w.setCell ⟨B.b,B.o+1,none⟩ (.int .u64 (q:Int))).setCell ⟨B.b,B.o+2,none⟩ (.int .i64 ((c:Int)+(n:Int)))).drew (Z1l B.b d):=by
 have a:E5 w ((w.setCell ⟨B.b,B.o+1,none⟩ (.int .u64 (q:Int))).setCell ⟨B.b,B.o+2,none⟩ (.int .i64 ((c:Int)+(n:Int)))).drew (fun k=>k=B.b):=
  ((((E5.refl w (fun k=>k=B.b)).setCell (p:=⟨B.b,B.o+1,none⟩) (.inr rfl) _).setCell (p:=⟨B.b,B.o+2,none⟩) (.inr rfl) _)).drew
 refine ⟨⟨?_,hown.kept a (fun k hk e=>hne (by rw [hk,e])),hne, ?_,hb256⟩,a.mono fun k _ e=> .inl e⟩
 ·have:=(hb.set 1 (.int .u64 (q:Int))).set 2 (.int .i64 ((c:Int)+(n:Int)))
  simp only [T0e,T0f] at this
  exact this
 rw [hq,Nat.pow_add]
 have f:2^c*m+2^c≤2^c*2^n:=by
  rw [←Nat.mul_succ];exact Nat.mul_le_mul_left _ hm
 omega
theorem V33 (B:C4) (d:Value) (l:List Nat) (v n:Nat) (w:World) (h:Wr w B d l) (hv:v < 4294967296) (hn:n≤32) (hl:l.length < 1099511627000):
  Calls Tryz.prog 89 #[.pointer (some ⟨B.b,B.o,none⟩),.int .u32 (v:Int),.int .i64 (n:Int)] w fun e w'=>e= .returned (.tuple #[])∧Z4k w w' B d (l++A9 n v):=by
 have a4:=A5 h.lt
 obtain ⟨bs,s,c,⟨y,z,a7,hs,p⟩,hc,a0⟩:=h
 have c1:=y.cell (i:=1) rfl
 have c2:=y.cell (i:=2) rfl
 have f1:=y.frozen 1
 have f2:=y.frozen 2
 obtain ⟨m,hm⟩:∃m,m=v%2^n:=⟨_,rfl⟩
 obtain ⟨q,hq⟩:∃q,q=s+2^c*m:=⟨_,rfl⟩
 have a5:m < 4294967296:=by rw [hm];exact T0g (Nat.mod_le _ _) hv
 have r:m < 2^n:=by rw [hm];exact Nat.mod_lt _ (Nat.two_pow_pos n)
 have k:=W99 s m c hs hc a5
 rw [←hq] at k
 have f:=A5 (V30 y z a7 hs p r hq)
 have a:D7 bs++A9 (c+n) q=l++A9 n v:=by
  rw [a0,hq,Z52 c n s m hs,hm,Z0r,T0b]
 have g:(D7 bs++A9 (c+n) q).length < 1099511627776:=by rw [a,T08,B5];omega
 have Hos:=A5 k
 have HM:=A5 hm
 have HJ:=A5 a
 have t:=A5 g
 clear hs hm a0 k hq a r g
 go_enter Tryz.func89,Tryz.ntmps89
 go_wp2_with (go_at_call 106;refine (Y1r _ _ ⟨by omega,by omega⟩).mono ?_;rintro e w' ⟨rfl,rfl⟩)
 refine wp_region_still_tail 14 (by kernel_rfl) (by kernel_rfl) ?_
 simp only [List.take_succ_cons,List.take_zero,List.drop_succ_cons,List.drop_zero]
 change wpStill _ _ w.drew _ _ _
 iterate 7 still_step
 refine wpStill_step (fun K hK=> ?_)
 go_simp
 rw [IntWalk.u64_in (v:Int) (by omega)]
 refine ⟨_,Y9q v n m _ (by omega) hn HM.out,hK _ ?_⟩
 clear hK K
 iterate 6 still_step
 refine wpStill_nil ?_
 rw [Hos.out]
 go_wp2_with fail
 refine (Y9k B d bs q (c+n) _ f.out.1 (by omega) t.out).mono ?_
 rintro e w' ⟨rfl,x⟩
 have j:=A5 (Z4k.next a4.out f.out.2 (Or.inl rfl) x)
 clear x
 go_wp2
 go_end0
 rw [HJ.out] at j
 exact ⟨rfl,j.out⟩
theorem X9g {bs:List Nat} {s c:Nat} (hs:s < 2^c) (hc:c < 8) (h0:c≠0):D7 bs++A9 8 s=J2 (D7 bs++A9 c s):=by
 have a:=Y4u c (8-c) s hs
 rw [show c+(8-c)=8 by omega] at a
 rw [a,J2,X46,T0b]
 congr 3
 omega
theorem W5z {bs:List Nat}:J2 (D7 bs)=D7 bs:=by
 rw [J2,E1]
 have:(8-8*bs.length%8)%8=0:=by omega
 rw [this];simp
theorem Y5i (B:C4) (d:Value) (l:List Nat) (w:World) (h:Wr w B d l) (hl:l.length < 1099511627000):
  Calls Tryz.prog 33 #[.pointer (some ⟨B.b,B.o,none⟩)] w fun e w'=>e= .returned (.tuple #[])∧Z4k w w' B d (J2 l):=by
 have a0:=A5 h.lt
 have j:=A5 (Z4k.stay h)
 obtain ⟨bs,s,c,⟨hb,x,y,z,m⟩,hc,a⟩:=h
 have c2:=hb.cell (i:=2) rfl
 have f2:=hb.frozen 2
 by_cases h0:c=0
 ·subst h0
  have n:J2 l=l:=by rw [a,show A9 0 s=[] from rfl,T0a];exact W5z
  have HE:=A5 n
  clear n a z
  have hd:(((0:Nat):Int)==0)=true:=rfl
  go_enter Tryz.func33,Tryz.ntmps33
  go_wp2
  refine bodyPost_ret (results_none rfl _ _ _) rfl ?_
  rw [HE.out]
  exact ⟨rfl,j.out⟩
 have hj:=X9g (bs:=bs) z hc h0
 rw [←a] at hj
 have f:(D7 bs++A9 8 s).length < 1099511627776:=by
  have:=congrArg T07 a;rw [X46] at this;rw [X46];omega
 have q:s < 2^8:=Nat.lt_of_lt_of_le z (T06 (by decide) (by omega))
 have hM:E5 w (w.setCell ⟨B.b,B.o+2,none⟩ (.int .i64 8)) (fun k=>k=B.b):=(E5.refl w (fun k=>k=B.b)).setCell (p:=⟨B.b,B.o+2,none⟩) (.inr rfl) _
 have hW:WIs (w.setCell ⟨B.b,B.o+2,none⟩ (.int .i64 8)) B d bs s 8:=⟨hb.set 2 _,x.kept hM (fun k hk e=>y (by rw [hk,e])),y,q,m⟩
 have HM:=A5 (hM.mono (T:=Z1l B.b d) fun k _ e=> .inl e)
 have HW:=A5 hW
 have HJ:=A5 hj
 have r:=A5 f
 have hd:((c:Int)==0)=false:=by simp;omega
 clear hM hW hj f a q z
 go_enter Tryz.func33,Tryz.ntmps33
 go_wp2_with fail
 refine (Y9k B d bs s 8 _ HW.out (by omega) r.out).mono ?_
 rintro e w' ⟨rfl,t⟩
 have g:=A5 (Z4k.next a0.out HM.out (Or.inl rfl) t)
 clear t
 go_wp2
 go_end0
 rw [HJ.out] at g
 exact ⟨rfl,g.out⟩
theorem W86 (B:C4) (d:Value) (l:List Nat) (w:World) (h:Wr w B d l):
  Calls Tryz.prog 30 #[.pointer (some ⟨B.b,B.o,none⟩)] w fun e w'=>e= .returned d∧Own w' 5 1 d (D4 l).length (D9 (D4 l))∧
   Wr w' B (.slice none 0 0) (l.drop (8*(D4 l).length))∧E5 w w' (fun k=>k=B.b):=by
 obtain ⟨n,s,c,⟨q,j,r,t,g⟩,x,i⟩:=h
 have a:D4 l=n:=by rw [i];exact Z0e n _ g (by rw [B5];exact x)
 have f:l.drop (8*n.length)=D7 []++A9 c s:=by
  rw [i,List.drop_append,E1,Nat.sub_self,List.drop_eq_nil_of_le (by rw [E1];omega)];rfl
 have m:E5 w (w.setCell ⟨B.b,B.o,none⟩ (.slice none 0 0)) (fun k=>k=B.b):=(E5.refl w (fun k=>k=B.b)).setCell (p:=⟨B.b,B.o,none⟩) (.inr rfl) _
 have y:Hid (Own (w.setCell ⟨B.b,B.o,none⟩ (.slice none 0 0)) 5 1 d (D4 l).length (D9 (D4 l))∧
   Wr (w.setCell ⟨B.b,B.o,none⟩ (.slice none 0 0)) B (.slice none 0 0) (l.drop (8*(D4 l).length))∧E5 w (w.setCell ⟨B.b,B.o,none⟩ (.slice none 0 0)) (fun k=>k=B.b)):=by
  rw [a,f]
  exact ⟨j.kept m (fun k hk e=>r (by rw [hk,e])),⟨[],s,c,⟨q.set0 _,Own.nil _ _ _,by simp [Value.ownBlock],t,by simp⟩,x,rfl⟩,m⟩
 have z:=q.cell0 rfl
 have f0:=q.frozen0
 clear m f a i t
 go_enter Tryz.func30,Tryz.ntmps30
 go_wp2
 go_ret
 exact ⟨rfl,y.out⟩
theorem X1s {bs:List Nat} {s c:Nat} {l:List Nat} (h:D7 bs++A9 c s=J2 l) (hc:c < 8):c=0:=by
 have a:=congrArg T07 h
 have b:=Z5c l
 rw [X46] at a
 omega
theorem W3y {w w1:World} {B:C4} {bs news:List Nat} {s:Nat} {ao ao1:Option Addr} {cap cap1 n:Nat} (hb:X7 w B [.slice ao bs.length cap,.int .u64 (s:Int),.int .i64 ((0:Nat):Int)]) (hne:Value.ownBlock (.slice ao bs.length cap)≠some B.b)
  (hs:s < 2^0) (hb256:∀b∈bs,b < 256) (hn256:∀b∈news,b < 256) (hn:n=news.length)
  (hown1:Own w1 5 1 (.slice ao1 (bs.length+n) cap1) (bs.length+n) (D9 bs++D9 news)) (hgrow:w.grownBy w1 (Value.ownBlock (.slice ao bs.length cap)))
  (hat:Value.ownBlock (.slice ao1 (bs.length+n) cap1)=Value.ownBlock (.slice ao bs.length cap)∨Value.ownBlock (.slice ao1 (bs.length+n) cap1)=some w.heap.size):
  Z4k w (w1.setCell ⟨B.b,B.o,none⟩ (.slice ao1 (bs.length+n) cap1)) B (.slice ao bs.length cap) (D7 bs++D7 news):=by
 subst hn
 have a:Value.ownBlock (.slice ao1 (bs.length+news.length) cap1)≠some B.b:=by
  rcases hat with h | h
  ·rw [h];exact hne
  rw [h];intro e;injection e with e;have:=hb.lt;omega
 have d:=hb.grown hgrow hne
 have f:E5 w w1 (Z1l B.b (.slice ao bs.length cap)):=(E5.refl w _).grown hgrow fun k hk=> .inr (.inr hk)
 refine ⟨.slice ao1 (bs.length+news.length) cap1,⟨bs++news,s,0,⟨d.set0 _, ?_,a,hs, ?_⟩,by omega, ?_⟩,f.setCell (.inr (.inl rfl)) _, ?_⟩
 ·rw [T08,J8]
  exact hown1.kept ((E5.refl w1 (fun k=>k=B.b)).setCell (p:=⟨B.b,B.o,none⟩) (.inr rfl) _) (fun k hk e=>a (by rw [hk,e]))
 ·intro b g
  rcases List.mem_append.1 g with h | h
  ·exact hb256 b h
  exact hn256 b h
 ·rw [M7];simp [A9]
 rcases hat with h | h
 ·exact .inl h
 exact .inr fun k hk=>by rw [h] at hk;injection hk with hk;omega
theorem W4b (B:C4) (d v:Value) (l news:List Nat) (n:Nat) (w:World) (h:Wr w B d l) (hl:l.length < 1099511600000) (hv:Rd w 1 v n (D9 news)) (hvo:0 < n→∀k,v.ownBlock=some k→¬Z1l B.b d k)
  (hn256:∀b∈news,b < 256) (hnl:n < 1099511627776):
  Calls Tryz.prog 220 #[.pointer (some ⟨B.b,B.o,none⟩),v] w fun e w'=>e= .returned (.tuple #[])∧Z4k w w' B d (J2 l++D7 news):=by
 obtain ⟨i,hi,a3,a4,a5⟩:=info_parts Tryz.infoByte
 have x:=A5 h.lt
 have hn:n=news.length:=by have:=hv.1;rw [E6] at this;omega
 have HN:=A5 hn
 clear hn
 go_enter Tryz.func220,Tryz.ntmps220
 go_wp2_with fail
 refine (Y5i B d l w h (by omega)).mono ?_
 rintro e w1 ⟨rfl,d1,⟨q,s,c,⟨t,g,r,hs,j⟩,hc,f⟩,hM,a1⟩
 have y:=hv.kept0 hM hvo
 have z:=X1s f.symm hc
 subst z
 obtain ⟨ao,a6,rfl,b2,b3⟩:=g.form
 have a8:q.length < 1099511600007:=by
  have h1:=congrArg T07 f;rw [X46] at h1;have:=Y31 l;omega
 have c0:=t.cell0 rfl
 have f0:=t.frozen0
 have HL:Hid (J2 l=D7 q):=by rw [f];simp [A9,Hid]
 have HS:=A5 hs
 clear f hs
 go_wp2_with (at_builtin;refine Z4c _ rfl (.tmp 12) (.tmp 13) 26 rfl 5 i (.int .u8 0) 1 1 Tryz.underlying26 hi a3 a4 a5 rfl (by decide) (.slice ao q.length a6) q.length (D9 q) rfl g v n (D9 news) rfl y (T0 _) (by unfold maxLen;omega) (by omega) ?_;intro b9 b1 w2 m a a2;have p:=t.grown a r;have e0:=p.cell0 rfl;have g0:=p.frozen0)
 go_end0
 have a0:=W3y t r HS.out j hn256 HN.out m a a2
 rw [HL.out]
 exact ⟨rfl,Z4k.next x.out hM a1 a0⟩
end Go.Proofs.YtbkbkmgogbgofaaGreatDoor
