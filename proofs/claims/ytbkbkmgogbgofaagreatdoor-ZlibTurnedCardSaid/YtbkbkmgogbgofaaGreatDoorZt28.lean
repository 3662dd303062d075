/- The claim's texts, put together and shortened by a program (names, spaces). -/
import Derived.Test.YtbkbkmgogbgofaaGreatDoorZt27
import Derived.Test.YtbkbkmgogbgofaaGreatDoorZt23
import Derived.Test.YtbkbkmgogbgofaaGreatDoorZt02
import Derived.Test.YtbkbkmgogbgofaaGreatDoorZt03
import Derived.Deep.DeepCutAuto
import Derived.Test.YtbkbkmgogbgofaaGreatDoorZt26
open List renaming replicate→T01,getElem?_eq_none→T03,map_cons→T04,length_cons→T05,getElem?_eq_getElem→T06,length_map→T07,length_take→T08,range→T09,mem_of_getElem?→T0a,ext_getElem?→T0e,map_append→T0f,map→T0g,length_append→T0h,countP_cons→T0i,filter_cons_of_neg→T0j,filter_cons_of_pos→T0k,take_succ_cons→T0l,getElem?_cons_succ→T0m,append_nil→T0n,map_take→T0o,nodup_cons→T0q,range'→T0r,getElem?_replicate→T0s,getElem?_set→T0t,take_of_length_le→T0u,cons_append→T0v,getElem?_append_right→T0w,countP_append→T0x,countP_eq_length_filter→T0y,mem_cons_of_mem→T0z,filter_append→T0A,countP_eq_zero→T0C,mem_of_mem_take→T0D,range'_succ→T0E,getElem?_map→T0F
open Nat renaming zero_add→T0b,le_refl→T0c,sub_self→T0d,mul_le_mul_right→T0B
open Int renaming natCast_nonneg→T00,toNat→T02
open Option renaming map_some→T0p
namespace Go.Proofs.YtbkbkmgogbgofaaGreatDoor
set_option maxRecDepth 100000
set_option maxHeartbeats 6400000
open Go.RowKit
def V8:List G9→List G9
 | a::b::l=>(a.1+b.1, -1)::V8 l
 | _=>[]
theorem Z00:∀l:List G9,(V8 l).length=l.length / 2
 | []=>rfl
 | [a]=>by simp [V8]
 | a::b::l=>by rw [V8,T05,Z00 l,T05,T05];omega
theorem Y9h:∀ (l:List G9) (i:Nat) (x y:G9),l[2*i]?=some x→l[2*i+1]?=some y→(V8 l)[i]?=some (x.1+y.1, -1)
 | [],i,x,y,h,_=>by simp at h
 | [a],i,x,y,h,h2=>by
  have:=(List.getElem?_eq_some_iff.1 h2).1
  simp at this
 | a::b::l,0,x,y,h,h2=>by
  obtain rfl:a=x:=by simpa using h
  obtain rfl:b=y:=by simpa using h2
  rfl
 | a::b::l,i+1,x,y,h,h2=>by
  rw [show 2*(i+1)=2*i+1+1 by omega] at h h2
  simpa [V8] using Y9h l i x y (by simpa using h) (by simpa using h2)
theorem X9s (n:Nat):(madeCells (Value.cells (.agg #[.int .i64 0,.int .i64 0])) (n*2)).toList=J3 (T01 n (0,0)):=by
 refine T0e fun j=> ?_
 by_cases d:j < n*2
 ·have a:(madeCells (Value.cells (.agg #[.int .i64 0,.int .i64 0])) (n*2)).toList[j]?=some (.int .i64 0):=by
   have:j%2=0∨j%2=1:=by omega
   rcases this with e | e <;> simp [madeCells,Value.cells,d,e]
  rw [a]
  have b:(T01 n ((0,0):G9))[j / 2]?=some (0,0):=by rw [T0s,if_pos (by omega)]
  obtain ⟨f,g⟩:=Y07 _ _ _ b
  have:j=j / 2*2∨j=j / 2*2+1:=by omega
  rcases this with e | e
  ·rw [e,f];rfl
  rw [e,g]
 rw [T03 (by simp [madeCells];omega),T03 (by rw [Z56];simp;omega)]
theorem W81 (n:Nat) (l:List G9) (v:Value) (w0 w:World) (Rs:List A6) (h:A4 w0 w (J4 v l::Rs)) (hn:l.length=n) (hN2:n≤100000) (hw:∀x∈l,x.1≤1099511627776):
  Calls Tryz.prog 167 #[v] w fun e w'=>∃v',e= .returned v'∧A4 w0 w' (J4 v' (V8 l)::J4 v l::Rs):=by
 obtain ⟨i0,hi,b0,b1,b2⟩:=info_parts Y16
 obtain ⟨ao,r,rfl,b3,e3⟩:=U1 h
 rw [hn] at h b3⊢
 have o:Hid (l.length=n∧∀x∈l,x.1≤1099511627776):=A5 ⟨hn,hw⟩
 have H:=A5 h
 have h0:(0:Int)≤(n:Int):=T00 _
 obtain ⟨k,hk⟩:∃k,k=n / 2:=⟨_,rfl⟩
 have a7:(n:Int) / 2=(k:Int):=by omega
 have d0:Int.tdiv (n:Int) 2=(k:Int):=by rw [Int.tdiv_eq_ediv_of_nonneg (by omega)];exact a7
 have d1:(0:Int)≤(k:Int):=T00 _
 have d2:2*k≤n:=by omega
 have HK:=A5 hk
 clear h hn hw hk
 go_enter Tryz.func167,Tryz.ntmps167
 go_wp2_with ((with_reducible show wpList _ _ _ (⟨some 8,_,_,_,_,_⟩::_) _ _);refine wpList_make_own rfl 190 (.tmp 7) (.tmp 7) rfl 193 i0 (.agg #[.int .i64 0,.int .i64 0]) 2 Tryz.underlying190 hi b0 b1 .i64 k rfl rfl (by rw [b2];omega) (by unfold maxLen;omega) ?_;intro v1 w1 zs a0 a1 m a9 a2;rw [X9s] at a2;subst a2;subst a9;have t:=A5 (H.out.pushOwn a0 a1 m);clear a1 m a0)
 generalize w.heap.size=B at t⊢
 go_loopg [11] (k+1) (fun q t11 wr=>∃ (i:Nat) (Q:List G9),i≤k∧k-i < q∧t11= .int .i64 (i:Int)∧Hid (Q.length=k∧∀j,j < i→Q[j]?=(V8 l)[j]?)∧
  Hid (A4 w0 wr (B0 193 2 (.slice (some ⟨B,0,none⟩) k k) k (J3 Q)::J4 (.slice ao n r) l::Rs)))
 case atStart=>exact ⟨0,T01 k (0,0),by omega,by omega,rfl,A5 ⟨by simp,fun j h=>by omega⟩,t⟩
 case round=>
  obtain ⟨i,Q,e4,hq,rfl,f,HH⟩:=hrel
  have h1:(0:Int)≤(i:Int):=T00 _
  by_cases e0:i < k
  rotate_left
  ·have z:¬(i:Int) < (k:Int):=by omega
   obtain rfl:i=k:=by omega
   have HF:Hid (A4 w0 wr (J4 (.slice (some ⟨B,0,none⟩) i i) (V8 l)::J4 (.slice ao n r) l::Rs)):=by
    have e:Q=V8 l:=by
     refine T0e fun j=> ?_
     by_cases hj:j < i
     ·exact f.out.2 j hj
     rw [T03 (by have:=f.out.1;omega),T03 (by rw [Z00,o.out.1];have:=HK.out;omega)]
    have h:=HH.out
    rw [e] at h
    unfold J4
    rw [Z00,o.out.1,←HK.out]
    unfold J4 at h
    rw [o.out.1] at h
    exact A5 h
   go_wp2
   go_ret
   exact ⟨_,rfl,HF⟩
  have z:(i:Int) < (k:Int):=by omega
  obtain ⟨x,hx⟩:∃x,l[2*i]?=some x:=⟨l[2*i]'(by have:=o.out.1;omega),T06 _⟩
  obtain ⟨y,hy⟩:∃y,l[2*i+1]?=some y:=⟨l[2*i+1]'(by have:=o.out.1;omega),T06 _⟩
  have HX:Hid (l[2*i]?=some x∧l[2*i+1]?=some y):=A5 ⟨hx,hy⟩
  have d3:=o.out.2 x (T0a hx)
  have d4:=o.out.2 y (T0a hy)
  obtain ⟨g,b5,a5,hv,_,_,b,b6,_⟩:=HH.out.swap.site2 (by have:=o.out.1;omega)
  simp only [Value.slice.injEq] at hv
  obtain ⟨rfl,_,rfl⟩:=hv
  have c1:=(b _ _ hx).1
  have c2:=(b _ _ hy).1
  have hQ:A4 w0 wr (J4 (.slice (some ⟨B,0,none⟩) k k) Q::J4 (.slice (some ⟨g,b5,none⟩) n r) l::Rs):=by
   have h:=HH.out
   unfold J4 at*
   rw [f.out.1];exact h
  obtain ⟨q0,s⟩:∃q0,Q[i]?=some q0:=⟨Q[i]'(by have:=f.out.1;omega),T06 _⟩
  obtain ⟨g',c9,a5,hv,_,_,a,d,p⟩:=hQ.site2 (by have:=f.out.1;omega)
  simp only [Value.slice.injEq,Option.some.injEq,Addr.mk.injEq,and_true] at hv
  obtain ⟨⟨rfl,rfl⟩,_,_⟩:=hv
  have HP:=A5 (p i (x.1+y.1, -1) (by have:=f.out.1;omega))
  have c3:=(a _ _ s).1
  have c4:=(a _ _ s).2
  have m:=d (0+i*2)
  have a8:=d (0+i*2+1)
  simp only [T0b] at c3 c4 m a8 HP
  have HQ:Hid (∀j,j < i+1→(Q.set i (x.1+y.1, -1))[j]?=(V8 l)[j]?):=by
   refine A5 fun j hj=> ?_
   rw [T0t]
   by_cases e:i=j
   ·subst e
    rw [if_pos rfl,if_pos (by have:=f.out.1;omega),Y9h l i x y hx hy]
   rw [if_neg e]
   exact f.out.2 j (by omega)
  clear b b6 p hx hy hQ a d s
  have d8:2*i < n:=by omega
  have c0:2*i+1 < n:=by omega
  go_wp2
  go_region
  go_wp2
  go_roundg (gk-1)
  case measure=>omega
  case rel=>
   refine ⟨i+1,Q.set i (x.1+y.1, -1),by omega,by omega,by go_num,A5 ⟨by simp;exact f.out.1,HQ.out⟩, ?_⟩
   have h:=HP.out.drew
   unfold J4 at h⊢
   rw [List.length_set,f.out.1] at h
   exact A5 h
theorem X4f (v:Value) (f:List Int) (w:World) (n:Nat) (hn:n=f.length) (hv:Rd w 1 v n (D2 f)) (hl:n < 1000000):
  Calls Tryz.prog 132 #[v] w fun e w'=>e= .returned (.bool (Z38 f))∧w=w':=by
 obtain ⟨ao,a0,rfl,_,_⟩:=hv.form
 have s:=A5 hn
 clear hn
 have t:(0:Int)≤(n:Int):=T00 _
 go_enter Tryz.func132,Tryz.ntmps132
 go_wp2
 go_loopg [7] (n+1) (fun k t7 wr=>∃ (i:Nat),i≤n∧n-i < k∧t7= .int .i64 (i:Int)∧Hid (Z38 (f.take i)=true)∧wr=w)
 case atStart=>exact ⟨0,by omega,by omega,rfl,rfl,rfl⟩
 case round=>
  obtain ⟨i,hi,hk,rfl,o,rfl⟩:=hrel
  by_cases z:i < n
  rotate_left
  ·have p:¬(i:Int) < (n:Int):=by omega
   have d:Hid (Z38 f=true):=by
    have h:=o.out
    rw [T0u (by have:=s.out;omega)] at h
    exact A5 h
   go_wp2
   go_ret
   exact ⟨by rw [d.out];rfl,rfl⟩
  obtain ⟨g,a1,rfl,b⟩:=hv.spot (by omega)
  obtain ⟨a,j⟩:∃a,f[i]?=some a:=⟨f[i]'(by have:=s.out;omega),T06 _⟩
  have x:=b i _ (by rw [G5,j];rfl)
  have y:(0:Int)≤(i:Int):=T00 _
  have p:(i:Int) < (n:Int):=by omega
  have q:=A5 (Z1n f i a j)
  clear b j
  have m:a < 0∨0≤a∧1048576 < a∨0≤a∧a≤1048576:=by omega
  rcases m with m | ⟨m,h6⟩ | ⟨m,h6⟩
  ·have d:Hid (Z38 f=false):=A5 (Y5h f (i+1) (by rw [q.out,Z9u,o.out];simp;omega))
   have l:decide (a < 0)=true:=by simp;omega
   go_wp2
   go_ret
   exact ⟨by rw [d.out];rfl,rfl⟩
  ·have d:Hid (Z38 f=false):=A5 (Y5h f (i+1) (by rw [q.out,Z9u,o.out];simp;omega))
   have l:decide (a < 0)=false:=by simp;omega
   have r:decide ((1048576:Int) < a)=true:=by simp;omega
   go_wp2
   go_ret
   exact ⟨by rw [d.out];rfl,rfl⟩
  have d:Hid (Z38 (f.take (i+1))=true):=A5 (by rw [q.out,Z9u,o.out];simp;omega)
  have l:decide (a < 0)=false:=by simp;omega
  have r:decide ((1048576:Int) < a)=false:=by simp;omega
  go_wp2
  go_roundg (gk-1)
  case measure=>omega
  case rel=>exact ⟨i+1,by omega,by omega,by go_num,d,rfl⟩
def T0:Nat→List Nat→List G9
 | _,[]=>[]
 | k,a::f=>if 0 < a then (a,(k:Int))::T0 (k+1) f else T0 (k+1) f
theorem X09 (a:Nat):∀ (f:List Nat) (k:Nat),T0 k (f++[a])=T0 k f++(if 0 < a then [(a,((k+f.length:Nat):Int))] else [])
 | [],k=>by simp [T0]
 | b::f,k=>by
  rw [T0v,T0,T0,X09 a f (k+1),show k+1+f.length=k+(b::f).length by simp;omega]
  by_cases h:0 < b
  ·rw [if_pos h,if_pos h];rfl
  rw [if_neg h,if_neg h]
theorem Z3c:∀ (f:List Nat) (k:Nat),(T0 k f).length=U2 f
 | [],_=>rfl
 | a::f,k=>by
  rw [T0,U2]
  by_cases h:0 < a
  ·rw [if_pos h,if_pos h,T05,Z3c f];omega
  rw [if_neg h,if_neg h,Z3c f];omega
theorem W17:∀ (f:List Nat) (k:Nat),(T0 k f).length≤f.length
 | [],_=>T0c _
 | a::f,k=>by
  rw [T0,T05]
  have:=W17 f (k+1)
  split
  ·rw [T05];omega
  omega
theorem X5u (v:Value) (f:List Int) (w0 w:World) (Rs:List A6) (h:A4 w0 w Rs) (n:Nat) (hn:n=f.length) (hv:Rd w0 1 v n (D2 f)) (hl:n < 1000) (hf:∀a∈f,0≤a∧a≤1048576):
  Calls Tryz.prog 133 #[v] w fun e w'=>∃v',e= .returned v'∧A4 w0 w' (J4 v' (T0 0 (f.map T02))::Rs):=by
 obtain ⟨i0,a1,a2,a3,a4⟩:=info_parts Y16
 obtain ⟨ao,b7,rfl,_,_⟩:=hv.form
 have s:=A5 hn
 have HF:=A5 hf
 have H:=A5 h
 clear hn hf h
 have b1:(0:Int)≤(n:Int):=T00 _
 go_enter Tryz.func133,Tryz.ntmps133
 go_wp2
 go_loopg [3,8] (n+1) (fun k t3 t8 wr=>∃ (i L:Nat) (p:Option Addr) (q:Nat),i≤n∧n-i < k∧t8= .int .i64 (i:Int)∧t3= .slice p L q∧L≤i∧Hid (L=(T0 0 ((f.take i).map T02)).length)∧
  Hid (A4 w0 wr (B0 193 2 (.slice p L q) L (J3 (T0 0 ((f.take i).map T02)))::Rs)))
 case atStart=>exact ⟨0,0,none,0,by omega,by omega,rfl,rfl,by omega,rfl,A5 (H.out.nil _ _)⟩
 case round=>
  obtain ⟨i,L,p,q,hi,hk,rfl,rfl,b8,HL,r⟩:=hrel
  have b2:(0:Int)≤(i:Int):=T00 _
  by_cases b5:i < n
  rotate_left
  ·have t:¬(i:Int) < (n:Int):=by omega
   have HE:Hid (A4 w0 wr (J4 (.slice p L q) (T0 0 (f.map T02))::Rs)):=by
    have h:=r.out
    have h2:=HL.out
    rw [T0u (by have:=s.out;omega)] at h h2
    unfold J4
    rw [←h2];exact A5 h
   go_wp2
   go_ret
   exact ⟨_,rfl,HE⟩
  have t:(i:Int) < (n:Int):=by omega
  obtain ⟨g1,a9,rfl,d⟩:=(r.out.old hv).spot (by omega)
  obtain ⟨a,g⟩:∃a,f[i]?=some a:=⟨f[i]'(by have:=s.out;omega),T06 _⟩
  have ha:=HF.out a (T0a g)
  obtain ⟨x,rfl⟩:=Int.eq_ofNat_of_zero_le ha.1
  have hx:x≤1048576:=by omega
  have b3:=d i _ (by rw [G5,g];rfl)
  have HT:Hid (T0 0 ((f.take (i+1)).map T02)=T0 0 ((f.take i).map T02)++(if 0 < x then [(x,((i:Nat):Int))] else [])):=by
   rw [Z1n f i _ g,T0f,T04,List.map_nil,X09]
   have hl:(T0g T02 (f.take i)).length=i:=by rw [T07,T08];have:=s.out;omega
   rw [hl,T0b];exact A5 rfl
  clear d g ha
  by_cases m:0 < x
  ·have j:(0:Int) < (x:Int):=by omega
   have b:Hid (T0 0 ((f.take (i+1)).map T02)=T0 0 ((f.take i).map T02)++[(x,((i:Nat):Int))]):=by
    have h:=HT.out
    rw [if_pos m] at h
    exact A5 h
   have l:=A5 (r.out.lit 193 2 (J3 [(x,((i:Nat):Int))]) 1 (by decide) rfl).swap
   go_wp2_with ((with_reducible show wpList _ _ _ (⟨some 20,_,_,_,_,_⟩::_) _ _);refine D4 rfl (.tmp 15) (.tmp 19) 190 rfl 193 i0 (.agg #[.int .i64 0,.int .i64 0]) 2 16 Tryz.underlying190 a1 a2 a3 a4 rfl (by decide) _ L (J3 (T0 0 ((f.take i).map T02))) rfl l.out _ 1 (J3 [(x,((i:Nat):Int))]) rfl l.out.swap.own.rd (Y03 _) (L+1) rfl (by unfold maxLen;omega) (by omega) ?_;intro z o w1 h1;rw [←X7s,←b.out] at h1;have y:=A5 h1.swap.drop;clear h1)
   go_roundg (gk-1)
   case measure=>omega
   case rel=>exact ⟨i+1,L+1,z,o,by omega,by omega,by go_num,rfl,by omega,A5 (by rw [b.out,T0h,←HL.out];rfl),y⟩
  have j:¬(0:Int) < (x:Int):=by omega
  have b:Hid (T0 0 ((f.take (i+1)).map T02)=T0 0 ((f.take i).map T02)):=by
   have h:=HT.out
   rw [if_neg m,T0n] at h
   exact A5 h
  go_wp2
  go_roundg (gk-1)
  case measure=>omega
  case rel=>exact ⟨i+1,L,p,q,by omega,by omega,by go_num,rfl,by omega,by rw [b.out];exact HL,by rw [b.out];exact r⟩
section
variable {w0 w:World} {Rs:List A6} {eR eI:TypeId} {B:Nat} {b:Nat→Nat} {k N:Nat} {V:Nat→Nat→Nat}
end
theorem Z6e (z:Value) (n:Nat) (hz:z.cells=#[z]):(madeCells z.cells (n*1)).toList=T01 n z:=by
 rw [Nat.mul_one,hz]
 refine T0e fun j=> ?_
 by_cases a:j < n
 ·simp [madeCells,a,Nat.mod_one]
 rw [T03 (by simp [madeCells];omega),T03 (by simp;omega)]
def O0 (s:List G9):Nat→List G9
 | 0=>[]
 | t+1=>I4 (s++V8 (O0 s t))
theorem Z4x (s:List G9):∀t,(O0 s t).length≤2*s.length
 | 0=>by simp [O0]
 | t+1=>by
  have:=Z4x s t
  rw [O0,J1,T0h,Z00];omega
theorem Z41:∀ (l:List G9) (x:G9),x∈V8 l→∃a b,a∈l∧b∈l∧x=(a.1+b.1, -1)
 | [],x,h=>by simp [V8] at h
 | [a],x,h=>by simp [V8] at h
 | a::b::l,x,h=>by
  rw [V8] at h
  rcases List.mem_cons.1 h with h | h
  ·exact ⟨a,b,by simp,by simp,h⟩
  obtain ⟨c,d,h1,h2,h3⟩:=Z41 l x h
  exact ⟨c,d,by simp [h1],by simp [h2],h3⟩
theorem X2w (s:List G9) (hs:∀x∈s,x.1≤1048576):∀t,∀x∈O0 s t,x.1≤1048576*2^t
 | 0,x,h=>by simp [O0] at h
 | t+1,x,h=>by
  rw [O0] at h
  have hp:1≤2^t:=Nat.one_le_two_pow
  rw [Nat.pow_succ]
  rcases List.mem_append.1 ((W9 _).mem_iff.1 h) with h | h
  ·have:=hs x h;omega
  obtain ⟨a,b,ha,hb,rfl⟩:=Z41 _ _ h
  have h1:=X2w s hs t a ha
  have h2:=X2w s hs t b hb
  show a.1+b.1≤_
  omega
def mT (ms:List (Value×List G9)):List A6:=ms.map fun r=>J4 r.1 r.2
theorem V3f:(Tryz.prog.info? 190).map (fun i=>(i.zero,i.size,i.bytes))=some (some (.slice none 0 0),1,24):=by kernel_rfl
theorem V2r (A C:List Value) (x y:Value) (n:Nat) (h:A.length=n):(A++x::C).set n y=A++y::C:=by
 rw [←h,List.set_append_right _ _ (T0c _),T0d];rfl
theorem A4.rowAt {w0 w:World} {e:TypeId} {B m c:Nat} {xs:List Value} {Rs:List A6} (h:A4 w0 w (B0 e 1 (.slice (some ⟨B,0,none⟩) m c) m xs::Rs)) {i:Nat} {u:Value} (hu:xs[i]?=some u) (hm:0 < m):w.cell? ⟨B,i,none⟩=some u:=by
 obtain ⟨g,d,b,a,_,_⟩:=h.own.site hm
 simp only [Option.some.injEq,Addr.mk.injEq,and_true] at b
 obtain ⟨rfl,rfl⟩:=b
 have:=a i u hu
 rw [T0b] at this;exact this
theorem W12 (A C:List Value) (y:Value) (n:Nat) (h:A.length=n):(A++y::C)[n]?=some y:=by
 rw [←h,T0w (T0c _),T0d];rfl
theorem W74 (n m:Nat) (S:List G9) (sv:Value) (w0 w:World) (Rs:List A6) (h:A4 w0 w (J4 sv S::Rs)) (hn:S.length=n) (hn0:0 < n) (hN2:n≤1000) (hm:m≤15) (hw:∀x∈S,x.1≤1048576):
  Calls Tryz.prog 135 #[sv,.int .i64 (m:Int)] w fun e w'=>∃ (B:Nat) (ms:List (Value×List G9)),e= .returned (.slice (some ⟨B,0,none⟩) m m)∧ms.length=m∧ms.map (·.2)=(T09 m).map (fun t=>O0 S (t+1))∧
   A4 w0 w' (B0 190 1 (.slice (some ⟨B,0,none⟩) m m) m (ms.map (·.1))::J4 sv S::(mT ms++Rs)):=by
 obtain ⟨i0,hi,c4,c5,c6⟩:=info_parts V3f
 obtain ⟨so,sc,rfl,c7,e7⟩:=U1 h
 have HL:Hid (S.length=n∧∀x∈S,x.1≤1048576):=A5 ⟨hn,hw⟩
 rw [hn] at h c7⊢
 have H:=A5 h
 have d5:(0:Int)≤(m:Int):=T00 _
 clear h hn hw
 go_enter Tryz.func135,Tryz.ntmps135
 go_wp2_with ((with_reducible show wpList _ _ _ (⟨some 9,_,_,_,_,_⟩::_) _ _);refine wpList_make_own rfl 195 (.tmp 8) (.tmp 8) rfl 190 i0 (.slice none 0 0) 1 Tryz.underlying195 hi c4 c5 .i64 m rfl rfl (by rw [c6];omega) (by unfold maxLen;omega) ?_;intro v1 w1 zs a6 a7 a8 s a9;rw [Z6e _ _ rfl] at a9;subst a9;subst s;have y:=A5 (H.out.pushOwn a6 a7 a8);clear a7 a8 a6)
 generalize w.heap.size=B at y⊢
 go_loopg [6,12] (m+1) (fun k t6 t12 wr=>∃ (i:Nat) (ms:List (Value×List G9)),i≤m∧m-i < k∧t12= .int .i64 (i:Int)∧Hid (ms.length=i∧ms.map (·.2)=(T09 i).map (fun t=>O0 S (t+1)))∧
  Hid (A4 w0 wr (B0 190 1 (.slice (some ⟨B,0,none⟩) m m) m (ms.map (·.1)++T01 (m-i) (.slice none 0 0))::J4 t6 (V8 (O0 S i))::J4 (.slice so n sc) S::(mT ms++Rs))))
 case atStart=>
  refine ⟨0,[],by omega,by omega,rfl,A5 ⟨rfl,rfl⟩, ?_⟩
  have h:=(y.out.nil 193 2).swap
  exact A5 h
 case round=>
  obtain ⟨i,ms,e8,hk,rfl,HE,HH⟩:=hrel
  have h1:(0:Int)≤(i:Int):=T00 _
  by_cases c3:i < m
  rotate_left
  ·have z:¬(i:Int) < (m:Int):=by omega
   obtain rfl:i=m:=by omega
   have HF:Hid (A4 w0 wr (B0 190 1 (.slice (some ⟨B,0,none⟩) i i) i (ms.map (·.1))::J4 (.slice so n sc) S::(mT ms++Rs))):=by
    have h:=HH.out
    rw [T0d,List.replicate_zero,T0n] at h
    exact A5 h.swap.drop
   go_wp2
   go_ret
   exact ⟨B,rfl,ms,HE.out.1,HE.out.2,HF⟩
  have z:(i:Int) < (m:Int):=by omega
  obtain ⟨po,pc,rfl,c8,f1⟩:=U1 HH.out.swap
  obtain ⟨k,p⟩:∃k,k=(V8 (O0 S i)).length:=⟨_,rfl⟩
  rw [←p] at c8 HH⊢
  have d6:k≤n:=by
   have:=Z4x S i
   rw [Z00] at p
   have:=HL.out.1
   omega
  have a:=HH.out.lit 190 1 [.slice so n sc,.slice po k pc] 2 (by decide) rfl
  have a0:=A5 a.fourth.fourth.swap.third
  have HK:=A5 p.symm
  clear a p
  go_wp2_with fail
  refine (X8k n k _ S (V8 (O0 S i)) _ _ w0 _ _ a0.out HL.out.1 HK.out hn0 (by omega)).mono ?_
  rintro e w2 ⟨v,rfl,a⟩
  obtain ⟨N,hN⟩:∃N,N=(S++V8 (O0 S i)).length:=⟨_,rfl⟩
  have d7:N≤2*n:=by
   rw [T0h,HL.out.1,HK.out] at hN;omega
  obtain ⟨d,f,rfl,s,f2⟩:=U1 a
  rw [←hN] at s a⊢
  have a1:=A5 hN.symm
  have HS:=A5 a.swap.drop.third.drop.third
  clear a a0 HH hN
  obtain ⟨g,f3,hg,j,b2,q⟩:=HS.out.own.site (by omega)
  simp only [Option.some.injEq,Addr.mk.injEq,and_true] at hg
  obtain ⟨rfl,rfl⟩:=hg
  have l:(T0g (fun x:Value×List G9=>x.1) ms).length=i:=by rw [T07];exact HE.out.1
  have b:T01 (m-i) (Value.slice none 0 0)= .slice none 0 0::T01 (m- (i+1)) (.slice none 0 0):=by
   rw [show m-i=(m- (i+1))+1 by omega,List.replicate_succ]
  have a2:=j i _ (by rw [b,T0w (by omega),l,T0d];rfl)
  have a3:=b2 i
  have HP:=A5 (HS.out.putOwn (q i (.slice d N f) c3) (E2.set w2 B (0+i) _))
  have a4:Hid ((T0g (fun x:Value×List G9=>x.1) ms++T01 (m-i) (Value.slice none 0 0)).set i (.slice d N f)=T0g (fun x:Value×List G9=>x.1) ms++(.slice d N f::T01 (m- (i+1)) (.slice none 0 0))):=by
   rw [b];exact A5 (V2r _ _ _ _ _ l)
  have o:=HP.out
  rw [a4.out] at o
  simp only [T0b] at o a2 a3
  have HQ:=A5 o
  have a5:=A5 l
  clear j b2 q b HP o HS l
  go_upto_region 7 with (fail)
  generalize w2.setCell ⟨B,i,none⟩ (.slice d N f)=w3 at HQ⊢
  have c1:=HQ.out.rowAt (W12 _ _ _ _ a5.out) (by omega)
  clear a2 a3
  go_wp2_with fail
  refine (X5m N _ _ w0 _ _ HQ.out.swap a1.out (by omega)).mono ?_
  rintro e w4 ⟨rfl,a⟩
  have r:=A5 a.swap
  clear a HQ c1
  have c1:=r.out.rowAt (W12 _ _ _ _ a5.out) (by omega)
  have c0:Hid (∀x∈O0 S (i+1),x.1≤1099511627776):=by
   refine A5 fun x hx=> ?_
   have h:=X2w S HL.out.2 (i+1) x hx
   have h2:2^(i+1)≤2^15:=Nat.pow_le_pow_right (by decide) (by omega)
   have h3:1048576*2^(i+1)≤1048576*2^15:=Nat.mul_le_mul_left _ h2
   omega
  go_wp2_with fail
  refine (W81 N (I4 (S++V8 (O0 S i))) _ w0 _ _ r.out.swap (by rw [J1];exact a1.out) (by omega) c0.out).mono ?_
  rintro e w5 ⟨pv,rfl,a⟩
  have h5:=a.third
  have h6:=h5.perm ((((List.Perm.swap _ _ _).cons _).cons _).trans (((List.perm_middle.symm.cons _).cons _).cons _))
  have HF:Hid (A4 w0 w5 (B0 190 1 (.slice (some ⟨B,0,none⟩) m m) m ((ms++[(Value.slice d N f,O0 S (i+1))]).map (·.1)++T01 (m- (i+1)) (.slice none 0 0))::J4 pv (V8 (O0 S (i+1)))::J4 (.slice so n sc) S::(mT (ms++[(Value.slice d N f,O0 S (i+1))])++Rs))):=by
   have e1:(ms++[((.slice d N f:Value),O0 S (i+1))]).map (·.1)++T01 (m- (i+1)) (.slice none 0 0)=T0g (fun x:Value×List G9=>x.1) ms++ .slice d N f::T01 (m- (i+1)) (.slice none 0 0):=by simp
   have e2:mT (ms++[((.slice d N f:Value),O0 S (i+1))])++Rs=mT ms++J4 (.slice d N f) (O0 S (i+1))::Rs:=by simp [mT]
   rw [e1,e2]
   exact A5 h6
  clear a h5 h6 r c1
  go_wp2
  go_roundg (gk-1)
  case measure=>omega
  case rel=>
   refine ⟨i+1,ms++[(Value.slice d N f,O0 S (i+1))],by omega,by omega,by go_num,A5 ⟨by simp;exact HE.out.1, ?_⟩,HF⟩
   rw [T0f,HE.out.2,List.range_succ,T0f];rfl
end Go.Proofs.YtbkbkmgogbgofaaGreatDoor
namespace Go.Proofs.YtbkbkmgogbgofaaGreatDoor
set_option maxRecDepth 100000
set_option maxHeartbeats 6400000
open Go.RowKit
attribute [local go_sem] Oper.semAt_some
def Z1d (l:List G9):Nat:=l.countP fun x=>decide (x.2= -1)
def S5 (l:List G9) (i:Nat):Nat:=l.countP fun x=>decide (x.2=(i:Int))
def stS (rl:Nat→List G9) (m K0:Nat):Nat→Nat×(Nat→Nat)
 | 0=>(K0,fun _=>0)
 | k+1=>(2*Z1d ((rl (m-1-k)).take (stS rl m K0 k).1),fun i=>(stS rl m K0 k).2 i+S5 ((rl (m-1-k)).take (stS rl m K0 k).1) i)
def Z39 (N:Nat) (G:Nat→Nat):List Value:=D3 .i64 ((T09 N).map G)
theorem Y33 (N:Nat) (G:Nat→Nat) (i:Nat) (h:i < N):(Z39 N G)[i]?=some (.int .i64 (G i:Int)):=by simp [Z39,O4,h]
theorem X0y (N:Nat) (G:Nat→Nat) (i u:Nat):(Z39 N G).set i (.int .i64 (u:Int))=Z39 N (fun j=>if j=i then u else G j):=by
 unfold Z39
 rw [Y4]
 congr 1
 refine T0e fun j=> ?_
 rw [T0t]
 by_cases a:j < N
 ·by_cases e:i=j
  ·subst e
   rw [if_pos rfl,if_pos (by simpa using a)]
   simp [a]
  rw [if_neg e]
  simp [a,show ¬j=i from fun h=>e h.symm]
 by_cases e:i=j
 ·subst e
  rw [if_pos rfl,if_neg (by simpa using a),T03 (by simp;omega)]
 rw [if_neg e,T03 (by simp;omega),T03 (by simp;omega)]
theorem Y44 (l:List G9) (x:G9):Z1d (l++[x])=Z1d l+(if x.2= -1 then 1 else 0):=by
 unfold Z1d;rw [T0x];simp [T0i]
theorem Y87 (l:List G9) (x:G9) (i:Nat):S5 (l++[x]) i=S5 l i+(if x.2=(i:Int) then 1 else 0):=by
 unfold S5;rw [T0x];simp [T0i]
theorem X54 (l:List G9) (i:Nat):S5 l i≤l.length:=List.countP_le_length
theorem W6m (rl:Nat→List G9) (m K0:Nat) (h:∀t,(rl t).length≤1000) (i:Nat):∀k,(stS rl m K0 k).2 i≤1000*k
 | 0=>T0c _
 | k+1=>by
  have h1:=W6m rl m K0 h i k
  have h2:=X54 ((rl (m-1-k)).take (stS rl m K0 k).1) i
  have h3:=h (m-1-k)
  rw [T08] at h2
  show (stS rl m K0 k).2 i+_≤_
  omega
def ShI (w3:World) (gl B3 N cap off:Nat) (st:Nat→Nat×(Nat→Nat)) (k:Nat) (W:World):Prop:=
 E2 w3 W (fun j=>j=gl∨j=B3)∧Own W 3 1 (.slice (some ⟨gl,off,none⟩) N cap) N (Z39 N (st k).2)∧X6 W B3 [.int .i64 ((st k).1:Int)] 3
theorem ShI.far {w3:World} {gl B3 N cap off:Nat} {st:Nat→Nat×(Nat→Nat)} {k:Nat} {W W':World} (h:ShI w3 gl B3 N cap off st k W) (hb:Below w3.heap.size W W') (h1:gl < w3.heap.size) (h2:B3 < w3.heap.size):ShI w3 gl B3 N cap off st k W':=by
 obtain ⟨a,b,c⟩:=h
 have d:=E2.of_below hb
 refine ⟨a.trans d (fun j hj h=>by omega),b.kept d (fun j hj=> ?_),c.kept d (by omega)⟩
 simp only [Value.ownBlock,Option.some.injEq] at hj
 omega
theorem W4e (N m K0 gl off cap B:Nat) (vals:Nat→Value) (rl:Nat→List G9) (w:World) (hN:N≤1000) (hm:m≤15)
  (hO:Own w 3 1 (.slice (some ⟨gl,off,none⟩) N cap) N (Z39 N (fun _=>0))) (hB:∀t,t < m→w.cell? ⟨B,t,none⟩=some (vals t)) (hBl:B < w.heap.size) (hBg:B≠gl)
  (hV:∀t,∃a k c,vals t= .slice a k c) (hR:∀t,t < m→Own w 193 2 (vals t) (rl t).length (J3 (rl t))) (hRg:∀t,t < m→(vals t).ownBlock≠some gl)
  (hOK:∀k,k < m→(stS rl m K0 k).1≤(rl (m-1-k)).length) (hlen:∀t,(rl t).length≤1000) (hpos:∀t,t < m→0 < (rl t).length) (hsym:∀t,t < m→∀x∈rl t,x.2= -1∨∃s:Nat,s < N∧x.2=(s:Int)):
  Calls Tryz.prog 134 #[.slice (some ⟨gl,off,none⟩) N cap,.slice (some ⟨B,0,none⟩) m m,.int .i64 (K0:Int)] w fun e w'=>e= .returned (.tuple #[])∧
   Own w' 3 1 (.slice (some ⟨gl,off,none⟩) N cap) N (Z39 N (stS rl m K0 m).2)∧E2 w w' (fun j=>j=gl):=by
 have h5:gl < w.heap.size:=hO.lt gl rfl
 refine (callsIn_wide (n:=3)).1 ?_
 refine callsIn_of_wp_marks Tryz.func134 rfl trivial ?_ rfl
 simp only [Tryz.ntmps134,List.size_toArray,T05,List.length_nil,Nat.reduceAdd,Nat.reduceSub,Array.replicate_succ,Array.replicate_zero,List.push_toArray,List.append_toArray,List.nil_append,T0v]
 gi_wp2_with fail
 refine ⟨trivial, ?_⟩
 refine (callsIn_wide.2 (X1l _ _ ⟨_,_,_,rfl⟩)).mono ?_
 rintro e w' ⟨rfl,rfl⟩
 have f:((w.alloc (.cells #[.slice (some ⟨gl,off,none⟩) N cap] 52)).alloc (.cells #[.int .i64 (K0:Int)] 3)).heap.size=w.heap.size+2:=by simp
 rw [f]
 have b1:=(X6.new w [.slice (some ⟨gl,off,none⟩) N cap] 52)
 obtain ⟨wa,a1⟩:∃wa,wa=w.alloc (.cells #[.slice (some ⟨gl,off,none⟩) N cap] 52):=⟨_,rfl⟩
 rw [←a1] at f⊢
 have b2:=(X6.new wa [.int .i64 (K0:Int)] 3)
 obtain ⟨wb,a2⟩:∃wb,wb=wa.alloc (.cells #[.int .i64 (K0:Int)] 3):=⟨_,rfl⟩
 rw [←a2] at f⊢
 have b3:=(X6.new wb [.slice (some ⟨B,0,none⟩) m m] 195)
 obtain ⟨r,d⟩:∃r,r=wb.alloc (.cells #[.slice (some ⟨B,0,none⟩) m m] 195):=⟨_,rfl⟩
 rw [←d]
 have c9:r.heap.size=w.heap.size+3:=by rw [d,World.size_alloc,f]
 have a7:wa.heap.size=w.heap.size+1:=by rw [a1];simp
 have a3:E2 w r (fun _=>False):=by rw [d,a2,a1];exact ((((E2.refl w _).alloc _).alloc _).alloc _)
 have k1:X6 r w.heap.size [.slice (some ⟨gl,off,none⟩) N cap] 52:=by
  rw [d,a2];exact (by rw [a1];exact (b1.alloc _).alloc _)
 have k2:X6 r (w.heap.size+1) [.int .i64 (K0:Int)] 3:=by
  rw [d,←a7];exact (by rw [a2];exact b2.alloc _)
 have k3:X6 r (w.heap.size+2) [.slice (some ⟨B,0,none⟩) m m] 195:=by
  rw [d,←f];exact b3
 clear b1 b2 b3 a1 a2 d f a7
 gi_wp2_with fail
 refine X23 (gf:=184) (lb:=#[.pointer (some ⟨w.heap.size+2,0,none⟩)]) rfl (by decide) rfl trivial (enters_of Tryz.func184 (by kernel_rfl) rfl) m
  (fun k=>#[.int .i64 ((m-1-k:Nat):Int),vals (m-1-k)]) (fun _=>rfl) (ShI r gl (w.heap.size+1) N cap off (stS rl m K0)) ?far ?h0 ?hit
  (fun k=>{tmps:=#[.slice (some ⟨gl,off,none⟩) N cap,.slice (some ⟨B,0,none⟩) m m,.int .i64 (K0:Int),.pointer (some ⟨w.heap.size,0,none⟩),undef,.pointer (some ⟨w.heap.size+1,0,none⟩),undef,vals (m-1-k),undef,undef,undef,.slice (some ⟨B,0,none⟩) m m,
   .func (.func 184) #[] #[.pointer (some ⟨w.heap.size+2,0,none⟩)],.int .i64 ((m-1-k:Nat):Int),vals (m-1-k),undef,undef,undef,undef,undef,undef,undef,undef,undef,undef,undef,undef,undef,undef,undef,undef,undef,undef,undef,undef,undef,undef,undef],defers:=[]}) ?assign ?body ?done
 case far=>exact fun k W W' h hb=>h.far hb (by omega) (by omega)
 case h0=>exact ⟨E2.refl _ _,hO.kept a3 (fun _ _ h=>h),k2⟩
 case hit=>
  intro l J W f5 hY f6
  refine X3t Fence.wide _ trivial rfl (by decide) l (w.heap.size+2) B m vals hm hV J (fun k W h=> ?_) hY W f6
  obtain ⟨i1,_,_⟩:=f5 k W h
  refine ⟨?_,fun t ht=> ?_⟩
  ·rw [i1.cell (p:=⟨w.heap.size+2,0,none⟩) (by show w.heap.size+2 < _;omega) (by show ¬(w.heap.size+2=gl∨w.heap.size+2=w.heap.size+1);omega)]
   exact k3.cell (i:=0) rfl
  rw [i1.cell (p:=⟨B,t,none⟩) (by show B < _;omega) (by show ¬(B=gl∨B=w.heap.size+1);omega),a3.cell (p:=⟨B,t,none⟩) hBl (fun h=>h)]
  exact hB t ht
 case assign=>
  intro l k W K hK
  obtain ⟨a,b,c,hv⟩:=hV (m-1-k)
  rw [hv] at hK⊢
  gi_wp2
  exact hK
 case body=>
  intro l k W hk hI f9
  obtain ⟨t,ht⟩:∃t,t=m-1-k:=⟨_,rfl⟩
  have y:t < m:=by omega
  obtain ⟨K,hK⟩:∃K,K=(stS rl m K0 k).1:=⟨_,rfl⟩
  obtain ⟨G,hG⟩:∃G,G=(stS rl m K0 k).2:=⟨_,rfl⟩
  obtain ⟨i1,i2,i3⟩:=hI
  rw [←hG] at i2
  rw [←hK] at i3
  have d0:K≤(rl t).length:=by rw [hK,ht];exact hOK k hk
  have h8:K≤1000:=by have:=hlen t;omega
  have e5:∀i,G i≤15000:=fun i=>by
   have:=W6m rl m K0 hlen i k
   rw [←hG] at this;omega
  have d1:stS rl m K0 (k+1)=(2*Z1d ((rl t).take K),fun i=>G i+S5 ((rl t).take K) i):=by
   show (2*Z1d ((rl (m-1-k)).take (stS rl m K0 k).1),fun i=>(stS rl m K0 k).2 i+S5 ((rl (m-1-k)).take (stS rl m K0 k).1) i)=_
   rw [←ht,←hK,←hG]
  have a8:Own r 193 2 (vals t) (rl t).length (J3 (rl t)):=(hR t y).kept a3 (fun _ _ h=>h)
  obtain ⟨g,o,cp,hv,k4,k5,a0,_,_⟩:=a8.site2 (hpos t y)
  have h9:g≠gl:=by
   intro e
   exact hRg t y (by rw [hv,e];rfl)
  have g6:g < w.heap.size:=(hR t y).lt g (by rw [hv];rfl)
  have cK:=i3.cell (i:=0) rfl
  have cL:W.cell? ⟨w.heap.size,0,none⟩=some (.slice (some ⟨gl,off,none⟩) N cap):=by
   rw [i1.cell (p:=⟨w.heap.size,0,none⟩) (by show w.heap.size < _;omega) (by show ¬(w.heap.size=gl∨w.heap.size=w.heap.size+1);omega)]
   exact k1.cell (i:=0) rfl
  rw [←ht,hv]
  have HK:=A5 d1
  have HR:=A5 (And.intro a0 d0)
  have g9:(0:Int)≤(K:Int):=T00 _
  have b4:=A5 i2
  have e6:=A5 i3
  have b5:=A5 i1
  have i0:K≤cp:=by omega
  have b6:=A5 (hsym t y)
  have e7:∀j,j < K→∃x,(rl t)[j]?=some x:=fun j hj=>⟨_,T06 (by omega)⟩
  generalize (rl t).length=RL at*
  clear d1 a0 d0 i1 i2 i3 a8 hv hK hG
  gi_wp2
  gi_loopg [8,19] (K+1) (fun q t8 t19 wr=>∃ (j p:Nat),j≤K∧K-j < q∧t19= .int .i64 (j:Int)∧t8= .int .i64 (p:Int)∧p≤j∧Hid (p=Z1d ((rl t).take j))∧
   Hid (E2 r wr (fun j=>j=gl∨j=w.heap.size+1)∧Own wr 3 1 (.slice (some ⟨gl,off,none⟩) N cap) N (Z39 N (fun i=>G i+S5 ((rl t).take j) i))∧X6 wr (w.heap.size+1) [.int .i64 (K:Int)] 3)∧
   Hid (KeepsFrom r.heap.size W wr∧r.heap.size≤wr.heap.size))
  case atStart=>exact ⟨0,0,by omega,by omega,rfl,rfl,by omega,rfl,A5 ⟨b5.out,by simpa [S5] using b4.out,e6.out⟩,A5 ⟨KeepsFrom.refl _ _,f9⟩⟩
  case round=>
   obtain ⟨j,p,k6,hq,rfl,rfl,k7,HP,HW,HF⟩:=hrel
   have i4:(0:Int)≤(j:Int):=T00 _
   have i5:(0:Int)≤(p:Int):=T00 _
   obtain ⟨j1,j2,j3⟩:=HW.out
   by_cases f4:j < K
   rotate_left
   ·have d2:¬(j:Int) < (K:Int):=by omega
    obtain rfl:j=K:=by omega
    have cN:=j3.cell (i:=0) rfl
    have fN:=j3.frozen 0
    have j8:p≤1000:=by omega
    have a9:=A5 (j3.set 0 (.int .i64 ((2*p:Nat):Int)))
    have d3:((2*p:Nat):Int)=2*(p:Int):=by omega
    rw [d3] at a9
    gi_wp2
    refine ⟨by rw [←c9];exact HF.out.1.trans ((KeepsOthers.setCell _ _ _).from _),j1.setCell (p:=⟨w.heap.size+1,0,none⟩) (.inr (.inr rfl)) _, ?_, ?_⟩
    ·rw [HK.out]
     exact j2.kept (E2.setCell (S:=fun k=>k=w.heap.size+1) (E2.refl wr _) (p:=⟨w.heap.size+1,0,none⟩) (.inr rfl) _) (fun q hq=>by
      simp only [Value.ownBlock,Option.some.injEq] at hq
      omega)
    rw [HK.out,←HP.out]
    have h:=a9.out
    rw [←d3] at h
    exact h
   have d2:(j:Int) < (K:Int):=by omega
   obtain ⟨x,hx⟩:=e7 j f4
   have c1:=(HR.out.1 j x hx).1
   have c2:=(HR.out.1 j x hx).2
   rw [←j1.cell (p:=⟨g,o+j*2,none⟩) (by show g < _;omega) (by show ¬(g=gl∨g=w.heap.size+1);omega)] at c1
   rw [←j1.cell (p:=⟨g,o+j*2+1,none⟩) (by show g < _;omega) (by show ¬(g=gl∨g=w.heap.size+1);omega)] at c2
   have e9:wr.cell? ⟨w.heap.size,0,none⟩=some (.slice (some ⟨gl,off,none⟩) N cap):=by
    rw [j1.cell (p:=⟨w.heap.size,0,none⟩) (by show w.heap.size < _;omega) (by show ¬(w.heap.size=gl∨w.heap.size=w.heap.size+1);omega)]
    exact k1.cell (i:=0) rfl
   have HT:Hid ((rl t).take (j+1)=(rl t).take j++[x]):=by rw [List.take_add_one,hx];exact A5 rfl
   rcases b6.out x (T0a hx) with hs | ⟨s,hsN,hs⟩
   ·rw [hs] at c2
    have HG:Hid ((fun i=>G i+S5 ((rl t).take (j+1)) i)=fun i=>G i+S5 ((rl t).take j) i):=by
     refine A5 (funext fun i=> ?_)
     rw [HT.out,Y87,if_neg (by rw [hs];omega)];omega
    have b7:Hid (p+1=Z1d ((rl t).take (j+1))):=by
     rw [HT.out,Y44,if_pos hs,←HP.out];exact A5 rfl
    gi_wp2
    gi_roundg (gk-1)
    case measure=>omega
    case rel=>
     refine ⟨j+1,p+1,by omega,by omega,by go_num,by go_num,by omega,b7,A5 ⟨j1.alloc _, ?_,j3.alloc _⟩,A5 ⟨HF.out.1.trans ((KeepsOthers.alloc wr _).from _),by have:=HF.out.2;simp;omega⟩⟩
     rw [HG.out];exact j2.alloc _
   rw [hs] at c2
   obtain ⟨gs,a6⟩:∃gs,gs=G s+S5 ((rl t).take j) s:=⟨_,rfl⟩
   have h3:gs≤16000:=by
    have h1:=e5 s
    have h2:=X54 ((rl t).take j) s
    rw [T08] at h2
    omega
   have HG:Hid ((fun i=>G i+S5 ((rl t).take (j+1)) i)=fun i=>if i=s then gs+1 else G i+S5 ((rl t).take j) i):=by
    refine A5 (funext fun i=> ?_)
    rw [HT.out,Y87]
    by_cases e:i=s
    ·subst e
     rw [if_pos hs,if_pos rfl,a6];omega
    rw [if_neg (by rw [hs];omega),if_neg e];omega
   have b7:Hid (p=Z1d ((rl t).take (j+1))):=by
    rw [HT.out,Y44,if_neg (by rw [hs];omega),←HP.out];exact A5 (Nat.add_zero _).symm
   obtain ⟨g',o',d8,d9,e0,b0⟩:=(j2.alloc (.cells #[.int .i64 (x.1:Int),.int .i64 (s:Int)] 193)).site (by omega)
   simp only [Option.some.injEq,Addr.mk.injEq,and_true] at d8
   obtain ⟨rfl,rfl⟩:=d8
   have c3:=d9 s _ (Y33 N _ s hsN)
   rw [←a6] at c3
   have f3:=e0 s
   have z:=b0 s (.int .i64 ((gs+1:Nat):Int)) hsN
   rw [X0y,←HG.out] at z
   have i8:(0:Int)≤(s:Int):=T00 _
   have i9:((s:Int)== -1)=false:=by simp
   have j0:¬(s:Int)= -1:=by omega
   have j4:(wr.alloc (.cells #[.int .i64 (x.1:Int),.int .i64 (s:Int)] 193)).cell? ⟨w.heap.size,0,none⟩=some (.slice (some ⟨gl,off,none⟩) N cap):=by
    rw [((E2.refl wr (fun _=>False)).alloc _).cell (p:=⟨w.heap.size,0,none⟩) (by show w.heap.size < _;have:=HF.out.2;omega) (fun h=>h)];exact e9
   have HS:=A5 z
   have j6:=A5 hs
   have HX:=A5 hx
   have j7:=A5 a6
   clear d9 e0 b0 z hs hx a6
   gi_wp2
   gi_roundg (gk-1)
   case measure=>omega
   case rel=>
    have b8:((gs+1:Nat):Int)=(gs:Int)+1:=by omega
    have h2:=HS.out
    rw [b8] at h2
    refine ⟨j+1,p,by omega,by omega,by go_num,rfl,by omega,b7,A5 ⟨(j1.alloc _).setCell (p:=⟨gl,off+s,none⟩) (.inr (.inl rfl)) _,h2,(j3.alloc _).other (p:=⟨gl,off+s,none⟩) (by show w.heap.size+1≠gl;omega) _⟩,
     A5 ⟨(HF.out.1.trans ((KeepsOthers.alloc wr _).from _)).trans ((KeepsOthers.setCell _ _ _).from _),by have:=HF.out.2;simp [World.setCell];omega⟩⟩
 case done=>
  intro D W hD hI hK
  obtain ⟨i1,i2,i3⟩:=hI
  have b5:=A5 i1
  have b4:=A5 i2
  clear i1 i2 i3
  gi_wp2
  refine ⟨by simp,.inl ⟨_,_,rfl,run_takeDeferred hK, ?_⟩⟩
  have d4:E2 W (W.putObj D (.deferred none)) (fun j=>j=D):=⟨rfl,rfl,rfl,by simp,fun j hj hne=>World.putObj_heap_other hne⟩
  have f1:E2 w r (fun j=>j=gl):=a3.mono (fun _ _ h=>h.elim)
  have f2:E2 w W (fun j=>j=gl):=f1.trans b5.out (fun k hk h=>by omega)
  refine ⟨_,results_none rfl _ _ _,rfl,b4.out.kept d4 (fun j hj=> ?_),f2.trans d4 (fun k hk h=>by omega)⟩
  simp only [Value.ownBlock,Option.some.injEq] at hj
  omega
end Go.Proofs.YtbkbkmgogbgofaaGreatDoor
namespace Go.Proofs.YtbkbkmgogbgofaaGreatDoor
set_option maxRecDepth 100000
set_option maxHeartbeats 6400000
open Go.RowKit
def isS (x:G9):Bool:=decide (x.2≠ -1)
def isP (x:G9):Bool:=decide (x.2= -1)
theorem Z3r:∀l:List G9,l.Perm (l.filter isS++l.filter isP)
 | []=>List.Perm.refl _
 | x::l=>by
  by_cases h:x.2= -1
  ·rw [T0j (by simp [isS,h]),T0k (by simp [isP,h])]
   exact ((Z3r l).cons x).trans List.perm_middle.symm
  rw [T0k (by simp [isS,h]),T0j (by simp [isP,h])]
  exact (Z3r l).cons x
theorem Y8 (p:G9→Bool):∀ (l:List G9) (k:Nat),(l.take k).filter p=(l.filter p).take ((l.take k).filter p).length
 | [],k=>by simp
 | x::l,0=>by simp
 | x::l,k+1=>by
  rw [T0l]
  by_cases h:p x=true
  ·rw [T0k h,T0k h,T05,T0l,←Y8 p l k]
  rw [T0j h,T0j h,←Y8 p l k]
theorem X2t (l:List G9):(l.filter isS).length+Z1d l=l.length:=by
 have h:=(Z3r l).length_eq
 rw [T0h] at h
 have a:Z1d l=(l.filter isP).length:=by rw [Z1d,T0y];rfl
 omega
theorem Z92 (l:List G9):Z1d l=(l.filter isP).length:=by rw [Z1d,T0y];rfl
theorem Y0r (l:List G9) (s:Nat):S5 l s=S5 (l.filter isS) s:=by
 rw [S5,S5,List.countP_filter]
 congr 1
 funext x
 by_cases h:x.2=(s:Int)
 ·have:x.2≠ -1:=by omega
  simp [isS,h]
 simp [h]
theorem X0i:∀l:List G9,Asc l→Asc (V8 l)
 | [],_=>trivial
 | [a],_=>trivial
 | a::b::l,h=>by
  rw [V8]
  refine ⟨fun y hy=> ?_,X0i l h.2.2⟩
  obtain ⟨c,d,hc,hd,rfl⟩:=Z41 l y hy
  have h1:=h.1 c (T0z _ hc)
  have h2:=h.2.1 d hd
  show a.1+b.1≤c.1+d.1
  omega
theorem W07:∀l:List G9,Asc l→Up (l.map (·.1))
 | [],_=>trivial
 | a::l,h=>by
  refine ⟨fun b hb=> ?_,W07 l h.2⟩
  obtain ⟨x,hx,rfl⟩:=List.mem_map.1 hb
  exact h.1 x hx
theorem Y39:∀l:List G9,(V8 l).map (·.1)=U4 (l.map (·.1))
 | []=>rfl
 | [a]=>rfl
 | a::b::l=>by
  rw [V8,T04,Y39 l];rfl
theorem X7e (S:List G9):∀t,Asc (O0 S t)
 | 0=>trivial
 | _+1=>Z0z _
section
variable {S:List G9} (hS:∀x∈S,x.2≠ -1)
include hS
theorem W1a (t:Nat):(O0 S (t+1)).filter isS=I4 S:=by
 rw [O0,Z6b,T0A,List.filter_eq_self.2 (fun x hx=>by simp [isS,hS x hx]),List.filter_eq_nil_iff.2 (fun x hx=>by
  obtain ⟨a,b,_,_,rfl⟩:=Z41 _ _ hx
  simp [isS]),T0n]
theorem V4t (t:Nat):(O0 S (t+1)).filter isP=V8 (O0 S t):=by
 rw [O0,Z6b,T0A,List.filter_eq_nil_iff.2 (fun x hx=>by simp [isP,hS x hx]),List.filter_eq_self.2 (fun x hx=>by
  obtain ⟨a,b,_,_,rfl⟩:=Z41 _ _ hx
  simp [isP]),List.nil_append,X1f _ (X0i _ (X7e S t))]
end
theorem W1m (S:List G9):∀t,(2*S.length- (O0 S t).length)*2^t≤2*S.length+2^t-1
 | 0=>by simp [O0]
 | t+1=>by
  have h:=W1m S t
  have hl:=Z4x S t
  have e:(O0 S (t+1)).length=S.length+(O0 S t).length / 2:=by rw [O0,J1,T0h,Z00]
  rw [e]
  have hp:0 < 2^t:=Nat.two_pow_pos t
  rw [Nat.pow_succ]
  obtain ⟨d,hd⟩:∃d,d=2*S.length- (O0 S t).length:=⟨_,rfl⟩
  obtain ⟨d2,hd2⟩:∃d2,d2=2*S.length- (S.length+(O0 S t).length / 2):=⟨_,rfl⟩
  rw [←hd] at h
  rw [←hd2]
  have h2:d2*2≤d+1:=by omega
  have h3:d2*(2^t*2)=d2*2*2^t:=by rw [Nat.mul_comm (2^t) 2,Nat.mul_assoc]
  have h4:d2*2*2^t≤(d+1)*2^t:=T0B _ h2
  have h5:(d+1)*2^t=d*2^t+2^t:=by rw [Nat.add_mul,Nat.one_mul]
  rw [h3]
  omega
theorem W7w (S:List G9) (m:Nat) (h:S.length≤2^m):2*S.length-2≤(O0 S m).length:=by
 have d:=W1m S m
 have f:0 < 2^m:=Nat.two_pow_pos m
 by_cases b:2*S.length-2≤(O0 S m).length
 ·exact b
 exfalso
 have a:3≤2*S.length- (O0 S m).length:=by omega
 have g:3*2^m≤(2*S.length- (O0 S m).length)*2^m:=T0B _ a
 omega
section
variable (S:List G9) (m:Nat)
def rlS (t:Nat):List G9:=O0 S (t+1)
def kS (t:Nat):Nat:=(stS (rlS S) m (2*S.length-2) (m-t)).1
def tkS (t:Nat):List G9:=(O0 S (t+1)).take (kS S m (t+1))
def X5z:Nat→Nat
 | 0=>0
 | t+1=>((tkS S m t).filter isS).length
theorem W2j (t:Nat) (ht:t < m):kS S m t=2*Z1d (tkS S m t):=by
 unfold kS tkS
 rw [show m-t=(m- (t+1))+1 by omega]
 show 2*Z1d ((rlS S (m-1- (m- (t+1)))).take _)=_
 rw [show m-1- (m- (t+1))=t by omega];rfl
theorem W86:kS S m m=2*S.length-2:=by unfold kS;rw [T0d];rfl
end
section
variable {S:List G9} {m:Nat} (hS:∀x∈S,x.2≠ -1) (hn:S.length≤2^m)
include hS hn
theorem Y5e (t:Nat) (ht:t≤m):kS S m t≤(O0 S t).length:=by
 by_cases e:t=m
 ·subst e;rw [W86];exact W7w S t hn
 rw [W2j S m t (by omega),Z92]
 unfold tkS
 rw [Y8,V4t hS]
 have h:=Z00 (O0 S t)
 rw [T08]
 omega
theorem V4e:Z93 ((I4 S).map (·.1)) m (fun t=>(O0 S t).map (·.1)) (X5z S m) (kS S m) where
 packs:=⟨rfl,fun t _=>W07 _ (X7e S (t+1)),fun t _=>by
  have h1:(O0 S (t+1)).Perm (I4 S++V8 (O0 S t)):=(W9 _).trans ((W9 S).symm.append_right _)
  have h2:=h1.map (·.1)
  rw [T0f,Y39] at h2
  exact h2⟩
 top:=by rw [W86,T07,J1]
 low:=fun t ht=>by
  rw [W2j S m t ht]
  have h1:=X2t (tkS S m t)
  have h2:(tkS S m t).length=kS S m (t+1):=by
   unfold tkS;rw [T08];have:=Y5e hS hn (t+1) (by omega);omega
  show _=2*(kS S m (t+1)- ((tkS S m t).filter isS).length)
  omega
 few:=fun t ht=>by
  have h1:=X2t (tkS S m t)
  have h2:(tkS S m t).length≤kS S m (t+1):=by unfold tkS;rw [T08];omega
  refine ⟨?_,by show ((tkS S m t).filter isS).length≤_;omega⟩
  show ((tkS S m t).filter isS).length≤_
  unfold tkS
  rw [Y8,W1a hS,T08,T07];omega
 room:=fun t ht=>by rw [T07];exact Y5e hS hn t ht
 split:=fun t ht=>by
  have h1:=X2t (tkS S m t)
  have h2:(tkS S m t).length=kS S m (t+1):=by
   unfold tkS;rw [T08];have:=Y5e hS hn (t+1) (by omega);omega
  have g:=Z92 (tkS S m t)
  have b:(tkS S m t).filter isS=(I4 S).take (X5z S m (t+1)):=by
   show _=(I4 S).take ((tkS S m t).filter isS).length
   have h:=Y8 isS (O0 S (t+1)) (kS S m (t+1))
   rw [W1a hS] at h;exact h
  have d:(tkS S m t).filter isP=(V8 (O0 S t)).take (kS S m (t+1)-X5z S m (t+1)):=by
   have h:=Y8 isP (O0 S (t+1)) (kS S m (t+1))
   rw [V4t hS] at h
   have f:((tkS S m t).filter isP).length=kS S m (t+1)-X5z S m (t+1):=by
    show _=kS S m (t+1)- ((tkS S m t).filter isS).length
    omega
   rw [←f];exact h
  have a:=(Z3r (tkS S m t)).map (·.1)
  rw [b,d,T0f,T0o,T0o,Y39] at a
  rw [←T0o];exact a
end
def Z55 (h:Nat→Nat):Nat→Nat
 | 0=>0
 | t+1=>h t+Z55 h t
theorem Z7n {h g:Nat→Nat}:∀t,(∀u,u < t→h u=g u)→Z55 h t=Z55 g t
 | 0,_=>rfl
 | t+1,e=>by rw [Z55,Z55,e t (by omega),Z7n t fun u hu=>e u (by omega)]
theorem Y75:∀t,Z55 (fun _=>0) t=0
 | 0=>rfl
 | t+1=>by rw [Z55,Y75 t]
theorem Y1h:∀ (l:List Nat) (c q:Nat),(O3 l c)[q]?=(l[q]?).map fun a=>a+if q < c then 1 else 0
 | [],c,q=>by simp [O3]
 | a::l,0,q=>by simp [O3]
 | a::l,c+1,0=>by simp [O3]
 | a::l,c+1,q+1=>by
  rw [O3,T0m,T0m,Y1h l c q]
  by_cases h:q < c
  ·simp [h]
  simp [h]
theorem Y9r (n:Nat) (cnt:Nat→Nat) (q:Nat) (hq:q < n):∀t,(Z19 n cnt t)[q]?=some (Z55 (fun u=>if q < cnt (u+1) then 1 else 0) t)
 | 0=>by rw [Z19,T0s,if_pos hq];rfl
 | t+1=>by
  rw [Z19,Y1h,Y9r n cnt q hq t,T0p,Z55,Nat.add_comm]
theorem W21 (S:List G9) (m i:Nat):∀k,k≤m→(stS (rlS S) m (2*S.length-2) k).2 i+Z55 (fun u=>S5 (tkS S m u) i) (m-k)=Z55 (fun u=>S5 (tkS S m u) i) m
 | 0,_=>by rw [Nat.sub_zero];show 0+_=_;omega
 | k+1,h=>by
  have ih:=W21 S m i k (by omega)
  obtain ⟨u,hu⟩:∃u,m-k=u+1:=⟨m-k-1,by omega⟩
  rw [hu,Z55] at ih
  have e1:m- (k+1)=u:=by omega
  have e2:m-1-k=u:=by omega
  have e3:m- (u+1)=k:=by omega
  rw [e1]
  show (stS (rlS S) m (2*S.length-2) k).2 i+S5 ((rlS S (m-1-k)).take (stS (rlS S) m (2*S.length-2) k).1) i+_=_
  rw [e2]
  have e4:S5 (tkS S m u) i=S5 ((rlS S u).take (stS (rlS S) m (2*S.length-2) k).1) i:=by
   unfold tkS kS rlS;rw [e3]
  rw [←e4];omega
def gS (S:List G9) (m i:Nat):Nat:=(stS (rlS S) m (2*S.length-2) m).2 i
theorem W7o (S:List G9) (m i:Nat):gS S m i=Z55 (fun u=>S5 (tkS S m u) i) m:=by
 have h:=W21 S m i m (T0c _)
 rw [T0d] at h
 exact h
theorem Y5f:∀ (Q:List G9) (c q a s:Nat),(Q.map (·.2)).Nodup→Q[q]?=some (a,(s:Int))→S5 (Q.take c) s=if q < c then 1 else 0
 | [],c,q,a,s,_,h=>by simp at h
 | x::Q,0,q,a,s,_,_=>by simp [S5]
 | x::Q,c+1,0,a,s,hd,h=>by
  obtain rfl:x=(a,(s:Int)):=by simpa using h
  rw [T04,T0q] at hd
  have h0:S5 (Q.take c) s=0:=by
   unfold S5
   rw [T0C]
   intro y g e
   exact hd.1 (List.mem_map.2 ⟨y,T0D g,by simpa using e⟩)
  rw [T0l]
  unfold S5 at*
  rw [T0i,h0];simp
 | x::Q,c+1,q+1,a,s,hd,h=>by
  rw [T04,T0q] at hd
  have b:(a,(s:Int))∈Q:=T0a (by simpa using h)
  have d:¬x.2=(s:Int):=fun e=>hd.1 (List.mem_map.2 ⟨_,b,e.symm⟩)
  have f:=Y5f Q c q a s hd.2 (by simpa using h)
  rw [T0l]
  unfold S5 at*
  rw [T0i,f]
  simp [d]
theorem Z0n:∀ (f:List Nat) (k:Nat) (x:G9),x∈T0 k f→∃i:Nat,k≤i∧x.2=(i:Int)∧f[i-k]?=some x.1∧0 < x.1
 | [],k,x,h=>by simp [T0] at h
 | a::f,k,x,h=>by
  rw [T0] at h
  by_cases ha:0 < a
  ·rw [if_pos ha] at h
   rcases List.mem_cons.1 h with h | h
   ·subst h
    exact ⟨k,T0c _,rfl,by simp,ha⟩
   obtain ⟨i,h1,h2,h3,h4⟩:=Z0n f (k+1) x h
   exact ⟨i,by omega,h2,by rw [show i-k=(i- (k+1))+1 by omega,T0m];exact h3,h4⟩
  rw [if_neg ha] at h
  obtain ⟨i,h1,h2,h3,h4⟩:=Z0n f (k+1) x h
  exact ⟨i,by omega,h2,by rw [show i-k=(i- (k+1))+1 by omega,T0m];exact h3,h4⟩
theorem Z5y:∀ (f:List Nat) (k i b:Nat),f[i]?=some b→0 < b→(b,((k+i:Nat):Int))∈T0 k f
 | [],k,i,b,h,_=>by simp at h
 | a::f,k,0,b,h,hb=>by
  obtain rfl:a=b:=by simpa using h
  rw [T0,if_pos hb];simp
 | a::f,k,i+1,b,h,hb=>by
  have ih:=Z5y f (k+1) i b (by simpa using h) hb
  rw [show k+1+i=k+(i+1) by omega] at ih
  rw [T0]
  split
  ·exact T0z _ ih
  exact ih
theorem Z9g:∀ (f:List Nat) (k:Nat),((T0 k f).map (·.2)).Nodup
 | [],_=>by simp [T0]
 | a::f,k=>by
  rw [T0]
  split
  ·rw [T04,T0q]
   refine ⟨fun h=> ?_,Z9g f (k+1)⟩
   obtain ⟨x,hx,e⟩:=List.mem_map.1 h
   obtain ⟨i,h1,h2,_⟩:=Z0n f (k+1) x hx
   have e2:x.2=(k:Int):=e
   omega
  exact Z9g f (k+1)
def cI (g:Nat→Nat):List G9→Nat
 | []=>0
 | x::l=>g x.2.toNat*x.1+cI g l
def kI (g:Nat→Nat):List G9→Nat
 | []=>0
 | x::l=>wtN (g x.2.toNat)+kI g l
theorem V3l (g:Nat→Nat) {l l2:List G9} (h:l.Perm l2):cI g l=cI g l2:=by
 induction h with
 | nil=>rfl
 | cons x _ ih=>rw [cI,cI,ih]
 | swap x y l=>simp only [cI];omega
 | trans _ _ ih1 ih2=>rw [ih1,ih2]
theorem V3j (g:Nat→Nat) {l l2:List G9} (h:l.Perm l2):kI g l=kI g l2:=by
 induction h with
 | nil=>rfl
 | cons x _ ih=>rw [kI,kI,ih]
 | swap x y l=>simp only [kI];omega
 | trans _ _ ih1 ih2=>rw [ih1,ih2]
theorem W7f (g:Nat→Nat):∀l:List G9,cst (l.map fun x=>g x.2.toNat) (l.map (·.1))=cI g l
 | []=>rfl
 | x::l=>by rw [T04,T04,cst,cI,W7f g l]
theorem W6c (g:Nat→Nat):∀l:List G9,kr (l.map fun x=>g x.2.toNat)=kI g l
 | []=>rfl
 | x::l=>by rw [T04,kr,kI,W6c g l]
theorem V0q (g:Nat→Nat):∀ (f:List Nat) (k:Nat),cst ((T0r k f.length).map g) f=cI g (T0 k f)
 | [],_=>rfl
 | a::f,k=>by
  rw [T05,T0E,T04,cst,V0q g f (k+1),T0]
  by_cases ha:0 < a
  ·rw [if_pos ha,cI];simp
  rw [if_neg ha,show a=0 by omega];omega
theorem W7g (g:Nat→Nat):∀ (f:List Nat) (k:Nat),(∀i,f[i]?=some 0→g (k+i)=0)→kr ((T0r k f.length).map g)=kI g (T0 k f)
 | [],_,_=>rfl
 | a::f,k,h=>by
  have ih:=W7g g f (k+1) fun i hi=>by
   have:=h (i+1) (by simpa using hi)
   rw [show k+1+i=k+(i+1) by omega];exact this
  rw [T05,T0E,T04,kr,ih,T0]
  by_cases ha:0 < a
  ·rw [if_pos ha,kI];simp
  rw [if_neg ha]
  have:=h 0 (by rw [show a=0 by omega];rfl)
  rw [Nat.add_zero] at this
  rw [this,Y5k];omega
theorem Y2l:∀ (f:List Nat) (k:Nat),(T0 k f).map (·.1)=Y4m f
 | [],_=>rfl
 | a::f,k=>by
  rw [T0,Y4m,List.filter_cons]
  by_cases ha:0 < a
  ·simp only [ha,if_true,decide_true,T04,Y2l f (k+1)];rfl
  simp only [ha,if_false,decide_false,Y2l f (k+1)];rfl
theorem Y9z (f:List Nat) (m:Nat) (hm:1≤m) (hm2:m≤15) (h2:2≤U2 f) (hn:U2 f≤2^m):V69 f m ((T09 f.length).map (gS (T0 0 f) m)):=by
 obtain ⟨S,d⟩:∃S,S=T0 0 f:=⟨_,rfl⟩
 rw [←d]
 have b6:S.length=U2 f:=by rw [d,Z3c]
 have hS:∀x∈S,x.2≠ -1:=fun x n=>by
  rw [d] at n
  obtain ⟨i,_,h,_⟩:=Z0n f 0 x n
  omega
 have hT:=V4e hS (by omega:S.length≤2^m)
 have b7:((I4 S).map (·.1)).length=S.length:=by rw [T07,J1]
 have r:∀x∈(I4 S).map (·.1),0 < x:=fun a ha=>by
  obtain ⟨x,n,rfl⟩:=List.mem_map.1 ha
  have g:=(W9 S).mem_iff.1 n
  rw [d] at g
  obtain ⟨i,_,_,_,h⟩:=Z0n f 0 x g
  exact h
 obtain ⟨l1,l2,l3⟩:=hT.fit r rfl hm hm2 (by omega)
 have a4:((I4 S).map (·.2)).Nodup:=by
  have h:=((W9 S).map (·.2)).symm
  refine h.nodup ?_
  rw [d];exact Z9g f 0
 have hg:∀ (q a s:Nat),(I4 S)[q]?=some (a,(s:Int))→gS S m s=Z55 (fun u=>if q < X5z S m (u+1) then 1 else 0) m:=fun q a s hq=>by
  rw [W7o]
  refine Z7n m fun u _=> ?_
  have e1:(tkS S m u).filter isS=(I4 S).take (X5z S m (u+1)):=by
   show _=(I4 S).take ((tkS S m u).filter isS).length
   have h:=Y8 isS (O0 S (u+1)) (kS S m (u+1))
   rw [W1a hS] at h;exact h
  show S5 (tkS S m u) s=_
  rw [Y0r,e1,Y5f _ _ q a s a4 hq]
 have hz:∀i:Nat,f[i]?=some 0→gS S m i=0:=fun i l=>by
  rw [W7o,←Y75 m]
  refine Z7n m fun u _=> ?_
  show S5 (tkS S m u) i=0
  have e1:(tkS S m u).filter isS=(I4 S).take (X5z S m (u+1)):=by
   show _=(I4 S).take ((tkS S m u).filter isS).length
   have h:=Y8 isS (O0 S (u+1)) (kS S m (u+1))
   rw [W1a hS] at h;exact h
  rw [Y0r,e1]
  unfold S5
  rw [T0C]
  intro x n e
  have g:=(W9 S).mem_iff.1 (T0D n)
  rw [d] at g
  obtain ⟨j,_,hj,a1,c1⟩:=Z0n f 0 x g
  have e2:x.2=(i:Int):=by simpa using e
  have:j=i:=by omega
  subst this
  rw [Nat.sub_zero,l] at a1
  simp only [Option.some.injEq] at a1
  omega
 have a7:Z19 ((I4 S).map (·.1)).length (X5z S m) m=(I4 S).map fun x=>gS S m x.2.toNat:=by
  refine T0e fun q=> ?_
  by_cases hq:q < S.length
  ·obtain ⟨x,n⟩:∃x,(I4 S)[q]?=some x:=⟨(I4 S)[q]'(by rw [J1];exact hq),T06 _⟩
   have g:=(W9 S).mem_iff.1 (T0a n)
   rw [d] at g
   obtain ⟨s,_,hs,_⟩:=Z0n f 0 x g
   have a8:(I4 S)[q]?=some (x.1,(s:Int)):=by rw [n,←hs]
   rw [Y9r _ _ q (by omega),T0F,n,T0p,hs,←hg q x.1 s a8];rfl
  rw [T03 (by rw [Z28];omega),T03 (by rw [T07,J1];omega)]
 rw [a7] at l1 l2 l3
 rw [W6c] at l2
 rw [W7f] at l3
 have o:=W9 S
 have k:T09 f.length=T0r 0 f.length:=List.range_eq_range'
 have p:∀ (i a:Nat),((T09 f.length).map (gS S m))[i]?=some a→a=gS S m i∧i < f.length:=fun i a h=>by
  have l:=(List.getElem?_eq_some_iff.1 h).1
  rw [T07,List.length_range] at l
  rw [T0F,List.getElem?_range l] at h
  simp only [T0p,Option.some.injEq] at h
  exact ⟨h.symm,l⟩
 have a0:∀ (i b:Nat),f[i]?=some b→0 < b→1≤gS S m i∧gS S m i≤m:=fun i b l hb=>by
  have h:=Z5y f 0 i b l hb
  rw [←d,T0b] at h
  have h3:=l1 (gS S m i) (List.mem_map.2 ⟨_,o.mem_iff.2 h,by simp⟩)
  exact h3
 have hA:((I4 S).map (·.1)).Perm (Y4m f):=by
  have h:=o.map (·.1)
  rw [d] at h⊢
  rw [Y2l] at h
  exact h
 have t:V36 f m ((T09 f.length).map (gS S m)):=by
  refine ⟨by simp,fun i a b ha hb=> ?_,fun a ha=> ?_, ?_⟩
  ·obtain ⟨rfl,_⟩:=p i a ha
   by_cases h0:0 < b
   ·have:=a0 i b hb h0
    exact ⟨fun _=>h0,fun _=>by omega⟩
   have y:b=0:=by omega
   rw [y] at hb
   have:=hz i hb
   exact ⟨fun h=>by omega,fun h=>by omega⟩
  ·obtain ⟨i,l⟩:=List.mem_iff_getElem?.1 ha
   obtain ⟨rfl,b2⟩:=p i a l
   have z:f[i]?=some f[i]:=T06 b2
   by_cases h0:0 < f[i]
   ·exact (a0 i _ z h0).2
   have y:f[i]=0:=by omega
   rw [y] at z
   rw [hz i z];omega
  rw [k,W7g (gS S m) f 0 (fun i l=>by rw [T0b];exact hz i l),←d,←V3j _ o]
  exact l2
 refine X80 hT.packs (W07 _ (Z0z S)) hA hm hm2 t ?_
 rw [k,V0q,←d,←V3l _ o]
 exact l3
end Go.Proofs.YtbkbkmgogbgofaaGreatDoor
