/- The claim's texts, put together and shortened by a program (names, spaces). -/
import Derived.Test.YtbkbkmgogbgofaaGreatDoorZt28
import Derived.Deep.DeepCutAuto
import Derived.Test.YtbkbkmgogbgofaaGreatDoorZt25
import Derived.Test.YtbkbkmgogbgofaaGreatDoorZt03
open List renaming range→T01,getElem?_map→T03,length_map→T04,mem_cons_of_mem→T05,getElem?_range→T06,mem_cons_self→T09,perm_append_comm→T0a,getElem?_eq_getElem→T0b,length_range→T0c,countP_cons→T0e,mem_of_getElem?→T0f,getElem?_eq_none→T0g,length_append→T0h,eq_nil_of_length_eq_zero→T0i,mem_append_right→T0k,mem_singleton→T0l
open Nat renaming sub_zero→T08,le_trans→T0d,add_zero→T0j
open Int renaming toNat→T00,natCast_nonneg→T02
open Option renaming map_some→T07
namespace Go.Proofs.YtbkbkmgogbgofaaGreatDoor
set_option maxRecDepth 100000
set_option maxHeartbeats 6400000
open Go.RowKit
theorem A4.pick {w0 w:World} {A R:A6} {Rs:List A6} (h:A4 w0 w (A::Rs)) (hR:R∈Rs):∃Rs',A4 w0 w (A::R::Rs'):=by
 obtain ⟨s,t,rfl⟩:=List.append_of_mem hR
 exact ⟨s++t,h.perm (List.perm_middle.cons _)⟩
theorem X1c:∀f:List Int,(∀a∈f,0≤a)→U2 (f.map T00)=Z07 f
 | [],_=>rfl
 | a::f,h=>by
  have ih:=X1c f fun b hb=>h b (T05 _ hb)
  have ha:=h a T09
  rw [List.map_cons,U2,ih,Z07,Z07,T0e]
  by_cases h0:0 < a
  ·rw [if_pos (by omega)];simp [h0];omega
  rw [if_neg (by omega)];simp [h0]
theorem V63 (n m N B:Nat) (S:List G9) (ms:List (Value×List G9)) (gl cap:Nat) (sv:Value) (w0 w:World) (Rs:List A6)
  (h:A4 w0 w (B0 190 1 (.slice (some ⟨B,0,none⟩) m m) m (ms.map (·.1))::J4 sv S::(mT ms++(B0 3 1 (.slice (some ⟨gl,0,none⟩) N cap) N (Z39 N fun _=>0)::Rs))))
  (hms:ms.length=m) (hms2:ms.map (·.2)=(T01 m).map (fun t=>O0 S (t+1))) (hn:S.length=n) (hn0:0 < n) (hn2:n≤300) (hm:m≤15) (hm1:1≤m) (hnm:n≤2^m) (hN:N≤1000) (hsy:∀x∈S,∃s:Nat,s < N∧x.2=(s:Int)):
  Calls Tryz.prog 134 #[.slice (some ⟨gl,0,none⟩) N cap,.slice (some ⟨B,0,none⟩) m m,.int .i64 ((2*n-2:Nat):Int)] w fun e w'=>e= .returned (.tuple #[])∧
   ∃Rs',A4 w0 w' (B0 3 1 (.slice (some ⟨gl,0,none⟩) N cap) N (Z39 N (gS S m))::Rs'):=by
 have hS:∀x∈S,x.2≠ -1:=fun x hx=>by
  obtain ⟨s,_,e⟩:=hsy x hx
  omega
 have h':A4 w0 w ((B0 190 1 (.slice (some ⟨B,0,none⟩) m m) m (ms.map (·.1))::J4 sv S::mT ms)++(B0 3 1 (.slice (some ⟨gl,0,none⟩) N cap) N (Z39 N fun _=>0)::Rs)):=h
 have o:=h'.perm T0a
 rw [List.cons_append] at o
 have g:∀t,t < m→∃r:Value×List G9,ms[t]?=some r∧r.2=O0 S (t+1):=fun t f=>by
  refine ⟨ms[t]'(by omega),T0b _, ?_⟩
  have e:=congrArg (fun l:List (List G9)=>l[t]?) hms2
  simp only [T03,T06 f,T07,T0b (show t < ms.length by omega),Option.some.injEq] at e
  exact e
 have d:∀t,t < m→∃Rs',A4 w0 w (B0 3 1 (.slice (some ⟨gl,0,none⟩) N cap) N (Z39 N fun _=>0)::J4 ((ms[t]?).getD (.slice none 0 0,[])).1 (O0 S (t+1))::Rs'):=fun t f=>by
  obtain ⟨r,q,z⟩:=g t f
  rw [q]
  refine o.pick ?_
  refine T0k _ (T05 _ (T05 _ (List.mem_map.2 ⟨r,T0f q, ?_⟩)))
  rw [z];rfl
 obtain ⟨Rs1,hB⟩:=o.pick (R:=B0 190 1 (.slice (some ⟨B,0,none⟩) m m) m (ms.map (·.1))) (T0k _ T09)
 have j:∀t,(O0 S t).length≤600:=fun t=>by have:=Z4x S t;omega
 refine (W4e N m (2*n-2) gl 0 cap B (fun t=>((ms[t]?).getD (.slice none 0 0,[])).1) (fun t=>O0 S (t+1)) w hN hm o.own (fun t f=> ?_) (hB.swap.own.lt B rfl) (fun e=> ?_) (fun t=> ?_) (fun t f=> ?_) (fun t f e=> ?_) (fun k hk=> ?_) (fun t=> ?_) (fun t f=> ?_) (fun t f x hx=> ?_)).mono ?_
 ·obtain ⟨r,q,_⟩:=g t f
  refine h.rowAt ?_ (by omega)
  rw [T03,q];rfl
 ·exact hB.apart2 gl rfl (by rw [e];rfl)
 ·by_cases f:t < m
  ·obtain ⟨Rs',p⟩:=d t f
   obtain ⟨a,c,e,_,_⟩:=U1 p.swap
   exact ⟨a,_,c,e⟩
  rw [T0g (by omega)];exact ⟨none,0,0,rfl⟩
 ·obtain ⟨Rs',p⟩:=d t f
  exact p.swap.own
 ·obtain ⟨Rs',p⟩:=d t f
  exact p.apart2 gl rfl e
 ·have:=Y5e hS (by omega:S.length≤2^m) (m-k) (by omega)
  unfold kS at this
  rw [show m- (m-k)=k by omega,hn] at this
  rw [show m-1-k+1=m-k by omega]
  exact this
 ·have:=j (t+1);omega
 ·show 0 < (O0 S (t+1)).length
  rw [O0,J1,T0h];omega
 ·rw [O0] at hx
  rcases List.mem_append.1 ((W9 _).mem_iff.1 hx) with h1 | h1
  ·exact .inr (hsy x h1)
  obtain ⟨a,b,_,_,rfl⟩:=Z41 _ _ h1
  exact .inl rfl
 rintro e w' ⟨rfl,ho,y⟩
 refine ⟨rfl,_,o.turnOwn (v':= .slice (some ⟨gl,0,none⟩) N cap) ?_ rfl (y.mono fun k _ hk=>by rw [hk];rfl)⟩
 have hG:gS S m=(stS (fun t=>O0 S (t+1)) m (2*n-2) m).2:=by
  funext i
  unfold gS
  rw [hn];rfl
 rw [hG];exact ho
theorem V1p:(Tryz.prog.info? 3).map (fun i=>(i.zero,i.size,i.bytes))=some (some (.int .i64 0),1,8):=by kernel_rfl
theorem Y36 (n:Nat):List.replicate n (Value.int .i64 0)=Z39 n (fun _=>0):=by
 refine List.ext_getElem? fun j=> ?_
 by_cases h:j < n
 ·rw [Y33 _ _ _ h,List.getElem?_replicate,if_pos h];rfl
 rw [T0g (by simp;omega),T0g (by simp [Z39,D3];omega)]
theorem A4.itemAt {w0 w:World} {g off n cap:Nat} {l:List G9} {Rs:List A6} (h:A4 w0 w (J4 (.slice (some ⟨g,off,none⟩) n cap) l::Rs)) {j:Nat} {x:G9} (hx:l[j]?=some x):
  w.cell? ⟨g,off+j*2,none⟩=some (.int .i64 (x.1:Int))∧w.cell? ⟨g,off+j*2+1,none⟩=some (.int .i64 x.2):=by
 have i:=(List.getElem?_eq_some_iff.1 hx).1
 obtain ⟨k,b,d,f,_,_,a,_,_⟩:=h.site2 (by omega)
 simp only [Value.slice.injEq,Option.some.injEq,Addr.mk.injEq,and_true] at f
 obtain ⟨⟨rfl,rfl⟩,_,rfl⟩:=f
 exact a j x hx
theorem W9q {w0 w:World} {v:Value} {l:List G9} {Rs:List A6} (h:A4 w0 w (J4 v l::Rs)) (hl:0 < l.length):∃g off cap,v= .slice (some ⟨g,off,none⟩) l.length cap:=by
 obtain ⟨g,off,cap,a,_⟩:=h.site2 hl
 exact ⟨g,off,cap,a⟩
theorem A4.numAt {w0 w:World} {B n c:Nat} {G:Nat→Nat} {Rs:List A6} (h:A4 w0 w (B0 3 1 (.slice (some ⟨B,0,none⟩) n c) n (Z39 n G)::Rs)) {s:Nat} (hs:s < n) (u:Nat):
  w.cell? ⟨B,s,none⟩=some (.int .i64 (G s:Int))∧w.frozen? ⟨B,s,none⟩=false∧A4 w0 (w.setCell ⟨B,s,none⟩ (.int .i64 (u:Int))) (B0 3 1 (.slice (some ⟨B,0,none⟩) n c) n (Z39 n (fun j=>if j=s then u else G j))::Rs):=by
 obtain ⟨g,m,l,a,f,b⟩:=h.own.site (by omega)
 simp only [Option.some.injEq,Addr.mk.injEq,and_true] at l
 obtain ⟨rfl,rfl⟩:=l
 have i:=a s _ (Y33 n G s hs)
 have k:=f s
 have d:=h.putOwn (b s (.int .i64 (u:Int)) hs) (E2.set w B (0+s) _)
 rw [X0y] at d
 rw [Nat.zero_add] at i k d
 exact ⟨i,k,d⟩
def C4 (f:List Nat) (m:Nat):List Nat:=
 match T0 0 f with
 | []=>(T01 f.length).map fun _=>0
 | [x]=>(T01 f.length).map fun (j:Nat)=>if (j:Int)=x.2 then 1 else 0
 | x::y::r=>(T01 f.length).map (gS (x::y::r) m)
theorem Y6v {f:List Nat} {m n:Nat} {S:List G9} (hS:S=T0 0 f) (h:S.length=0) (hn:f.length=n):((T01 n).map fun _=>0)=C4 f m:=by
 have e:T0 0 f=[]:=by rw [←hS];exact T0i h
 unfold C4
 rw [e,hn]
theorem Y94 {f:List Nat} {m n a s:Nat} {S:List G9} (hS:S=T0 0 f) (h:S=[(a,(s:Int))]) (hn:f.length=n):((T01 n).map fun j=>if j=s then 1 else 0)=C4 f m:=by
 have e:T0 0 f=[(a,(s:Int))]:=by rw [←hS];exact h
 unfold C4
 rw [e,hn]
 simp only [Int.natCast_inj]
theorem Y69 {f:List Nat} {m n:Nat} {S:List G9} (hS:S=T0 0 f) (h:2≤S.length) (hn:f.length=n):(T01 n).map (gS S m)=C4 f m:=by
 unfold C4
 rw [←hS,hn]
 match S,h with
 | _::_::_,_=>rfl
theorem X3p (v:Value) (n m:Nat) (f:List Int) (w:World) (hv:Rd w 1 v n (D2 f)) (hn:n=f.length) (hl:n≤288) (hm1:1≤m) (hm2:m≤15) (hf:Z38 f=true):
  Calls Tryz.prog 102 #[v,.int .i64 (m:Int)] w fun e w'=>(2^m < Z07 f∧e= .returned (.tuple #[.slice none 0 0,.int .i64 3])∧E2 w w' (fun _=>False))∨
   (Z07 f≤2^m∧∃ (v':Value) (l:List Nat) (Rs:List A6),e= .returned (.tuple #[v',.int .i64 0])∧A4 w w' (B0 3 1 v' n (D3 .i64 l)::Rs)∧Y46 (f.map T00) m l∧l=C4 (f.map T00) m):=by
 have HW:=A5 (X4f v f w n hn hv (by omega))
 rw [hf] at HW
 have a9:=(X05 f).1 hf
 have y:U2 (f.map T00)=Z07 f:=X1c f fun a ha=>(a9 a ha).1
 obtain ⟨S,hS⟩:∃S,S=T0 0 (f.map T00):=⟨_,rfl⟩
 have HY:=A5 (X5u v f w w [] (A4.start w) n hn hv (by omega) a9)
 rw [←hS] at HY
 obtain ⟨c,hc⟩:∃c,c=S.length:=⟨_,rfl⟩
 have b3:c=Z07 f:=by rw [hc,hS,Z3c,y]
 have e8:c≤n:=by
  have:=W17 (f.map T00) 0
  rw [←hS,←hc,T04,←hn] at this;exact this
 have c1:∀x∈S,∃s:Nat,s < n∧x.2=(s:Int)∧x.1≤1048576:=fun x hx=>by
  rw [hS] at hx
  obtain ⟨i,_,e,hi,_⟩:=Z0n _ 0 x hx
  have o:=(List.getElem?_eq_some_iff.1 hi).1
  rw [T04,T08,←hn] at o
  refine ⟨i,o,e, ?_⟩
  rw [T08,T03] at hi
  obtain ⟨a,ha,i3⟩:=Option.map_eq_some_iff.1 hi
  have:=a9 a (T0f ha)
  omega
 rw [←b3]
 obtain ⟨ao,i4,rfl,_,_⟩:=hv.form
 have g1:(0:Int)≤(n:Int):=T02 _
 have g2:(0:Int)≤(c:Int):=T02 _
 have g3:(0:Int)≤(m:Int):=T02 _
 have d:=A5 (And.intro hc.symm (And.intro hS (And.intro hn c1)))
 have b4:=A5 y
 have g4:decide ((m:Int) < 1)=false:=by simp;omega
 have g5:decide ((15:Int) < (m:Int))=false:=by simp;omega
 have g6:decide ((288:Int) < (n:Int))=false:=by simp;omega
 obtain ⟨z,hz⟩:∃z,z=2^m:=⟨_,rfl⟩
 have b0:z≤32768:=by rw [hz];exact Nat.pow_le_pow_right (by decide) hm2
 have HZ:=A5 hz
 have g7:wrap64 ((2:Int)^m)=(z:Int):=by
  rw [Z2,←hz]
  unfold wrap64;omega
 rw [←hz]
 clear hc hS hn c1 a9 hf hv y hz
 have b5:=A5 b3
 clear b3
 go_enter Tryz.func102,Tryz.ntmps102
 go_wp2_with fail
 refine HW.out.mono ?_
 rintro e w' ⟨rfl,rfl⟩
 go_wp2_with fail
 refine HY.out.mono ?_
 rintro e w1 ⟨sv,rfl,hh⟩
 obtain ⟨so,sc,rfl,e1,i7⟩:=U1 hh
 rw [d.out.1] at e1 hh⊢
 have HH:=A5 hh
 clear hh HW HY
 by_cases e0:z < c
 ·have c5:(z:Int) < (c:Int):=by omega
  go_wp2
  go_ret2
  exact .inl ⟨e0,rfl,HH.out.mod⟩
 have c5:¬(z:Int) < (c:Int):=by omega
 have a4:c≤z:=by omega
 obtain ⟨i0,hi,b0,b7,b8⟩:=info_parts V1p
 have c6:(f.map T00).length=n:=by rw [T04];exact d.out.2.2.1.symm
 have t:=A5 c6
 clear c6
 have h3:c=0∨c=1∨2≤c:=by omega
 rcases h3 with h3 | h3 | h3
 ·have a6:Hid (Y46 (f.map T00) m ((T01 n).map fun _=>0)):=by
   have c7:=b5.out
   have y:=b4.out
   refine A5 ⟨by rw [t.out];simp,fun _ i a b ha hb=> ?_,fun h=>by omega⟩
   have o:=(List.getElem?_eq_some_iff.1 ha).1
   rw [T04,T0c] at o
   rw [T03,T06 o] at ha
   simp only [T07,Option.some.injEq] at ha
   by_cases h0:0 < b
   ·have h:=Z5y _ 0 i b hb h0
    have c8:=d.out.1
    rw [h3] at c8
    rw [←d.out.2.1,T0i c8] at h
    simp at h
   rw [if_neg h0];exact ha.symm
  subst h3
  go_wp2_with ((with_reducible show wpList _ _ _ (⟨some 33,_,_,_,_,_⟩::_) _ _);refine wpList_make_own rfl 52 (.tmp 32) (.tmp 32) rfl 3 i0 (.int .i64 0) 1 Tryz.underlying52 hi b0 b7 .i64 n rfl rfl (by rw [b8];omega) (by unfold maxLen;omega) ?_;intro v1 w2 zs p hm1 q a7 r;rw [Z6e _ _ rfl,Y36] at r;subst r;subst a7;have a1:=A5 (HH.out.pushOwn p hm1 q);clear hm1 q p)
  go_ret2
  exact .inr ⟨a4,_,(T01 n).map fun _=>0,_,rfl,a1.out,a6.out,Y6v d.out.2.1 d.out.1 t.out⟩
 ·subst h3
  obtain ⟨⟨a0,s0⟩,a3⟩:∃x,S=[x]:=List.length_eq_one_iff.1 d.out.1
  obtain ⟨s,e6,hs,i8⟩:=d.out.2.2.2 (a0,s0) (by rw [a3];simp)
  have hs:s0=(s:Int):=hs
  subst hs
  have a6:Hid (Y46 (f.map T00) m ((T01 n).map fun j=>if j=s then 1 else 0)):=by
   have c7:=b5.out
   have y:=b4.out
   refine A5 ⟨by rw [t.out];simp,fun _ i a b ha hb=> ?_,fun h=>by omega⟩
   have o:=(List.getElem?_eq_some_iff.1 ha).1
   rw [T04,T0c] at o
   rw [T03,T06 o] at ha
   simp only [T07,Option.some.injEq] at ha
   rw [←ha]
   by_cases h0:0 < b
   ·have h:=Z5y _ 0 i b hb h0
    rw [←d.out.2.1,a3,T0l,Nat.zero_add] at h
    have h2:(i:Int)=(s:Int):=congrArg Prod.snd h
    rw [if_pos h0,if_pos (by omega)]
   have h1:(a0,(s:Int))∈T0 0 (f.map T00):=by rw [←d.out.2.1,a3];simp
   obtain ⟨j,_,e,hj,hp⟩:=Z0n _ 0 _ h1
   have e2:(s:Int)=(j:Int):=e
   have d8:¬i=s:=by
    intro e3
    have:j=i:=by omega
    subst this
    rw [T08,hb] at hj
    simp only [Option.some.injEq] at hj
    omega
   rw [if_neg h0,if_neg d8]
  have g8:(0:Int)≤(s:Int):=T02 _
  have c9:=A5 a3
  obtain ⟨g,i9,cp,hv⟩:=W9q HH.out (by rw [a3];exact Nat.zero_lt_one)
  simp only [Value.slice.injEq] at hv
  obtain ⟨rfl,e7,rfl⟩:=hv
  clear a3 e7
  go_wp2_with ((with_reducible show wpList _ _ _ (⟨some 33,_,_,_,_,_⟩::_) _ _);refine wpList_make_own rfl 52 (.tmp 32) (.tmp 32) rfl 3 i0 (.int .i64 0) 1 Tryz.underlying52 hi b0 b7 .i64 n rfl rfl (by rw [b8];omega) (by unfold maxLen;omega) ?_;intro v1 w2 zs p hm1 q a7 r;rw [Z6e _ _ rfl,Y36] at r;subst r;subst a7;have a1:=A5 (HH.out.pushOwn p hm1 q);clear hm1 q p;have c2:=(a1.out.swap.itemAt (j:=0) (x:=(a0,(s:Int))) (by rw [c9.out];rfl)).2;obtain ⟨c3,f3,h3⟩:=a1.out.numAt e6 1;have HP:=A5 h3;simp only [Nat.zero_mul,T0j] at c2;clear h3)
  go_ret2
  exact .inr ⟨a4,_,_,_,rfl,HP.out,a6.out,Y94 d.out.2.1 c9.out t.out⟩
 have a6:Hid (Y46 (f.map T00) m ((T01 n).map (gS S m))):=by
  have c7:=b5.out
  have y:=b4.out
  have h5:=HZ.out
  refine A5 ⟨by rw [t.out];simp,fun h=>by omega,fun _=> ?_⟩
  rw [d.out.2.1,←t.out]
  exact Y9z _ m hm1 hm2 (by omega) (by omega)
 have f1:¬(c:Int)=1:=by omega
 have f2:((c:Int)==1)=false:=by simp;omega
 have f4:(1:Int) < (c:Int):=by omega
 obtain ⟨k,hk⟩:∃k,k=2*c-2:=⟨_,rfl⟩
 have h6:2*(c:Int)-2=(k:Int):=by omega
 have HK:=A5 hk
 clear hk
 go_wp2_with first
  | ((with_reducible show wpList _ _ _ (⟨some 33,_,_,_,_,_⟩::_) _ _);refine wpList_make_own rfl 52 (.tmp 32) (.tmp 32) rfl 3 i0 (.int .i64 0) 1 Tryz.underlying52 hi b0 b7 .i64 n rfl rfl (by rw [b8];omega) (by unfold maxLen;omega) ?_;intro v1 w2 zs p hm1 q a7 r;rw [Z6e _ _ rfl,Y36] at r;subst r;subst a7;have a1:=A5 (HH.out.pushOwn p hm1 q);clear hm1 q p)
  | fail
 have b1:∀x∈S,x.1≤1048576:=fun x hx=>by
  obtain ⟨_,_,_,h⟩:=d.out.2.2.2 x hx
  exact h
 refine (W74 c m S _ w _ _ a1.out.swap d.out.1 (by omega) (by omega) hm2 b1).mono ?_
 rintro e w3 ⟨B,ms,rfl,d1,b2,hh⟩
 have HR:=V63 c m n B S ms w1.heap.size n (.slice so c sc) w w3 [] hh d1 b2 d.out.1 (by omega) (by omega) hm2 hm1 (by have:=HZ.out;omega) (by omega) (fun x hx=>by
  obtain ⟨s,h1,h2,_⟩:=d.out.2.2.2 x hx
  exact ⟨s,h1,h2⟩)
 rw [←HK.out] at HR
 have d0:=A5 HR
 clear HR hh d1 b2 b1
 go_wp2_with fail
 refine d0.out.mono ?_
 rintro e w4 ⟨rfl,Rs4,hh⟩
 have HF:=A5 hh
 clear hh d0
 go_wp2
 go_ret2
 exact .inr ⟨a4,_,_,_,rfl,HF.out,a6.out,Y69 d.out.2.1 (by rw [d.out.1];exact h3) t.out⟩
theorem Z83 {w0 w:World} {Rs:List A6} (h:A4 w0 w Rs) (v:Value) (n m:Nat) (f:List Int) (hv:Rd w 1 v n (D2 f)) (hn:n=f.length) (hl:n≤288) (hm1:1≤m) (hm2:m≤15) (hf:Z38 f=true) (hc:Z07 f≤2^m):
  Calls Tryz.prog 102 #[v,.int .i64 (m:Int)] w fun e w'=>∃v',e= .returned (.tuple #[v',.int .i64 0])∧A4 w0 w' (B0 3 1 v' n (D3 .i64 (C4 (f.map T00) m))::Rs):=
 (X3p v n m f w hv hn hl hm1 hm2 hf).mono fun e w' h2=>by
  rcases h2 with ⟨h3,_⟩ | ⟨_,v',l,_,he,hh,_,rfl⟩
  ·omega
  exact ⟨v',he,h.pushOwn hh.own hh.mod hh.fresh⟩
theorem W6q (f:List Nat) (m:Nat) (_:f.length≤288) (hm1:1≤m) (hm2:m≤15) (hc:U2 f≤2^m):Y46 f m (C4 f m):=by
 obtain ⟨S,g⟩:∃S,S=T0 0 f:=⟨_,rfl⟩
 have hl:S.length=U2 f:=by rw [g,Z3c]
 have l:S.length=0∨S.length=1∨2≤S.length:=by omega
 rcases l with l | l | l
 ·rw [←Y6v g l rfl]
  refine ⟨by simp,fun _ i a b ha hb=> ?_,fun h=>by omega⟩
  have d:=(List.getElem?_eq_some_iff.1 ha).1
  rw [T04,T0c] at d
  rw [T03,T06 d] at ha
  simp only [T07,Option.some.injEq] at ha
  by_cases n:0 < b
  ·have h:=Z5y _ 0 i b hb n
   rw [←g,T0i l] at h
   simp at h
  rw [if_neg n];exact ha.symm
 ·obtain ⟨⟨q,r⟩,k⟩:∃x,S=[x]:=List.length_eq_one_iff.1 l
  obtain ⟨s,_,o,z,_⟩:=Z0n f 0 (q,r) (by rw [←g,k];simp)
  have o:r=(s:Int):=o
  subst o
  rw [←Y94 g k rfl]
  refine ⟨by simp,fun _ i a b ha hb=> ?_,fun h=>by omega⟩
  have d:=(List.getElem?_eq_some_iff.1 ha).1
  rw [T04,T0c] at d
  rw [T03,T06 d] at ha
  simp only [T07,Option.some.injEq] at ha
  rw [←ha]
  by_cases n:0 < b
  ·have h:=Z5y _ 0 i b hb n
   rw [←g,k] at h
   simp only [T0l] at h
   have h2:((0+i:Nat):Int)=(s:Int):=congrArg Prod.snd h
   rw [if_pos n,if_pos (by omega)]
  have y:(q,(s:Int))∈T0 0 f:=by rw [←g,k];simp
  obtain ⟨j,_,e,t,hp⟩:=Z0n _ 0 _ y
  have e2:(s:Int)=(j:Int):=e
  have p:¬i=s:=by
   intro e3
   have:j=i:=by omega
   subst this
   rw [T08,hb] at t
   simp only [Option.some.injEq] at t
   omega
  rw [if_neg n,if_neg p]
 rw [←Y69 g l rfl]
 refine ⟨by simp,fun h=>by omega,fun _=> ?_⟩
 rw [g]
 exact Y9z _ m hm1 hm2 (by omega) (by omega)
theorem W3e (xs:List Y0) (x:Y0) (k:Nat):Z6w (xs++[x]) k=Z6w xs k+(if x.1=k then 1 else 0):=by
 simp only [Z6w,List.countP_append,T0e,List.countP_nil,decide_eq_true_eq];omega
theorem W8z (xs:List Y0) (x:Y0):(Z13 xs).set x.1 (Z6w xs x.1+1)=Z13 (xs++[x]):=by
 refine Z8r (by simp [Z13]) fun k a=> ?_
 have a:k < 19:=by rw [W4] at a;exact a
 rw [List.getElem?_set,Y1i _ a,Y1i _ a,W3e,W4]
 by_cases c:x.1=k
 ·subst c
  rw [if_pos rfl,if_pos (by omega),if_pos rfl]
 rw [if_neg c,if_neg c,T0j]
def Z73 (xs:List Y0):Nat:=(xs.map fun x=>x.2.1).sum
theorem W3g (xs:List Y0) (x:Y0):Z73 (xs++[x])=Z73 xs+x.2.1:=by simp [Z73]
theorem W1b:∀xs:List Y0,(∀x∈xs,x.2.1≤7)→Z73 xs≤7*xs.length
 | [],_=>Nat.le_refl _
 | x::xs,h=>by
  have h1:=W1b xs fun y hy=>h y (T05 _ hy)
  have h2:=h x (T09 ..)
  simp only [Z73,List.map_cons,List.sum_cons,List.length_cons] at h1⊢
  omega
theorem Z99 (hd:List Int):∀xs:List Y0,(∀x∈xs,x.1 < 19)→(Z5 hd xs).length=Z2l hd (Z6w xs) 19+Z73 xs
 | [],_=>by
  rw [Z61 hd (Z6w []) 19 (fun _ _=>rfl)];rfl
 | x::xs,h=>by
  have ih:=Z99 hd xs fun y hy=>h y (T05 _ hy)
  have e1:Z6w (x::xs)=fun k=>Z6w xs k+(if x.1=k then 1 else 0):=by
   funext k
   simp only [Z6w,T0e,decide_eq_true_eq]
  have a:Z73 (x::xs)=x.2.1+Z73 xs:=by simp [Z73]
  have b:Z5 hd (x::xs)=Y5q hd x++Z5 hd xs:=by simp [Z5]
  rw [b,T0h,Y1q,ih,e1,a,Y0o,Z78 _ _ _ (h x (T09 ..))]
  omega
theorem E0:Q8 C4:=fun f m h1 h2 h3 h4=>W6q f m h1 h2 h3 h4
theorem V42:(Tryz.prog.info? 203).map (·.zero)=some (some (X4 .i64 (Z13 []))):=by kernel_rfl
theorem V0g {A B:List Int}:[A,B].flatten=A++B:=by simp
theorem X6.whole {w:World} {C:Nat} {B:List Value} {T:TypeId} (h:X6 w C B T) (hB:B.length≤maxLen):Rd w 1 (.slice (some ⟨C,0,none⟩) B.length B.length) B.length B:=by
 have a:X6 w C ([]++(B++[])) T:=by simpa using h
 exact a.part hB
theorem Y7g (f:List Nat):(L8 f).map T00=f:=by
 unfold L8
 rw [List.map_map]
 conv=>rhs;rw [←List.map_id f]
 rfl
theorem Z9r {f:List Nat} (h:∀a∈f,a≤1048576):Z38 (L8 f)=true:=(X05 _).2 fun a ha=>by
 obtain ⟨n,hn,rfl⟩:=List.mem_map.1 ha
 have:=h n hn
 exact ⟨T02 _,by omega⟩
theorem Z9i (f:List Nat):Z07 (L8 f)≤f.length:=by
 unfold Z07
 have:=List.countP_le_length (p:=fun a:Int=>decide (0 < a)) (l:=L8 f)
 rwa [K9] at this
theorem Y0m {w:World} {ao:Option Addr} {n cap N:Nat} {l:List Int} (h:Own w 3 1 (.slice ao n cap) n (D2 l)) (hN:N≤n):Own w 3 1 (.slice ao N cap) N (D2 (l.take N)):=by
 have a:=h.cut (L:=0) (H:=N) (Nat.zero_le _) hN
 rw [Z17 _ _ _ _ h.spotless,T08,Nat.zero_mul,List.drop_zero,Nat.mul_one] at a
 rw [show (D2 l).take N=D2 (l.take N) by simp [D2,List.map_take]] at a
 exact a
theorem W5l (y x N b:Nat) (h:b=14+3*N+(x+y)) (hb:b≤100000):IntKind.i64.wrap ((y:Int)+IntKind.i64.wrap (IntKind.i64.wrap (14+IntKind.i64.wrap (3*(N:Int)))+(x:Int)))=(b:Int):=by
 simp only [V08]
 unfold wrap64
 omega
theorem V78 (w:World) (a:Addr) (v:Value):(w.setCell a v).heap.size=w.heap.size:=by simp [World.setCell]
def X70 (n1 n2:Nat) (iv hv:Value) (tv:Value) (bits:Nat):List Value:=[.int .i64 (n1:Int),.int .i64 (n2:Int),iv,hv,tv,.int .i64 (bits:Int)]
theorem Y45 {w:World} (litv dv:Value) (n1 n2:Nat) (lit dist:List Int) (h1:Rd w 1 litv n1 (D2 lit)) (h2:Rd w 1 dv n2 (D2 dist)) (c1:D1 lit 15=0) (c2:D1 dist 15=0) (hl1:257≤n1) (hl2:n1≤286) (hd1:1≤n2) (hd2:n2≤30) (hO:Z3x w):
  Calls Tryz.prog 105 #[litv,dv] w fun e w'=>∃ (B Bt:Nat) (iv hv:Value),e= .returned (.pointer (some ⟨B,0,none⟩))∧
   A4 w w' [E7 B (X70 n1 n2 iv hv (.pointer (some ⟨Bt,0,none⟩)) (Z5r lit dist (Z0 C4 (G4 lit dist)) (G4 lit dist)).length) 201,B0 205 3 iv (G4 lit dist).length (L7 (G4 lit dist)),
    B0 3 1 hv (Z2j (Z0 C4 (G4 lit dist))) (D2 ((V3 (Z0 C4 (G4 lit dist))).take (Z2j (Z0 C4 (G4 lit dist))))),J7 (Z0 C4 (G4 lit dist)) Bt]:=by
 obtain ⟨ao,e9,rfl,_,_⟩:=h1.form
 obtain ⟨bo,b2,rfl,_,_⟩:=h2.form
 have k1:=Z0y (m:=15) c1
 have k2:=Z0y (m:=15) c2
 have d3:n1=lit.length:=by have:=h1.1;rw [L4] at this;omega
 have d4:n2=dist.length:=by have:=h2.1;rw [L4] at this;omega
 have hA:=Y54 k1.2.1 k2.2.1
 have s:(lit++dist).length=n1+n2:=by rw [T0h];omega
 obtain ⟨xs,a5⟩:∃xs,xs=G4 lit dist:=⟨_,rfl⟩
 rw [←a5]
 obtain ⟨hd,c5⟩:∃hd,hd=Z0 C4 xs:=⟨_,rfl⟩
 rw [←c5]
 obtain ⟨N,hN⟩:∃N,N=Z2j hd:=⟨_,rfl⟩
 rw [←hN]
 obtain ⟨K,hK⟩:∃K,K=V3 hd:=⟨_,rfl⟩
 rw [←hK]
 obtain ⟨b,hb⟩:∃b,b=(Z5r lit dist hd xs).length:=⟨_,rfl⟩
 rw [←hb]
 obtain ⟨m,hm⟩:∃m,m=xs.length:=⟨_,rfl⟩
 rw [←hm]
 have d:=A5 (And.intro a5 (And.intro c5 (And.intro hN (And.intro hK (And.intro hb hm)))))
 clear a5 c5 hN hK hb hm
 have HP:=((A4.start w).newObj [.int .i64 (n1:Int),.int .i64 (n2:Int),.slice none 0 0,.slice none 0 0,.pointer none,.int .i64 0] 201).lit 52 1 [.slice ao n1 e9,.slice bo n2 b2] 2 (by decide) rfl
 rw [W26] at HP
 have b3:=A5 (Y3s [.slice ao n1 e9,.slice bo n2 b2] [lit,dist] _ 2 _ HP.own.rd rfl rfl (fun i v l hv hl=>by
  match i,hv,hl with
  | 0,hv,hl=>simp at hv hl;subst hv;subst hl;rw [←d3];exact HP.old h1
  | 1,hv,hl=>simp at hv hl;subst hv;subst hl;rw [←d4];exact HP.old h2
  | i+2,hv,hl=>simp at hv) (by rw [V0g,s];omega) (by rw [V0g,s];omega) (by decide))
 rw [V0g,s] at b3
 have g4:=A5 HP.drop
 have HA:=A5 (And.intro hA (And.intro s hO))
 have i4:(0:Int)≤(n1:Int):=T02 _
 have i5:(0:Int)≤(n2:Int):=T02 _
 clear HP h1 h2 c1 c2 k1 k2 hA s hO d3 d4
 go_enter Tryz.func105,Tryz.ntmps105
 go_wp2_with fail
 refine b3.out.mono ?_
 rintro e w1 ⟨v1,rfl,o⟩
 have H1:=A5 (g4.out.frame o)
 have b0:Rd w1 1 v1 (n1+n2) (D2 (lit++dist)):=o.own.rd
 have b4:=A5 (X4k v1 (n1+n2) (lit++dist) w1 b0 (by omega) HA.out.1)
 have d7:U8 (lit++dist) (n1+n2) 0=xs:=by
  have h:=d.out.1
  rw [G4,HA.out.2.1] at h
  exact h.symm
 rw [d7,←d.out.2.2.2.2.2] at b4
 clear o b0 b3 d7
 go_wp2_with fail
 refine b4.out.mono ?_
 rintro e w2 ⟨iv,rfl,o⟩
 obtain ⟨io,q,rfl,_,_⟩:=o.own.form
 have h2:A4 w w2 (E7 w.heap.size [.int .i64 (n1:Int),.int .i64 (n2:Int),.slice none 0 0,.slice none 0 0,.pointer none,.int .i64 0] 201::[B0 205 3 (.slice io m q) m (L7 xs)]):=(H1.out.frame o).third.two
 have f2:=h2.obj.frozen 2
 have k2:=h2.obj.cell (i:=2) rfl
 have H3:=A5 (h2.setObj 2 (.slice io m q))
 clear h2 o b4 H1
 go_wp2_with first
  | ((with_reducible show wpList _ _ _ (⟨some 6,_,_,_,_,_⟩::_) _ _);refine K3 rfl 203 rfl .i64 (Z13 []) V42 ?_;have h4:=H3.out.newObj (D3 .i64 (Z13 [])) 203;rw [V78] at h4;have c2:=h4.drop.obj.cell (i:=2) rfl;have H4:=A5 h4;clear h4)
  | fail
 have a2:Hid (∀x∈xs,x.1 < 19∧x.2.1≤7∧x.2.2 < 2^x.2.1):=by
  rw [d.out.1]
  exact A5 (Z4b HA.out.1 _ 0)
 have j6:m≤316:=by
  have h:=Z30 (all:=lit++dist) (lit++dist).length 0
  have h2:=d.out.2.2.2.2.2
  have h3:=HA.out.2.1
  rw [d.out.1] at h2
  unfold G4 at h2
  omega
 have j7:(0:Int)≤(m:Int):=T02 _
 clear c2
 go_loopg [30] (m+1) (fun k t30 wr=>∃i:Nat,i≤m∧m-i < k∧t30= .int .i64 (i:Int)∧Hid (A4 w wr (E7 w2.heap.size (D3 .i64 (Z13 (xs.take i))) 203::E7 w.heap.size [.int .i64 (n1:Int),.int .i64 (n2:Int),.slice io m q,.slice none 0 0,.pointer none,.int .i64 ((Z73 (xs.take i):Nat):Int)] 201::[B0 205 3 (.slice io m q) m (L7 xs)])))
 case atStart=>exact ⟨0,by omega,by omega,rfl,H4⟩
 case round=>
  obtain ⟨i,hi,hk,rfl,HH⟩:=hrel
  have j8:(0:Int)≤(i:Int):=T02 _
  by_cases l5:i < m
  ·have g6:(i:Int) < (m:Int):=by omega
   obtain ⟨⟨p,ex,va⟩,ht⟩:∃t,xs[i]?=some t:=⟨xs[i]'(by have:=d.out.2.2.2.2.2;omega),T0b _⟩
   obtain ⟨g,a9,rfl,c0,c1,c2⟩:=HH.out.third.own.rd.item ht
   have a3:=a2.out _ (T0f ht)
   simp only at a3
   have d8:xs.take (i+1)=xs.take i++[(p,ex,va)]:=by rw [List.take_add_one,ht];rfl
   have f:=W8z (xs.take i) (p,ex,va)
   have j:=W3g (xs.take i) (p,ex,va)
   rw [←d8] at f j
   simp only at f j
   have n:Z6w (xs.take i) p≤316:=T0d (X2s _ _) (by simp;omega)
   have g7:Z73 (xs.take i)≤7*316:=by
    have h:=W1b (xs.take i) fun x hx=>(a2.out x (List.mem_of_mem_take hx)).2.1
    have h2:(xs.take i).length≤i:=by simp;omega
    omega
   have hg:=Y1i (xs.take i) a3.1
   obtain ⟨x,hx⟩:∃x,x=Z6w (xs.take i) p:=⟨_,rfl⟩
   obtain ⟨y,hy⟩:∃y,y=Z73 (xs.take i):=⟨_,rfl⟩
   rw [←hx] at f n hg
   rw [←hy] at j g7
   have r:=HH.out.newObj [.int .i64 (p:Int),.int .i64 (ex:Int),.int .i64 (va:Int)] 205
   rw [←hy] at r
   have HS:=A5 (And.intro f j)
   have H5:=A5 r
   have t0:=r.obj.cell (i:=0) rfl
   have t1:=r.obj.cell (i:=1) rfl
   have k1:=r.swap.obj.cell (i:=p) (v:= .int .i64 (x:Int)) (by simp [D3,hg])
   have f1:=r.swap.obj.frozen p
   have k7:(p:Int) < 19:=by omega
   have k8:(0:Int)≤(p:Int):=T02 _
   have k9:ex≤7:=a3.2.1
   clear r f j hx hy hg d8 ht a3
   go_wp2
   have h6:=H5.out.swap.setObj p (.int .i64 ((x:Int)+1))
   generalize (wr.alloc (.cells #[.int .i64 (p:Int),.int .i64 (ex:Int),.int .i64 (va:Int)] 205)).setCell ⟨w2.heap.size,p,none⟩ (.int .i64 ((x:Int)+1))=w5 at h6⊢
   have u1:=h6.swap.obj.cell (i:=1) rfl
   have k5:=h6.third.obj.cell (i:=5) rfl
   have f5:=h6.third.obj.frozen 5
   have H6:=A5 h6
   clear h6 t0 t1 k1 f1 H5
   go_still_tail 9,(by kernel_rfl)
   change wpList _ _ _ _ _ (World.drew _)
   have h7:=H6.out.third.drew.setObj 5 (.int .i64 ((y:Int)+(ex:Int)))
   have H7:Hid (A4 w (w5.drew.setCell ⟨w.heap.size,5,none⟩ (.int .i64 ((y:Int)+(ex:Int)))) (E7 w2.heap.size (D3 .i64 (Z13 (xs.take (i+1)))) 203::E7 w.heap.size [.int .i64 (n1:Int),.int .i64 (n2:Int),.slice (some ⟨g,a9,none⟩) m q,.slice none 0 0,.pointer none,.int .i64 ((Z73 (xs.take (i+1)):Nat):Int)] 201::[B0 205 3 (.slice (some ⟨g,a9,none⟩) m q) m (L7 xs)])):=by
    have z:A4 w _ (E7 w.heap.size [.int .i64 (n1:Int),.int .i64 (n2:Int),.slice (some ⟨g,a9,none⟩) m q,.slice none 0 0,.pointer none,.int .i64 ((y+ex:Nat):Int)] 201::E7 w2.heap.size ((D3 .i64 (Z13 (xs.take i))).set p (.int .i64 ((x+1:Nat):Int))) 203::_::[B0 205 3 (.slice (some ⟨g,a9,none⟩) m q) m (L7 xs)]):=h7
    rw [Y4,HS.out.1,←HS.out.2] at z
    exact A5 z.mid.swap.drop.swap
   clear h7 H6
   go_wp2
   go_roundg (gk-1)
   case measure=>omega
   case rel=>exact ⟨i+1,by omega,by omega,by go_num,H7⟩
  have g6:¬(i:Int) < (m:Int):=by omega
  have e2:xs.take i=xs:=List.take_of_length_le (by have:=d.out.2.2.2.2.2;omega)
  rw [e2] at HH
  have hF:=HH.out.obj.whole (by simp [D3,Z13];decide)
  have n:(D3 .i64 (Z13 xs)).length=19:=by simp [D3,Z13]
  rw [n,Z2o] at hF
  have e3:∀a∈Z13 xs,a≤1048576:=fun a ha=>by
   obtain ⟨k,_,rfl⟩:=List.mem_map.1 ha
   have h1:=X2s xs k
   have h2:=d.out.2.2.2.2.2
   omega
  have b6:=A5 (Z83 HH.out (.slice (some ⟨w2.heap.size,0,none⟩) 19 19) 19 7 (L8 (Z13 xs)) hF (by rw [K9,W4]) (by omega) (by omega) (by omega) (Z9r e3) (T0d (Z9i _) (by rw [W4];decide)))
  rw [Y7g,Z2o,show L8 (C4 (Z13 xs) 7)=hd from d.out.2.1.symm,show ((7:Nat):Int)=7 from rfl] at b6
  clear hF n e3 e2
  go_wp2_with fail
  with_reducible refine b6.out.mono ?_
  rintro e w3 ⟨lv,rfl,h3⟩
  obtain ⟨la,lc,rfl,_,_⟩:=h3.own.form
  have H3:=A5 h3
  have e4:D1 hd 7=0:=by rw [d.out.2.1];exact Z4v E0 xs
  have b7:=A5 (Z44 (.slice la 19 lc) 19 hd 7 w3 h3.own.rd (by omega))
  rw [e4] at b7
  clear h3 b6 e4
  go_wp2_with fail
  with_reducible refine b7.out.mono ?_
  rintro e w4 (⟨h0,_⟩ | ⟨_,Bt,rfl,o⟩)
  ·exact absurd rfl h0
  have h4:A4 w w4 (E7 w.heap.size [.int .i64 (n1:Int),.int .i64 (n2:Int),.slice io m q,.slice none 0 0,.pointer none,.int .i64 ((Z73 xs:Nat):Int)] 201::J7 hd Bt::B0 3 1 (.slice la 19 lc) 19 (D2 hd)::E7 w2.heap.size (D3 .i64 (Z13 xs)) 203::[B0 205 3 (.slice io m q) m (L7 xs)]):=(H3.out.frame o).fourth
  have f4:=h4.obj.frozen 4
  have k4:=h4.obj.cell (i:=4) rfl
  have r:=h4.setObj 4 (.pointer (some ⟨Bt,0,none⟩))
  have H5:=A5 r
  have b8:=A5 (X5e (.slice la 19 lc) hd _ r.third.own.rd (HA.out.2.2.kept r.mod))
  rw [←d.out.2.2.2.1] at b8
  clear h4 r o b7 H3
  go_wp2_with fail
  with_reducible refine b8.out.mono ?_
  rintro e w5 ⟨oa,oc,rfl,o⟩
  have H6:=A5 (H5.out.frame o)
  have b9:=A5 (Y17 oa 19 oc 4 K w5 o.own.rd (by omega) (by omega) o.own.spotless)
  rw [d.out.2.2.2.1,show Z14 (V3 hd) 4 19=N from d.out.2.2.1.symm,show ((4:Nat):Int)=4 from rfl] at b9
  have e5:N≤19:=by rw [d.out.2.2.1];exact Z3t _
  clear o b8 H5
  go_wp2_with fail
  with_reducible refine b9.out.mono ?_
  rintro e w6 ⟨rfl,d6,rfl⟩
  have h7:A4 w (w5.drewN d6) (E7 w.heap.size [.int .i64 (n1:Int),.int .i64 (n2:Int),.slice io m q,.slice none 0 0,.pointer (some ⟨Bt,0,none⟩),.int .i64 ((Z73 xs:Nat):Int)] 201::B0 3 1 (.slice oa N oc) N (D2 (K.take N))::J7 hd Bt::B0 3 1 (.slice la 19 lc) 19 (D2 hd)::E7 w2.heap.size (D3 .i64 (Z13 xs)) 203::[B0 205 3 (.slice io m q) m (L7 xs)]):=by
   have h:A4 w (w5.drewN d6) (B0 3 1 (.slice oa 19 oc) 19 (D2 K)::_::_):=H6.out.drewN d6
   exact (h.recut (Y0m h.own e5) (by cases oa <;> rfl)).swap
  generalize w5.drewN d6=w7 at h7⊢
  have f3:=h7.obj.frozen 3
  have k3:=h7.obj.cell (i:=3) rfl
  have z:=h7.setObj 3 (.slice oa N oc)
  have H8:=A5 z
  clear h7 b9 H6
  go_wp2_with fail
  generalize w7.setCell ⟨w.heap.size,3,none⟩ (.slice oa N oc)=w8 at z H8⊢
  have j3:=z.obj.cell (i:=3) rfl
  have j5:=z.obj.cell (i:=5) rfl
  have g5:=z.obj.frozen 5
  have hF:=z.drop.drop.drop.drop.obj.whole (by simp [D3,Z13];decide)
  have n:(D3 .i64 (Z13 xs)).length=19:=by simp [D3,Z13]
  rw [n,Z2o] at hF
  have e6:=z.drop.drop.drop.own.rd
  have c3:hd.length=19:=by rw [d.out.2.1];exact Y3g E0 xs
  have c4:(L8 (Z13 xs)).length=19:=by rw [K9,W4]
  have e7:Z3m hd (L8 (Z13 xs)) (min hd.length (L8 (Z13 xs)).length)=Z2l hd (Z6w xs) 19:=by
   have h:=Y31 (l:=hd) (g:=Z6w xs) (N:=19) (fun a ha=>by
    rw [d.out.2.1] at ha
    have:=Z5s E0 xs a ha
    omega) (fun k _=>by have h1:=X2s xs k;have h2:=d.out.2.2.2.2.2;omega)
   unfold L8 Z13
   exact h
  have HC:=A5 (fun k=>Y6h (.slice la hd.length lc) (.slice (some ⟨w2.heap.size,0,none⟩) (L8 (Z13 xs)).length 19) hd (L8 (Z13 xs)) (w8.drewN k) (by rw [c3];exact e6.drewTo rfl) (by rw [c4];exact hF.drewTo rfl) (by omega))
  rw [e7,c3,c4] at HC
  have a4:b=14+3*N+(Z2l hd (Z6w xs) 19+Z73 xs):=by
   have h1:=Z3v lit dist hd xs
   rw [Z99 hd xs (fun x hx=>(a2.out x hx).1),←d.out.2.2.1,←d.out.2.2.2.2.1] at h1
   exact h1
  have e8:b≤100000:=by
   have h1:=Z3v lit dist hd xs
   have h2:=Z2c (hd:=hd) (by rw [d.out.2.1];exact Z5s E0 xs) (xs:=xs) (fun x hx=>(a2.out x hx).2.1)
   rw [←d.out.2.2.1,←d.out.2.2.2.2.1] at h1
   have h3:=d.out.2.2.2.2.2
   omega
  obtain ⟨x,hx⟩:∃x,x=Z2l hd (Z6w xs) 19:=⟨_,rfl⟩
  obtain ⟨y,hy⟩:∃y,y=Z73 xs:=⟨_,rfl⟩
  rw [←hx] at a4 HC
  rw [←hy] at a4 j5
  have HB:=A5 (W5l y x N b a4 e8)
  have a5:x≤100000:=by omega
  have l3:y≤100000:=by omega
  clear hF n e6 c3 c4 e7 a4 e8 hx hy z
  go_region_law ((first
   | (go_simp;go_at_call 129;refine (HC.out _).mono ?_;rintro e w9 ⟨rfl,d9,rfl⟩)))
  all_goals
   rw [HB.out]
   have H9:=A5 ((H8.out.drewN (1+d9)).setObj 5 (.int .i64 (b:Int)))
   go_wp2
   go_ret
   exact ⟨w.heap.size,Bt,.slice io m q,.slice oa N oc,rfl,H9.out.fourth.drop.fourth.drop.mid2⟩
theorem A4.pre {w0 w:World} {A B C D E F:A6} {Rs:List A6} (h:A4 w0 w (A::B::C::D::E::F::Rs)):A4 w0 w [A,B,C,D,E,F]:=by
 obtain ⟨a,b,d,f,g,i,j,k,l,m,n,o,p,q,s,t,x,y,r⟩:=h
 exact ⟨a,b,d,f,g,i,j,k,l,m,n,o,p,q,s,t,x,y,N4.mod r⟩
section
variable {w:World}
theorem X2k (lo:Option Addr) (ln lc:Nat) (l:List E1) (hv:Rd w 3 (.slice lo ln lc) ln (I5 l)) (hl:l.length < 1048576) (hs:∀t∈l,E8 t=true) (hb:N9 l):
  Calls Tryz.prog 87 #[.slice lo ln lc] w fun e w'=>∃B1 B2,e= .returned (Z3k (.slice lo ln lc) B1 B2 (P7 I0 G7 l).length)∧A4 w w' [J7 I0 B1,J7 G7 B2]:=by
 have p:=(A4.start w).newObj [.slice none 0 0,.pointer none,.pointer none,.int .i64 0] 148
 have q:=A5 (Y6p p)
 have d:=hv.toks_len
 have b:=A5 (And.intro hv (And.intro hl (And.intro hs hb)))
 have k:ln < 1048576:=by omega
 clear p hv hl hs hb d
 go_enter Tryz.func87,Tryz.ntmps87
 go_wp2_with fail
 with_reducible refine q.out.mono ?_
 rintro e z ⟨ao,n,bo,g,rfl,o⟩
 have r:=A5 o
 have s:=A5 (Y97 (.slice lo ln lc) ln l z (o.old b.out.1) k b.out.2.2.1 b.out.2.2.2)
 clear o q
 go_wp2_with fail
 with_reducible refine s.out.mono ?_
 rintro e w2 ⟨C,rfl,j⟩
 have f:=r.out.frame j
 have x:=A5 f
 have m:=A5 (Z6d lo ln lc (.slice ao 288 n) (.slice bo 32 g) l 288 32 C I0 G7 f.obj f.drop.own.rd f.drop.drop.own.rd Z12.1 Z12.2 b.out.2.1 b.out.2.2.1 b.out.2.2.2)
 unfold Z3k at m
 clear f j s r
 go_wp2_with fail
 with_reducible refine m.out.mono ?_
 rintro e w3 ⟨B1,B2,rfl,j⟩
 have a:A4 w w3 (E7 w.heap.size [.slice none 0 0,.pointer none,.pointer none,.int .i64 0] 148::J7 I0 B1::J7 G7 B2::_):=(x.out.frame j).perm (T0a (l₁:=[_,_,_,_,_]) (l₂:=[_]))
 have f0:=a.obj.frozen 0
 have f1:=a.obj.frozen 1
 have f2:=a.obj.frozen 2
 have f3:=a.obj.frozen 3
 have k0:=a.obj.cell (i:=0) rfl
 have k1:=a.obj.cell (i:=1) rfl
 have k2:=a.obj.cell (i:=2) rfl
 have k3:=a.obj.cell (i:=3) rfl
 have y:=A5 ((((a.setObj 0 (.slice lo ln lc)).setObj 1 (.pointer (some ⟨B1,0,none⟩))).setObj 2 (.pointer (some ⟨B2,0,none⟩))).setObj 3 (.int .i64 ((P7 I0 G7 l).length:Int)))
 clear a j x m
 go_wp2
 try simp only [Exit.inBlock,Exit.then]
 refine Z8j rfl _ 4 Tryz.underlying148 rfl (by kernel_rfl) w.heap.size [.slice lo ln lc,.pointer (some ⟨B1,0,none⟩),.pointer (some ⟨B2,0,none⟩),.int .i64 ((P7 I0 G7 l).length:Int)] 148 rfl rfl y.out.obj rfl ?_
 exact ⟨B1,B2,rfl,y.out.drop.two⟩
abbrev W5a:List Value:=[.pointer none,.slice none 0 0,.pointer none,.pointer none,.int .i64 0]
def Z9p (Bh:Nat) (lv:Value) (B1 B2 bits:Nat):Value:= .agg #[.pointer (some ⟨Bh,0,none⟩),lv,.pointer (some ⟨B1,0,none⟩),.pointer (some ⟨B2,0,none⟩),.int .i64 (bits:Int)]
def Y48 (l:List E1) (Bh Bt B1 B2:Nat) (iv hv:Value):List A6:=
 [J7 (K1 C4 l) B1,J7 (K2 C4 l) B2,
 E7 Bh (X70 (K1 C4 l).length (K2 C4 l).length iv hv (.pointer (some ⟨Bt,0,none⟩)) (Z5r (K1 C4 l) (K2 C4 l) (Z0 C4 (G4 (K1 C4 l) (K2 C4 l))) (G4 (K1 C4 l) (K2 C4 l))).length) 201,
 B0 205 3 iv (G4 (K1 C4 l) (K2 C4 l)).length (L7 (G4 (K1 C4 l) (K2 C4 l))),
 B0 3 1 hv (Z2j (Z0 C4 (G4 (K1 C4 l) (K2 C4 l)))) (D2 ((V3 (Z0 C4 (G4 (K1 C4 l) (K2 C4 l)))).take (Z2j (Z0 C4 (G4 (K1 C4 l) (K2 C4 l)))))),
 J7 (Z0 C4 (G4 (K1 C4 l) (K2 C4 l))) Bt]
theorem Y73 (lo:Option Addr) (ln lc0:Nat) (l:List E1) (hv:Rd w 3 (.slice lo ln lc0) ln (I5 l)) (hO:Z3x w) (hl:l.length < 1048576) (hs:∀t∈l,E8 t=true) (hb:N9 l):
  Calls Tryz.prog 88 #[.slice lo ln lc0] w fun e w'=>∃Bh Bt B1 B2 iv hv,e= .returned (Z9p Bh (.slice lo ln lc0) B1 B2 (P7 (K1 C4 l) (K2 C4 l) l).length)∧A4 w w' (Y48 l Bh Bt B1 B2 iv hv):=by
 have HA:=(A4.start w).newObj W5a 152
 have c6:=hv.toks_len
 have HC:=A5 (Y97 (.slice lo ln lc0) ln l _ (hv.kept HA.mod (fun _ _ h=>h)) (by omega) hs hb)
 have c7:=A5 HA
 obtain ⟨L0,a1⟩:∃L0,L0=L8 (C4 (Z1j l) 15):=⟨_,rfl⟩
 obtain ⟨x,a2⟩:∃x,x=L8 (C4 (Z0o l) 15):=⟨_,rfl⟩
 obtain ⟨y,a3⟩:∃y,y=Y8z x:=⟨_,rfl⟩
 have g1:=X64 E0 l
 have g2:=Z7s E0 l
 have g3:=X73 E0 l
 rw [←a1] at g1
 rw [←a2] at g2 g3
 rw [←a3] at g3
 have gl:=Y5b E0 l
 have gd:=Y53 E0 l
 obtain ⟨f,c2⟩:∃f,f=(K1 C4 l).length:=⟨_,rfl⟩
 obtain ⟨j,c3⟩:∃j,j=(K2 C4 l).length:=⟨_,rfl⟩
 have e1:f=Z14 L0 257 286:=by rw [c2,K1,←a1,Z37,g1]
 have e2:j=Z14 y 1 30:=by rw [c3,K2,←a2,←a3,Z37,g3]
 have HN:Hid (f=Z14 L0 257 286∧j=Z14 y 1 30∧f≤286∧j≤30):=A5 ⟨e1,e2,by omega,by omega⟩
 have b0:Hid (y.take j=K2 C4 l∧L0.take f=K1 C4 l):=A5 ⟨by rw [K2,←a2,←a3,Z6y,g3,e2],by rw [K1,←a1,Z6y,g1,e1]⟩
 have HB:Hid (257≤f∧f≤286∧1≤j∧j≤30):=A5 ⟨by omega,by omega,by omega,by omega⟩
 have HV:=A5 (And.intro hv (And.intro hO (And.intro hl (And.intro hs hb))))
 unfold Y48
 rw [←c2,←c3]
 have HQ:=A5 (And.intro a1 (And.intro a2 (And.intro a3 (And.intro g1 (And.intro g2 g3)))))
 clear HA hv hO hl hs hb c6 a1 a2 a3 g1 g2 g3 gl gd c2 c3 e1 e2
 unfold Z9p
 go_enter Tryz.func88,Tryz.ntmps88
 go_wp2_with fail
 with_reducible refine HC.out.mono ?_
 rintro e w1 ⟨C,rfl,p⟩
 have h1:=c7.out.frame p
 have H1:=A5 h1
 have b6:=A5 (Z83 h1 (.slice (some ⟨C,0,none⟩) 286 286) 286 15 (L8 (Z1j l)) (W1q h1.obj) (by rw [K9,N3]) (by omega) (by omega) (by omega) (Z9r (V3y HV.out.2.2.1)) (T0d (Z9i _) (by rw [N3];decide)))
 rw [Y7g,Z2o,←HQ.out.1,show ((15:Nat):Int)=15 from rfl] at b6
 clear h1 p HC c7
 go_wp2_with fail
 with_reducible refine b6.out.mono ?_
 rintro e w2 ⟨lv,rfl,h2⟩
 obtain ⟨la,lc,rfl,_,_⟩:=h2.own.form
 have b7:=A5 (Z83 h2 (.slice (some ⟨C,286,none⟩) 30 30) 30 15 (L8 (Z0o l)) (W20 h2.swap.obj) (by rw [K9,N5]) (by omega) (by omega) (by omega) (Z9r (V3g HV.out.2.2.1)) (T0d (Z9i _) (by rw [N5];decide)))
 rw [Y7g,Z2o,←HQ.out.2.1,show ((15:Nat):Int)=15 from rfl] at b7
 clear h2 b6 H1
 go_wp2_with fail
 with_reducible refine b7.out.mono ?_
 rintro e w3 ⟨dv,rfl,h3⟩
 obtain ⟨da,dc,rfl,_,_⟩:=h3.own.form
 have b8:=A5 (W22 (.slice da x.length dc) x w3 (by rw [HQ.out.2.2.2.2.1];exact h3.own.rd) (by rw [HQ.out.2.2.2.2.1];decide))
 rw [HQ.out.2.2.2.2.1] at b8
 have H3:=A5 h3.mid
 clear h3 b7
 go_wp2_with fail
 with_reducible refine b8.out.mono ?_
 rintro e w4 ⟨rfl,hm⟩
 have H4:Hid (A4 w w4 (B0 3 1 (.slice da 30 dc) 30 (D2 x)::E7 C (D3 .i64 (Z4s l)) 172::B0 3 1 (.slice la 286 lc) 286 (D2 L0)::[E7 w.heap.size W5a 152])):=A5 (H3.out.same hm)
 clear hm b8 H3
 obtain ⟨su,f6⟩:∃su,su=F0 x:=⟨_,rfl⟩
 rw [←f6]
 by_cases h0:su=0
 ·have e7:((su:Int)==0)=true:=by simp [h0]
  have hF:y=x.set 0 1:=by rw [HQ.out.2.2.1,Y8z,if_pos (by omega)]
  obtain ⟨g,r,rfl,a5,d7,b5⟩:=H4.out.own.site (by omega)
  obtain ⟨z,hz⟩:∃z,x[0]?=some z:=⟨x[0]'(by have:=HQ.out.2.2.2.2.1;omega),T0b _⟩
  have c0:=a5 0 _ (by rw [G5,hz];rfl)
  have f0:=d7 0
  have s:=H4.out.putOwn (b5 0 (.int .i64 1) (by omega)) (E2.set w4 g (r+0) _)
  rw [show (D2 x).set 0 (.int .i64 1)=D2 y by rw [hF];simp [D2,List.map_set]] at s
  rw [T0j] at c0 f0 s
  have H5:=A5 s
  clear a5 d7 b5 hz s hF HQ H4
  go_wp2_with fail
  generalize w4.setCell ⟨g,r,none⟩ (.int .i64 1)=w5 at H5⊢
  have n:=H5.out
  have b:=A5 (Y17 la 286 lc 257 L0 w5 (n.third.own.rd) (by omega) (by omega) n.third.own.spotless)
  rw [show Z14 L0 257 286=f from HN.out.1.symm,show ((257:Nat):Int)=257 from rfl] at b
  with_reducible refine b.out.mono ?_
  rintro e wa ⟨rfl,d1,rfl⟩
  have k:=A5 (n.drewN d1)
  have d:=A5 (Y17 (some ⟨g,r,none⟩) 30 dc 1 y (w5.drewN d1) k.out.own.rd (by omega) (by omega) k.out.own.spotless)
  rw [show Z14 y 1 30=j from HN.out.2.1.symm,show ((1:Nat):Int)=1 from rfl] at d
  go_wp2_with fail
  with_reducible refine d.out.mono ?_
  rintro e wa ⟨rfl,d2,rfl⟩
  have s:=k.out.drewN d2
  have q:A4 w ((w5.drewN d1).drewN d2) (B0 3 1 (.slice la f lc) f (D2 (K1 C4 l))::B0 3 1 (.slice (some ⟨g,r,none⟩) j dc) j (D2 (K2 C4 l))::E7 C (D3 .i64 (Z4s l)) 172::[E7 w.heap.size W5a 152]):=by
   have h:=s.recut (Y0m s.own HN.out.2.2.2) rfl
   have m:=h.third.recut (Y0m h.third.own HN.out.2.2.1) (by cases la <;> rfl)
   rw [b0.out.1,b0.out.2] at m
   exact m
  generalize (w5.drewN d1).drewN d2=wb at q⊢
  have a0:=A5 (Y45 (.slice la f lc) (.slice (some ⟨g,r,none⟩) j dc) f j (K1 C4 l) (K2 C4 l) q.own.rd q.swap.own.rd (Z2v E0 l) (Z2u E0 l) HB.out.1 HB.out.2.1 HB.out.2.2.1 HB.out.2.2.2 (HV.out.2.1.kept q.mod))
  have H6:=A5 q
  clear s q k b d
  go_wp2_with fail
  with_reducible refine a0.out.mono ?_
  rintro e wc ⟨Bh,Bt,iv,hv,rfl,p⟩
  have m:=H6.out.frame p
  have H7:=A5 m
  have o:=A5 (Z6d lo ln lc0 (.slice la f lc) (.slice (some ⟨g,r,none⟩) j dc) l f j C (K1 C4 l) (K2 C4 l) m.drop.drop.drop.drop.drop.drop.obj m.drop.drop.drop.drop.own.rd m.drop.drop.drop.drop.drop.own.rd (Z2v E0 l) (Z2u E0 l) HV.out.2.2.1 HV.out.2.2.2.1 HV.out.2.2.2.2)
  unfold Z3k at o
  clear m p a0 H6
  go_wp2_with fail
  with_reducible refine o.out.mono ?_
  rintro e wd ⟨B1,B2,rfl,p⟩
  have a:A4 w wd (E7 w.heap.size W5a 152::_):=(H7.out.frame p).perm (T0a (l₁:=[_,_,_,_,_,_,_,_,_]) (l₂:=[_]))
  have f0:=a.obj.frozen 0
  have f1:=a.obj.frozen 1
  have f2:=a.obj.frozen 2
  have f3:=a.obj.frozen 3
  have f4:=a.obj.frozen 4
  have k0:=a.obj.cell (i:=0) rfl
  have k1:=a.obj.cell (i:=1) rfl
  have k2:=a.obj.cell (i:=2) rfl
  have k3:=a.obj.cell (i:=3) rfl
  have k4:=a.obj.cell (i:=4) rfl
  have H9:=A5 (((((a.setObj 0 (.pointer (some ⟨Bh,0,none⟩))).setObj 1 (.slice lo ln lc0)).setObj 2 (.pointer (some ⟨B1,0,none⟩))).setObj 3 (.pointer (some ⟨B2,0,none⟩))).setObj 4 (.int .i64 ((P7 (K1 C4 l) (K2 C4 l) l).length:Int)))
  clear a p H7 o
  go_wp2
  try simp only [Exit.inBlock,Exit.then]
  refine Z8j rfl _ 5 Tryz.underlying152 rfl (by kernel_rfl) w.heap.size [.pointer (some ⟨Bh,0,none⟩),.slice lo ln lc0,.pointer (some ⟨B1,0,none⟩),.pointer (some ⟨B2,0,none⟩),.int .i64 ((P7 (K1 C4 l) (K2 C4 l) l).length:Int)] 152 rfl rfl H9.out.obj rfl ?_
  exact ⟨Bh,Bt,B1,B2,iv,hv,rfl,H9.out.drop.pre⟩
 have e7:((su:Int)==0)=false:=by simp;omega
 have hF:y=x:=by rw [HQ.out.2.2.1,Y8z,if_neg (by omega)]
 rw [←hF] at H4
 have n:=H4.out
 clear hF HQ
 have b:=A5 (Y17 la 286 lc 257 L0 w4 (n.third.own.rd) (by omega) (by omega) n.third.own.spotless)
 rw [show Z14 L0 257 286=f from HN.out.1.symm,show ((257:Nat):Int)=257 from rfl] at b
 go_wp2_with fail
 with_reducible refine b.out.mono ?_
 rintro e wa ⟨rfl,d1,rfl⟩
 have k:=A5 (n.drewN d1)
 have d:=A5 (Y17 da 30 dc 1 y (w4.drewN d1) k.out.own.rd (by omega) (by omega) k.out.own.spotless)
 rw [show Z14 y 1 30=j from HN.out.2.1.symm,show ((1:Nat):Int)=1 from rfl] at d
 go_wp2_with fail
 with_reducible refine d.out.mono ?_
 rintro e wa ⟨rfl,d2,rfl⟩
 have s:=k.out.drewN d2
 have q:A4 w ((w4.drewN d1).drewN d2) (B0 3 1 (.slice la f lc) f (D2 (K1 C4 l))::B0 3 1 (.slice da j dc) j (D2 (K2 C4 l))::E7 C (D3 .i64 (Z4s l)) 172::[E7 w.heap.size W5a 152]):=by
  have h:=s.recut (Y0m s.own HN.out.2.2.2) (by cases da <;> rfl)
  have m:=h.third.recut (Y0m h.third.own HN.out.2.2.1) (by cases la <;> rfl)
  rw [b0.out.1,b0.out.2] at m
  exact m
 generalize (w4.drewN d1).drewN d2=wb at q⊢
 have a0:=A5 (Y45 (.slice la f lc) (.slice da j dc) f j (K1 C4 l) (K2 C4 l) q.own.rd q.swap.own.rd (Z2v E0 l) (Z2u E0 l) HB.out.1 HB.out.2.1 HB.out.2.2.1 HB.out.2.2.2 (HV.out.2.1.kept q.mod))
 have H6:=A5 q
 clear s q k b d
 go_wp2_with fail
 with_reducible refine a0.out.mono ?_
 rintro e wc ⟨Bh,Bt,iv,hv,rfl,p⟩
 have m:=H6.out.frame p
 have H7:=A5 m
 have o:=A5 (Z6d lo ln lc0 (.slice la f lc) (.slice da j dc) l f j C (K1 C4 l) (K2 C4 l) m.drop.drop.drop.drop.drop.drop.obj m.drop.drop.drop.drop.own.rd m.drop.drop.drop.drop.drop.own.rd (Z2v E0 l) (Z2u E0 l) HV.out.2.2.1 HV.out.2.2.2.1 HV.out.2.2.2.2)
 unfold Z3k at o
 clear m p a0 H6
 go_wp2_with fail
 with_reducible refine o.out.mono ?_
 rintro e wd ⟨B1,B2,rfl,p⟩
 have a:A4 w wd (E7 w.heap.size W5a 152::_):=(H7.out.frame p).perm (T0a (l₁:=[_,_,_,_,_,_,_,_,_]) (l₂:=[_]))
 have f0:=a.obj.frozen 0
 have f1:=a.obj.frozen 1
 have f2:=a.obj.frozen 2
 have f3:=a.obj.frozen 3
 have f4:=a.obj.frozen 4
 have k0:=a.obj.cell (i:=0) rfl
 have k1:=a.obj.cell (i:=1) rfl
 have k2:=a.obj.cell (i:=2) rfl
 have k3:=a.obj.cell (i:=3) rfl
 have k4:=a.obj.cell (i:=4) rfl
 have H9:=A5 (((((a.setObj 0 (.pointer (some ⟨Bh,0,none⟩))).setObj 1 (.slice lo ln lc0)).setObj 2 (.pointer (some ⟨B1,0,none⟩))).setObj 3 (.pointer (some ⟨B2,0,none⟩))).setObj 4 (.int .i64 ((P7 (K1 C4 l) (K2 C4 l) l).length:Int)))
 clear a p H7 o
 go_wp2
 try simp only [Exit.inBlock,Exit.then]
 refine Z8j rfl _ 5 Tryz.underlying152 rfl (by kernel_rfl) w.heap.size [.pointer (some ⟨Bh,0,none⟩),.slice lo ln lc0,.pointer (some ⟨B1,0,none⟩),.pointer (some ⟨B2,0,none⟩),.int .i64 ((P7 (K1 C4 l) (K2 C4 l) l).length:Int)] 152 rfl rfl H9.out.obj rfl ?_
 exact ⟨Bh,Bt,B1,B2,iv,hv,rfl,H9.out.drop.pre⟩
end
end Go.Proofs.YtbkbkmgogbgofaaGreatDoor
