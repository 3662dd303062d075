/- The claim's texts, put together and shortened by a program (names, spaces). -/
import Derived.Test.YtbkbkmgogbgofaaGreatDoorZt24
import Derived.Test.YtbkbkmgogbgofaaGreatDoorProg
import Derived.Test.YtbkbkmgogbgofaaGreatDoorZt03
import Derived.StillTailTactics
import Derived.RangeFuncNested
import Derived.RangeFuncCalls
import Derived.RangeFuncLeaves
import Derived.Shelf.Abstract
import Derived.OwnWalkIn
import Derived.TacticsInMore
import Derived.LoopNIn
import Derived.LoopIn
import Derived.Test.YtbkbkmgogbgofaaGreatDoorZt22
open List renaming take_succ_cons→T00,replicate→T03,mem_cons_of_mem→T06,mem_cons_self→T07,length_cons→T08,append_assoc→T09,take_append_drop→T0b,getElem?_eq_getElem→T0c,length_take→T0d,replicate_succ→T0i,getElem?_append_right→T0j,length_append→T0l,eq_nil_of_length_eq_zero→T0o,perm_cons_erase→T0p
open Nat renaming add_mul→T01,mul_assoc→T02,mul_comm→T04,le_refl→T05,sub_zero→T0a,one_mul→T0e,pow_add→T0f,sub_self→T0h,zero_add→T0k,two_pow_pos→T0m,zero_le→T0n
open Int renaming natCast_nonneg→T0g
namespace Go.Proofs.YtbkbkmgogbgofaaGreatDoor
set_option maxRecDepth 100000
set_option maxHeartbeats 6400000
open Go.RowKit
def Z3x (w:World):Prop:=∀i v,(D3 .i64 M2)[i]?=some v→w.cell? ⟨2,i,none⟩=some v
theorem Z3x.kept {w w':World} (h:Z3x w) (hm:E2 w w' (fun _=>False)):Z3x w':=fun i v hv=>by
 have hc:=h i v hv
 rw [hm.cell (World.block_lt_of_cell? w _ hc) (fun h=>h)];exact hc
section
variable {P:Program} {w:World}
theorem Y1s (g:Nat) (ty:TypeId) (cs:List Value) (d:TypeDesc) (hc:∀j u,cs[j]?=some u→w.cell? ⟨g,j,none⟩=some u)
  (hu:P.underlying ty=some d) (hd:(match d with | .struct _ | .array _ _=>true | _=>false)=true) (hi:(P.info? ty).map (·.size)=some cs.length):
  (loadVar ty ⟨g,0,none⟩).run P w= .ok (.agg cs.toArray) w:=by
 have f:(loadCells ⟨g,0,none⟩ cs.length).run P w= .ok cs.toArray w:=
  run_loadCells_list (P:=P) w ⟨g,0,none⟩ cs (fun j v hv=>by
   have a:(⟨g,0,none⟩:Addr).add j=⟨g,j,none⟩:=by unfold Addr.add;split <;> simp_all
   rw [a]
   exact hc j v hv)
 cases hq:P.info? ty with
 | none=>simp [hq] at hi
 | some i=>
  have k:i.size=cs.length:=by simpa [hq] using hi
  have b:(isAgg ty).run P w= .ok true w:=by
   unfold isAgg
   rw [Sem.run_bind,run_underlying hu w]
   cases d <;> simp_all
  simp [loadVar,typeInfo,hq,k,f,b,sizeOf]
theorem Y28 {ops:Array Oper} {rest:List Oper} {o:Oper} {ac:Act} {Q:Exit→Act→World→Prop} (hgd:o.guard=none) (t:TypeId) (x:Operand) (ho:o.op= .load t x)
  (g:Nat) (cs:List Value) (d:TypeDesc) (hx:ac.eval x= .pointer (some ⟨g,0,none⟩)) (hc:∀j u,cs[j]?=some u→w.cell? ⟨g,j,none⟩=some u)
  (hu:P.underlying t=some d) (hd:(match d with | .struct _ | .array _ _=>true | _=>false)=true) (hi:(P.info? t).map (·.size)=some cs.length)
  (h:wpList P ops Q rest (ac.put o.dst (.agg cs.toArray)) w):wpList P ops Q (o::rest) ac w:=
 wpList_plain hgd fun K hK=>by
  have hr:=Y1s (P:=P) (w:=w) g t cs d hc hu hd hi
  unfold Oper.wp execOp
  simp only [ho,hx,Instr.loadAt,Instr.sureAddr,Sem.run_bind,Sem.run_pure,Result.andThen_ok,hr]
  exact hK _ _ h
end
theorem W8f:(Tryz.prog.info? 3).map (fun i=>(i.zero,i.size,i.bytes))=some (some (Value.int .i64 0),1,8):=by kernel_rfl
theorem W36:(Tryz.prog.info? 3).map (·.size)=some 1:=by kernel_rfl
theorem X5e (v:Value) (hd:List Int) (w:World) (hv:Rd w 1 v 19 (D2 hd)) (hO:Z3x w):
  Calls Tryz.prog 139 #[v] w fun e w'=>∃ao cap,e= .returned (.slice ao 19 cap)∧A4 w w' [B0 3 1 (.slice ao 19 cap) 19 (D2 (V3 hd))]:=by
 obtain ⟨i0,hi,a8,a9,b0⟩:=info_parts W8f
 obtain ⟨ao,cap,rfl,_,_⟩:=hv.form
 have m:hd.length=19:=by have:=hv.1;rw [L4] at this;omega
 have HV:=A5 (And.intro hv (And.intro m hO))
 clear hv m hO
 go_enter Tryz.func139,Tryz.ntmps139
 go_wp2_with first
  | ((with_reducible show wpList _ _ _ (⟨some 6,_,_,_,_,_⟩::_) _ _);refine wpList_make_own rfl 52 (.const (.int .i64 19)) (.const (.int .i64 19)) rfl 3 i0 (.int .i64 0) 1 Tryz.underlying52 hi a8 a9 .i64 19 rfl rfl (by rw [b0];omega) (by unfold maxLen;omega) ?_;intro v1 w2 zs q l r a7 s;rw [Z7g _ _ rfl] at s;subst s;subst a7;have H1:=A5 ((A4.start w).pushOwn q l r);have n:=A5 (HV.out.2.2.kept l);clear l r q)
  | ((with_reducible show wpList _ _ _ (⟨some 7,_,_,_,_,_⟩::_) _ _);refine Y28 rfl 203 (.global 2) rfl 2 (D3 .i64 M2) _ rfl n.out Tryz.underlying203 rfl (by kernel_rfl) ?_)
  | fail
 have H2:Hid (A4 w w2 [B0 3 1 (.slice (some ⟨w.heap.size,0,none⟩) 19 19) 19 (D2 ((V3 hd).take 0++T03 (19-0) 0))]):=by
  have h:=H1.out
  rw [show T03 19 (Value.int .i64 0)=D2 ((V3 hd).take 0++T03 (19-0) 0) by simp [D2]] at h
  exact A5 h
 clear H1 n
 go_loopg [8] 20 (fun k t8 wr=>∃i:Nat,i≤19∧19-i < k∧t8= .int .i64 (i:Int)∧Hid (A4 w wr [B0 3 1 (.slice (some ⟨w.heap.size,0,none⟩) 19 19) 19 (D2 ((V3 hd).take i++T03 (19-i) 0))]))
 case atStart=>exact ⟨0,by omega,by omega,rfl,H2⟩
 case round=>
  obtain ⟨i,d0,hk,rfl,HH⟩:=hrel
  have b5:(0:Int)≤(i:Int):=T0g _
  by_cases a:i < 19
  rotate_left
  ·have a4:¬(i:Int) < 19:=by omega
   have hE:Hid (A4 w wr [B0 3 1 (.slice (some ⟨w.heap.size,0,none⟩) 19 19) 19 (D2 (V3 hd))]):=by
    have h:=HH.out
    rw [List.take_of_length_le (by rw [Z6m];omega),show 19-i=0 by omega,List.replicate_zero,List.append_nil] at h
    exact A5 h
   go_wp2
   go_ret
   exact ⟨_,_,rfl,hE.out⟩
  have a4:(i:Int) < 19:=by omega
  have o:M2[i]?=some (F7 i):=by
   unfold F7
   have:i < M2.length:=a
   rw [T0c this];rfl
  have a5:=Z4o i a
  obtain ⟨x,hx⟩:∃x,hd[F7 i]?=some x:=⟨hd[F7 i]'(by have:=HV.out.2.1;omega),T0c _⟩
  have d:(D2 ((V3 hd).take i++T03 (19-i) 0)).set i (.int .i64 x)=D2 ((V3 hd).take (i+1)++T03 (19- (i+1)) 0):=by
   have h1:(V3 hd)[i]?=some x:=by rw [Z8s hd a,hx];rfl
   have hl:((V3 hd).take i).length=i:=by rw [T0d,Z6m];omega
   have h2:(D2 ((V3 hd).take i++T03 (19-i) 0)).set i (.int .i64 x)=D2 (((V3 hd).take i++T03 (19-i) 0).set i x):=by simp [D2,List.map_set]
   rw [h2,List.set_append_right _ _ (by omega),hl,T0h,List.take_add_one,h1,show 19-i=(19- (i+1))+1 by omega,T0i]
   simp
  obtain ⟨g,d1,rfl,b⟩:=(HH.out.old HV.out.1).spot (by omega)
  have c1:=b (F7 i) _ (by rw [G5,hx];rfl)
  obtain ⟨g2,b3,t,y,z,f⟩:=HH.out.own.site (by omega)
  simp only [Option.some.injEq,Addr.mk.injEq,and_true] at t
  obtain ⟨rfl,rfl⟩:=t
  have f1:=z i
  have p:(D2 ((V3 hd).take i++T03 (19-i) 0))[i]?=some (.int .i64 0):=by
   have hl:((V3 hd).take i).length=i:=by rw [T0d,Z6m];omega
   rw [G5,T0j (by omega),hl,T0h,List.getElem?_replicate,if_pos (by omega)];rfl
  have h5:=HH.out.putOwn (f i (.int .i64 x) a) (E2.set wr w.heap.size (0+i) _)
  rw [d] at h5
  obtain ⟨ob,j⟩:∃ob,ob=F7 i:=⟨_,rfl⟩
  rw [←j] at o a5 c1
  have c0:(ob:Int) < 19:=by omega
  have c3:(0:Int)≤(ob:Int):=T0g _
  have c2:=y i _ p
  rw [T0k] at c2 f1 h5
  have H5:=A5 h5
  clear b f z p y d hx h5 j
  go_wp2_with ((with_reducible show wpList _ _ _ (⟨some 11,_,_,_,_,_⟩::_) _ _);refine Z60 rfl 203 (.tmp 7) (.tmp 8) rfl 3 19 _ Tryz.underlying203 Tryz.underlying3 rfl W36 .i64 M2 .i64 i ob rfl rfl a o ?_)
  go_roundg (gk-1)
  case measure=>omega
  case rel=>exact ⟨i+1,by omega,by omega,by go_num,H5⟩
theorem X7b (a:Int) (w:World):
  Calls Tryz.prog 160 #[.int .i64 a] w fun e w'=>e= .returned (.int .i64 ((Z0t a:Nat):Int))∧w=w':=by
 have d:a < 0∨0≤a∧1048576 < a∨0≤a∧a≤1048576:=by omega
 rcases d with h | ⟨h,h2⟩ | ⟨h,h2⟩
 ·have b:Hid (Z0t a=0):=by unfold Hid Z0t;rw [if_neg (by omega)]
  go_enter Tryz.func160,Tryz.ntmps160
  go_wp2
  go_ret
  exact ⟨by rw [b.out];rfl,rfl⟩
 ·have b:Hid (Z0t a=0):=by unfold Hid Z0t;rw [if_neg (by omega)]
  go_enter Tryz.func160,Tryz.ntmps160
  go_wp2
  go_ret
  exact ⟨by rw [b.out];rfl,rfl⟩
 have b:Hid ((Z0t a:Int)=a):=by unfold Hid Z0t;rw [if_pos ⟨h,h2⟩];omega
 have f:¬1048576 < a:=by omega
 go_enter Tryz.func160,Tryz.ntmps160
 go_wp2
 go_ret
 exact ⟨by rw [b.out];rfl,rfl⟩
theorem Y8o (a:Int) (w:World):
  Calls Tryz.prog 160 #[.int .i64 a] w fun e w'=>e= .returned (.int .i64 ((Z0t a:Nat):Int))∧w'=w:=
 (X7b a w).mono fun _ _ ⟨h1,h2⟩=>⟨h1,h2.symm⟩
theorem Y6h (v u:Value) (l f:List Int) (w:World) (hv:Rd w 1 v l.length (D2 l)) (hu:Rd w 1 u f.length (D2 f)) (hl:l.length < 1000000):
  Calls Tryz.prog 129 #[v,u] w fun e w'=>e= .returned (.int .i64 ((Z3m l f (min l.length f.length):Nat):Int))∧∃c,w'=w.drewN c:=by
 obtain ⟨ao,c0,rfl,_,_⟩:=hv.form
 obtain ⟨bo,a6,rfl,_,_⟩:=hu.form
 obtain ⟨n,hn⟩:∃n,n=l.length:=⟨_,rfl⟩
 obtain ⟨m,hm⟩:∃m,m=f.length:=⟨_,rfl⟩
 obtain ⟨q,y⟩:∃q,q=min l.length f.length:=⟨_,rfl⟩
 rw [←y]
 rw [←hn] at hv hl y⊢
 rw [←hm] at hu y⊢
 have HN:=A5 hn
 have HM:=A5 hm
 have b0:q≤n:=by omega
 have b1:q≤m:=by omega
 have o:((m:Int) < (n:Int)∧Hid ((m:Int)=(q:Int)))∨(¬(m:Int) < (n:Int)∧Hid ((n:Int)=(q:Int))):=by unfold Hid;omega
 clear hn hm y
 rcases o with ⟨o,HQ⟩ | ⟨o,HQ⟩
 all_goals
  go_enter Tryz.func129,Tryz.ntmps129
  go_wp2
  rw [HQ.out]
  go_loopg [5,12] (q+1) (fun k t5 t12 wr=>∃ (i s c:Nat),i≤q∧q-i < k∧t12= .int .i64 (i:Int)∧t5= .int .i64 (s:Int)∧Hid (s=Z3m l f i)∧s≤1099511627776*i∧Hid (wr=w.drewN c))
  case atStart=>exact ⟨0,0,0,by omega,by omega,rfl,rfl,rfl,by omega,rfl⟩
  case round=>
   obtain ⟨i,s,c,hi,hk,rfl,rfl,HS,hs,HW⟩:=hrel
   obtain rfl:=HW.out
   by_cases b9:i < q
   rotate_left
   ·have a0:¬(i:Int) < (q:Int):=by omega
    obtain rfl:i=q:=by omega
    go_wp2
    go_ret
    exact ⟨Z8t (by rw [HS.out]),_,rfl⟩
   obtain ⟨g,a4,rfl,j⟩:=hv.spot (by omega)
   obtain ⟨g2,x,rfl,d⟩:=hu.spot (by omega)
   obtain ⟨a,p⟩:∃a,l[i]?=some a:=⟨l[i]'(by have:=HN.out;omega),T0c _⟩
   obtain ⟨b,r⟩:∃b,f[i]?=some b:=⟨f[i]'(by have:=HM.out;omega),T0c _⟩
   have b2:w.cell? ⟨g,a4+i,none⟩=some (.int .i64 a):=j i _ (by rw [G5,p];rfl)
   have b3:w.cell? ⟨g2,x+i,none⟩=some (.int .i64 b):=d i _ (by rw [G5,r];rfl)
   have b4:(0:Int)≤(i:Int):=T0g _
   have a0:(i:Int) < (q:Int):=by omega
   have b5:(i:Int) < (n:Int):=by omega
   have b6:(i:Int) < (m:Int):=by omega
   have t:Hid (Z3m l f (i+1)=Z3m l f i+Z0t a*Z0t b):=by unfold Hid;rw [Z3m,W18 p,W18 r]
   have a1:=V48 a b
   obtain ⟨z,hz⟩:∃z,z=Z0t a*Z0t b:=⟨_,rfl⟩
   rw [←hz] at a1 t
   have b7:IntKind.i64.wrap ((Z0t a:Int)*(Z0t b:Int))=(z:Int):=by
    rw [show ((Z0t a:Int)*(Z0t b:Int))=((z:Nat):Int) by rw [hz];simp]
    exact Z2b z (by omega)
   have b8:IntKind.i64.wrap ((s:Int)+(z:Int))=((s:Int)+(z:Int)):=by
    have:=Z2b (s+z) (by omega)
    simpa using this
   clear j d p r hz
   go_wp2
   go_quiet ((go_at_call 160;exact (Y8o _ _).mono fun _ _ h=>⟨h.1,_,h.2⟩))
   go_wp2
   go_roundg (gk-1)
   case measure=>omega
   case rel=>exact ⟨i+1,s+z,_,by omega,by omega,by go_num,by go_num,by unfold Hid;rw [t.out,←HS.out],by omega,rfl⟩
theorem X6.part {w:World} {C:Nat} {A B D:List Value} {T:TypeId} (h:X6 w C (A++(B++D)) T) (hB:B.length≤maxLen):Rd w 1 (.slice (some ⟨C,A.length,none⟩) B.length B.length) B.length B:=
 ⟨by simp,_,_,rfl,T05 _,hB,by simp,.inr ⟨C,A.length,rfl,fun j u hu=>h.cell (by
  have hj:=(List.getElem?_eq_some_iff.1 hu).1
  rw [T0j (by omega),Nat.add_sub_cancel_left,List.getElem?_append_left hj];exact hu)⟩⟩
theorem Z8j {P:Program} {w:World} {fn:Func} {p:Tmp} {t:TypeId} (hf:fn.results=#[.cell p t]) {R:Ending→World→Prop} {a:Act}
  (d:TypeDesc) (n:Nat) (ht:P.underlying t=some d) (hd:Z5q d=true) (hi:(P.info? t).map (·.size)=some n)
  (B:Nat) (cs:List Value) (T:TypeId) (hp:a.tmps.getD p undef= .pointer (some ⟨B,0,none⟩)) (hl:cs.length=n) (hB:X6 w B cs T)
  (hdf:a.defers=[]) (h:R (.returned (.agg cs.toArray)) w):bodyPost P fn R .ret a w:=
 bodyPost_ret (v:= .agg cs.toArray) (results_cell_row hf a.tmps w B T cs.toArray (0,0) d hp hB ht (by cases d <;> simp_all [Z5q]) (by rw [hi];simp [hl])) hdf h
theorem Z2o (l:List Nat):D3 .i64 l=D2 (L8 l):=by simp [D3,D2,L8]
section
variable {w:World} {C:Nat} {l:List E1} {T:TypeId}
theorem W1q (h:X6 w C (D3 .i64 (Z4s l)) T):Rd w 1 (.slice (some ⟨C,0,none⟩) 286 286) 286 (D2 (L8 (Z1j l))):=by
 have e:D3 .i64 (Z4s l)=[]++(D2 (L8 (Z1j l))++D3 .i64 (Z0o l++[Z5a l])):=by
  rw [←Z2o];simp [Z4s,D3]
 rw [e] at h
 have a:=h.part (by simp [D2,L8,Z1j];decide)
 have b:(D2 (L8 (Z1j l))).length=286:=by rw [L4,K9,N3]
 rw [b] at a
 exact a
theorem W20 (h:X6 w C (D3 .i64 (Z4s l)) T):Rd w 1 (.slice (some ⟨C,286,none⟩) 30 30) 30 (D2 (L8 (Z0o l))):=by
 have e:D3 .i64 (Z4s l)=D3 .i64 (Z1j l)++(D2 (L8 (Z0o l))++D3 .i64 [Z5a l]):=by
  rw [←Z2o];simp [Z4s,D3]
 rw [e] at h
 have a:=h.part (by simp [D2,L8,Z0o];decide)
 have b:(D2 (L8 (Z0o l))).length=30:=by rw [L4,K9,N5]
 have d:(D3 .i64 (Z1j l)).length=286:=by simp [D3,N3]
 rw [b,d] at a
 exact a
theorem V2q (h:X6 w C (D3 .i64 (Z4s l)) T):w.cell? ⟨C,316,none⟩=some (.int .i64 (Z5a l:Int)):=h.cell (by
 have e:D3 .i64 (Z4s l)=(D3 .i64 (Z1j l)++D3 .i64 (Z0o l))++D3 .i64 [Z5a l]:=by simp [Z4s,D3]
 have h4:(D3 .i64 (Z1j l)++D3 .i64 (Z0o l)).length=316:=by simp [D3,N3,N5]
 rw [e,T0j (by omega),h4];rfl)
theorem W0w:∀L:List E1,(∀t∈L,E8 t=true)→Z5a L≤18*L.length
 | [],_=>T05 _
 | t::L,h=>by
  have h1:=W0w L fun s hs=>h s (T06 _ hs)
  have h2:=X36 (h t (T07 ..))
  simp only [Z5a,List.map_cons,List.sum_cons,T08] at h1⊢
  omega
theorem Z6d (lo:Option Addr) (ln lc:Nat) (litv dv:Value) (l:List E1) (n1 n2 C:Nat) (lit dist:List Int) (hC:X6 w C (D3 .i64 (Z4s l)) 172) (h1:Rd w 1 litv n1 (D2 lit)) (h2:Rd w 1 dv n2 (D2 dist)) (c1:D1 lit 15=0) (c2:D1 dist 15=0) (hl:l.length < 1048576) (hs:∀t∈l,E8 t=true) (hb:N9 l):
  Calls Tryz.prog 100 #[.slice lo ln lc,.pointer (some ⟨C,0,none⟩),litv,dv] w fun e w'=>∃B1 B2,e= .returned (Z3k (.slice lo ln lc) B1 B2 (P7 lit dist l).length)∧A4 w w' [J7 lit B1,J7 dist B2]:=by
 have r:=Z0y (m:=15) c1
 have s:=Z0y (m:=15) c2
 have a5:n1=lit.length:=by have:=h1.1;rw [L4] at this;omega
 have a6:n2=dist.length:=by have:=h2.1;rw [L4] at this;omega
 have a:=Y1g (lit:=lit) (dist:=dist) hs hb
 have a7:=Z3e (lit:=lit) (dist:=dist) r.2.1 s.2.1 hs
 have he:=W0w l hs
 subst a5
 subst a6
 have e1:Z3m lit (L8 (Z1j l)) (min lit.length (L8 (Z1j l)).length)=Z2l lit (Z5v l) 286:=by
  have h:=Y31 (l:=lit) (g:=Z5v l) (N:=286) r.2.1 fun k _=>Nat.le_trans (W2u l k) (by omega)
  unfold L8 Z1j
  exact h
 have e2:Z3m dist (L8 (Z0o l)) (min dist.length (L8 (Z0o l)).length)=Z2l dist (Z5z l) 30:=by
  have h:=Y31 (l:=dist) (g:=Z5z l) (N:=30) s.2.1 fun k _=>Nat.le_trans (X3o l k) (by omega)
  unfold L8 Z0o
  exact h
 obtain ⟨x,hx⟩:∃x,x=Z2l lit (Z5v l) 286:=⟨_,rfl⟩
 obtain ⟨y,hy⟩:∃y,y=Z2l dist (Z5z l) 30:=⟨_,rfl⟩
 obtain ⟨u,hu⟩:∃u,u=Z5a l:=⟨_,rfl⟩
 rw [←hx,←hy,←hu] at a
 rw [←hx] at e1
 rw [←hy] at e2
 obtain ⟨ao,a2,rfl,_,_⟩:=h1.form
 obtain ⟨bo,f,rfl,_,_⟩:=h2.form
 have HA:=(A4.start w).newObj [.slice none 0 0,.pointer none,.pointer none,.int .i64 0] 148
 have j:=A5 (Z44 (.slice ao lit.length a2) lit.length lit 15 _ (h1.kept HA.mod (fun _ _ h=>h)) (by omega))
 rw [c1] at j
 have z:=A5 HA
 have HR:=A5 (And.intro h1 (And.intro h2 hC))
 have HE:=A5 (And.intro e1 e2)
 have HK:=A5 (And.intro c2 (And.intro r.1 s.1))
 have c5:x < 100000000:=by omega
 have c6:y < 100000000:=by omega
 have c7:u < 100000000:=by omega
 have b1:=A5 a
 have HU:=A5 hu
 clear HA h1 h2 hC e1 e2 r s c1 c2 hx hy hu hs hb a a7 he
 go_enter Tryz.func100,Tryz.ntmps100
 go_wp2_with fail
 refine j.out.mono ?_
 rintro e w1 (⟨h0,_⟩ | ⟨_,B1,rfl,hh⟩)
 ·exact absurd rfl h0
 have H1:=A5 (z.out.frame hh)
 have n:=A5 (Z44 (.slice bo dist.length f) dist.length dist 15 _ (HR.out.2.1.kept H1.out.mod (fun _ _ h=>h)) (by have:=HK.out.2.2;omega))
 rw [HK.out.1] at n
 clear hh j z
 go_wp2_with fail
 refine n.out.mono ?_
 rintro e q (⟨h0,_⟩ | ⟨_,B2,rfl,hh⟩)
 ·exact absurd rfl h0
 have H2:=A5 (H1.out.frame hh)
 have d:=HR.out.2.2.kept H2.out.mod (fun h=>h)
 have kx:=V2q d
 rw [←HU.out] at kx
 have o:=A5 (fun k=>Y6h (.slice ao lit.length a2) (.slice (some ⟨C,0,none⟩) (L8 (Z1j l)).length 286) lit (L8 (Z1j l)) (q.drewN k) ((HR.out.1.kept H2.out.mod (fun _ _ h=>h)).drewTo rfl) ((by have h:=W1q d;rw [K9,N3];exact h:Rd q 1 (.slice (some ⟨C,0,none⟩) (L8 (Z1j l)).length 286) (L8 (Z1j l)).length (D2 (L8 (Z1j l)))).drewTo rfl) (by have:=HK.out.2.1;omega))
 have p:=A5 (fun k=>Y6h (.slice bo dist.length f) (.slice (some ⟨C,286,none⟩) (L8 (Z0o l)).length 30) dist (L8 (Z0o l)) (q.drewN k) ((HR.out.2.1.kept H2.out.mod (fun _ _ h=>h)).drewTo rfl) ((by have h:=W20 d;rw [K9,N5];exact h:Rd q 1 (.slice (some ⟨C,286,none⟩) (L8 (Z0o l)).length 30) (L8 (Z0o l)).length (D2 (L8 (Z0o l)))).drewTo rfl) (by have:=HK.out.2.2;omega))
 rw [HE.out.1,show (L8 (Z1j l)).length=286 by rw [K9,N3]] at o
 rw [HE.out.2,show (L8 (Z0o l)).length=30 by rw [K9,N5]] at p
 clear hh n H1 d
 go_wp2_with fail
 go_quiet ((go_at_call 129;first | ((with_reducible show Calls _ _ #[.slice ao _ _,_] _ _);exact (o.out _).mono fun _ _ h=>⟨h.1,_,h.2.choose_spec.trans (Z25 _ _ _)⟩) | exact (p.out _).mono fun _ _ h=>⟨h.1,_,h.2.choose_spec.trans (Z25 _ _ _)⟩))
 have b:A4 w (q.drewN nq) (E7 w.heap.size [.slice none 0 0,.pointer none,.pointer none,.int .i64 0] 148::[J7 dist B2,J7 lit B1]):=(H2.out.drewN nq).third
 generalize q.drewN nq=w3 at b⊢
 have f0:=b.obj.frozen 0
 have f1:=b.obj.frozen 1
 have f2:=b.obj.frozen 2
 have f3:=b.obj.frozen 3
 have k0:=b.obj.cell (i:=0) rfl
 have r:=b.obj.cell (i:=1) rfl
 have s:=b.obj.cell (i:=2) rfl
 have k3:=b.obj.cell (i:=3) rfl
 have H5:=A5 ((((b.setObj 0 (.slice lo ln lc)).setObj 1 (.pointer (some ⟨B1,0,none⟩))).setObj 2 (.pointer (some ⟨B2,0,none⟩))).setObj 3 (.int .i64 ((x:Int)+(y:Int)+(u:Int))))
 clear b H2 o p kx
 go_wp2
 try simp only [Exit.inBlock,Exit.then]
 refine Z8j rfl _ 4 Tryz.underlying148 rfl (by kernel_rfl) w.heap.size [.slice lo ln lc,.pointer (some ⟨B1,0,none⟩),.pointer (some ⟨B2,0,none⟩),.int .i64 ((x:Int)+(y:Int)+(u:Int))] 148 rfl rfl H5.out.obj rfl ?_
 refine ⟨B1,B2, ?_,H5.out.drop.swap⟩
 rw [b1.out];rfl
end
def W6y (B:Nat) (W:World) (R:World→Prop):Exit→Act→World→Prop
 | .normal,_,W'=>KeepsFrom B W W'∧R W'
 | _,_,_=>False
theorem X23 {F:Fence} {n:Nat} {P:Program} {g:Operand} {ps:Array Tmp} {assign body:Code} {Q:Exit→Act→World→Prop} {a:Act} {w:World}
  (hro:F.round=none) (h1:1≤n) {gf:Nat} {lb:Array Value} (hg:a.eval g= .func (.func gf) #[] lb) (hFg:F.fn gf) (eg:∀args w,(callFunc gf args).run P w= .ok (.enter gf args) w)
  (N:Nat) (args:Nat→Array Value) (hps:∀k,(args k).size=ps.size) (I:Nat→World→Prop) (hI:∀k W W',I k W→Below w.heap.size W W'→I k W') (h0:I 0 w)
  (hit:∀ (l:Nat) (J:Nat→World→Prop) (W:World),(∀k W,J k W→I k W)→(∀k W,k < N→J k W→YieldAt F (n-1-1) P l (args k) W fun e W'=>e= .returned (.bool true)∧J (k+1) W')→J 0 W→
   CallsIn F (n-1) P gf (#[.func (.yield l) #[] #[]]++lb) W fun e W'=>(∃v,e= .returned v)∧J N W')
  (a₁:Nat→Act)
  (hassign:∀ (l k:Nat) (W:World) (K:Act→World→Prop),K (a₁ k) W→
   assign.wpIn (F.inRound l) (n-1-1) P (Exit.then K (fun _ _ _=>False)) {tmps:=(ps.zip (args k)).foldl (fun t (p,v)=>t.setIfInBounds p v) a.tmps,defers:=[]} W)
  (hbody:∀ (l k:Nat) (W:World),k < N→I k W→w.heap.size≤W.heap.size→body.wpIn (F.inRound l) (n-1-1) P (W6y w.heap.size W (I (k+1))) (a₁ k) W)
  (hdone:∀ (D:Nat) (W:World),w.heap.size≤D→I N W→W.heap[D]?=some (.deferred (some []))→Q .normal {a with defers:={target:= .collected D,args:=#[]}::a.defers} W):
  (Code.rangeFunc g ps assign body).wpIn F n P Q a w:=by
 refine wpIn_rangeFunc fun fn hfn=> ?_
 obtain ⟨f,d⟩:∃f:LoopState→Loop,f=fun s=>{state:=s,pending:=none,fn,tmps:=a.tmps,params:=ps,assign,body,defers:=w.heap.size}:=⟨_,rfl⟩
 obtain ⟨b,hb⟩:∃b,b=w.heap.size:=⟨_,rfl⟩
 have a1:(w.alloc (.deferred (some []))).heap.size=b+1:=by rw [hb];simp
 obtain ⟨V,hV⟩:∃V,V=(w.alloc (.deferred (some []))).alloc (.loop (f .ready)):=⟨_,rfl⟩
 have a2:V.heap[b]?=some (.deferred (some [])):=by
  rw [hV,Below.heap_alloc _ _ _ (by omega),hb];exact World.alloc_heap_new w _
 have a4:V.heap[b+1]?=some (.loop (f .ready)):=by
  have:=World.alloc_heap_new (w.alloc (.deferred (some []))) (.loop (f .ready))
  rw [a1] at this;rw [hV];exact this
 have a5:I 0 V:=hI 0 w V h0 (by
  rw [hV]
  exact ((Below.refl _ w).alloc (T05 _) _).alloc (by simp) _)
 have far:∀ (W:World) (o:Obj),b+1 < W.heap.size→Below w.heap.size W (W.putObj (b+1) o):=fun W o h=>
  ⟨rfl,rfl,rfl,by simp,fun j hj=>World.putObj_heap_other (by omega)⟩
 refine ⟨b+1,[{target:= .collected b,args:=#[]}],V,{target:= .fn (.func gf) lb,args:=#[.func (.yield (b+1)) #[] #[]]},V,gf,#[.func (.yield (b+1)) #[] #[]]++lb,V, ?_, ?_, ?_, ?_,fun _=>h1, ?_⟩
 ·rw [hro,hV,d,hb];exact run_enterLoop_outer _ _ _ _ _
 ·simp only [resolve,hg]
  simp [go_sem]
 ·intro f' y
  simp [Target.leads] at y
  rw [←y];exact hFg
 ·simp [invoke,go_sem,eg]
 refine (hit (b+1) (fun k W=>I k W∧W.heap[b+1]?=some (.loop (f .ready))∧W.heap[b]?=some (.deferred (some []))) V (fun k W h=>h.1) ?_ ⟨a5,a4,a2⟩).mono ?_
 ·rintro k W hk ⟨hi,q,hd⟩
  have i:b+1 < W.heap.size:=(Array.getElem?_eq_some_iff.1 q).1
  have hy:=run_yield (P:=P) (args:=args k) q (by rw [d];exact hps k)
  rw [d] at hy
  have a6:=run_beginRound (P:=P) q (by rw [d])
  refine ⟨fn,_,assign,body,hy,roundIn_of_wpIn hfn (hassign _ k W _ ⟨_,a6, ?_⟩)⟩
  refine wpIn_mono (hbody (b+1) k _ hk (hI k W _ hi (far W _ i)) (by rw [World.putObj_size];omega)) ?_
  rintro e a3 W3 r
  cases e with
  | normal=>
   obtain ⟨z,b3⟩:=r
   have x:=z.same (b+1) _ (by omega) (World.putObj_heap_same i) rfl
   have a7:=z.same b _ (by omega) ((World.putObj_heap_other (by omega)).trans hd) rfl
   have m:b+1 < W3.heap.size:=(Array.getElem?_eq_some_iff.1 x).1
   have a8:=run_endRound (P:=P) none x
   refine ⟨_,_,a8,rfl,hI _ _ _ b3 (far W3 _ m), ?_,(World.putObj_heap_other (by omega)).trans a7⟩
   rw [World.putObj_heap_same m,d];rfl
  | ret=>exact r.elim
  | exit id=>exact r.elim
  | goto t=>exact r.elim
  | panic ch=>exact r.elim
  | outgrown=>exact r.elim
 rintro e W2 ⟨⟨v,rfl⟩,hi,q,hd⟩
 have i:b+1 < W2.heap.size:=(Array.getElem?_eq_some_iff.1 q).1
 have a9:=run_endLoop (P:=P) q (by rw [d];simp)
 refine ⟨none,_,by rw [a9,d], ?_⟩
 exact hdone b _ (by omega) (hI _ _ _ hi (far W2 _ i)) ((World.putObj_heap_other (by omega)).trans hd)
theorem Y1m (a b:List Nat):I3 (a++b)=I3 a+I3 b:=by
 induction a with
 | nil=>simp [I3]
 | cons x a ih=>rw [List.cons_append,I3,I3,ih];omega
def Up:List Nat→Prop
 | []=>True
 | a::l=>(∀b∈l,a≤b)∧Up l
theorem V2h {l l2:List Nat} (h:l.Perm l2):kr l=kr l2:=by
 induction h with
 | nil=>rfl
 | cons x _ ih=>rw [kr,kr,ih]
 | swap x y l=>simp only [kr];omega
 | trans _ _ ih1 ih2=>rw [ih1,ih2]
theorem V7a {p q:List Nat} (h:p.Perm q):∀lp:List Nat,lp.length=p.length→∃lq:List Nat,lq.length=q.length∧lq.Perm lp∧cst lq q=cst lp p:=by
 induction h with
 | nil=>intro lp d;exact ⟨lp,d,List.Perm.refl _,rfl⟩
 | cons x _ ih=>
  intro lp d
  match lp,d with
  | a::lp,d=>
   obtain ⟨lq,f,g,i⟩:=ih lp (by simpa using d)
   exact ⟨a::lq,by simp [f],g.cons a,by rw [cst,cst,i]⟩
 | swap x y l=>
  intro lp d
  match lp,d with
  | a::b::lp,d=>exact ⟨b::a::lp,by simpa using d,List.Perm.swap a b lp,by simp only [cst];omega⟩
 | trans _ _ ih1 ih2=>
  intro lp d
  obtain ⟨lq,f,g,i⟩:=ih1 lp d
  obtain ⟨j,k,m,n⟩:=ih2 lq f
  exact ⟨j,k,m.trans g,by rw [n,i]⟩
def Y4m (f:List Nat):List Nat:=f.filter fun b=>decide (0 < b)
theorem W99:∀ (f l:List Nat),l.length=f.length→(∀ (i a b:Nat),l[i]?=some a→f[i]?=some b→(0 < a↔0 < b))→
  ∃lq:List Nat,lq.length=(Y4m f).length∧(∀a∈lq,0 < a∧a∈l)∧kr lq=kr l∧cst lq (Y4m f)=cst l f
 | [],l,h,_=>by
  obtain rfl:l=[]:=T0o (by simpa using h)
  exact ⟨[],rfl,by simp,rfl,rfl⟩
 | b::f,l,h,hs=>by
  match l,h,hs with
  | a::l,h,hs=>
   obtain ⟨lq,h1,h2,h3,h4⟩:=W99 f l (by simpa using h) fun i x y hx hy=>hs (i+1) x y (by simpa using hx) (by simpa using hy)
   have h0:=hs 0 a b rfl rfl
   by_cases hb:0 < b
   ·have hc:Y4m (b::f)=b::Y4m f:=by simp [Y4m,hb]
    rw [hc]
    refine ⟨a::lq,by simp [h1],fun x hx=> ?_,by rw [kr,kr,h3],by rw [cst,cst,h4]⟩
    rcases List.mem_cons.1 hx with hx | hx
    ·subst hx;exact ⟨h0.2 hb,T07⟩
    exact ⟨(h2 x hx).1,T06 _ (h2 x hx).2⟩
   have hc:Y4m (b::f)=Y4m f:=by simp [Y4m,hb]
   rw [hc]
   obtain rfl:b=0:=by omega
   obtain rfl:a=0:=by
    have:¬0 < a:=fun h=>by have:=h0.1 h;omega
    omega
   exact ⟨lq,h1,fun x hx=>⟨(h2 x hx).1,T06 _ (h2 x hx).2⟩,by rw [kr,Y5k,h3];omega,by rw [cst,h4];omega⟩
def U4:List Nat→List Nat
 | a::b::l=>(a+b)::U4 l
 | _=>[]
theorem Y1d:∀l:List Nat,(U4 l).length=l.length / 2
 | []=>rfl
 | [a]=>by simp [U4]
 | a::b::l=>by rw [U4,T08,Y1d l,T08,T08];omega
theorem Y6w:∀ (l:List Nat) (e:Nat),I3 ((U4 l).take e)≤I3 (l.take (2*e))
 | [],e=>by simp [U4,I3]
 | [a],e=>by simp [U4,I3]
 | a::b::l,0=>by simp [I3]
 | a::b::l,e+1=>by
  rw [U4,T00,show 2*(e+1)=2*e+1+1 by omega,T00,T00,I3,I3,I3]
  have:=Y6w l e
  omega
theorem Z97:∀ (l:List Nat) (e:Nat),2*e≤l.length→I3 ((U4 l).take e)=I3 (l.take (2*e))
 | _,0,_=>by simp [I3]
 | [],e+1,h=>by simp at h
 | [a],e+1,h=>by simp at h;omega
 | a::b::l,e+1,h=>by
  rw [U4,T00,show 2*(e+1)=2*e+1+1 by omega,T00,T00,I3,I3,I3,Z97 l e (by simp at h;omega)]
  omega
theorem Y6b {a b:List Nat} (h:a.Perm b):I3 a=I3 b:=by
 induction h with
 | nil=>rfl
 | cons x _ ih=>rw [I3,I3,ih]
 | swap x y l=>simp only [I3];omega
 | trans _ _ ih1 ih2=>rw [ih1,ih2]
theorem Z9k (x:Nat):∀ (l:List Nat) (c:Nat),(∀b∈l,x≤b)→c≤l.length→I3 ((x::l).take c)≤I3 (l.take c)
 | _,0,_,_=>by simp [I3]
 | [],c+1,_,h=>by simp at h
 | y::l,c+1,hx,h=>by
  have h1:=hx y T07
  rw [T00,I3,T00,I3]
  have:I3 ((y::l).take c)≤I3 (l.take c)+y:=by
   cases c with
   | zero=>simp [I3]
   | succ c=>
    rw [T00,I3]
    have:∀ (l:List Nat) (c:Nat),I3 (l.take c)≤I3 (l.take (c+1)):=by
     intro l
     induction l with
     | nil=>intro c;simp [I3]
     | cons z l ih=>
      intro c
      cases c with
      | zero=>simp [I3]
      | succ c=>rw [T00,T00,I3,I3];have:=ih c;omega
    have:=this l c
    omega
  match c,h with
  | 0,_=>simp [I3];exact h1
  | c+1,h=>
   have a:=Z9k x l (c+1) (fun b hb=>hx b (T06 _ hb)) (by simp at h;omega)
   rw [T00,I3] at a
   rw [T00,I3]
   have d:∀b∈l,x≤b:=fun b hb=>hx b (T06 _ hb)
   omega
theorem Z6n:∀ (M Q R:List Nat),Up M→M.Perm (Q++R)→I3 (M.take Q.length)≤I3 Q
 | [],Q,R,_,h=>by
  have:=h.length_eq
  have:Q=[]:=T0o (by simp at this;omega)
  subst this;simp [I3]
 | x::M,Q,R,hu,h=>by
  have hx:x∈Q++R:=h.mem_iff.1 T07
  by_cases hq:x∈Q
  ·have hQ:=T0p hq
   have h2:M.Perm (Q.erase x++R):=List.Perm.cons_inv (h.trans (hQ.append_right R))
   have ih:=Z6n M _ R hu.2 h2
   have hl:=hQ.length_eq
   rw [T08] at hl
   rw [Y6b hQ,hl,T00,I3,I3];omega
  have hr:x∈R:=by
   rcases List.mem_append.1 hx with h | h
   ·exact absurd h hq
   exact h
  have a:=T0p hr
  have h2:M.Perm (Q++R.erase x):=List.Perm.cons_inv (h.trans ((a.append_left Q).trans List.perm_middle))
  have ih:=Z6n M Q _ hu.2 h2
  have hl:=h2.length_eq
  rw [T0l] at hl
  have:=Z9k x M Q.length hu.1 (by omega)
  omega
def X8 (d:Nat):List Nat→Nat
 | []=>0
 | a::l=>(if d≤a then 1 else 0)+X8 d l
def Z6z (d:Nat):List Nat→Nat
 | []=>0
 | a::l=>(if d≤a then wtN a else 0)+Z6z d l
def wGe (d:Nat):List Nat→List Nat→Nat
 | a::l,x::A=>(if d≤a then x else 0)+wGe d l A
 | _,_=>0
theorem Y7r (d:Nat):∀l:List Nat,X8 d l≤l.length
 | []=>T05 _
 | a::l=>by have:=Y7r d l;rw [X8,T08];split <;> omega
theorem X08 (d:Nat):∀ (l A:List Nat),l.length=A.length→Up A→I3 (A.take (X8 d l))≤wGe d l A
 | [],A,_,_=>by simp [X8,I3]
 | a::l,[],h,_=>by simp at h
 | a::l,x::A,h,hu=>by
  have ih:=X08 d l A (by simpa using h) hu.2
  have hc:=Y7r d l
  rw [X8,wGe]
  by_cases ha:d≤a
  ·rw [if_pos ha,if_pos ha,Nat.add_comm 1,T00,I3];omega
  rw [if_neg ha,if_neg ha,T0k]
  have:=Z9k x A (X8 d l) hu.1 (by simp at h;omega)
  omega
def lev (m:Nat) (l A:List Nat):Nat→Nat
 | 0=>0
 | t+1=>wGe (m-t) l A+lev m l A t
theorem X6y (m a x:Nat) (l A:List Nat) (hm:a≤m):∀t,t≤m→lev m (a::l) (x::A) t=lev m l A t+(a- (m-t))*x
 | 0,_=>by simp [lev];rw [show a-m=0 by omega];omega
 | t+1,h=>by
  rw [lev,lev,X6y m a x l A hm t (by omega),wGe]
  by_cases ha:m-t≤a
  ·rw [if_pos ha,show a- (m- (t+1))=(a- (m-t))+1 by omega,T01,T0e];omega
  rw [if_neg ha,show a- (m- (t+1))=a- (m-t) by omega];omega
theorem W1e (m:Nat):∀ (l A:List Nat),l.length=A.length→(∀a∈l,a≤m)→lev m l A m=cst l A
 | [],[],_,_=>by
  have:∀t,lev m [] [] t=0:=by
   intro t
   induction t with
   | zero=>rfl
   | succ t ih=>rw [lev,ih];rfl
  rw [this];rfl
 | [],x::A,h,_=>by simp at h
 | a::l,[],h,_=>by simp at h
 | a::l,x::A,h,hl=>by
  rw [X6y m a x l A (hl a T07) m (T05 _),W1e m l A (by simpa using h) fun b hb=>hl b (T06 _ hb),cst,T0h,T0a];omega
def Z24 (m:Nat) (l:List Nat):Nat→Nat
 | 0=>0
 | t+1=>X8 (m-t) l+Z24 m l t / 2
theorem Y7x (d:Nat) (hd:1≤d) (hd15:d≤15):∀l:List Nat,X8 d l=X8 (d+1) l+l.count d∧Z6z d l=Z6z (d+1) l+l.count d*2^(15-d)
 | []=>by simp [X8,Z6z]
 | a::l=>by
  obtain ⟨h1,h2⟩:=Y7x d hd hd15 l
  by_cases e:a=d
  ·subst e
   rw [X8,X8,Z6z,Z6z,List.count_cons_self,if_pos (T05 a),if_neg (show ¬a+1≤a by omega),if_pos (T05 a),if_neg (show ¬a+1≤a by omega),W2b a hd hd15,T01,T0e]
   omega
  rw [X8,X8,Z6z,Z6z,List.count_cons_of_ne e]
  by_cases ha:d≤a
  ·rw [if_pos ha,if_pos (show d+1≤a by omega),if_pos ha,if_pos (show d+1≤a by omega)];omega
  rw [if_neg ha,if_neg (show ¬d+1≤a by omega),if_neg ha,if_neg (show ¬d+1≤a by omega)];omega
theorem W9v (m:Nat):∀l:List Nat,(∀a∈l,a≤m)→X8 (m+1) l=0∧Z6z (m+1) l=0
 | [],_=>⟨rfl,rfl⟩
 | a::l,h=>by
  obtain ⟨h1,h2⟩:=W9v m l fun b hb=>h b (T06 _ hb)
  have:=h a T07
  rw [X8,Z6z,if_neg (by omega),if_neg (by omega),h1,h2];exact ⟨rfl,rfl⟩
theorem V1b (d:Nat) (hd:d≤15):∀l:List Nat,∃q,kr l=Z6z (d+1) l+q*2^(15-d)
 | []=>⟨0,by simp [kr,Z6z]⟩
 | a::l=>by
  obtain ⟨q,hq⟩:=V1b d hd l
  rw [kr,Z6z,hq]
  by_cases ha:d+1≤a
  ·exact ⟨q,by rw [if_pos ha];omega⟩
  rw [if_neg ha]
  unfold wtN
  by_cases h:1≤a∧a≤15
  ·rw [if_pos h,show 15-a=(15-d)+(d-a) by omega,T0f]
   exact ⟨2^(d-a)+q,by rw [T01,T04 (2^(d-a))];omega⟩
  rw [if_neg h]
  exact ⟨q,by omega⟩
theorem Y9a {m:Nat} {l:List Nat} (hm:m≤15) (hl:∀a∈l,a≤m) (hk:kr l=32768):∀t,t+1≤m→
  Z24 m l (t+1)*2^(15- (m-t))+Z6z (m-t) l=X8 (m-t) l*(2*2^(15- (m-t)))∧2 ∣ Z24 m l t:=by
 intro t
 induction t with
 | zero=>
  intro h
  obtain ⟨g1,g2⟩:=W9v m l hl
  obtain ⟨j,k⟩:=Y7x m (by omega) hm l
  refine ⟨?_,⟨0,rfl⟩⟩
  rw [T0a,Z24,Z24,T0a,Nat.zero_div,Nat.add_zero]
  rw [g1] at j;rw [g2] at k
  rw [k,j]
  simp only [T0k]
  generalize l.count m=c
  generalize 2^(15-m)=p
  rw [T04 2 p,←T02];omega
 | succ t ih=>
  intro h
  obtain ⟨n,i2⟩:=ih (by omega)
  obtain ⟨d,hd⟩:∃d,m-t=d+1:=⟨m-t-1,by omega⟩
  have f:m- (t+1)=d:=by omega
  rw [hd] at n
  rw [f]
  have b:2^(15-d)=2*2^(15- (d+1)):=by rw [show 15-d=(15- (d+1))+1 by omega,Nat.pow_succ,T04]
  have i:2 ∣ Z24 m l (t+1):=by
   obtain ⟨q,z⟩:=V1b d (by omega) l
   have o:2^d*2^(15-d)=32768:=by rw [←T0f,show d+(15-d)=15 by omega]
   rw [hk,←o,b] at z
   have hp:0 < 2^(15- (d+1)):=T0m _
   generalize 2^(15- (d+1))=p at*
   generalize Z24 m l (t+1)=K at*
   generalize X8 (d+1) l=c at*
   generalize Z6z (d+1) l=g at*
   generalize 2^d=e at*
   have r:e*(2*p)=2*e*p:=by rw [←T02,T04 e 2]
   have s:q*(2*p)=2*q*p:=by rw [←T02,T04 q 2]
   have y:c*(2*p)=2*c*p:=by rw [←T02,T04 c 2]
   rw [r,s] at z
   rw [y] at n
   have k4:(K+2*e)*p=(2*c+2*q)*p:=by rw [T01,T01];omega
   have k5:=Nat.eq_of_mul_eq_mul_right hp k4
   omega
  refine ⟨?_,i⟩
  obtain ⟨K,hK⟩:=i
  obtain ⟨j,k⟩:=Y7x d (by omega) (by omega) l
  rw [Z24,f,hK,show 2*K / 2=K by omega,k,j]
  rw [hK] at n
  rw [b]
  generalize 2^(15- (d+1))=p at*
  generalize X8 (d+1) l=c at*
  generalize Z6z (d+1) l=g at*
  generalize l.count d=x at*
  have r:2*K*p=K*(2*p):=by rw [T04 2 K,T02]
  rw [r] at n
  have s:(c+x+K)*(2*p)=c*(2*p)+x*(2*p)+K*(2*p):=by rw [T01,T01]
  have y:(c+x)*(2*(2*p))=2*(c*(2*p))+2*(x*(2*p)):=by
   rw [T01,←T02 c 2,T04 c 2,T02,←T02 x 2,T04 x 2,T02]
  rw [s,y];omega
theorem X9p {m:Nat} {l:List Nat} (hm0:1≤m) (hm:m≤15) (hl:∀a∈l,1≤a∧a≤m) (hk:kr l=32768):Z24 m l m=2*l.length-2:=by
 obtain ⟨t,rfl⟩:∃t,m=t+1:=⟨m-1,by omega⟩
 have g:=(Y9a hm (fun a ha=>(hl a ha).2) hk t (T05 _)).1
 rw [show t+1-t=1 by omega] at g
 have j:∀l:List Nat,(∀a∈l,1≤a∧a≤t+1)→X8 1 l=l.length∧Z6z 1 l=kr l:=by
  intro l
  induction l with
  | nil=>intro _;exact ⟨rfl,rfl⟩
  | cons a l ih=>
   intro h
   have i:=h a T07
   obtain ⟨d,f⟩:=ih fun b hb=>h b (T06 _ hb)
   rw [X8,Z6z,kr,if_pos i.1,if_pos i.1,d,f,T08]
   exact ⟨by omega,rfl⟩
 obtain ⟨d,f⟩:=j l hl
 rw [d,f,hk] at g
 omega
structure W1h (A:List Nat) (m:Nat) (W:Nat→List Nat):Prop where
 none:W 0=[]
 up:∀t,t < m→Up (W (t+1))
 made:∀t,t < m→(W (t+1)).Perm (A++U4 (W t))
theorem W1h.least {A l:List Nat} {m:Nat} {W:Nat→List Nat} (h:W1h A m W) (hA:Up A) (hlen:l.length=A.length) (hm0:1≤m) (hm:m≤15) (hl:∀a∈l,1≤a∧a≤m) (hk:kr l=32768):
  I3 ((W m).take (2*A.length-2))≤cst l A∧2*A.length-2≤(W m).length:=by
 have b:∀t,t≤m→I3 ((W t).take (Z24 m l t))≤lev m l A t∧Z24 m l t≤(W t).length:=by
  intro t
  induction t with
  | zero=>intro _;simp [Z24,I3]
  | succ t ih=>
   intro p
   obtain ⟨q,r⟩:=ih (by omega)
   obtain ⟨e,j⟩:=(Y9a hm (fun a ha=>(hl a ha).2) hk t p).2
   have i:=h.made t (by omega)
   have s:=Y7r (m-t) l
   have d:=Y1d (W t)
   have x:=X08 (m-t) l A hlen hA
   rw [j] at q r
   have f:Z24 m l (t+1)=X8 (m-t) l+e:=by rw [Z24,j];omega
   rw [f]
   have n:=Z6n (W (t+1)) (A.take (X8 (m-t) l)++(U4 (W t)).take e) (A.drop (X8 (m-t) l)++(U4 (W t)).drop e) (h.up t (by omega)) (by
    refine i.trans ?_
    have o:A++U4 (W t)=(A.take (X8 (m-t) l)++A.drop (X8 (m-t) l))++((U4 (W t)).take e++(U4 (W t)).drop e):=by rw [T0b,T0b]
    rw [o,T09,T09]
    refine List.Perm.append_left _ ?_
    rw [←T09,←T09]
    exact List.perm_append_comm.append_right _)
   rw [T0l,T0d,T0d,Nat.min_eq_left (by omega),Nat.min_eq_left (by omega),Y1m] at n
   have y:=Y6w (W t) e
   refine ⟨by rw [lev];omega, ?_⟩
   have:=i.length_eq
   rw [T0l,d] at this
   omega
 obtain ⟨g,k⟩:=b m (T05 _)
 rw [X9p hm0 hm hl hk,hlen] at g k
 rw [W1e m l A hlen fun a ha=>(hl a ha).2] at g
 exact ⟨g,k⟩
structure Z93 (A:List Nat) (m:Nat) (W:Nat→List Nat) (cnt K:Nat→Nat):Prop where
 packs:W1h A m W
 top:K m=2*A.length-2
 low:∀t,t < m→K t=2*(K (t+1)-cnt (t+1))
 few:∀t,t < m→cnt (t+1)≤A.length∧cnt (t+1)≤K (t+1)
 room:∀t,t≤m→K t≤(W t).length
 split:∀t,t < m→((W (t+1)).take (K (t+1))).Perm (A.take (cnt (t+1))++(U4 (W t)).take (K (t+1)-cnt (t+1)))
theorem Y13:∀ (l:List Nat) (k:Nat),Up l→∀a∈l.take k,∀b∈l.drop k,a≤b
 | [],k,_=>by simp
 | x::l,0,_=>by simp
 | x::l,k+1,h=>by
  intro a ha b hb
  rw [T00] at ha
  rw [List.drop_succ_cons] at hb
  rcases List.mem_cons.1 ha with ha | ha
  ·subst ha;exact h.1 b (List.mem_of_mem_drop hb)
  exact Y13 l k h.2 a ha b hb
theorem W2v:∀ (l:List Nat) (e:Nat),2*e≤l.length→(∀x∈l,0 < x)→∀a∈l.take (2*e),∃p∈(U4 l).take e,a < p
 | _,0,_,_=>by simp
 | [],e+1,h,_=>by simp at h
 | [x],e+1,h,_=>by simp at h;omega
 | x::y::l,e+1,h,hp=>by
  intro a ha
  rw [show 2*(e+1)=2*e+1+1 by omega,T00,T00] at ha
  rw [U4,T00]
  have hx:=hp x (by simp)
  have hy:=hp y (by simp)
  rcases List.mem_cons.1 ha with ha | ha
  ·exact ⟨x+y,T07,by omega⟩
  rcases List.mem_cons.1 ha with ha | ha
  ·exact ⟨x+y,T07,by omega⟩
  obtain ⟨p,h1,h2⟩:=W2v l e (by simp at h;omega) (fun z hz=>hp z (by simp [hz])) a ha
  exact ⟨p,T06 _ h1,h2⟩
theorem X1a:∀l:List Nat,(∀x∈l,0 < x)→∀x∈U4 l,0 < x
 | [],_=>by simp [U4]
 | [a],_=>by simp [U4]
 | a::b::l,h=>by
  intro x hx
  rw [U4] at hx
  have:=h a (by simp)
  rcases List.mem_cons.1 hx with hx | hx
  ·omega
  exact X1a l (fun z hz=>h z (by simp [hz])) x hx
section
variable {A:List Nat} {m:Nat} {W:Nat→List Nat} {cnt K:Nat→Nat} (h:Z93 A m W cnt K) (hA:∀x∈A,0 < x)
include h hA
theorem Z93.pos:∀t,t≤m→∀x∈W t,0 < x
 | 0,_=>by rw [h.packs.none];simp
 | t+1,ht=>by
  intro x hx
  rcases List.mem_append.1 ((h.packs.made t (by omega)).mem_iff.1 hx) with h1 | h1
  ·exact hA x h1
  exact X1a _ (Z93.pos t (by omega)) x h1
theorem Z93.mono (t:Nat) (ht:t+1 < m):cnt (t+1)≤cnt (t+2):=by
 by_cases j:cnt (t+1)≤cnt (t+2)
 ·exact j
 exfalso
 obtain ⟨c,hc⟩:∃c,c=cnt (t+2):=⟨_,rfl⟩
 have q:=h.few t (by omega)
 have r:=h.few (t+1) ht
 obtain ⟨x,o⟩:=W70 (l:=A) (i:=c) (by omega)
 have d:x∈A.take (cnt (t+1)):=List.mem_iff_getElem?.2 ⟨c,by rw [List.getElem?_take_of_lt (by omega)];exact o⟩
 have b:x∈(W (t+1)).take (K (t+1)):=(h.split t (by omega)).mem_iff.2 (List.mem_append.2 (.inl d))
 have s:=h.low (t+1) ht
 have a:=h.room (t+1) (by omega)
 rw [s] at b a
 obtain ⟨p,k,a2⟩:=W2v (W (t+1)) (K (t+2)-cnt (t+2)) a (Z93.pos h hA (t+1) (by omega)) x b
 have f:p∈(W (t+2)).take (K (t+2)):=(h.split (t+1) ht).mem_iff.2 (List.mem_append.2 (.inr k))
 have y:((W (t+2)).drop (K (t+2))).Perm (A.drop (cnt (t+2))++(U4 (W (t+1))).drop (K (t+2)-cnt (t+2))):=by
  have n:=h.packs.made (t+1) ht
  rw [←T0b (K (t+2)) (W (t+2))] at n
  have z:(A++U4 (W (t+1))).Perm ((A.take (cnt (t+2))++(U4 (W (t+1))).take (K (t+2)-cnt (t+2)))++(A.drop (cnt (t+2))++(U4 (W (t+1))).drop (K (t+2)-cnt (t+2)))):=by
   have e3:A++U4 (W (t+1))=(A.take (cnt (t+2))++A.drop (cnt (t+2)))++((U4 (W (t+1))).take (K (t+2)-cnt (t+2))++(U4 (W (t+1))).drop (K (t+2)-cnt (t+2))):=by rw [T0b,T0b]
   rw [e3,T09,T09]
   refine List.Perm.append_left _ ?_
   rw [←T09,←T09]
   exact List.perm_append_comm.append_right _
  exact (List.perm_append_left_iff _).1 (((h.split (t+1) ht).append_right _).symm.trans (n.trans z))
 have g:x∈(W (t+2)).drop (K (t+2)):=y.mem_iff.2 (List.mem_append.2 (.inl (List.mem_iff_getElem?.2 ⟨0,by rw [List.getElem?_drop,←hc];exact o⟩)))
 have:=Y13 _ _ (h.packs.up (t+1) ht) p f x g
 omega
end
def O3:List Nat→Nat→List Nat
 | [],_=>[]
 | a::l,0=>a::l
 | a::l,c+1=>(a+1)::O3 l c
theorem Z6q:∀ (l:List Nat) (c:Nat),(O3 l c).length=l.length
 | [],_=>rfl
 | a::l,0=>rfl
 | a::l,c+1=>by rw [O3,T08,T08,Z6q l c]
theorem Y29:∀ (l A:List Nat) (c:Nat),l.length=A.length→cst (O3 l c) A=cst l A+I3 (A.take c)
 | [],[],c,_=>by simp [O3,cst,I3]
 | [],x::A,c,h=>by simp at h
 | a::l,[],c,h=>by simp at h
 | a::l,x::A,0,_=>by simp [O3,I3]
 | a::l,x::A,c+1,h=>by
  rw [O3,cst,cst,T00,I3,Y29 l A c (by simpa using h),T01,T0e];omega
def Shp (t:Nat):List Nat→Nat→Prop
 | [],c=>c=0
 | a::l,0=>a=0∧Shp t l 0
 | a::l,c+1=>1≤a∧a≤t∧Shp t l c
def Z4q (t:Nat):List Nat→Nat
 | []=>0
 | a::l=>(if 0 < a then 2^(t-a) else 0)+Z4q t l
theorem X49 (t:Nat):∀l:List Nat,Shp t l 0→Shp (t+1) l 0∧Z4q (t+1) l=0∧Z4q t l=0
 | [],_=>⟨rfl,rfl,rfl⟩
 | a::l,h=>by
  obtain ⟨h1,h2⟩:=h
  obtain ⟨k1,k2,k3⟩:=X49 t l h2
  exact ⟨⟨h1,k1⟩,by rw [Z4q,k2,if_neg (by omega)],by rw [Z4q,k3,if_neg (by omega)]⟩
theorem Y6x (t:Nat):∀ (l:List Nat) (c c2:Nat),c≤c2→c2≤l.length→Shp t l c→Shp (t+1) (O3 l c2) c2∧Z4q (t+1) (O3 l c2)=Z4q t l+(c2-c)*2^t
 | [],c,c2,h1,h2,h=>by
  obtain rfl:c2=0:=by simpa using h2
  exact ⟨rfl,by simp [O3,Z4q]⟩
 | a::l,c,0,h1,_,h=>by
  obtain rfl:c=0:=by omega
  obtain ⟨k1,k2,k3⟩:=X49 t (a::l) h
  exact ⟨k1,by rw [O3,k2,k3];simp⟩
 | a::l,0,c2+1,_,h2,h=>by
  obtain ⟨h3,h4⟩:=h
  obtain ⟨k1,k2⟩:=Y6x t l 0 c2 (T0n _) (by simpa using h2) h4
  subst h3
  refine ⟨⟨by omega,by omega,k1⟩, ?_⟩
  rw [O3,Z4q,Z4q,k2,if_pos (by omega),if_neg (by omega),T0a,T0a,T01,T0e,show t+1- (0+1)=t by omega];omega
 | a::l,c+1,c2+1,h1,h2,h=>by
  obtain ⟨h3,h4,h5⟩:=h
  obtain ⟨k1,k2⟩:=Y6x t l c c2 (by omega) (by simpa using h2) h5
  refine ⟨⟨by omega,by omega,k1⟩, ?_⟩
  rw [O3,Z4q,Z4q,k2,if_pos (by omega),if_pos (by omega),show t+1- (a+1)=t-a by omega,show c2+1- (c+1)=c2-c by omega];omega
def Z19 (n:Nat) (cnt:Nat→Nat):Nat→List Nat
 | 0=>T03 n 0
 | t+1=>O3 (Z19 n cnt t) (cnt (t+1))
theorem Z28 (n:Nat) (cnt:Nat→Nat):∀t,(Z19 n cnt t).length=n
 | 0=>by simp [Z19]
 | t+1=>by rw [Z19,Z6q,Z28 n cnt t]
theorem X6o (t:Nat):∀n:Nat,Shp t (T03 n 0) 0∧Z4q t (T03 n 0)=0
 | 0=>⟨rfl,rfl⟩
 | n+1=>by
  obtain ⟨h1,h2⟩:=X6o t n
  rw [T0i]
  exact ⟨⟨rfl,h1⟩,by rw [Z4q,h2];simp⟩
theorem X6n:∀A:List Nat,cst (T03 A.length 0) A=0
 | []=>rfl
 | a::A=>by rw [T08,T0i,cst,X6n A];omega
theorem W29 (t:Nat):∀ (l:List Nat),Shp t l l.length→(∀a∈l,1≤a∧a≤t)
 | [],_=>by simp
 | a::l,h=>by
  obtain ⟨h1,h2,h3⟩:=h
  intro b hb
  rcases List.mem_cons.1 hb with hb | hb
  ·subst hb;exact ⟨h1,h2⟩
  exact W29 t l h3 b hb
theorem W2h (m:Nat) (hm:m≤15):∀l:List Nat,(∀a∈l,1≤a∧a≤m)→kr l=Z4q m l*2^(15-m)
 | [],_=>by simp [kr,Z4q]
 | a::l,h=>by
  have h1:=h a T07
  rw [kr,Z4q,W2h m hm l fun b hb=>h b (T06 _ hb),W2b a h1.1 (by omega),if_pos (by omega),T01,←T0f,show m-a+(15-m)=15-a by omega]
theorem V2g (t:Nat):∀ (l:List Nat) (c:Nat),0 < c→Shp t l c→0 < Z4q t l
 | [],c,h,hs=>by
           have:c=0:=hs
           omega
 | a::l,c+1,_,hs=>by
  have:=hs.1
  rw [Z4q,if_pos (by omega)]
  have:0 < 2^(t-a):=T0m _
  omega
 | a::l,0,h,_=>by omega
section
variable {A:List Nat} {m:Nat} {W:Nat→List Nat} {cnt K:Nat→Nat} (h:Z93 A m W cnt K) (hA:∀x∈A,0 < x) (h0:cnt 0=0)
include h hA h0
theorem Z93.stage:∀t,t≤m→Shp t (Z19 A.length cnt t) (cnt t)∧K t*2^t+2*Z4q t (Z19 A.length cnt t)=2*cnt t*2^t∧cst (Z19 A.length cnt t) A=I3 ((W t).take (K t))
 | 0,_=>by
  obtain ⟨k1,k2⟩:=X6o 0 A.length
  have hk:K 0=0:=by have h1:=h.room 0 (T0n _);rw [h.packs.none] at h1;simpa using h1
  rw [h0,hk]
  exact ⟨k1,by rw [Z19,k2],by rw [Z19,X6n];simp [I3]⟩
 | t+1,ht=>by
  obtain ⟨k1,k2,k3⟩:=Z93.stage t (by omega)
  have hf:=h.few t (by omega)
  have hle:cnt t≤cnt (t+1):=by
   cases t with
   | zero=>rw [h0];exact T0n _
   | succ t=>exact h.mono hA t (by omega)
  obtain ⟨q,r⟩:=Y6x t (Z19 A.length cnt t) (cnt t) (cnt (t+1)) hle (by rw [Z28];exact hf.1) k1
  have b:=h.low t (by omega)
  have a:=h.room t (by omega)
  refine ⟨q, ?_, ?_⟩
  ·rw [Z19,r]
   obtain ⟨d,s⟩:∃d,cnt (t+1)=cnt t+d:=⟨cnt (t+1)-cnt t,by omega⟩
   obtain ⟨e,j⟩:∃e,K (t+1)=cnt (t+1)+e:=⟨K (t+1)-cnt (t+1),by omega⟩
   have f:K t=2*e:=by rw [b,j];omega
   rw [j,s,show cnt t+d-cnt t=d by omega,Nat.pow_succ]
   rw [f] at k2
   generalize 2^t=p at*
   generalize cnt t=c at*
   generalize Z4q t (Z19 A.length cnt t)=S at*
   have k:(c+d+e)*p=c*p+d*p+e*p:=by rw [T01,T01]
   have g:(c+d+e)*(p*2)=2*((c+d+e)*p):=by rw [←T02,T04]
   have l:(c+d)*p=c*p+d*p:=T01 _ _ _
   have i:2*(c+d)*(p*2)=2*(2*((c+d)*p)):=by rw [←T02,T04 _ 2,T02 2 (c+d) p]
   rw [k] at g
   rw [l] at i
   have n:2*e*p=2*(e*p):=T02 _ _ _
   have o:2*c*p=2*(c*p):=T02 _ _ _
   rw [g,i,Nat.mul_add]
   rw [n,o] at k2
   omega
  rw [Z19,Y29 _ _ _ (Z28 _ _ _),k3,Y6b (h.split t (by omega)),Y1m,Z97 (W t) (K (t+1)-cnt (t+1)) (by rw [←b];exact a),←b]
  omega
theorem Z93.fit (hm:1≤m) (hm2:m≤15) (hn:2≤A.length):(∀a∈Z19 A.length cnt m,1≤a∧a≤m)∧kr (Z19 A.length cnt m)=32768∧cst (Z19 A.length cnt m) A=I3 ((W m).take (2*A.length-2)):=by
 obtain ⟨g,i,j⟩:=h.stage hA h0 m (T05 _)
 obtain ⟨t,rfl⟩:∃t,m=t+1:=⟨m-1,by omega⟩
 have n:=h.few t (by omega)
 rw [h.top] at i j
 have k:0 < 2^(t+1):=T0m _
 have f:0 < cnt (t+1):=by
  rcases Nat.eq_zero_or_pos (cnt (t+1)) with e | e
  ·rw [e] at i
   have:0 < (2*A.length-2)*2^(t+1):=Nat.mul_pos (by omega) k
   omega
  exact e
 have o:=V2g (t+1) _ _ f g
 have d:cnt (t+1)=A.length:=by
  by_cases e:cnt (t+1)=A.length
  ·exact e
  exfalso
  have p:2*cnt (t+1)*2^(t+1)≤(2*A.length-2)*2^(t+1):=Nat.mul_le_mul_right _ (by omega)
  omega
 have b:=W29 (t+1) (Z19 A.length cnt (t+1)) (by rw [Z28,←d];rw [d] at g⊢;exact g)
 refine ⟨b, ?_,j⟩
 rw [W2h (t+1) hm2 _ b]
 have q:2*cnt (t+1)*2^(t+1)=(2*A.length-2)*2^(t+1)+2*2^(t+1):=by
  rw [d,←T01];congr 1;omega
 have l:Z4q (t+1) (Z19 A.length cnt (t+1))=2^(t+1):=by omega
 rw [l,←T0f,show t+1+(15- (t+1))=15 by omega]
end
theorem X80 {f l A:List Nat} {m:Nat} {W:Nat→List Nat} (hp:W1h A m W) (hu:Up A) (hA:A.Perm (Y4m f)) (hm:1≤m) (hm2:m≤15) (hg:V36 f m l) (hc:cst l f=I3 ((W m).take (2*A.length-2))):V69 f m l:=by
 refine ⟨hg,fun l2 h2=> ?_⟩
 obtain ⟨d,g,i,j,o⟩:=W99 f l2 h2.len h2.sup
 obtain ⟨p,k,b,q⟩:=V7a hA.symm d g
 have n:=(hp.least hu k hm hm2 (fun a ha=>by
  have:=i a (b.mem_iff.1 ha)
  exact ⟨this.1,h2.le a this.2⟩) (by rw [V2h b,j];exact h2.whole)).1
 omega
end Go.Proofs.YtbkbkmgogbgofaaGreatDoor
