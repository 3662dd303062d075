/- The claim's texts, put together and shortened by a program (names, spaces). -/
import Derived.Test.YtbkbkmgogbgofaaGreatDoorZk22
import Derived.Test.YtbkbkmgogbgofaaGreatDoorZk03
import Derived.Test.YtbkbkmgogbgofaaGreatDoorProg
import Derived.StillTailTactics
import Derived.RangeFuncNested
import Derived.RangeFuncCalls
import Derived.RangeFuncLeaves
import Derived.Shelf.Abstract
import Derived.OwnWalkIn
import Derived.TacticsInMore
import Derived.LoopNIn
import Derived.LoopIn
import Derived.Test.YtbkbkmgogbgofaaGreatDoorZk21
open List renaming take_succ_cons→T00,replicate→T01,length_cons→T05,mem_cons_of_mem→T07,mem_cons_self→T09,getElem?_eq_getElem→T0a,length_append→T0b,length_take→T0c,append_assoc→T0d,getElem?_append_right→T0f,eq_nil_of_length_eq_zero→T0i,perm_cons_erase→T0j,take_append_drop→T0k
open Nat renaming le_refl→T02,mul_comm→T03,mul_assoc→T04,add_mul→T08,sub_self→T0e,zero_add→T0g,sub_zero→T0h
open Int renaming natCast_nonneg→T06
namespace Go.Proofs.YtbkbkmgogbgofaaGreatDoor
set_option maxRecDepth 100000
set_option maxHeartbeats 6400000
open Go.RowKit
theorem W4y:(Tryz.prog.info? 205).map (fun i=>(i.zero,i.size,i.bytes))=some (some (.agg #[.int .i64 0,.int .i64 0,.int .i64 0]),3,24):=by kernel_rfl
def L9 (xs:List Y0):List Value:=xs.flatMap fun x=>[.int .i64 (x.1:Int),.int .i64 (x.2.1:Int),.int .i64 (x.2.2:Int)]
theorem X8s (a b:List Y0):L9 (a++b)=L9 a++L9 b:=by simp [L9]
theorem Y8r (xs:List Y0):(L9 xs).length=xs.length*3:=by
 induction xs with
 | nil=>rfl
 | cons x xs ih=>
  have e:L9 (x::xs)= .int .i64 (x.1:Int):: .int .i64 (x.2.1:Int):: .int .i64 (x.2.2:Int)::L9 xs:=by simp [L9]
  rw [e]
  simp only [T05,ih];omega
theorem Y6t:∀ (l:List Y0) (j:Nat) (x:Y0),l[j]?=some x→(L9 l)[j*3]?=some (.int .i64 (x.1:Int))∧(L9 l)[j*3+1]?=some (.int .i64 (x.2.1:Int))∧(L9 l)[j*3+2]?=some (.int .i64 (x.2.2:Int))
 | [],j,x,h=>by cases h
 | y::l,0,x,h=>by
  simp at h;subst h
  exact ⟨rfl,rfl,rfl⟩
 | y::l,j+1,x,h=>by
  have ih:=Y6t l j x (by simpa using h)
  have e:L9 (y::l)= .int .i64 (y.1:Int):: .int .i64 (y.2.1:Int):: .int .i64 (y.2.2:Int)::L9 l:=by simp [L9]
  rw [e,show (j+1)*3=j*3+1+1+1 by omega,show j*3+1+1+1+1=j*3+1+1+1+1 by rfl]
  exact ih
theorem X9t (l:List Y0):∀u∈L9 l,u.oneCell'=true:=by
 intro u b
 obtain ⟨x,_,a⟩:=List.mem_flatMap.1 b
 simp only [List.mem_cons,List.not_mem_nil,or_false] at a
 rcases a with rfl | rfl | rfl <;> rfl
theorem Rd.item {w:World} {ao:Option Addr} {n cap:Nat} {l:List Y0} (h:Rd w 3 (.slice ao n cap) n (L9 l)) {i:Nat} {t:Y0} (hi:l[i]?=some t):
  ∃g off,ao=some ⟨g,off,none⟩∧w.cell? ⟨g,off+i*3,none⟩=some (.int .i64 (t.1:Int))∧w.cell? ⟨g,off+i*3+1,none⟩=some (.int .i64 (t.2.1:Int))∧w.cell? ⟨g,off+i*3+2,none⟩=some (.int .i64 (t.2.2:Int)):=by
 have b:=h.1
 rw [Y8r] at b
 have d:=(List.getElem?_eq_some_iff.1 hi).1
 obtain ⟨g,off,rfl,a⟩:=h.spot (by omega)
 obtain ⟨f,j,k⟩:=Y6t l i t hi
 exact ⟨g,off,rfl,a _ _ f,a _ _ j,a _ _ k⟩
theorem V0g (w:World) (o:Obj):(w.alloc o).heap.size=w.heap.size+1:=by
 show (w.heap.push o).size=_
 simp
theorem W0v (all:List Int):∀f a,all.length≤a→U9 all f a=[]
 | 0,_,_=>rfl
 | f+1,a,h=>by unfold U9;rw [if_neg (by omega)]
theorem X5t (v:Value) (n:Nat) (all:List Int) (w:World) (hv:Rd w 1 v n (D3 all)) (hn:n < 1000) (hA:∀x∈all,0≤x∧x≤15):
  Calls Tryz.prog 138 #[v] w fun e w'=>∃u,e= .returned u∧A4 w w' [B0 205 3 u (U9 all n 0).length (L9 (U9 all n 0))]:=by
 obtain ⟨i0,a3,a4,a5,a6⟩:=info_parts W4y
 obtain ⟨ao,a7,rfl,_,_⟩:=hv.form
 have l:all.length=n:=by have:=hv.1;rw [L6] at this;omega
 have d:=A5 (And.intro hv (And.intro l hA))
 have b6:(0:Int)≤(n:Int):=T06 _
 clear hv l hA
 go_enter Tryz.func138,Tryz.ntmps138
 go_wp2
 go_loopg [3,4] (n+1) (fun k t3 t4 wr=>∃ (i f L:Nat) (bo:Option Addr) (bc:Nat) (Z:List Y0),i≤n∧n-i < k∧n-i≤f∧t4= .int .i64 (i:Int)∧t3= .slice bo L bc∧L≤i∧Hid (L=Z.length)∧Hid (U9 all n 0=Z++U9 all f i)∧
  Hid (A4 w wr [B0 205 3 (.slice bo L bc) L (L9 Z)]))
 case atStart=>exact ⟨0,n,0,none,0,[],by omega,by omega,by omega,rfl,rfl,by omega,A5 rfl,A5 rfl,A5 ((A4.start w).nil _ _)⟩
 case round=>
  obtain ⟨i,f,L,bo,bc,Z,hi,hk,hf,rfl,rfl,hL,HZ,HE,HH⟩:=hrel
  have b2:(0:Int)≤(i:Int):=T06 _
  by_cases a1:i < n
  rotate_left
  ·have y:¬(i:Int) < (n:Int):=by omega
   have j:Hid (U9 all n 0=Z):=by
    have h:=HE.out
    rw [W0v all f i (by have:=d.out.2.1;omega),List.append_nil] at h
    exact A5 h
   go_wp2
   go_ret
   rw [j.out,←HZ.out]
   exact ⟨_,rfl,HH.out⟩
  have y:(i:Int) < (n:Int):=by omega
  obtain ⟨f,rfl⟩:∃g,f=g+1:=⟨f-1,by omega⟩
  have b:=Y6e (all:=all) (a:=i) (by have:=d.out.2.1;omega)
  have m:=A5 (X2h (.slice ao n a7) n i all wr (HH.out.old d.out.1) (by omega) a1 d.out.2.2)
  have j:U9 all n 0=(Z++[(U7 all i).1])++U9 all f (i+(U7 all i).2):=by
   rw [HE.out,U9,if_pos (by have:=d.out.2.1;omega)];simp
  rw [d.out.2.1] at b
  generalize U7 all i=nx at m j b
  obtain ⟨⟨r,s,t⟩,q⟩:=nx
  simp only at j b
  obtain ⟨c0,c1⟩:=b
  have z:=A5 j
  clear j HE
  unfold itV at m
  simp only at m
  go_wp2_with fail
  refine m.out.mono ?_
  rintro e w2 ⟨rfl,hm⟩
  have o:=(HH.out.same hm).newObj [.int .i64 (r:Int),.int .i64 (s:Int),.int .i64 (t:Int)] 205
  have HS:=A5 (o.swap.lit 205 3 (L9 [(r,s,t)]) 1 (by decide) rfl).swap
  rw [V0g] at HS
  have k0:=o.obj.cell (i:=0) rfl
  have k1:=o.obj.cell (i:=1) rfl
  have k2:=o.obj.cell (i:=2) rfl
  clear o hm m
  go_wp2_with ((with_reducible show wpList _ _ _ (⟨some 20,_,_,_,_,_⟩::_) _ _);go_must (refine D6 rfl (.tmp 17) (.tmp 19) 199 rfl 205 i0 (.agg #[.int .i64 0,.int .i64 0,.int .i64 0]) 3 24 Tryz.underlying199 a3 a4 a5 a6 rfl (by decide) _ _ (L9 Z) rfl HS.out _ 1 (L9 [(r,s,t)]) rfl HS.out.swap.own.rd (X9t _) (L+1) rfl (by unfold maxLen;omega) (by omega) ?_);intro a2 p w4 h1;have HJ:=A5 h1;clear h1)
  go_roundg (gk-1)
  case measure=>omega
  case rel=>
   refine ⟨i+q,f,L+1,a2,p,Z++[(r,s,t)],by omega,by omega,by omega,by go_num,rfl,by omega,A5 (by rw [T0b,←HZ.out];rfl),z, ?_⟩
   rw [X8s]
   exact A5 HJ.out.one
theorem Y26 (ao:Option Addr) (n cap least:Nat) (l:List Int) (w:World) (hv:Rd w 1 (.slice ao n cap) n (D3 l)) (hn:n < 1000) (hl:least≤1000) (hsp:∀x,ao=some x→x.spot=none):
  Calls Tryz.prog 104 #[.slice ao n cap,.int .i64 (least:Int)] w fun e w'=>e= .returned (.slice ao (Z12 l least n) cap)∧∃c,w'=w.drewN c:=by
 obtain ⟨i,hi,b2,a1,b3⟩:=info_parts Z7h
 have q:l.length=n:=by have:=hv.1;rw [L6] at this;omega
 have a5:n≤cap:=by
  obtain ⟨_,a,c,hh,h,_⟩:=hv
  simp only [Value.slice.injEq,true_and] at hh
  omega
 have HV:=A5 (And.intro hv q)
 have a6:(0:Int)≤(n:Int):=T06 _
 have a7:(0:Int)≤(least:Int):=T06 _
 clear hv q
 go_enter Tryz.func104,Tryz.ntmps104
 go_wp2
 go_loopg [5] (n+1) (fun k t5 wr=>∃ (j d:Nat),j≤n∧j < k∧t5= .int .i64 (j:Int)∧Hid (Z12 l least n=Z12 l least j)∧wr=w.drewN d)
 case atStart=>exact ⟨n,0,by omega,by omega,rfl,A5 rfl,rfl⟩
 case round=>
  obtain ⟨j,d,hj,hk,rfl,HE,rfl⟩:=hrel
  have a8:(0:Int)≤(j:Int):=T06 _
  have b:Z12 l least j=j→Hid (Z12 l least n=j):=fun h=>A5 (HE.out.trans h)
  have a3:∀wg,(Instr.sliceAt 52 (.slice ao n cap) none (some (.int .i64 (j:Int))) none).run Tryz.prog wg= .ok (.slice ao j cap) wg:=fun wg=>by
   have h:=O0 (P:=Tryz.prog) (w:=wg) 52 3 i 1 Tryz.underlying52 hi a1 ao n cap 0 j none (some (.int .i64 (j:Int))) rfl ⟨_,rfl⟩ (by omega) (by omega)
   rw [h,Z14 _ _ _ _ hsp]
  by_cases r:least < j
  rotate_left
  ·have t:decide ((least:Int) < (j:Int))=false:=by simp;omega
   have HF:=b (by
    cases j with
    | zero=>rfl
    | succ m=>rw [Z12,if_neg (fun h=>r h.1)])
   clear b
   go_wp2
   go_ret
   rw [HF.out]
   exact ⟨rfl,_,rfl⟩
  have t:decide ((least:Int) < (j:Int))=true:=by simp;omega
  have a9:(j:Int)-1=((j-1:Nat):Int):=by omega
  have b0:((j-1:Nat):Int) < (n:Int):=by omega
  obtain ⟨x,s⟩:∃x,l[j-1]?=some x:=⟨l[j-1]'(by have:=HV.out.2;omega),T0a _⟩
  obtain ⟨g,b5,rfl,o⟩:=HV.out.1.spot (by omega)
  have c1:=o (j-1) _ (by rw [G5,s];rfl)
  have f:Z12 l least j=if x=0 then Z12 l least (j-1) else j:=by
   obtain ⟨m,rfl⟩:∃m,j=m+1:=⟨j-1,by omega⟩
   rw [Z12]
   rw [show m+1-1=m by omega] at s⊢
   rw [s]
   simp only [Option.getD_some,r,true_and]
  clear o s
  by_cases p:x=0
  ·have y:(x==0)=true:=by simp [p]
   rw [if_pos p] at f
   have z:=A5 (HE.out.trans f)
   clear f b
   go_wp2
   go_roundg (gk-1)
   case measure=>omega
   case rel=>exact ⟨j-1,d,by omega,by omega,by go_num,z,rfl⟩
  have y:(x==0)=false:=by simp [p]
  rw [if_neg p] at f
  have HF:=b f
  clear f b
  go_wp2
  go_ret
  rw [HF.out]
  exact ⟨rfl,_,rfl⟩
def Z4p (w:World):Prop:=∀i v,(D5 .i64 M5)[i]?=some v→w.cell? ⟨2,i,none⟩=some v
theorem Z4p.kept {w w':World} (h:Z4p w) (hm:E5 w w' (fun _=>False)):Z4p w':=fun i v hv=>by
 have hc:=h i v hv
 rw [hm.cell (World.block_lt_of_cell? w _ hc) (fun h=>h)];exact hc
section
variable {P:Program} {w:World}
theorem Y15 (g:Nat) (ty:TypeId) (cs:List Value) (d:TypeDesc) (hc:∀j u,cs[j]?=some u→w.cell? ⟨g,j,none⟩=some u)
  (hu:P.underlying ty=some d) (hd:(match d with | .struct _ | .array _ _=>true | _=>false)=true) (hi:(P.info? ty).map (·.size)=some cs.length):
  (loadVar ty ⟨g,0,none⟩).run P w= .ok (.agg cs.toArray) w:=by
 have f:(loadCells ⟨g,0,none⟩ cs.length).run P w= .ok cs.toArray w:=
  run_loadCells_list (P:=P) w ⟨g,0,none⟩ cs (fun j v hv=>by
   have a:(⟨g,0,none⟩:Addr).add j=⟨g,j,none⟩:=by unfold Addr.add;split <;> simp_all
   rw [a]
   exact hc j v hv)
 cases hq:P.info? ty with
 | none=>simp [hq] at hi
 | some i=>
  have k:i.size=cs.length:=by simpa [hq] using hi
  have b:(isAgg ty).run P w= .ok true w:=by
   unfold isAgg
   rw [Sem.run_bind,run_underlying hu w]
   cases d <;> simp_all
  simp [loadVar,typeInfo,hq,k,f,b,sizeOf]
theorem Y0u {ops:Array Oper} {rest:List Oper} {o:Oper} {ac:Act} {Q:Exit→Act→World→Prop} (hgd:o.guard=none) (t:TypeId) (x:Operand) (ho:o.op= .load t x)
  (g:Nat) (cs:List Value) (d:TypeDesc) (hx:ac.eval x= .pointer (some ⟨g,0,none⟩)) (hc:∀j u,cs[j]?=some u→w.cell? ⟨g,j,none⟩=some u)
  (hu:P.underlying t=some d) (hd:(match d with | .struct _ | .array _ _=>true | _=>false)=true) (hi:(P.info? t).map (·.size)=some cs.length)
  (h:wpList P ops Q rest (ac.put o.dst (.agg cs.toArray)) w):wpList P ops Q (o::rest) ac w:=
 wpList_plain hgd fun K hK=>by
  have hr:=Y15 (P:=P) (w:=w) g t cs d hc hu hd hi
  unfold Oper.wp execOp
  simp only [ho,hx,Instr.loadAt,Instr.sureAddr,Sem.run_bind,Sem.run_pure,Result.andThen_ok,hr]
  exact hK _ _ h
end
theorem W7w:(Tryz.prog.info? 3).map (fun i=>(i.zero,i.size,i.bytes))=some (some (Value.int .i64 0),1,8):=by kernel_rfl
theorem W65:(Tryz.prog.info? 3).map (·.size)=some 1:=by kernel_rfl
theorem X70 (v:Value) (hd:List Int) (w:World) (hv:Rd w 1 v 19 (D3 hd)) (hO:Z4p w):
  Calls Tryz.prog 139 #[v] w fun e w'=>∃ao cap,e= .returned (.slice ao 19 cap)∧A4 w w' [B0 3 1 (.slice ao 19 cap) 19 (D3 (W4 hd))]:=by
 obtain ⟨i0,hi,a8,a9,b0⟩:=info_parts W7w
 obtain ⟨ao,cap,rfl,_,_⟩:=hv.form
 have m:hd.length=19:=by have:=hv.1;rw [L6] at this;omega
 have HV:=A5 (And.intro hv (And.intro m hO))
 clear hv m hO
 go_enter Tryz.func139,Tryz.ntmps139
 go_wp2_with first
  | ((with_reducible show wpList _ _ _ (⟨some 6,_,_,_,_,_⟩::_) _ _);refine wpList_make_own rfl 52 (.const (.int .i64 19)) (.const (.int .i64 19)) rfl 3 i0 (.int .i64 0) 1 Tryz.underlying52 hi a8 a9 .i64 19 rfl rfl (by rw [b0];omega) (by unfold maxLen;omega) ?_;intro v1 w2 zs q l r a7 s;rw [Z83 _ _ rfl] at s;subst s;subst a7;have H1:=A5 ((A4.start w).pushOwn q l r);have n:=A5 (HV.out.2.2.kept l);clear l r q)
  | ((with_reducible show wpList _ _ _ (⟨some 7,_,_,_,_,_⟩::_) _ _);refine Y0u rfl 203 (.global 2) rfl 2 (D5 .i64 M5) _ rfl n.out Tryz.underlying203 rfl (by kernel_rfl) ?_)
  | fail
 have H2:Hid (A4 w w2 [B0 3 1 (.slice (some ⟨w.heap.size,0,none⟩) 19 19) 19 (D3 ((W4 hd).take 0++T01 (19-0) 0))]):=by
  have h:=H1.out
  rw [show T01 19 (Value.int .i64 0)=D3 ((W4 hd).take 0++T01 (19-0) 0) by simp [D3]] at h
  exact A5 h
 clear H1 n
 go_loopg [8] 20 (fun k t8 wr=>∃i:Nat,i≤19∧19-i < k∧t8= .int .i64 (i:Int)∧Hid (A4 w wr [B0 3 1 (.slice (some ⟨w.heap.size,0,none⟩) 19 19) 19 (D3 ((W4 hd).take i++T01 (19-i) 0))]))
 case atStart=>exact ⟨0,by omega,by omega,rfl,H2⟩
 case round=>
  obtain ⟨i,d0,hk,rfl,HH⟩:=hrel
  have b5:(0:Int)≤(i:Int):=T06 _
  by_cases a:i < 19
  rotate_left
  ·have a4:¬(i:Int) < 19:=by omega
   have hE:Hid (A4 w wr [B0 3 1 (.slice (some ⟨w.heap.size,0,none⟩) 19 19) 19 (D3 (W4 hd))]):=by
    have h:=HH.out
    rw [List.take_of_length_le (by rw [Z6e];omega),show 19-i=0 by omega,List.replicate_zero,List.append_nil] at h
    exact A5 h
   go_wp2
   go_ret
   exact ⟨_,_,rfl,hE.out⟩
  have a4:(i:Int) < 19:=by omega
  have o:M5[i]?=some (F8 i):=by
   unfold F8
   have:i < M5.length:=a
   rw [T0a this];rfl
  have a5:=Z4i i a
  obtain ⟨x,hx⟩:∃x,hd[F8 i]?=some x:=⟨hd[F8 i]'(by have:=HV.out.2.1;omega),T0a _⟩
  have d:(D3 ((W4 hd).take i++T01 (19-i) 0)).set i (.int .i64 x)=D3 ((W4 hd).take (i+1)++T01 (19- (i+1)) 0):=by
   have h1:(W4 hd)[i]?=some x:=by rw [Z8u hd a,hx];rfl
   have hl:((W4 hd).take i).length=i:=by rw [T0c,Z6e];omega
   have h2:(D3 ((W4 hd).take i++T01 (19-i) 0)).set i (.int .i64 x)=D3 (((W4 hd).take i++T01 (19-i) 0).set i x):=by simp [D3,List.map_set]
   rw [h2,List.set_append_right _ _ (by omega),hl,T0e,List.take_add_one,h1,show 19-i=(19- (i+1))+1 by omega,List.replicate_succ]
   simp
  obtain ⟨g,d1,rfl,b⟩:=(HH.out.old HV.out.1).spot (by omega)
  have c1:=b (F8 i) _ (by rw [G5,hx];rfl)
  obtain ⟨g2,b3,t,y,z,f⟩:=HH.out.own.site (by omega)
  simp only [Option.some.injEq,Addr.mk.injEq,and_true] at t
  obtain ⟨rfl,rfl⟩:=t
  have f1:=z i
  have p:(D3 ((W4 hd).take i++T01 (19-i) 0))[i]?=some (.int .i64 0):=by
   have hl:((W4 hd).take i).length=i:=by rw [T0c,Z6e];omega
   rw [G5,T0f (by omega),hl,T0e,List.getElem?_replicate,if_pos (by omega)];rfl
  have h5:=HH.out.putOwn (f i (.int .i64 x) a) (E5.set wr w.heap.size (0+i) _)
  rw [d] at h5
  obtain ⟨ob,j⟩:∃ob,ob=F8 i:=⟨_,rfl⟩
  rw [←j] at o a5 c1
  have c0:(ob:Int) < 19:=by omega
  have c3:(0:Int)≤(ob:Int):=T06 _
  have c2:=y i _ p
  rw [T0g] at c2 f1 h5
  have H5:=A5 h5
  clear b f z p y d hx h5 j
  go_wp2_with ((with_reducible show wpList _ _ _ (⟨some 11,_,_,_,_,_⟩::_) _ _);refine Z64 rfl 203 (.tmp 7) (.tmp 8) rfl 3 19 _ Tryz.underlying203 Tryz.underlying3 rfl W65 .i64 M5 .i64 i ob rfl rfl a o ?_)
  go_roundg (gk-1)
  case measure=>omega
  case rel=>exact ⟨i+1,by omega,by omega,by go_num,H5⟩
theorem X72 (a:Int) (w:World):
  Calls Tryz.prog 160 #[.int .i64 a] w fun e w'=>e= .returned (.int .i64 ((Z0u a:Nat):Int))∧w=w':=by
 have d:a < 0∨0≤a∧1048576 < a∨0≤a∧a≤1048576:=by omega
 rcases d with h | ⟨h,h2⟩ | ⟨h,h2⟩
 ·have b:Hid (Z0u a=0):=by unfold Hid Z0u;rw [if_neg (by omega)]
  go_enter Tryz.func160,Tryz.ntmps160
  go_wp2
  go_ret
  exact ⟨by rw [b.out];rfl,rfl⟩
 ·have b:Hid (Z0u a=0):=by unfold Hid Z0u;rw [if_neg (by omega)]
  go_enter Tryz.func160,Tryz.ntmps160
  go_wp2
  go_ret
  exact ⟨by rw [b.out];rfl,rfl⟩
 have b:Hid ((Z0u a:Int)=a):=by unfold Hid Z0u;rw [if_pos ⟨h,h2⟩];omega
 have f:¬1048576 < a:=by omega
 go_enter Tryz.func160,Tryz.ntmps160
 go_wp2
 go_ret
 exact ⟨by rw [b.out];rfl,rfl⟩
theorem Y8k (a:Int) (w:World):
  Calls Tryz.prog 160 #[.int .i64 a] w fun e w'=>e= .returned (.int .i64 ((Z0u a:Nat):Int))∧w'=w:=
 (X72 a w).mono fun _ _ ⟨h1,h2⟩=>⟨h1,h2.symm⟩
theorem Y85 (v u:Value) (l f:List Int) (w:World) (hv:Rd w 1 v l.length (D3 l)) (hu:Rd w 1 u f.length (D3 f)) (hl:l.length < 1000000):
  Calls Tryz.prog 129 #[v,u] w fun e w'=>e= .returned (.int .i64 ((Z3i l f (min l.length f.length):Nat):Int))∧∃c,w'=w.drewN c:=by
 obtain ⟨ao,c0,rfl,_,_⟩:=hv.form
 obtain ⟨bo,a6,rfl,_,_⟩:=hu.form
 obtain ⟨n,hn⟩:∃n,n=l.length:=⟨_,rfl⟩
 obtain ⟨m,hm⟩:∃m,m=f.length:=⟨_,rfl⟩
 obtain ⟨q,y⟩:∃q,q=min l.length f.length:=⟨_,rfl⟩
 rw [←y]
 rw [←hn] at hv hl y⊢
 rw [←hm] at hu y⊢
 have HN:=A5 hn
 have HM:=A5 hm
 have b0:q≤n:=by omega
 have b1:q≤m:=by omega
 have o:((m:Int) < (n:Int)∧Hid ((m:Int)=(q:Int)))∨(¬(m:Int) < (n:Int)∧Hid ((n:Int)=(q:Int))):=by unfold Hid;omega
 clear hn hm y
 rcases o with ⟨o,HQ⟩ | ⟨o,HQ⟩
 all_goals
  go_enter Tryz.func129,Tryz.ntmps129
  go_wp2
  rw [HQ.out]
  go_loopg [5,12] (q+1) (fun k t5 t12 wr=>∃ (i s c:Nat),i≤q∧q-i < k∧t12= .int .i64 (i:Int)∧t5= .int .i64 (s:Int)∧Hid (s=Z3i l f i)∧s≤1099511627776*i∧Hid (wr=w.drewN c))
  case atStart=>exact ⟨0,0,0,by omega,by omega,rfl,rfl,rfl,by omega,rfl⟩
  case round=>
   obtain ⟨i,s,c,hi,hk,rfl,rfl,HS,hs,HW⟩:=hrel
   obtain rfl:=HW.out
   by_cases b9:i < q
   rotate_left
   ·have a0:¬(i:Int) < (q:Int):=by omega
    obtain rfl:i=q:=by omega
    go_wp2
    go_ret
    exact ⟨Z8t (by rw [HS.out]),_,rfl⟩
   obtain ⟨g,a4,rfl,j⟩:=hv.spot (by omega)
   obtain ⟨g2,x,rfl,d⟩:=hu.spot (by omega)
   obtain ⟨a,p⟩:∃a,l[i]?=some a:=⟨l[i]'(by have:=HN.out;omega),T0a _⟩
   obtain ⟨b,r⟩:∃b,f[i]?=some b:=⟨f[i]'(by have:=HM.out;omega),T0a _⟩
   have b2:w.cell? ⟨g,a4+i,none⟩=some (.int .i64 a):=j i _ (by rw [G5,p];rfl)
   have b3:w.cell? ⟨g2,x+i,none⟩=some (.int .i64 b):=d i _ (by rw [G5,r];rfl)
   have b4:(0:Int)≤(i:Int):=T06 _
   have a0:(i:Int) < (q:Int):=by omega
   have b5:(i:Int) < (n:Int):=by omega
   have b6:(i:Int) < (m:Int):=by omega
   have t:Hid (Z3i l f (i+1)=Z3i l f i+Z0u a*Z0u b):=by unfold Hid;rw [Z3i,W1p p,W1p r]
   have a1:=V4f a b
   obtain ⟨z,hz⟩:∃z,z=Z0u a*Z0u b:=⟨_,rfl⟩
   rw [←hz] at a1 t
   have b7:IntKind.i64.wrap ((Z0u a:Int)*(Z0u b:Int))=(z:Int):=by
    rw [show ((Z0u a:Int)*(Z0u b:Int))=((z:Nat):Int) by rw [hz];simp]
    exact Z25 z (by omega)
   have b8:IntKind.i64.wrap ((s:Int)+(z:Int))=((s:Int)+(z:Int)):=by
    have:=Z25 (s+z) (by omega)
    simpa using this
   clear j d p r hz
   go_wp2
   go_quiet ((go_at_call 160;exact (Y8k _ _).mono fun _ _ h=>⟨h.1,_,h.2⟩))
   go_wp2
   go_roundg (gk-1)
   case measure=>omega
   case rel=>exact ⟨i+1,s+z,_,by omega,by omega,by go_num,by go_num,by unfold Hid;rw [t.out,←HS.out],by omega,rfl⟩
theorem X6.part {w:World} {C:Nat} {A B D:List Value} {T:TypeId} (h:X6 w C (A++(B++D)) T) (hB:B.length≤maxLen):Rd w 1 (.slice (some ⟨C,A.length,none⟩) B.length B.length) B.length B:=
 ⟨by simp,_,_,rfl,T02 _,hB,by simp,.inr ⟨C,A.length,rfl,fun j u hu=>h.cell (by
  have hj:=(List.getElem?_eq_some_iff.1 hu).1
  rw [T0f (by omega),Nat.add_sub_cancel_left,List.getElem?_append_left hj];exact hu)⟩⟩
theorem Z8v {P:Program} {w:World} {fn:Func} {p:Tmp} {t:TypeId} (hf:fn.results=#[.cell p t]) {R:Ending→World→Prop} {a:Act}
  (d:TypeDesc) (n:Nat) (ht:P.underlying t=some d) (hd:Z5y d=true) (hi:(P.info? t).map (·.size)=some n)
  (B:Nat) (cs:List Value) (T:TypeId) (hp:a.tmps.getD p undef= .pointer (some ⟨B,0,none⟩)) (hl:cs.length=n) (hB:X6 w B cs T)
  (hdf:a.defers=[]) (h:R (.returned (.agg cs.toArray)) w):bodyPost P fn R .ret a w:=
 bodyPost_ret (v:= .agg cs.toArray) (results_cell_row hf a.tmps w B T cs.toArray (0,0) d hp hB ht (by cases d <;> simp_all [Z5y]) (by rw [hi];simp [hl])) hdf h
theorem Z2s (l:List Nat):D5 .i64 l=D3 (M0 l):=by simp [D5,D3,M0]
section
variable {w:World} {C:Nat} {l:List E3} {T:TypeId}
theorem W1l (h:X6 w C (D5 .i64 (Z4q l)) T):Rd w 1 (.slice (some ⟨C,0,none⟩) 286 286) 286 (D3 (M0 (Z1i l))):=by
 have e:D5 .i64 (Z4q l)=[]++(D3 (M0 (Z1i l))++D5 .i64 (Z0y l++[Z5d l])):=by
  rw [←Z2s];simp [Z4q,D5]
 rw [e] at h
 have a:=h.part (by simp [D3,M0,Z1i];decide)
 have b:(D3 (M0 (Z1i l))).length=286:=by rw [L6,K9,N6]
 rw [b] at a
 exact a
theorem W1n (h:X6 w C (D5 .i64 (Z4q l)) T):Rd w 1 (.slice (some ⟨C,286,none⟩) 30 30) 30 (D3 (M0 (Z0y l))):=by
 have e:D5 .i64 (Z4q l)=D5 .i64 (Z1i l)++(D3 (M0 (Z0y l))++D5 .i64 [Z5d l]):=by
  rw [←Z2s];simp [Z4q,D5]
 rw [e] at h
 have a:=h.part (by simp [D3,M0,Z0y];decide)
 have b:(D3 (M0 (Z0y l))).length=30:=by rw [L6,K9,N4]
 have d:(D5 .i64 (Z1i l)).length=286:=by simp [D5,N6]
 rw [b,d] at a
 exact a
theorem V35 (h:X6 w C (D5 .i64 (Z4q l)) T):w.cell? ⟨C,316,none⟩=some (.int .i64 (Z5d l:Int)):=h.cell (by
 have e:D5 .i64 (Z4q l)=(D5 .i64 (Z1i l)++D5 .i64 (Z0y l))++D5 .i64 [Z5d l]:=by simp [Z4q,D5]
 have h4:(D5 .i64 (Z1i l)++D5 .i64 (Z0y l)).length=316:=by simp [D5,N6,N4]
 rw [e,T0f (by omega),h4];rfl)
theorem W1z:∀L:List E3,(∀t∈L,E9 t=true)→Z5d L≤18*L.length
 | [],_=>T02 _
 | t::L,h=>by
  have h1:=W1z L fun s hs=>h s (T07 _ hs)
  have h2:=X2l (h t (T09 ..))
  simp only [Z5d,List.map_cons,List.sum_cons,T05] at h1⊢
  omega
theorem Z6a (lo:Option Addr) (ln lc:Nat) (litv dv:Value) (l:List E3) (n1 n2 C:Nat) (lit dist:List Int) (hC:X6 w C (D5 .i64 (Z4q l)) 172) (h1:Rd w 1 litv n1 (D3 lit)) (h2:Rd w 1 dv n2 (D3 dist)) (c1:D0 lit 15=0) (c2:D0 dist 15=0) (hl:l.length < 1048576) (hs:∀t∈l,E9 t=true) (hb:O3 l):
  Calls Tryz.prog 100 #[.slice lo ln lc,.pointer (some ⟨C,0,none⟩),litv,dv] w fun e w'=>∃B1 B2,e= .returned (Z3h (.slice lo ln lc) B1 B2 (Q3 lit dist l).length)∧A4 w w' [J7 lit B1,J7 dist B2]:=by
 have r:=Z0o (m:=15) c1
 have s:=Z0o (m:=15) c2
 have a5:n1=lit.length:=by have:=h1.1;rw [L6] at this;omega
 have a6:n2=dist.length:=by have:=h2.1;rw [L6] at this;omega
 have a:=Y1f (lit:=lit) (dist:=dist) hs hb
 have a7:=Z3d (lit:=lit) (dist:=dist) r.2.1 s.2.1 hs
 have he:=W1z l hs
 subst a5
 subst a6
 have e1:Z3i lit (M0 (Z1i l)) (min lit.length (M0 (Z1i l)).length)=Z2o lit (Z5o l) 286:=by
  have h:=Y2g (l:=lit) (g:=Z5o l) (N:=286) r.2.1 fun k _=>Nat.le_trans (W2v l k) (by omega)
  unfold M0 Z1i
  exact h
 have e2:Z3i dist (M0 (Z0y l)) (min dist.length (M0 (Z0y l)).length)=Z2o dist (Z5n l) 30:=by
  have h:=Y2g (l:=dist) (g:=Z5n l) (N:=30) s.2.1 fun k _=>Nat.le_trans (X2p l k) (by omega)
  unfold M0 Z0y
  exact h
 obtain ⟨x,hx⟩:∃x,x=Z2o lit (Z5o l) 286:=⟨_,rfl⟩
 obtain ⟨y,hy⟩:∃y,y=Z2o dist (Z5n l) 30:=⟨_,rfl⟩
 obtain ⟨u,hu⟩:∃u,u=Z5d l:=⟨_,rfl⟩
 rw [←hx,←hy,←hu] at a
 rw [←hx] at e1
 rw [←hy] at e2
 obtain ⟨ao,a2,rfl,_,_⟩:=h1.form
 obtain ⟨bo,f,rfl,_,_⟩:=h2.form
 have HA:=(A4.start w).newObj [.slice none 0 0,.pointer none,.pointer none,.int .i64 0] 148
 have j:=A5 (Z3v (.slice ao lit.length a2) lit.length lit 15 _ (h1.kept HA.mod (fun _ _ h=>h)) (by omega))
 rw [c1] at j
 have z:=A5 HA
 have HR:=A5 (And.intro h1 (And.intro h2 hC))
 have HE:=A5 (And.intro e1 e2)
 have HK:=A5 (And.intro c2 (And.intro r.1 s.1))
 have c5:x < 100000000:=by omega
 have c6:y < 100000000:=by omega
 have c7:u < 100000000:=by omega
 have b1:=A5 a
 have HU:=A5 hu
 clear HA h1 h2 hC e1 e2 r s c1 c2 hx hy hu hs hb a a7 he
 go_enter Tryz.func100,Tryz.ntmps100
 go_wp2_with fail
 refine j.out.mono ?_
 rintro e w1 (⟨h0,_⟩ | ⟨_,B1,rfl,hh⟩)
 ·exact absurd rfl h0
 have H1:=A5 (z.out.frame hh)
 have n:=A5 (Z3v (.slice bo dist.length f) dist.length dist 15 _ (HR.out.2.1.kept H1.out.mod (fun _ _ h=>h)) (by have:=HK.out.2.2;omega))
 rw [HK.out.1] at n
 clear hh j z
 go_wp2_with fail
 refine n.out.mono ?_
 rintro e q (⟨h0,_⟩ | ⟨_,B2,rfl,hh⟩)
 ·exact absurd rfl h0
 have H2:=A5 (H1.out.frame hh)
 have d:=HR.out.2.2.kept H2.out.mod (fun h=>h)
 have kx:=V35 d
 rw [←HU.out] at kx
 have o:=A5 (fun k=>Y85 (.slice ao lit.length a2) (.slice (some ⟨C,0,none⟩) (M0 (Z1i l)).length 286) lit (M0 (Z1i l)) (q.drewN k) ((HR.out.1.kept H2.out.mod (fun _ _ h=>h)).drewTo rfl) ((by have h:=W1l d;rw [K9,N6];exact h:Rd q 1 (.slice (some ⟨C,0,none⟩) (M0 (Z1i l)).length 286) (M0 (Z1i l)).length (D3 (M0 (Z1i l)))).drewTo rfl) (by have:=HK.out.2.1;omega))
 have p:=A5 (fun k=>Y85 (.slice bo dist.length f) (.slice (some ⟨C,286,none⟩) (M0 (Z0y l)).length 30) dist (M0 (Z0y l)) (q.drewN k) ((HR.out.2.1.kept H2.out.mod (fun _ _ h=>h)).drewTo rfl) ((by have h:=W1n d;rw [K9,N4];exact h:Rd q 1 (.slice (some ⟨C,286,none⟩) (M0 (Z0y l)).length 30) (M0 (Z0y l)).length (D3 (M0 (Z0y l)))).drewTo rfl) (by have:=HK.out.2.2;omega))
 rw [HE.out.1,show (M0 (Z1i l)).length=286 by rw [K9,N6]] at o
 rw [HE.out.2,show (M0 (Z0y l)).length=30 by rw [K9,N4]] at p
 clear hh n H1 d
 go_wp2_with fail
 go_quiet ((go_at_call 129;first | ((with_reducible show Calls _ _ #[.slice ao _ _,_] _ _);exact (o.out _).mono fun _ _ h=>⟨h.1,_,h.2.choose_spec.trans (Z2b _ _ _)⟩) | exact (p.out _).mono fun _ _ h=>⟨h.1,_,h.2.choose_spec.trans (Z2b _ _ _)⟩))
 have b:A4 w (q.drewN nq) (E8 w.heap.size [.slice none 0 0,.pointer none,.pointer none,.int .i64 0] 148::[J7 dist B2,J7 lit B1]):=(H2.out.drewN nq).third
 generalize q.drewN nq=w3 at b⊢
 have f0:=b.obj.frozen 0
 have f1:=b.obj.frozen 1
 have f2:=b.obj.frozen 2
 have f3:=b.obj.frozen 3
 have k0:=b.obj.cell (i:=0) rfl
 have r:=b.obj.cell (i:=1) rfl
 have s:=b.obj.cell (i:=2) rfl
 have k3:=b.obj.cell (i:=3) rfl
 have H5:=A5 ((((b.setObj 0 (.slice lo ln lc)).setObj 1 (.pointer (some ⟨B1,0,none⟩))).setObj 2 (.pointer (some ⟨B2,0,none⟩))).setObj 3 (.int .i64 ((x:Int)+(y:Int)+(u:Int))))
 clear b H2 o p kx
 go_wp2
 try simp only [Exit.inBlock,Exit.then]
 refine Z8v rfl _ 4 Tryz.underlying148 rfl (by kernel_rfl) w.heap.size [.slice lo ln lc,.pointer (some ⟨B1,0,none⟩),.pointer (some ⟨B2,0,none⟩),.int .i64 ((x:Int)+(y:Int)+(u:Int))] 148 rfl rfl H5.out.obj rfl ?_
 refine ⟨B1,B2, ?_,H5.out.drop.swap⟩
 rw [b1.out];rfl
end
def V0a (B:Nat) (W:World) (R:World→Prop):Exit→Act→World→Prop
 | .normal,_,W'=>KeepsFrom B W W'∧R W'
 | _,_,_=>False
theorem X3a {F:Fence} {n:Nat} {P:Program} {g:Operand} {ps:Array Tmp} {assign body:Code} {Q:Exit→Act→World→Prop} {a:Act} {w:World}
  (hro:F.round=none) (h1:1≤n) {gf:Nat} {lb:Array Value} (hg:a.eval g= .func (.func gf) #[] lb) (hFg:F.fn gf) (eg:∀args w,(callFunc gf args).run P w= .ok (.enter gf args) w)
  (N:Nat) (args:Nat→Array Value) (hps:∀k,(args k).size=ps.size) (I:Nat→World→Prop) (hI:∀k W W',I k W→Below w.heap.size W W'→I k W') (h0:I 0 w)
  (hit:∀ (l:Nat) (J:Nat→World→Prop) (W:World),(∀k W,J k W→I k W)→(∀k W,k < N→J k W→YieldAt F (n-1-1) P l (args k) W fun e W'=>e= .returned (.bool true)∧J (k+1) W')→J 0 W→
   CallsIn F (n-1) P gf (#[.func (.yield l) #[] #[]]++lb) W fun e W'=>(∃v,e= .returned v)∧J N W')
  (a₁:Nat→Act)
  (hassign:∀ (l k:Nat) (W:World) (K:Act→World→Prop),K (a₁ k) W→
   assign.wpIn (F.inRound l) (n-1-1) P (Exit.then K (fun _ _ _=>False)) {tmps:=(ps.zip (args k)).foldl (fun t (p,v)=>t.setIfInBounds p v) a.tmps,defers:=[]} W)
  (hbody:∀ (l k:Nat) (W:World),k < N→I k W→w.heap.size≤W.heap.size→body.wpIn (F.inRound l) (n-1-1) P (V0a w.heap.size W (I (k+1))) (a₁ k) W)
  (hdone:∀ (D:Nat) (W:World),w.heap.size≤D→I N W→W.heap[D]?=some (.deferred (some []))→Q .normal {a with defers:={target:= .collected D,args:=#[]}::a.defers} W):
  (Code.rangeFunc g ps assign body).wpIn F n P Q a w:=by
 refine wpIn_rangeFunc fun fn hfn=> ?_
 obtain ⟨f,d⟩:∃f:LoopState→Loop,f=fun s=>{state:=s,pending:=none,fn,tmps:=a.tmps,params:=ps,assign,body,defers:=w.heap.size}:=⟨_,rfl⟩
 obtain ⟨b,hb⟩:∃b,b=w.heap.size:=⟨_,rfl⟩
 have a1:(w.alloc (.deferred (some []))).heap.size=b+1:=by rw [hb];simp
 obtain ⟨V,hV⟩:∃V,V=(w.alloc (.deferred (some []))).alloc (.loop (f .ready)):=⟨_,rfl⟩
 have a2:V.heap[b]?=some (.deferred (some [])):=by
  rw [hV,Below.heap_alloc _ _ _ (by omega),hb];exact World.alloc_heap_new w _
 have a4:V.heap[b+1]?=some (.loop (f .ready)):=by
  have:=World.alloc_heap_new (w.alloc (.deferred (some []))) (.loop (f .ready))
  rw [a1] at this;rw [hV];exact this
 have a5:I 0 V:=hI 0 w V h0 (by
  rw [hV]
  exact ((Below.refl _ w).alloc (T02 _) _).alloc (by simp) _)
 have far:∀ (W:World) (o:Obj),b+1 < W.heap.size→Below w.heap.size W (W.putObj (b+1) o):=fun W o h=>
  ⟨rfl,rfl,rfl,by simp,fun j hj=>World.putObj_heap_other (by omega)⟩
 refine ⟨b+1,[{target:= .collected b,args:=#[]}],V,{target:= .fn (.func gf) lb,args:=#[.func (.yield (b+1)) #[] #[]]},V,gf,#[.func (.yield (b+1)) #[] #[]]++lb,V, ?_, ?_, ?_, ?_,fun _=>h1, ?_⟩
 ·rw [hro,hV,d,hb];exact run_enterLoop_outer _ _ _ _ _
 ·simp only [resolve,hg]
  simp [go_sem]
 ·intro f' y
  simp [Target.leads] at y
  rw [←y];exact hFg
 ·simp [invoke,go_sem,eg]
 refine (hit (b+1) (fun k W=>I k W∧W.heap[b+1]?=some (.loop (f .ready))∧W.heap[b]?=some (.deferred (some []))) V (fun k W h=>h.1) ?_ ⟨a5,a4,a2⟩).mono ?_
 ·rintro k W hk ⟨hi,q,hd⟩
  have i:b+1 < W.heap.size:=(Array.getElem?_eq_some_iff.1 q).1
  have hy:=run_yield (P:=P) (args:=args k) q (by rw [d];exact hps k)
  rw [d] at hy
  have a6:=run_beginRound (P:=P) q (by rw [d])
  refine ⟨fn,_,assign,body,hy,roundIn_of_wpIn hfn (hassign _ k W _ ⟨_,a6, ?_⟩)⟩
  refine wpIn_mono (hbody (b+1) k _ hk (hI k W _ hi (far W _ i)) (by rw [World.putObj_size];omega)) ?_
  rintro e a3 W3 r
  cases e with
  | normal=>
   obtain ⟨z,b3⟩:=r
   have x:=z.same (b+1) _ (by omega) (World.putObj_heap_same i) rfl
   have a7:=z.same b _ (by omega) ((World.putObj_heap_other (by omega)).trans hd) rfl
   have m:b+1 < W3.heap.size:=(Array.getElem?_eq_some_iff.1 x).1
   have a8:=run_endRound (P:=P) none x
   refine ⟨_,_,a8,rfl,hI _ _ _ b3 (far W3 _ m), ?_,(World.putObj_heap_other (by omega)).trans a7⟩
   rw [World.putObj_heap_same m,d];rfl
  | ret=>exact r.elim
  | exit id=>exact r.elim
  | goto t=>exact r.elim
  | panic ch=>exact r.elim
  | outgrown=>exact r.elim
 rintro e W2 ⟨⟨v,rfl⟩,hi,q,hd⟩
 have i:b+1 < W2.heap.size:=(Array.getElem?_eq_some_iff.1 q).1
 have a9:=run_endLoop (P:=P) q (by rw [d];simp)
 refine ⟨none,_,by rw [a9,d], ?_⟩
 exact hdone b _ (by omega) (hI _ _ _ hi (far W2 _ i)) ((World.putObj_heap_other (by omega)).trans hd)
theorem Y2c (a b:List Nat):I3 (a++b)=I3 a+I3 b:=by
 induction a with
 | nil=>simp [I3]
 | cons x a ih=>rw [List.cons_append,I3,I3,ih];omega
def Up:List Nat→Prop
 | []=>True
 | a::l=>(∀b∈l,a≤b)∧Up l
theorem V3j {l l2:List Nat} (h:l.Perm l2):kr l=kr l2:=by
 induction h with
 | nil=>rfl
 | cons x _ ih=>rw [kr,kr,ih]
 | swap x y l=>simp only [kr];omega
 | trans _ _ ih1 ih2=>rw [ih1,ih2]
theorem V78 {p q:List Nat} (h:p.Perm q):∀lp:List Nat,lp.length=p.length→∃lq:List Nat,lq.length=q.length∧lq.Perm lp∧cst lq q=cst lp p:=by
 induction h with
 | nil=>intro lp d;exact ⟨lp,d,List.Perm.refl _,rfl⟩
 | cons x _ ih=>
  intro lp d
  match lp,d with
  | a::lp,d=>
   obtain ⟨lq,f,g,i⟩:=ih lp (by simpa using d)
   exact ⟨a::lq,by simp [f],g.cons a,by rw [cst,cst,i]⟩
 | swap x y l=>
  intro lp d
  match lp,d with
  | a::b::lp,d=>exact ⟨b::a::lp,by simpa using d,List.Perm.swap a b lp,by simp only [cst];omega⟩
 | trans _ _ ih1 ih2=>
  intro lp d
  obtain ⟨lq,f,g,i⟩:=ih1 lp d
  obtain ⟨j,k,m,n⟩:=ih2 lq f
  exact ⟨j,k,m.trans g,by rw [n,i]⟩
def Y4x (f:List Nat):List Nat:=f.filter fun b=>decide (0 < b)
theorem V0u:∀ (f l:List Nat),l.length=f.length→(∀ (i a b:Nat),l[i]?=some a→f[i]?=some b→(0 < a↔0 < b))→
  ∃lq:List Nat,lq.length=(Y4x f).length∧(∀a∈lq,0 < a∧a∈l)∧kr lq=kr l∧cst lq (Y4x f)=cst l f
 | [],l,h,_=>by
  obtain rfl:l=[]:=T0i (by simpa using h)
  exact ⟨[],rfl,by simp,rfl,rfl⟩
 | b::f,l,h,hs=>by
  match l,h,hs with
  | a::l,h,hs=>
   obtain ⟨lq,h1,h2,h3,h4⟩:=V0u f l (by simpa using h) fun i x y hx hy=>hs (i+1) x y (by simpa using hx) (by simpa using hy)
   have h0:=hs 0 a b rfl rfl
   by_cases hb:0 < b
   ·have hc:Y4x (b::f)=b::Y4x f:=by simp [Y4x,hb]
    rw [hc]
    refine ⟨a::lq,by simp [h1],fun x hx=> ?_,by rw [kr,kr,h3],by rw [cst,cst,h4]⟩
    rcases List.mem_cons.1 hx with hx | hx
    ·subst hx;exact ⟨h0.2 hb,T09⟩
    exact ⟨(h2 x hx).1,T07 _ (h2 x hx).2⟩
   have hc:Y4x (b::f)=Y4x f:=by simp [Y4x,hb]
   rw [hc]
   obtain rfl:b=0:=by omega
   obtain rfl:a=0:=by
    have:¬0 < a:=fun h=>by have:=h0.1 h;omega
    omega
   exact ⟨lq,h1,fun x hx=>⟨(h2 x hx).1,T07 _ (h2 x hx).2⟩,by rw [kr,Y60,h3];omega,by rw [cst,h4];omega⟩
def U3:List Nat→List Nat
 | a::b::l=>(a+b)::U3 l
 | _=>[]
theorem Y1m:∀l:List Nat,(U3 l).length=l.length / 2
 | []=>rfl
 | [a]=>by simp [U3]
 | a::b::l=>by rw [U3,T05,Y1m l,T05,T05];omega
theorem Y78:∀ (l:List Nat) (e:Nat),I3 ((U3 l).take e)≤I3 (l.take (2*e))
 | [],e=>by simp [U3,I3]
 | [a],e=>by simp [U3,I3]
 | a::b::l,0=>by simp [I3]
 | a::b::l,e+1=>by
  rw [U3,T00,show 2*(e+1)=2*e+1+1 by omega,T00,T00,I3,I3,I3]
  have:=Y78 l e
  omega
theorem Z9c:∀ (l:List Nat) (e:Nat),2*e≤l.length→I3 ((U3 l).take e)=I3 (l.take (2*e))
 | _,0,_=>by simp [I3]
 | [],e+1,h=>by simp at h
 | [a],e+1,h=>by simp at h;omega
 | a::b::l,e+1,h=>by
  rw [U3,T00,show 2*(e+1)=2*e+1+1 by omega,T00,T00,I3,I3,I3,Z9c l e (by simp at h;omega)]
  omega
theorem Y88 {a b:List Nat} (h:a.Perm b):I3 a=I3 b:=by
 induction h with
 | nil=>rfl
 | cons x _ ih=>rw [I3,I3,ih]
 | swap x y l=>simp only [I3];omega
 | trans _ _ ih1 ih2=>rw [ih1,ih2]
theorem Z9q (x:Nat):∀ (l:List Nat) (c:Nat),(∀b∈l,x≤b)→c≤l.length→I3 ((x::l).take c)≤I3 (l.take c)
 | _,0,_,_=>by simp [I3]
 | [],c+1,_,h=>by simp at h
 | y::l,c+1,hx,h=>by
  have h1:=hx y T09
  rw [T00,I3,T00,I3]
  have:I3 ((y::l).take c)≤I3 (l.take c)+y:=by
   cases c with
   | zero=>simp [I3]
   | succ c=>
    rw [T00,I3]
    have:∀ (l:List Nat) (c:Nat),I3 (l.take c)≤I3 (l.take (c+1)):=by
     intro l
     induction l with
     | nil=>intro c;simp [I3]
     | cons z l ih=>
      intro c
      cases c with
      | zero=>simp [I3]
      | succ c=>rw [T00,T00,I3,I3];have:=ih c;omega
    have:=this l c
    omega
  match c,h with
  | 0,_=>simp [I3];exact h1
  | c+1,h=>
   have a:=Z9q x l (c+1) (fun b hb=>hx b (T07 _ hb)) (by simp at h;omega)
   rw [T00,I3] at a
   rw [T00,I3]
   have d:∀b∈l,x≤b:=fun b hb=>hx b (T07 _ hb)
   omega
theorem Z6i:∀ (M Q R:List Nat),Up M→M.Perm (Q++R)→I3 (M.take Q.length)≤I3 Q
 | [],Q,R,_,h=>by
  have:=h.length_eq
  have:Q=[]:=T0i (by simp at this;omega)
  subst this;simp [I3]
 | x::M,Q,R,hu,h=>by
  have hx:x∈Q++R:=h.mem_iff.1 T09
  by_cases hq:x∈Q
  ·have hQ:=T0j hq
   have h2:M.Perm (Q.erase x++R):=List.Perm.cons_inv (h.trans (hQ.append_right R))
   have ih:=Z6i M _ R hu.2 h2
   have hl:=hQ.length_eq
   rw [T05] at hl
   rw [Y88 hQ,hl,T00,I3,I3];omega
  have hr:x∈R:=by
   rcases List.mem_append.1 hx with h | h
   ·exact absurd h hq
   exact h
  have a:=T0j hr
  have h2:M.Perm (Q++R.erase x):=List.Perm.cons_inv (h.trans ((a.append_left Q).trans List.perm_middle))
  have ih:=Z6i M Q _ hu.2 h2
  have hl:=h2.length_eq
  rw [T0b] at hl
  have:=Z9q x M Q.length hu.1 (by omega)
  omega
def X8 (d:Nat):List Nat→Nat
 | []=>0
 | a::l=>(if d≤a then 1 else 0)+X8 d l
def Z6x (d:Nat):List Nat→Nat
 | []=>0
 | a::l=>(if d≤a then wtN a else 0)+Z6x d l
def wGe (d:Nat):List Nat→List Nat→Nat
 | a::l,x::A=>(if d≤a then x else 0)+wGe d l A
 | _,_=>0
theorem Y82 (d:Nat):∀l:List Nat,X8 d l≤l.length
 | []=>T02 _
 | a::l=>by have:=Y82 d l;rw [X8,T05];split <;> omega
theorem Y8z (d:Nat):∀ (l A:List Nat),l.length=A.length→Up A→I3 (A.take (X8 d l))≤wGe d l A
 | [],A,_,_=>by simp [X8,I3]
 | a::l,[],h,_=>by simp at h
 | a::l,x::A,h,hu=>by
  have ih:=Y8z d l A (by simpa using h) hu.2
  have hc:=Y82 d l
  rw [X8,wGe]
  by_cases ha:d≤a
  ·rw [if_pos ha,if_pos ha,Nat.add_comm 1,T00,I3];omega
  rw [if_neg ha,if_neg ha,T0g]
  have:=Z9q x A (X8 d l) hu.1 (by simp at h;omega)
  omega
def K8 (m:Nat) (l A:List Nat):Nat→Nat
 | 0=>0
 | t+1=>wGe (m-t) l A+K8 m l A t
theorem X5f (m a x:Nat) (l A:List Nat) (hm:a≤m):∀t,t≤m→K8 m (a::l) (x::A) t=K8 m l A t+(a- (m-t))*x
 | 0,_=>by simp [K8];rw [show a-m=0 by omega];omega
 | t+1,h=>by
  rw [K8,K8,X5f m a x l A hm t (by omega),wGe]
  by_cases ha:m-t≤a
  ·rw [if_pos ha,show a- (m- (t+1))=(a- (m-t))+1 by omega,T08,Nat.one_mul];omega
  rw [if_neg ha,show a- (m- (t+1))=a- (m-t) by omega];omega
theorem W1x (m:Nat):∀ (l A:List Nat),l.length=A.length→(∀a∈l,a≤m)→K8 m l A m=cst l A
 | [],[],_,_=>by
  have:∀t,K8 m [] [] t=0:=by
   intro t
   induction t with
   | zero=>rfl
   | succ t ih=>rw [K8,ih];rfl
  rw [this];rfl
 | [],x::A,h,_=>by simp at h
 | a::l,[],h,_=>by simp at h
 | a::l,x::A,h,hl=>by
  rw [X5f m a x l A (hl a T09) m (T02 _),W1x m l A (by simpa using h) fun b hb=>hl b (T07 _ hb),cst,T0e,T0h];omega
def Z1z (m:Nat) (l:List Nat):Nat→Nat
 | 0=>0
 | t+1=>X8 (m-t) l+Z1z m l t / 2
theorem Y81 (d:Nat) (hd:1≤d) (hd15:d≤15):∀l:List Nat,X8 d l=X8 (d+1) l+l.count d∧Z6x d l=Z6x (d+1) l+l.count d*2^(15-d)
 | []=>by simp [X8,Z6x]
 | a::l=>by
  obtain ⟨h1,h2⟩:=Y81 d hd hd15 l
  by_cases e:a=d
  ·subst e
   rw [X8,X8,Z6x,Z6x,List.count_cons_self,if_pos (T02 a),if_neg (show ¬a+1≤a by omega),if_pos (T02 a),if_neg (show ¬a+1≤a by omega),W1e a hd hd15,T08,Nat.one_mul]
   omega
  rw [X8,X8,Z6x,Z6x,List.count_cons_of_ne e]
  by_cases ha:d≤a
  ·rw [if_pos ha,if_pos (show d+1≤a by omega),if_pos ha,if_pos (show d+1≤a by omega)];omega
  rw [if_neg ha,if_neg (show ¬d+1≤a by omega),if_neg ha,if_neg (show ¬d+1≤a by omega)];omega
theorem V12 (m:Nat):∀l:List Nat,(∀a∈l,a≤m)→X8 (m+1) l=0∧Z6x (m+1) l=0
 | [],_=>⟨rfl,rfl⟩
 | a::l,h=>by
  obtain ⟨h1,h2⟩:=V12 m l fun b hb=>h b (T07 _ hb)
  have:=h a T09
  rw [X8,Z6x,if_neg (by omega),if_neg (by omega),h1,h2];exact ⟨rfl,rfl⟩
theorem V0i (d:Nat) (hd:d≤15):∀l:List Nat,∃q,kr l=Z6x (d+1) l+q*2^(15-d)
 | []=>⟨0,by simp [kr,Z6x]⟩
 | a::l=>by
  obtain ⟨q,hq⟩:=V0i d hd l
  rw [kr,Z6x,hq]
  by_cases ha:d+1≤a
  ·exact ⟨q,by rw [if_pos ha];omega⟩
  rw [if_neg ha]
  unfold wtN
  by_cases h:1≤a∧a≤15
  ·rw [if_pos h,show 15-a=(15-d)+(d-a) by omega,Nat.pow_add]
   exact ⟨2^(d-a)+q,by rw [T08,T03 (2^(d-a))];omega⟩
  rw [if_neg h]
  exact ⟨q,by omega⟩
theorem Y96 {m:Nat} {l:List Nat} (hm:m≤15) (hl:∀a∈l,a≤m) (hk:kr l=32768):∀t,t+1≤m→
  Z1z m l (t+1)*2^(15- (m-t))+Z6x (m-t) l=X8 (m-t) l*(2*2^(15- (m-t)))∧2 ∣ Z1z m l t:=by
 intro t
 induction t with
 | zero=>
  intro h
  obtain ⟨g1,g2⟩:=V12 m l hl
  obtain ⟨j,k⟩:=Y81 m (by omega) hm l
  refine ⟨?_,⟨0,rfl⟩⟩
  rw [T0h,Z1z,Z1z,T0h,Nat.zero_div,Nat.add_zero]
  rw [g1] at j;rw [g2] at k
  rw [k,j]
  simp only [T0g]
  generalize l.count m=c
  generalize 2^(15-m)=p
  rw [T03 2 p,←T04];omega
 | succ t ih=>
  intro h
  obtain ⟨n,i2⟩:=ih (by omega)
  obtain ⟨d,hd⟩:∃d,m-t=d+1:=⟨m-t-1,by omega⟩
  have f:m- (t+1)=d:=by omega
  rw [hd] at n
  rw [f]
  have b:2^(15-d)=2*2^(15- (d+1)):=by rw [show 15-d=(15- (d+1))+1 by omega,Nat.pow_succ,T03]
  have i:2 ∣ Z1z m l (t+1):=by
   obtain ⟨q,z⟩:=V0i d (by omega) l
   have o:2^d*2^(15-d)=32768:=by rw [←Nat.pow_add,show d+(15-d)=15 by omega]
   rw [hk,←o,b] at z
   have hp:0 < 2^(15- (d+1)):=Nat.two_pow_pos _
   generalize 2^(15- (d+1))=p at*
   generalize Z1z m l (t+1)=K at*
   generalize X8 (d+1) l=c at*
   generalize Z6x (d+1) l=g at*
   generalize 2^d=e at*
   have r:e*(2*p)=2*e*p:=by rw [←T04,T03 e 2]
   have s:q*(2*p)=2*q*p:=by rw [←T04,T03 q 2]
   have y:c*(2*p)=2*c*p:=by rw [←T04,T03 c 2]
   rw [r,s] at z
   rw [y] at n
   have k4:(K+2*e)*p=(2*c+2*q)*p:=by rw [T08,T08];omega
   have k5:=Nat.eq_of_mul_eq_mul_right hp k4
   omega
  refine ⟨?_,i⟩
  obtain ⟨K,hK⟩:=i
  obtain ⟨j,k⟩:=Y81 d (by omega) (by omega) l
  rw [Z1z,f,hK,show 2*K / 2=K by omega,k,j]
  rw [hK] at n
  rw [b]
  generalize 2^(15- (d+1))=p at*
  generalize X8 (d+1) l=c at*
  generalize Z6x (d+1) l=g at*
  generalize l.count d=x at*
  have r:2*K*p=K*(2*p):=by rw [T03 2 K,T04]
  rw [r] at n
  have s:(c+x+K)*(2*p)=c*(2*p)+x*(2*p)+K*(2*p):=by rw [T08,T08]
  have y:(c+x)*(2*(2*p))=2*(c*(2*p))+2*(x*(2*p)):=by
   rw [T08,←T04 c 2,T03 c 2,T04,←T04 x 2,T03 x 2,T04]
  rw [s,y];omega
theorem X9w {m:Nat} {l:List Nat} (hm0:1≤m) (hm:m≤15) (hl:∀a∈l,1≤a∧a≤m) (hk:kr l=32768):Z1z m l m=2*l.length-2:=by
 obtain ⟨t,rfl⟩:∃t,m=t+1:=⟨m-1,by omega⟩
 have g:=(Y96 hm (fun a ha=>(hl a ha).2) hk t (T02 _)).1
 rw [show t+1-t=1 by omega] at g
 have j:∀l:List Nat,(∀a∈l,1≤a∧a≤t+1)→X8 1 l=l.length∧Z6x 1 l=kr l:=by
  intro l
  induction l with
  | nil=>intro _;exact ⟨rfl,rfl⟩
  | cons a l ih=>
   intro h
   have i:=h a T09
   obtain ⟨d,f⟩:=ih fun b hb=>h b (T07 _ hb)
   rw [X8,Z6x,kr,if_pos i.1,if_pos i.1,d,f,T05]
   exact ⟨by omega,rfl⟩
 obtain ⟨d,f⟩:=j l hl
 rw [d,f,hk] at g
 omega
structure W1g (A:List Nat) (m:Nat) (W:Nat→List Nat):Prop where
 none:W 0=[]
 up:∀t,t < m→Up (W (t+1))
 made:∀t,t < m→(W (t+1)).Perm (A++U3 (W t))
theorem W1g.least {A l:List Nat} {m:Nat} {W:Nat→List Nat} (h:W1g A m W) (hA:Up A) (hlen:l.length=A.length) (hm0:1≤m) (hm:m≤15) (hl:∀a∈l,1≤a∧a≤m) (hk:kr l=32768):
  I3 ((W m).take (2*A.length-2))≤cst l A∧2*A.length-2≤(W m).length:=by
 have b:∀t,t≤m→I3 ((W t).take (Z1z m l t))≤K8 m l A t∧Z1z m l t≤(W t).length:=by
  intro t
  induction t with
  | zero=>intro _;simp [Z1z,I3]
  | succ t ih=>
   intro p
   obtain ⟨q,r⟩:=ih (by omega)
   obtain ⟨e,j⟩:=(Y96 hm (fun a ha=>(hl a ha).2) hk t p).2
   have i:=h.made t (by omega)
   have s:=Y82 (m-t) l
   have d:=Y1m (W t)
   have x:=Y8z (m-t) l A hlen hA
   rw [j] at q r
   have f:Z1z m l (t+1)=X8 (m-t) l+e:=by rw [Z1z,j];omega
   rw [f]
   have n:=Z6i (W (t+1)) (A.take (X8 (m-t) l)++(U3 (W t)).take e) (A.drop (X8 (m-t) l)++(U3 (W t)).drop e) (h.up t (by omega)) (by
    refine i.trans ?_
    have o:A++U3 (W t)=(A.take (X8 (m-t) l)++A.drop (X8 (m-t) l))++((U3 (W t)).take e++(U3 (W t)).drop e):=by rw [T0k,T0k]
    rw [o,T0d,T0d]
    refine List.Perm.append_left _ ?_
    rw [←T0d,←T0d]
    exact List.perm_append_comm.append_right _)
   rw [T0b,T0c,T0c,Nat.min_eq_left (by omega),Nat.min_eq_left (by omega),Y2c] at n
   have y:=Y78 (W t) e
   refine ⟨by rw [K8];omega, ?_⟩
   have:=i.length_eq
   rw [T0b,d] at this
   omega
 obtain ⟨g,k⟩:=b m (T02 _)
 rw [X9w hm0 hm hl hk,hlen] at g k
 rw [W1x m l A hlen fun a ha=>(hl a ha).2] at g
 exact ⟨g,k⟩
end Go.Proofs.YtbkbkmgogbgofaaGreatDoor
