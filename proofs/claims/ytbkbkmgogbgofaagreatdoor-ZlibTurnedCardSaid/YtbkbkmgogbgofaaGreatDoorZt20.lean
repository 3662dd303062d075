/- The claim's texts, put together and shortened by a program (names, spaces). -/
import Derived.Test.YtbkbkmgogbgofaaGreatDoorZt02
import Derived.Maps.Own
import Derived.Maps.OwnOps
import Derived.DeepKeys4
import Derived.WalkSpells
import Derived.Test.YtbkbkmgogbgofaaGreatDoorProg
import Derived.Test.YtbkbkmgogbgofaaGreatDoorZt19
import Derived.Test.YtbkbkmgogbgofaaGreatDoorZt03
import Derived.Test.YtbkbkmgogbgofaaGreatDoorZt04
import Derived.Test.YtbkbkmgogbgofaaGreatDoorZt08
import Derived.Test.YtbkbkmgogbgofaaGreatDoorZt05
import Derived.StillTailTactics
import Derived.Test.YtbkbkmgogbgofaaGreatDoorZt12
import Derived.Deep.DeepCutAuto
open List renaming length_drop→T02,getElem_set→T03,length_take→T06,mem_singleton→T07,getElem_of_mem→T08,map_toArray→T09,take_of_length_le→T0a,getElem?_eq_getElem→T0b,getElem?_eq_none→T0c
open Nat renaming le_refl→T01,mul_one→T04
open Int renaming natCast_nonneg→T00
open Array renaming toList_push→T05
namespace Go.Proofs.YtbkbkmgogbgofaaGreatDoor
set_option maxRecDepth 100000
set_option maxHeartbeats 6400000
open Go.RowKit
section
variable {κ ε:Type} {P:Program} {k:TypeId}
structure W7a (P:Program) (k:TypeId) (kv:κ→Value) (ok:κ→Prop):Prop where
 keyed:Go.Maps.Keyed P k
 is:∀s,ok s→∃l,keyOf P k (kv s)=some l
 inj:∀s s',kv s=kv s'→s=s'
def X3 (kv:κ→Value) (ok:κ→Prop) (ev:ε→Value) (w:World) (b:Nat) (g:κ→Option ε) (n:Nat):Prop:=
 ∃es clock,w.heap[b]?=some (.map es clock)∧(∀x∈es.toList,∃s p,ok s∧g s=some p∧x.key=kv s∧x.val=ev p)∧(∀s p,ok s→g s=some p→∃x∈es.toList,x.key=kv s)∧
  es.toList.Pairwise (fun x y=>x.key≠y.key)∧es.size≤n
variable {kv:κ→Value} {ok:κ→Prop} {ev:ε→Value} {w:World} {b n:Nat} {g:κ→Option ε}
theorem X3.lt (h:X3 kv ok ev w b g n):b < w.heap.size:=by
 obtain ⟨f,a,d,_⟩:=h
 exact (Array.getElem?_eq_some_iff.1 d).1
theorem X3.kept (h:X3 kv ok ev w b g n) {w':World} {S:Nat→Prop} (hm:E2 w w' S) (hs:¬S b):X3 kv ok ev w' b g n:=by
 have d:=h.lt
 obtain ⟨f,a,i,rest⟩:=h
 exact ⟨f,a,(hm.block b d hs).trans i,rest⟩
theorem X3.look {t e:TypeId} {z:Value} (h:X3 kv ok ev w b g n) (K:W7a P k kv ok) (ht:P.underlying t=some (.map k e)) (hz:(zeroValue e).run P w= .ok z w) (s:κ) (hs:ok s):
  (Instr.lookup t (.map (some b)) (kv s) true).run P w= .ok (.tuple #[((g s).map ev).getD z,.bool (g s).isSome]) w:=by
 obtain ⟨q,a,r,y,h2,_,_⟩:=h
 obtain ⟨l,d⟩:=K.is s hs
 have hk:∀x∈q.toList,∃l,keyOf P k x.key=some l:=fun x m=>by
  obtain ⟨f,p,o1,_,i,_⟩:=y x m
  rw [i];exact K.is f o1
 rcases K.keyed.find w d q.toList hk with ⟨f1,f2⟩ | ⟨j,x,f1,f2,f3⟩
 ·have hg:g s=none:=by
   cases c:g s with
   | none=>rfl
   | some p=>
    obtain ⟨x,m,o⟩:=h2 s p hs c
    exact absurd o (f2 x m)
  rw [hg]
  simp [Instr.lookup,run_underlying ht,MapKept.run_getObj_map r,K.keyed.check w _ d,f1,hz,Result.andThen]
 obtain ⟨f,p,o1,i,o3,o4⟩:=y x (List.mem_of_getElem? f2)
 have e:f=s:=K.inj _ _ (o3.symm.trans f3)
 subst e
 rw [i]
 rw [o4] at f1
 simp [Instr.lookup,run_underlying ht,MapKept.run_getObj_map r,K.keyed.check w _ d,f1,Result.andThen]
theorem X3.store {t e:TypeId} (h:X3 kv ok ev w b g n) (K:W7a P k kv ok) (ht:P.underlying t=some (.map k e)) (s:κ) (hs:ok s) (p:ε) (g':κ→Option ε) (h1:g' s=some p) (h2:∀s',s'≠s→g' s'=g s'):
  ∃w',(Instr.mapUpdate t (.map (some b)) (kv s) (ev p)).run P w= .ok () w'∧X3 kv ok ev w' b g' (n+1)∧E2 w w' (fun j=>j=b):=by
 obtain ⟨q,d,hb,k1,k2,k3,k4⟩:=h
 obtain ⟨l,hl⟩:=K.is s hs
 have hk:∀x∈q.toList,∃l,keyOf P k x.key=some l:=fun x hx=>by
  obtain ⟨s',p,o1,_,o2,_⟩:=k1 x hx
  rw [o2];exact K.is s' o1
 have a3:∀o,E2 w (ChangeMaps.setBlock w b o) (fun j=>j=b):=fun o=>
  ⟨rfl,rfl,rfl,by simp [ChangeMaps.setBlock],fun j _ hj=>ChangeMaps.heap_setBlock_other hb _ hj⟩
 rcases K.keyed.find w hl q.toList hk with ⟨f1,f2⟩ | ⟨j,x,f1,f2,f3⟩
 ·refine ⟨ChangeMaps.setBlock w b (.map (q.push ⟨kv s,ev p,d⟩) (d+1)), ?_,⟨q.push ⟨kv s,ev p,d⟩,d+1,ChangeMaps.heap_setBlock_same hb _, ?_, ?_, ?_,by simp;omega⟩,a3 _⟩
  ·simp [Instr.mapUpdate,run_underlying ht,MapKept.run_getObj_map hb,K.keyed.check w false hl,f1,MapKept.run_setObj_map _ hb,Result.andThen,ChangeMaps.setBlock]
  ·intro y z
   simp only [T05,List.mem_append,T07] at z
   rcases z with z | rfl
   ·obtain ⟨s',p',o1,o2,o3,o4⟩:=k1 y z
    exact ⟨s',p',o1,by rw [h2 s' fun e=>f2 y z (by rw [o3,e])];exact o2,o3,o4⟩
   exact ⟨s,p,hs,h1,rfl,rfl⟩
  ·intro s' p' o1 o2
   by_cases c:s'=s
   ·subst c;exact ⟨⟨kv s',ev p,d⟩,by simp,rfl⟩
   obtain ⟨y,z,a2⟩:=k2 s' p' o1 (by rw [←h2 s' c];exact o2)
   exact ⟨y,by simp only [T05,List.mem_append];exact .inl z,a2⟩
  rw [T05,List.pairwise_append]
  exact ⟨k3,List.pairwise_singleton _ _,fun a ha c hc=>by
   simp only [T07] at hc;subst hc;exact f2 a ha⟩
 have hj:q[j]?=some x:=by simpa using f2
 have a4:j < q.toList.length:=(List.getElem?_eq_some_iff.1 f2).1
 have f:(q.modify j (fun e'=>{e' with key:=kv s,val:=ev p})).toList=q.toList.set j {x with key:=kv s,val:=ev p}:=by rw [Array.toList_modify,ChangeMaps.modify_eq_set _ _ _ _ f2]
 have a5:=List.pairwise_iff_getElem.1 k3
 have m:∀i (r:i < q.toList.length),i≠j→(q.toList[i]).key≠kv s:=by
  intro i r b4 e
  have hx:q.toList[j]=x:=(List.getElem?_eq_some_iff.1 f2).2
  rcases Nat.lt_or_gt_of_ne b4 with c | c
  ·exact a5 i j r a4 c (by rw [e,hx,f3])
  exact a5 j i a4 r c (by rw [e,hx,f3])
 refine ⟨ChangeMaps.setBlock w b (.map (q.modify j (fun e'=>{e' with key:=kv s,val:=ev p})) d), ?_,⟨q.modify j (fun e'=>{e' with key:=kv s,val:=ev p}),d,ChangeMaps.heap_setBlock_same hb _, ?_, ?_, ?_,by simp;omega⟩,a3 _⟩
 ·simp [Instr.mapUpdate,run_underlying ht,MapKept.run_getObj_map hb,K.keyed.check w false hl,f1,hj,f3,K.keyed.stays w hl,MapKept.run_setObj_map _ hb,Result.andThen,ChangeMaps.setBlock]
 ·intro y z
  rw [f] at z
  obtain ⟨i,r,rfl⟩:=T08 z
  rw [List.length_set] at r
  rw [T03]
  by_cases c:j=i
  ·rw [if_pos c];exact ⟨s,p,hs,h1,rfl,rfl⟩
  rw [if_neg c]
  obtain ⟨s',p',o1,o2,o3,o4⟩:=k1 _ (List.getElem_mem r)
  exact ⟨s',p',o1,by rw [h2 s' fun e=>m i r (fun e2=>c e2.symm) (by rw [o3,e])];exact o2,o3,o4⟩
 ·intro s' p' o1 o2
  rw [f]
  by_cases c:s'=s
  ·subst c
   exact ⟨_,List.mem_iff_getElem.2 ⟨j,by simpa using a4,rfl⟩,by simp⟩
  obtain ⟨y,z,a2⟩:=k2 s' p' o1 (by rw [←h2 s' c];exact o2)
  obtain ⟨i,r,rfl⟩:=T08 z
  have b3:j≠i:=fun e=>c (K.inj _ _ (by
   subst e
   have hx:q.toList[j]=x:=(List.getElem?_eq_some_iff.1 f2).2
   rw [←a2,hx,f3]))
  exact ⟨q.toList[i],List.mem_iff_getElem.2 ⟨i,by simpa using r,by rw [T03,if_neg b3]⟩,a2⟩
 rw [f,List.pairwise_iff_getElem]
 intro i i' r a7 b5
 rw [List.length_set] at r a7
 rw [T03,T03]
 split
 ·rw [if_neg (by omega)];exact fun e=>m i' a7 (by omega) e.symm
 split
 ·exact m i r (by omega)
 exact a5 i i' r a7 b5
theorem X3.clear {t e ty:TypeId} (h:X3 kv ok ev w b g n) (ht:P.underlying t=some (.map k e)):
  ∃w',(Builtin.clear_ #[t] ty #[.map (some b)]).run P w= .ok (.tuple #[]) w'∧X3 kv ok ev w' b (fun _=>none) 0∧E2 w w' (fun j=>j=b):=by
 obtain ⟨f,a,d,_⟩:=h
 refine ⟨ChangeMaps.setBlock w b (.map #[] a), ?_,⟨#[],a,ChangeMaps.heap_setBlock_same d _,by simp,by simp,by simp,T01 _⟩,⟨rfl,rfl,rfl,by simp [ChangeMaps.setBlock],fun j _ hj=>ChangeMaps.heap_setBlock_other d _ hj⟩⟩
 simp [Builtin.clear_,run_underlying ht,MapKept.run_getObj_map d,MapKept.run_setObj_map _ d,Result.andThen,ChangeMaps.setBlock]
theorem X3.made (w:World):X3 kv ok ev (w.alloc (.map #[] 0)) w.heap.size (fun _=>none) 0:=
 ⟨#[],0,(MapKept.heap_alloc w _).1,by simp,by simp,by simp,T01 _⟩
def Y8s (kv:κ→Value) (ok:κ→Prop) (ev:ε→Value) (v:Value) (g:κ→Option ε) (n:Nat):A6 where
 res:=fun w F=>∃b,v= .map (some b)∧X3 kv ok ev w b g n∧∀j,F j↔j=b
 loc:=fun _ _ _ _ ⟨b,hv,h,hF⟩ hm hS=>⟨b,hv,h.kept hm (hS b ((hF b).2 rfl)),hF⟩
variable {w0 w':World} {Rs:List A6} {v:Value}
theorem A4.map (h:A4 w0 w (Y8s kv ok ev v g n::Rs)):∃b,v= .map (some b)∧X3 kv ok ev w b g n:=by
 obtain ⟨F,⟨b,a,d,_⟩,_⟩:=h
 exact ⟨b,a,d⟩
theorem A4.putMap {g':κ→Option ε} {n':Nat} (h:A4 w0 w (Y8s kv ok ev (.map (some b)) g n::Rs)) (h1:X3 kv ok ev w' b g' n') (hm:E2 w w' (fun j=>j=b)):A4 w0 w' (Y8s kv ok ev (.map (some b)) g' n'::Rs):=by
 obtain ⟨F,⟨k,d,l,f⟩,i,a⟩:=h.take
 simp only [Value.map.injEq,Option.some.injEq] at d
 subst d
 exact a w' _ F ⟨b,rfl,h1,f⟩ (hm.mono fun j _ hj=>(f j).2 hj) (fun j hj=> .inl hj) (fun j hj=>Nat.lt_of_lt_of_le (i j hj).2 hm.size)
theorem A4.newMap (h:A4 w0 w Rs):A4 w0 (w.alloc (.map #[] 0)) (Y8s kv ok ev (.map (some w.heap.size)) (fun _=>none) 0::Rs):=
 h.push _ (fun j=>j=w.heap.size) ⟨_,rfl,X3.made w,fun _=>Iff.rfl⟩ ((E2.refl w _).alloc _) (fun j hj=>by subst hj;exact ⟨T01 _,by simp⟩)
theorem A4.moreMap {n':Nat} (h:A4 w0 w (Y8s kv ok ev v g n::Rs)) (hn:n≤n'):A4 w0 w (Y8s kv ok ev v g n'::Rs):=by
 obtain ⟨F,⟨b,d,⟨f,a,i,j,k,l,m⟩,o⟩,p⟩:=h
 exact ⟨F,⟨b,d,⟨f,a,i,j,k,l,Nat.le_trans m hn⟩,o⟩,p⟩
theorem Y1l {t e:TypeId} {ops:Array Oper} {rest:List Oper} {o:Oper} {a:Act} {Q:Exit→Act→World→Prop} (hgd:o.guard=none) (x:Operand) (hop:o.op= .call {callee:= .builtin .clear,args:=#[x],argTypes:=#[t]})
  (ht:P.underlying t=some (.map k e)) (hx:a.eval x= .map (some b)) (hh:A4 w0 w (Y8s kv ok ev (.map (some b)) g n::Rs))
  (h:∀w',A4 w0 w' (Y8s kv ok ev (.map (some b)) (fun _=>none) 0::Rs)→wpList P ops Q rest (a.put o.dst (.tuple #[])) w'):wpList P ops Q (o::rest) a w:=by
 refine wpList_plain hgd fun K' hK'=> ?_
 obtain ⟨m,f,i⟩:=hh.map
 simp only [Value.map.injEq,Option.some.injEq] at f
 subst f
 obtain ⟨w',d,j,l⟩:=i.clear (ty:=o.type) ht
 unfold Oper.wp execOp
 simp only [hop,resolve,invoke,builtin,Sem.run_bind,Sem.run_pure,Result.andThen_ok,T09,List.map_cons,List.map_nil,hx,d]
 exact hK' _ _ (h w' (hh.putMap j l))
end
theorem Y56:(Tryz.prog.info? 218).map (·.zero)=some (some (X4 .u8 [0,0,0])):=by kernel_rfl
theorem Z8p:(Tryz.prog.info? 218).map (·.size)=some 3:=by kernel_rfl
theorem Z2t:(Tryz.prog.info? 5).map (fun i=>(i.zero,i.size,i.bytes))=some (some (.int .u8 0),1,1):=by kernel_rfl
theorem Y8c:(Tryz.prog.info? 39).map (fun i=>(i.zero,i.size,i.bytes))=some (some (.int .u16 0),1,2):=by kernel_rfl
def Z3p (s:List Nat):Prop:=s.length=3∧∀b∈s,b < 256
theorem X8t:Go.Maps.Keyed Tryz.prog 218:=
 Go.Maps.Keyed.of_law (deep_law_laid (show laidOutB Tryz.prog=true by kernel_rfl) (m:=2) (by omega) (show 218 < Tryz.prog.types.size from of_decide_eq_true (by kernel_rfl)) (by kernel_rfl) (by rw [Tryz.underlying218]))
theorem V02 {k:IntKind} {a b:List Nat} (h:X4 k a=X4 k b):a=b:=by
 unfold X4 D3 at h
 have d:=Value.agg.inj h
 have f:a.map (fun (b:Nat)=>Value.int k (b:Int))=b.map (fun (b:Nat)=>Value.int k (b:Int)):=by simpa using d
 exact List.map_inj_right (fun x y h=>by injection h with _ h;omega) |>.1 f
theorem Z5x:W7a Tryz.prog 218 (X4 .u8) Z3p where
 keyed:=X8t
 is:=by
  rintro s ⟨j,l⟩
  match s,j with
  | [a,b,c],_=>
   have n:a < 256:=l a (by simp)
   have f:b < 256:=l b (by simp)
   have o:c < 256:=l c (by simp)
   have g:∀x:Nat,x < 256→(Lit.int .u8 (x:Int)).wf=true:=fun x hx=>by
    show (decide ((0:Int)≤(x:Int)) && decide ((x:Int)≤255))=true
    rw [Bool.and_eq_true,decide_eq_true_eq,decide_eq_true_eq];omega
   have p:Tryz.prog.keyType 218=true:=by kernel_rfl
   have d:Tryz.prog.cellsOf 218=3:=by kernel_rfl
   have i:Tryz.prog.cellsOf 5=1:=by kernel_rfl
   obtain ⟨m,r⟩:∃m,Tryz.prog.types.size=m+1:=⟨Tryz.prog.types.size-1,by
    have:0 < Tryz.prog.types.size:=of_decide_eq_true (by kernel_rfl)
    omega⟩
   have q:(X4 .u8 [a,b,c]).formed Tryz.prog 218=true:=by simp [X4,D3,Value.formed,Tryz.underlying218,d]
   have j:Tryz.prog.keyLits (m+1+1) 218 [.int .u8 (a:Int),.int .u8 (b:Int),.int .u8 (c:Int)]=some [.int .u8 (a:Int),.int .u8 (b:Int),.int .u8 (c:Int)]:=by
    have k:∀x:Nat,x < 256→Tryz.prog.keyLits (m+1) 5 [.int .u8 (x:Int)]=some [.int .u8 (x:Int)]:=fun x hx=>by simp [Program.keyLits,Tryz.underlying5,g x hx]
    unfold Program.keyLits
    rw [Tryz.underlying218]
    simp [d,i,List.range,List.range.loop,k a n,k b f,k c o]
   unfold keyOf
   rw [Tryz.underlying218]
   simp only [p,q,r,Bool.and_true,if_true]
   rw [show (X4 .u8 [a,b,c]).cells.toList=[.int .u8 (a:Int),.int .u8 (b:Int),.int .u8 (c:Int)] by simp [X4,D3,Value.cells],j]
   exact ⟨_,rfl⟩
 inj:=fun _ _ h=>V02 h
theorem Z7w (d:Nat) (hd:d < 2000000000) (w:World):
  Calls Tryz.prog 151 #[.int .i64 (d:Int)] w fun e w'=>e= .returned (.int .i64 ((reach 32768 d:Nat):Int))∧w'=w:=by
 have b:(0:Int)≤(d:Int):=T00 _
 rcases Nat.lt_or_ge 32768 d with h | h
 ·have f:(32768:Int) < (d:Int):=by omega
  have a:=A5 (show reach 32768 d=0 from if_pos h)
  clear h
  go_enter Tryz.func151,Tryz.ntmps151
  go_wp2
  go_ret
  exact ⟨by rw [a.out];rfl,rfl⟩
 have f:¬(32768:Int) < (d:Int):=by omega
 have a:=A5 (show reach 32768 d=d from if_neg (by omega))
 clear h
 go_enter Tryz.func151,Tryz.ntmps151
 go_wp2
 go_ret
 exact ⟨by rw [a.out];rfl,rfl⟩
theorem Y4v {P:Program} {w:World} {ops:Array Oper} {rest:List Oper} {o:Oper} {ac:Act} {Q:Exit→Act→World→Prop} (hgd:o.guard=none) (d s:Operand) (dT sT:TypeId)
  (ho:o.op= .call {callee:= .builtin .copy,args:=#[d,s],argTypes:=#[dT,sT]}) (e:TypeId) (i:TypeInfo) (ht:P.underlying dT=some (.slice e)) (hi:P.info? e=some i) (hs:i.size=1)
  (B n:Nat) (T:TypeId) (k:IntKind) (zs:List Nat) (l:List Nat) (y:Value) (hd:ac.eval d= .slice (some ⟨B,0,none⟩) zs.length zs.length) (hy:ac.eval s=y) (hB:X6 w B (D3 k zs) T) (hsrc:Rd w 1 y n (D3 k l)) (hn:zs.length≤n) (h0:0 < zs.length)
  (h:∀w',X6 w' B (D3 k (l.take zs.length)) T→E2 w w' (fun j=>j=B)→wpList P ops Q rest (ac.put o.dst (goInt ((zs.length:Nat):Int))) w'):wpList P ops Q (o::rest) ac w:=by
 refine wpList_plain hgd fun K hK=> ?_
 obtain ⟨q,sa,m,rfl,a0,a1,a2,p⟩:=hsrc
 have f:Nat.min n zs.length=zs.length:=Nat.min_eq_right hn
 have t:n=l.length:=by rw [Z86] at q;omega
 rcases p with hm0 | ⟨b,so,rfl,hc⟩
 ·omega
 have a:(D3 k (l.take zs.length)).length=zs.length:=by rw [Z86,T06];omega
 have r:=run_loadCells_list (P:=P) w ⟨b,so,none⟩ (D3 k (l.take zs.length)) (fun j u hu=>by
  rw [Addr.add_lit]
  refine hc j u ?_
  rw [O4,List.getElem?_take] at hu
  rw [O4]
  split at hu
  ·exact hu
  simp at hu)
 rw [a] at r
 have g:=run_storeCells_at P B 0 T (D3 k (l.take zs.length)) 0 (D3 k zs).toArray w hB (by rw [a];simp [D3]) (Y0s k _)
 have x:((D3 k zs).toArray.toList.take (0+0)++D3 k (l.take zs.length)++(D3 k zs).toArray.toList.drop (0+0+(D3 k (l.take zs.length)).length)).toArray=(D3 k (l.take zs.length)).toArray:=by
  rw [a];simp [D3]
 rw [x] at g
 have z:(Builtin.copy_ #[dT,sT] o.type #[.slice (some ⟨B,0,none⟩) zs.length zs.length,.slice (some ⟨b,so,none⟩) n m]).run P w= .ok (goInt ((zs.length:Nat):Int)) (w.setRow B (D3 k (l.take zs.length)).toArray):=by
  simp [Builtin.copy_,run_underlying ht,Builtin.lenOf,Builtin.firstCells,sizeOf,typeInfo,hi,hs,f,r,g]
 unfold Oper.wp execOp
 simp only [ho,resolve,invoke,builtin,Sem.run_bind,Sem.run_pure,Result.andThen_ok,T09,List.map_cons,List.map_nil,hd,hy,z]
 exact hK _ _ (h _ (setRow_heap w B _ _ T (0,0) hB) ⟨rfl,rfl,rfl,by simp,fun j _ hne=>setRow_other w B j _ hne⟩)
theorem Y4f (v:Value) (n:Nat) (l:List Nat) (w:World) (hv:Rd w 1 v n (D7 l)) (hn:3≤n):
  Calls Tryz.prog 150 #[v] w fun e w'=>e= .returned (X4 .u8 (l.take 3))∧E2 w w' (fun _=>False):=by
 obtain ⟨ao,a3,rfl,_,_⟩:=hv.form
 obtain ⟨i0,j,a5,m,a6⟩:=info_parts Z2t
 have a:X6 ((w.alloc (.cells (D3 .u8 [0,0,0]).toArray 218)).alloc (.cells (D3 .u8 [0,0,0]).toArray 218)) w.heap.size (D3 .u8 [0,0,0]) 218:=(X6.new w _ _).alloc _
 have b:X6 ((w.alloc (.cells (D3 .u8 [0,0,0]).toArray 218)).alloc (.cells (D3 .u8 [0,0,0]).toArray 218)) (w.heap.size+1) (D3 .u8 [0,0,0]) 218:=by
  have:=X6.new (w.alloc (.cells (D3 .u8 [0,0,0]).toArray 218)) (D3 .u8 [0,0,0]) 218
  rw [show (w.alloc (.cells (D3 .u8 [0,0,0]).toArray 218)).heap.size=w.heap.size+1 by simp] at this
  exact this
 have f:E2 w ((w.alloc (.cells (D3 .u8 [0,0,0]).toArray 218)).alloc (.cells (D3 .u8 [0,0,0]).toArray 218)) (fun _=>False):=((E2.refl w _).alloc _).alloc _
 have r:=A5 (hv.kept f (fun _ _ h=>h))
 have s:=A5 a
 have t:=A5 b
 have x:=A5 f
 have d:(l.take 3).length=3:=by have:=hv.1;rw [E5] at this;rw [T06];omega
 have g:=A5 d
 clear hv a b f d
 go_enter Tryz.func150,Tryz.ntmps150
 go_wp2_with (first
  | (refine K3 rfl _ rfl .u8 _ Y56 ?_)
  | (refine Y4v rfl (.tmp 4) (.tmp 5) 26 26 rfl 5 i0 Tryz.underlying26 j m (w.heap.size+1) n 218 .u8 [0,0,0] l _ rfl rfl t.out r.out hn (by decide) ?_;intro w3 o i;have y:=A5 (s.out.kept i (by omega));have z:=A5 o;have M3:=A5 i;clear o i)
  | (refine Z04 rfl 218 _ rfl _ 3 Tryz.underlying218 rfl Z8p (w.heap.size+1) .u8 (l.take 3) 218 rfl g.out z.out ?_)
  | (refine N6 rfl 218 _ _ rfl 3 Z8p w.heap.size .u8 [0,0,0] (l.take 3) 218 rfl rfl rfl g.out y.out ?_;intro w4 p q;have H4:=A5 p;have M4:=A5 q;clear p q))
 refine X2o rfl _ 3 Tryz.underlying218 rfl Z8p w.heap.size .u8 (l.take 3) 218 rfl g.out H4.out rfl ⟨rfl, ?_⟩
 have hs:w.heap.size≤w.heap.size+1:=by omega
 exact ((x.out.trans M3.out (fun k hk e=>by omega)).trans M4.out (fun k hk e=>by omega))
def Z6j (tr en la:Nat) (lv:Value) (gone:Nat) (lm om bv:Value) (at':Nat):List Value:=
 [.int .i64 (tr:Int),.int .i64 (en:Int),.int .i64 (la:Int),lv,.int .i64 (gone:Int),lm,om,bv,.int .i64 (at':Int)]
def Z3n (v:Value) (g:List Nat→Option Nat) (n:Nat):A6:=Y8s (X4 .u8) Z3p (fun p:Nat=> .int .i64 (p:Int)) v g n
def Y3n (tr en la at' gone:Nat) (bs bk:List Nat) (g h:List Nat→Option Nat) (n:Nat) (B:D0) (lv bv:Value) (m1 m2:Nat):List A6:=
 [P5 B (Z6j tr en la lv gone (.map (some m1)) (.map (some m2)) bv at'),B0 5 1 lv bs.length (D7 bs),B0 39 1 bv bk.length (D3 .u16 bk),Z3n (.map (some m1)) g n,Z3n (.map (some m2)) h n]
def Z81 (tr en la at' gone:Nat) (bs bk:List Nat) (g h:List Nat→Option Nat) (n:Nat) (B:D0):A6:=
 exT fun q:Value×Value×Nat×Nat=>Z0e (Y3n tr en la at' gone bs bk g h n B q.1 q.2.1 q.2.2.1 q.2.2.2)
section
variable {w0 w:World} {Rs:List A6} {tr en la at' gone n:Nat} {B:D0} {bs bk:List Nat} {g h:List Nat→Option Nat}
theorem Z3q (H:A4 w0 w (Z81 tr en la at' gone bs bk g h n B::Rs)):∃ (lv bv:Value) (m1 m2:Nat),A4 w0 w (Y3n tr en la at' gone bs bk g h n B lv bv m1 m2++Rs):=by
 obtain ⟨⟨lv,bv,m1,m2⟩,a⟩:=H.ex
 exact ⟨lv,bv,m1,m2,a.unall⟩
theorem Z79 (lv bv:Value) (m1 m2:Nat) (H:A4 w0 w (Y3n tr en la at' gone bs bk g h n B lv bv m1 m2++Rs)):A4 w0 w (Z81 tr en la at' gone bs bk g h n B::Rs):=
 A4.mk (R:=fun q:Value×Value×Nat×Nat=>Z0e (Y3n tr en la at' gone bs bk g h n B q.1 q.2.1 q.2.2.1 q.2.2.2)) (lv,bv,m1,m2) H.all
theorem W8 {lv bv:Value} {m1 m2:Nat} (H:A4 w0 w (Y3n tr en la at' gone bs bk g h n B lv bv m1 m2++Rs)):
  Y3 w B (Z6j tr en la lv gone (.map (some m1)) (.map (some m2)) bv at')∧Own w 5 1 lv bs.length (D7 bs)∧Own w 39 1 bv bk.length (D3 .u16 bk)∧
   X3 (X4 .u8) Z3p (fun p:Nat=> .int .i64 (p:Int)) w m1 g n∧X3 (X4 .u8) Z3p (fun p:Nat=> .int .i64 (p:Int)) w m2 h n:=by
 have a:A4 w0 w (P5 B (Z6j tr en la lv gone (.map (some m1)) (.map (some m2)) bv at')::B0 5 1 lv bs.length (D7 bs)::B0 39 1 bv bk.length (D3 .u16 bk)::Z3n (.map (some m1)) g n::Z3n (.map (some m2)) h n::Rs):=H
 have f:=a.objp
 have i:=a.drop.own
 have j:=a.drop.drop.own
 obtain ⟨m,b,k⟩:=a.drop.drop.drop.map
 obtain ⟨o,d,l⟩:=a.drop.drop.drop.drop.map
 simp only [Value.map.injEq,Option.some.injEq] at b d
 subst b;subst d
 exact ⟨f,i,j,k,l⟩
end
theorem Y14 (w:World):(zeroValue 3).run Tryz.prog w= .ok (.int .i64 0) w:=by kernel_rfl
theorem X5l {x:List Nat} {P:Nat} (h:P+3≤x.length) (hb:∀b∈x,b < 256):∃a b c:Nat,at3 x P=[a,b,c]∧Z3p (at3 x P):=by
 have d:(at3 x P).length=3:=by unfold at3;rw [T06,T02];omega
 have f:Z3p (at3 x P):=⟨d,fun b h=>hb b (List.mem_of_mem_drop (List.mem_of_mem_take h))⟩
 match e:at3 x P,d with
 | [a,b,c],_=>exact ⟨a,b,c,rfl,by rw [←e];exact f⟩
section
variable {w0 w:World} {Rs:List A6} {tr en la at' cut n a P:Nat} {B:D0} {x bk:List Nat}
theorem Y3t (H:A4 w0 w (Z81 tr en la at' cut (x.drop cut) bk (P3 x a P) (O6 32768 x a) n B::Rs)) (hcut:cut≤P) (hx:P+3≤x.length) (hlen:x.length < 1000000000) (ha:a≤P) (hb:∀b∈x,b < 256):
  Calls Tryz.prog 118 #[.pointer (some ⟨B.b,B.o+3,none⟩),.int .i64 ((P-cut:Nat):Int)] w fun e w'=>e= .returned (.int .i64 ((Z2e 32768 x P:Nat):Int))∧E2 w w' (fun _=>False):=by
 obtain ⟨i0,e8,g6,e9,g7⟩:=info_parts Z2t
 obtain ⟨lv,bv,m1,m2,HF⟩:=Z3q H
 obtain ⟨hB,hO,_,d1,d2⟩:=W8 HF
 obtain ⟨L,hL⟩:∃L,L=(x.drop cut).length:=⟨_,rfl⟩
 obtain ⟨i,hi⟩:∃i,i=P-cut:=⟨_,rfl⟩
 have b2:L=x.length-cut:=by rw [hL,T02]
 rw [←hL] at hO
 rw [←hi]
 have c1:i≤L:=by omega
 obtain ⟨ao,a8,rfl,f1,g8⟩:=hO.form
 have c3:=hB.cell (i:=3) rfl
 have a4:∀wg,(Instr.sliceAt 26 (.slice ao L a8) (some (.int .i64 (i:Int))) none none).run Tryz.prog wg= .ok (.slice (if a8=i then ao else ao.map fun (x:Addr)=>x.add (i*1)) (L-i) (a8-i)) wg:=fun wg=>
  N8 (P:=Tryz.prog) 26 5 i0 1 Tryz.underlying26 e8 e9 ao L a8 i L (some (.int .i64 (i:Int))) none ⟨_,rfl⟩ rfl c1 f1
 have a3:=hO.rd.cut (L:=i) (H:=L) c1 (T01 _)
 unfold sliced at a3
 generalize (if a8=i then ao else ao.map fun (x:Addr)=>x.add (i*1))=a' at a4 a3
 have e2:((D7 (x.drop cut)).drop (i*1)).take ((L-i)*1)=D7 (x.drop P):=by
  rw [T04,T04,T0a (by rw [T02,E5,←hL];omega)]
  simp only [D7,←List.map_drop,List.drop_drop]
  rw [show cut+i=P by omega]
 rw [e2] at a3
 obtain ⟨K,hK⟩:∃K,K=L-i:=⟨_,rfl⟩
 rw [←hK] at a3 a4
 have HS:=A5 (Y4f _ K (x.drop P) w a3 (by omega))
 obtain ⟨z,s1,s2,hs,hg⟩:=X5l hx hb
 have c2:(x.drop P).take 3=[z,s1,s2]:=hs
 rw [c2] at HS
 have HS:Hid (Calls Tryz.prog 150 _ w fun e w'=>e= .returned (.agg #[.int .u8 (z:Int),.int .u8 (s1:Int),.int .u8 (s2:Int)])∧E2 w w' (fun _=>False)):=HS
 have d:=W49 32768 x a P ha
 unfold W8j at d
 rw [hs] at d hg
 have HB:=A5 hB
 have H1:=A5 d1
 have H2:=A5 d2
 have f4:(0:Int)≤(i:Int):=T00 _
 clear hB d1 d2 HF H hO a3 e2 hK c2
 rcases e1:P3 x a P [z,s1,s2] with _ | k
 ·rcases e3:O6 32768 x a [z,s1,s2] with _ | k
  ·rw [e1,e3] at d
   have HN:Hid (0=Z2e 32768 x P):=A5 d
   clear d hi hL b2
   go_enter Tryz.func118,Tryz.ntmps118
   go_wp2_with fail
   refine HS.out.mono ?_
   rintro e y ⟨rfl,g⟩
   have m:=A5 (HB.out.kept g (fun h=>h))
   have q:=A5 (H1.out.kept g (fun h=>h))
   have HM:=A5 g
   clear HS g
   have HA:=A5 (X6.new y (D3 .u8 [0,0,0]) 218)
   have c5:=A5 (m.out.alloc (.cells (D3 .u8 [0,0,0]).toArray 218))
   have b6:=A5 (H2.out.kept HM.out (fun h=>h))
   have c6:=A5 (q.out.kept ((E2.refl y (fun _=>False)).alloc (.cells (D3 .u8 [0,0,0]).toArray 218)) (fun h=>h))
   go_wp2_with (first
    | (refine K3 rfl _ rfl .u8 _ Y56 ?_)
    | (refine N6 rfl 218 _ _ rfl 3 Z8p y.heap.size .u8 [0,0,0] [z,s1,s2] 218 rfl rfl rfl rfl HA.out ?_;intro j b4 m4;have H4:=A5 b4;have M4:=A5 m4;clear b4 m4))
   have f:E2 y j (fun _=>False):=((E2.refl y (fun _=>False)).alloc _).trans M4.out (fun k hk e=>by omega)
   have a6:=A5 (HM.out.same f)
   have l:=A5 (m.out.kept f (fun h=>h))
   have r:=q.out.kept f (fun h=>h)
   have hq:=fun k=>(show X3 (X4 .u8) Z3p (fun p:Nat=> .int .i64 (p:Int)) (j.drewN k) m1 (P3 x a P) n from r.kept ((E2.refl j (fun _=>False)).drewN k) (fun h=>h)).look Z5x (t:=65) Tryz.underlying65 (Y14 _) [z,s1,s2] hg
   rw [e1] at hq
   have hq:∀k',(Instr.lookup 65 (.map (some m1)) (.agg #[.int .u8 (z:Int),.int .u8 (s1:Int),.int .u8 (s2:Int)]) true).run Tryz.prog (j.drewN k')= .ok (.tuple #[.int .i64 0,.bool false]) (j.drewN k'):=hq
   have s:=b6.out.kept f (fun h=>h)
   have a2:=fun k=>(show X3 (X4 .u8) Z3p (fun p:Nat=> .int .i64 (p:Int)) (j.drewN k) m2 (O6 32768 x a) n from s.kept ((E2.refl j (fun _=>False)).drewN k) (fun h=>h)).look Z5x (t:=65) Tryz.underlying65 (Y14 _) [z,s1,s2] hg
   rw [e3] at a2
   have a2:∀k',(Instr.lookup 65 (.map (some m2)) (.agg #[.int .u8 (z:Int),.int .u8 (s1:Int),.int .u8 (s2:Int)]) true).run Tryz.prog (j.drewN k')= .ok (.tuple #[.int .i64 0,.bool false]) (j.drewN k'):=a2
   have d6:=l.out.cell (i:=6) rfl
   have q0:=H4.out.cell0 rfl
   have q1:=H4.out.cell (i:=1) rfl
   have q2:=H4.out.cell (i:=2) rfl
   have d5:=l.out.cell (i:=5) rfl
   have d4:=l.out.cell (i:=4) rfl
   clear r f s
   go_quiet (fail)
   go_wp2
   go_quiet (fail)
   go_wp2
   go_ret
   exact ⟨by rw [←HN.out];rfl,a6.out.drewN _⟩
  rw [e1,e3] at d
  have d:reach 32768 (P-k)=Z2e 32768 x P:=d
  have hk:k < P:=by
   unfold O6 at e3
   have:=Option.filter_eq_some_iff.1 e3
   have:=(Y7 this.1).1
   omega
  have hd:((cut:Int)+(i:Int))- (k:Int)=((P-k:Nat):Int):=by omega
  have HR:=A5 (Z7w (P-k) (by omega))
  have HN:=A5 d
  obtain ⟨D,hD⟩:∃D,D=P-k:=⟨_,rfl⟩
  rw [←hD] at hd HR HN
  have d0:(cut:Int)+(i:Int)=(P:Int):=by omega
  have e6:P < 1000000000:=by omega
  have e7:(P:Int)- (k:Int)=(D:Int):=by omega
  clear d hi hL b2 hD hd
  go_enter Tryz.func118,Tryz.ntmps118
  go_wp2_with fail
  refine HS.out.mono ?_
  rintro e y ⟨rfl,g⟩
  have m:=A5 (HB.out.kept g (fun h=>h))
  have q:=A5 (H1.out.kept g (fun h=>h))
  have HM:=A5 g
  clear HS g
  have HA:=A5 (X6.new y (D3 .u8 [0,0,0]) 218)
  have c5:=A5 (m.out.alloc (.cells (D3 .u8 [0,0,0]).toArray 218))
  have b6:=A5 (H2.out.kept HM.out (fun h=>h))
  have c6:=A5 (q.out.kept ((E2.refl y (fun _=>False)).alloc (.cells (D3 .u8 [0,0,0]).toArray 218)) (fun h=>h))
  go_wp2_with (first
   | (refine K3 rfl _ rfl .u8 _ Y56 ?_)
   | (refine N6 rfl 218 _ _ rfl 3 Z8p y.heap.size .u8 [0,0,0] [z,s1,s2] 218 rfl rfl rfl rfl HA.out ?_;intro j b4 m4;have H4:=A5 b4;have M4:=A5 m4;clear b4 m4))
  have f:E2 y j (fun _=>False):=((E2.refl y (fun _=>False)).alloc _).trans M4.out (fun k hk e=>by omega)
  have a6:=A5 (HM.out.same f)
  have l:=A5 (m.out.kept f (fun h=>h))
  have r:=q.out.kept f (fun h=>h)
  have hq:=fun k=>(show X3 (X4 .u8) Z3p (fun p:Nat=> .int .i64 (p:Int)) (j.drewN k) m1 (P3 x a P) n from r.kept ((E2.refl j (fun _=>False)).drewN k) (fun h=>h)).look Z5x (t:=65) Tryz.underlying65 (Y14 _) [z,s1,s2] hg
  rw [e1] at hq
  have hq:∀k',(Instr.lookup 65 (.map (some m1)) (.agg #[.int .u8 (z:Int),.int .u8 (s1:Int),.int .u8 (s2:Int)]) true).run Tryz.prog (j.drewN k')= .ok (.tuple #[.int .i64 0,.bool false]) (j.drewN k'):=hq
  have s:=b6.out.kept f (fun h=>h)
  have a2:=fun k=>(show X3 (X4 .u8) Z3p (fun p:Nat=> .int .i64 (p:Int)) (j.drewN k) m2 (O6 32768 x a) n from s.kept ((E2.refl j (fun _=>False)).drewN k) (fun h=>h)).look Z5x (t:=65) Tryz.underlying65 (Y14 _) [z,s1,s2] hg
  rw [e3] at a2
  have a2:∀k',(Instr.lookup 65 (.map (some m2)) (.agg #[.int .u8 (z:Int),.int .u8 (s1:Int),.int .u8 (s2:Int)]) true).run Tryz.prog (j.drewN k')= .ok (.tuple #[.int .i64 (k:Int),.bool true]) (j.drewN k'):=a2
  have d6:=l.out.cell (i:=6) rfl
  have q0:=H4.out.cell0 rfl
  have q1:=H4.out.cell (i:=1) rfl
  have q2:=H4.out.cell (i:=2) rfl
  have d5:=l.out.cell (i:=5) rfl
  have d4:=l.out.cell (i:=4) rfl
  clear r f s
  go_quiet (fail)
  go_wp2
  go_quiet (fail)
  go_wp2_with fail
  refine (HR.out _).mono ?_
  rintro e w5 ⟨rfl,rfl⟩
  go_wp2
  go_ret
  exact ⟨by rw [←HN.out];rfl,a6.out.drewN _⟩
 rw [e1] at d
 have d:reach 32768 (P-k)=Z2e 32768 x P:=d
 have hk:k < P:=by
  unfold P3 at e1
  have:=Option.filter_eq_some_iff.1 e1
  exact (Y7 this.1).1
 have hd:((cut:Int)+(i:Int))- (k:Int)=((P-k:Nat):Int):=by omega
 have HR:=A5 (Z7w (P-k) (by omega))
 have HN:=A5 d
 obtain ⟨D,hD⟩:∃D,D=P-k:=⟨_,rfl⟩
 rw [←hD] at hd HR HN
 have d0:(cut:Int)+(i:Int)=(P:Int):=by omega
 have e6:P < 1000000000:=by omega
 have e7:(P:Int)- (k:Int)=(D:Int):=by omega
 clear d hi hL b2 hD hd
 go_enter Tryz.func118,Tryz.ntmps118
 go_wp2_with fail
 refine HS.out.mono ?_
 rintro e y ⟨rfl,g⟩
 have m:=A5 (HB.out.kept g (fun h=>h))
 have q:=A5 (H1.out.kept g (fun h=>h))
 have HM:=A5 g
 clear HS g
 have HA:=A5 (X6.new y (D3 .u8 [0,0,0]) 218)
 have c5:=A5 (m.out.alloc (.cells (D3 .u8 [0,0,0]).toArray 218))
 have c6:=A5 (q.out.kept ((E2.refl y (fun _=>False)).alloc (.cells (D3 .u8 [0,0,0]).toArray 218)) (fun h=>h))
 go_wp2_with (first
  | (refine K3 rfl _ rfl .u8 _ Y56 ?_)
  | (refine N6 rfl 218 _ _ rfl 3 Z8p y.heap.size .u8 [0,0,0] [z,s1,s2] 218 rfl rfl rfl rfl HA.out ?_;intro j b4 m4;have H4:=A5 b4;have M4:=A5 m4;clear b4 m4))
 have f:E2 y j (fun _=>False):=((E2.refl y (fun _=>False)).alloc _).trans M4.out (fun k hk e=>by omega)
 have a6:=A5 (HM.out.same f)
 have l:=A5 (m.out.kept f (fun h=>h))
 have r:=q.out.kept f (fun h=>h)
 have hq:=fun k=>(show X3 (X4 .u8) Z3p (fun p:Nat=> .int .i64 (p:Int)) (j.drewN k) m1 (P3 x a P) n from r.kept ((E2.refl j (fun _=>False)).drewN k) (fun h=>h)).look Z5x (t:=65) Tryz.underlying65 (Y14 _) [z,s1,s2] hg
 rw [e1] at hq
 have hq:∀k',(Instr.lookup 65 (.map (some m1)) (.agg #[.int .u8 (z:Int),.int .u8 (s1:Int),.int .u8 (s2:Int)]) true).run Tryz.prog (j.drewN k')= .ok (.tuple #[.int .i64 (k:Int),.bool true]) (j.drewN k'):=hq
 have q0:=H4.out.cell0 rfl
 have q1:=H4.out.cell (i:=1) rfl
 have q2:=H4.out.cell (i:=2) rfl
 have d5:=l.out.cell (i:=5) rfl
 have d4:=l.out.cell (i:=4) rfl
 clear r f
 go_quiet (fail)
 go_wp2_with fail
 refine (HR.out _).mono ?_
 rintro e w5 ⟨rfl,rfl⟩
 go_wp2
 go_ret
 exact ⟨by rw [←HN.out];rfl,a6.out.drewN _⟩
end
section
variable {w0 w:World} {Rs:List A6} {tr en la at' cut n:Nat} {B:D0} {bs bk:List Nat} {g h:List Nat→Option Nat}
theorem X5v (H:A4 w0 w (Z81 tr en la at' cut bs bk g h n B::Rs)) (i d m:Nat) (hd:d≤i) (hi:i < 1000000000) (hm:bk[i-d]?=some m) (hm2:m≤32768):
  Calls Tryz.prog 121 #[.pointer (some ⟨B.b,B.o+3,none⟩),.int .i64 (i:Int),.int .i64 (d:Int)] w fun e w'=>e= .returned (.int .i64 (((if m=0 then 0 else reach 32768 (d+m)):Nat):Int))∧w'=w:=by
 obtain ⟨lv,bv,m1,m2,p⟩:=Z3q H
 obtain ⟨s,_,f,_,_⟩:=W8 p
 obtain ⟨q,t⟩:∃q,q=i-d:=⟨_,rfl⟩
 rw [←t] at hm
 obtain ⟨K,x⟩:∃K,K=bk.length:=⟨_,rfl⟩
 rw [←x] at f
 have z:q < K:=by have:=(List.getElem?_eq_some_iff.1 hm).1;omega
 obtain ⟨ao,a8,rfl,a9,b0⟩:=f.form
 have c7:=s.cell (i:=7) rfl
 obtain ⟨gg,b1,rfl,a,_,_⟩:=f.site (by omega)
 have e1:=a q (.int .u16 (m:Int)) (by rw [O4,hm];rfl)
 have a0:(i:Int)- (d:Int)=(q:Int):=by omega
 have a1:(0:Int)≤(q:Int):=T00 _
 have k:(q:Int) < (K:Int):=by omega
 have a2:(0:Int)≤(m:Int):=T00 _
 have a3:IntKind.i64.wrap (m:Int)=(m:Int):=IntWalk.i64_in _ (by omega)
 have a4:q < 1000000000:=by omega
 have l:=A5 (Z7w (d+m) (by omega))
 clear a s f p H t hm x
 rcases Nat.eq_zero_or_pos m with rfl | hp
 ·go_enter Tryz.func121,Tryz.ntmps121
  go_wp2
  go_ret
  exact ⟨rfl,rfl⟩
 have a5:¬(m:Int)=0:=by omega
 obtain ⟨r,j⟩:∃r,r=reach 32768 (d+m):=⟨_,rfl⟩
 obtain ⟨D,y⟩:∃D,D=d+m:=⟨_,rfl⟩
 rw [if_neg (by omega)]
 rw [←j]
 rw [←j,←y] at l
 have a6:(d:Int)+(m:Int)=(D:Int):=by omega
 have a7:D < 2000000000:=by omega
 clear j y
 go_enter Tryz.func121,Tryz.ntmps121
 go_wp2_with fail
 refine (l.out _).mono ?_
 rintro e w5 ⟨rfl,rfl⟩
 go_wp2
 go_ret
 exact ⟨rfl,rfl⟩
end
theorem Z65:(Tryz.prog.info? 112).map (·.size)=some 3:=by kernel_rfl
theorem Y65 (a l d a2 l2 d2:Nat) (w:World):
  Calls Tryz.prog 119 #[.agg #[.int .u8 (a:Int),.int .i64 (l:Int),.int .i64 (d:Int)],.agg #[.int .u8 (a2:Int),.int .i64 (l2:Int),.int .i64 (d2:Int)]] w fun e w'=>
   e= .returned (if l < l2 then .agg #[.int .u8 (a2:Int),.int .i64 (l2:Int),.int .i64 (d2:Int)] else .agg #[.int .u8 (a:Int),.int .i64 (l:Int),.int .i64 (d:Int)])∧E2 w w' (fun _=>False):=by
 by_cases h:l < l2
 ·have b:(l:Int) < (l2:Int):=by omega
  rw [if_pos h]
  clear h
  go_enter Tryz.func119,Tryz.ntmps119
  go_wp2
  refine Z2x rfl _ 3 Tryz.underlying112 rfl Z65 (w.heap.size+1+1) [.int .u8 (a2:Int),.int .i64 (l2:Int),.int .i64 (d2:Int)] 112 rfl rfl ?_ rfl ⟨rfl,((((E2.refl w _).alloc _).alloc _).alloc _)⟩
  have:=X6.new ((w.alloc (.cells #[.int .u8 (a:Int),.int .i64 (l:Int),.int .i64 (d:Int)] 112)).alloc (.cells #[.int .u8 (a2:Int),.int .i64 (l2:Int),.int .i64 (d2:Int)] 112)) [.int .u8 (a2:Int),.int .i64 (l2:Int),.int .i64 (d2:Int)] 112
  simpa using this
 have b:¬(l:Int) < (l2:Int):=by omega
 rw [if_neg h]
 clear h
 go_enter Tryz.func119,Tryz.ntmps119
 go_wp2
 refine Z2x rfl _ 3 Tryz.underlying112 rfl Z65 (w.heap.size+1+1) [.int .u8 (a:Int),.int .i64 (l:Int),.int .i64 (d:Int)] 112 rfl rfl ?_ rfl ⟨rfl,((((E2.refl w _).alloc _).alloc _).alloc _)⟩
 have:=X6.new ((w.alloc (.cells #[.int .u8 (a:Int),.int .i64 (l:Int),.int .i64 (d:Int)] 112)).alloc (.cells #[.int .u8 (a2:Int),.int .i64 (l2:Int),.int .i64 (d2:Int)] 112)) [.int .u8 (a:Int),.int .i64 (l:Int),.int .i64 (d:Int)] 112
 simpa using this
theorem W33 (v u:Value) (n m:Nat) (a b:List Nat) (w:World) (hv:Rd w 1 v n (D7 a)) (hu:Rd w 1 u m (D7 b)) (hmn:m≤n) (hn:n < 1000000000):
  Calls Tryz.prog 120 #[v,u] w fun e w'=>e= .returned (.int .i64 ((same a b:Nat):Int))∧∃k,w'=w.drewN k:=by
 obtain ⟨ao,b8,rfl,_,_⟩:=hv.form
 obtain ⟨bo,a6,rfl,_,_⟩:=hu.form
 have l:n=a.length:=by have:=hv.1;rw [E5] at this;omega
 have o:m=b.length:=by have:=hu.1;rw [E5] at this;omega
 have f:=A5 (And.intro l o)
 have HV:=A5 hv
 have HU:=A5 hu
 have b3:(0:Int)≤(m:Int):=T00 _
 have a2:(m:Int)≤(n:Int):=by omega
 have b4:(if m < n then (m:Int) else (n:Int))=(m:Int):=by split <;> omega
 clear l o hv hu
 go_enter Tryz.func120,Tryz.ntmps120
 go_wp2
 go_loopg [5] (m+2) (fun g t5 wr=>∃j c:Nat,j≤m∧m-j < g∧t5= .int .i64 (j:Int)∧wr=w.drewN c∧Hid (∀k,k < j→a[k]?=b[k]?))
 case atStart=>exact ⟨0,0,by omega,by omega,rfl,rfl,A5 (fun k hk=>by omega)⟩
 case round=>
  obtain ⟨j,c,hj,hg,rfl,rfl,HJ⟩:=hrel
  have b5:(0:Int)≤(j:Int):=T00 _
  by_cases t:j < m
  rotate_left
  ·obtain rfl:j=m:=by omega
   have s:=A5 (show same a b=j from X35 (by have:=f.out.1;omega) (by have:=f.out.2;omega) HJ.out (fun _ h2=>by have:=f.out.2;omega))
   have i:¬(j:Int) < (j:Int):=by omega
   have q:decide ((j:Int) < (j:Int))=false:=decide_eq_false i
   have r:decide (j < j)=false:=decide_eq_false (by omega)
   go_wp2
   go_quiet (fail)
   go_wp2
   go_ret
   exact ⟨by rw [s.out];rfl,_,World.drewN_drewN _ _ _⟩
  have i:(j:Int) < (m:Int):=by omega
  have b6:(j:Int) < (n:Int):=by omega
  have q:decide ((j:Int) < (m:Int))=true:=decide_eq_true i
  have r:decide (j < m)=true:=decide_eq_true t
  obtain ⟨x,z⟩:∃x,a[j]?=some x:=⟨a[j]'(by have:=f.out.1;omega),T0b _⟩
  obtain ⟨y,hy⟩:∃y,b[j]?=some y:=⟨b[j]'(by have:=f.out.2;omega),T0b _⟩
  obtain ⟨g1,a7,rfl,f1⟩:=HV.out.spot (by omega)
  have e1:=f1 j (.int .u8 (x:Int)) (by rw [Z4,z];rfl)
  obtain ⟨g2,a9,rfl,f2⟩:=HU.out.spot (by omega)
  have e2:=f2 j (.int .u8 (y:Int)) (by rw [Z4,hy];rfl)
  clear f1 f2
  have p:=A5 (And.intro z hy)
  clear z hy
  by_cases d:x=y
  ·subst d
   go_wp2
   go_quiet (fail)
   go_wp2
   go_roundg (gk-1)
   case measure=>omega
   case rel=>
    refine ⟨j+1,_,by omega,by omega,by go_num,rfl,A5 fun k hk=> ?_⟩
    by_cases e:k=j
    ·subst e;rw [p.out.1,p.out.2]
    exact HJ.out k (by omega)
  have s:=A5 (show same a b=j from X35 (by have:=f.out.1;omega) (by have:=f.out.2;omega) HJ.out (fun _ _=>by rw [p.out.1,p.out.2];simpa using d))
  have b7:((x:Int)==(y:Int))=false:=by simp;omega
  have a3:decide ((x:Int)=(y:Int))=false:=by simp;omega
  have a4:(x==y)=false:=by simpa using d
  have a5:decide (x=y)=false:=by simpa using d
  go_wp2
  go_quiet (fail)
  go_wp2
  go_ret
  exact ⟨by rw [s.out];rfl,_,World.drewN_drewN _ _ _⟩
def M5 (x:List Nat) (cut P:Nat):List Nat:=(List.range (P-cut)).map fun k=>Z2e 32768 x (cut+k)
theorem Z3 (x:List Nat) (cut P:Nat):(M5 x cut P).length=P-cut:=by simp [M5]
theorem X7n (x:List Nat) (cut P:Nat) (h:cut≤P):M5 x cut (P+1)=M5 x cut P++[Z2e 32768 x P]:=by
 unfold M5
 rw [show P+1-cut=P-cut+1 by omega,List.range_succ,List.map_append,List.map_singleton,show cut+(P-cut)=P by omega]
theorem Y32 (x:List Nat) (cut P k:Nat) (h:k < P-cut):(M5 x cut P)[k]?=some (Z2e 32768 x (cut+k)):=by simp [M5,h]
theorem W40 (x y:List Nat) (cut P:Nat) (h:P=0∨P+2≤x.length):M5 (x++y) cut P=M5 x cut P:=by
 unfold M5
 refine List.map_congr_left fun k hk=> ?_
 rw [List.mem_range] at hk
 exact Y8d 32768 x y (cut+k) (by omega)
theorem W01 (x:List Nat) (cut n P:Nat):(M5 x cut P).drop n=M5 x (cut+n) P:=by
 refine List.ext_getElem? fun j=> ?_
 rw [List.getElem?_drop]
 by_cases c:n+j < P-cut
 ·rw [Y32 x cut P _ c,Y32 x (cut+n) P j (by omega),Nat.add_assoc]
 rw [T0c (by rw [Z3];omega),T0c (by rw [Z3];omega)]
structure Z18 (x:List Nat) (cut P a:Nat):Prop where
 cut_le:cut≤P
 room:P=0∨P+2≤x.length
 a_le:a≤P
 le_a:P≤a+32768
 mod:a%32768=0
 some:a < P∨P=0
def inF (tr en la at':Nat) (x:List Nat) (cut P a:Nat) (B:D0):A6:=Z81 tr en la at' cut (x.drop cut) (M5 x cut P) (P3 x a P) (O6 32768 x a) P B
def inV (tr en la at':Nat) (x:List Nat) (cut P a:Nat) (B:D0) (lv:Value):A6:=
 exT fun q:Value×Nat×Nat=>Z0e (Y3n tr en la at' cut (x.drop cut) (M5 x cut P) (P3 x a P) (O6 32768 x a) P B lv q.1 q.2.1 q.2.2)
section
variable {w0 w:World} {Rs:List A6} {tr en la at' cut a P:Nat} {B:D0} {x:List Nat}
theorem unV {lv:Value} (H:A4 w0 w (inV tr en la at' x cut P a B lv::Rs)):∃ (bv:Value) (m1 m2:Nat),A4 w0 w (Y3n tr en la at' cut (x.drop cut) (M5 x cut P) (P3 x a P) (O6 32768 x a) P B lv bv m1 m2++Rs):=by
 obtain ⟨⟨bv,m1,m2⟩,b⟩:=H.ex
 exact ⟨bv,m1,m2,b.unall⟩
theorem mkV {lv:Value} (bv:Value) (m1 m2:Nat) (H:A4 w0 w (Y3n tr en la at' cut (x.drop cut) (M5 x cut P) (P3 x a P) (O6 32768 x a) P B lv bv m1 m2++Rs)):A4 w0 w (inV tr en la at' x cut P a B lv::Rs):=
 A4.mk (R:=fun q:Value×Nat×Nat=>Z0e (Y3n tr en la at' cut (x.drop cut) (M5 x cut P) (P3 x a P) (O6 32768 x a) P B lv q.1 q.2.1 q.2.2)) (bv,m1,m2) H.all
theorem V4s (H:A4 w0 w (inF tr en la at' x cut P a B::Rs)):∃lv,A4 w0 w (inV tr en la at' x cut P a B lv::Rs):=by
 obtain ⟨lv,b,d,f,h⟩:=Z3q H
 exact ⟨lv,mkV b d f h⟩
theorem W2k {lv:Value} (H:A4 w0 w (inV tr en la at' x cut P a B lv::Rs)):A4 w0 w (inF tr en la at' x cut P a B::Rs):=by
 obtain ⟨b,d,f,h⟩:=unV H
 exact Z79 lv b d f h
theorem X86 {R1 R2 R3 R4 R5:A6} (H:A4 w0 w (R1::R2::R3::R4::R5::Rs)):A4 w0 w (R1::R2::R3::R5::R4::Rs):=
 H.perm (List.Perm.cons _ (List.Perm.cons _ (List.Perm.cons _ (List.Perm.swap _ _ _))))
theorem W8i {R1 R2 R3:A6} (H:A4 w0 w (R1::R2::R3::Rs)):A4 w0 w (R1::R3::R2::Rs):=H.perm (List.Perm.cons _ (List.Perm.swap _ _ _))
theorem W08 {R1 R2 R3 R4:A6} (H:A4 w0 w (R4::R1::R2::R3::Rs)):A4 w0 w (R1::R2::R3::R4::Rs):=H.fourth.fourth.fourth
theorem W88 {R1 R2 R3 R4:A6} {v:Value} {g:List Nat→Option Nat} {n n':Nat} (hn:n≤n') (H:A4 w0 w (R1::R2::R3::R4::Z3n v g n::Rs)):A4 w0 w (R1::R2::R3::R4::Z3n v g n'::Rs):=
 X86 (W08 ((X86 H).fourth.moreMap hn))
theorem Y9i {lv:Value} (H:A4 w0 w (inV tr en la at' x cut P a B lv::Rs)) (HI:Z18 x cut P a) (I:Nat) (hcI:cut≤I) (hI:I=0∨I+2≤x.length) (hlen:x.length < 1000000000) (hb:∀b∈x,b < 256):
  Calls Tryz.prog 117 #[.pointer (some ⟨B.b,B.o+3,none⟩),.int .i64 ((I-cut:Nat):Int)] w fun e w'=>e= .returned (.tuple #[])∧∃a',Z18 x cut (max P I) a'∧A4 w0 w' (inV tr en la at' x cut (max P I) a' B lv::Rs):=by
 obtain ⟨i0,k8,q3,k9,q4⟩:=info_parts Z2t
 obtain ⟨i1,l0,l1,l2,l3⟩:=info_parts Y8c
 obtain ⟨i,hi⟩:∃i,i=I-cut:=⟨_,rfl⟩
 rw [←hi]
 have e0:I=cut+i:=by omega
 have j3:0 < i→cut+i+2≤x.length:=fun h=>by omega
 have j4:=A5 e0
 have j5:=A5 HI
 have HH:=A5 H
 obtain ⟨k0,c9⟩:∃k0,k0=P-cut:=⟨_,rfl⟩
 obtain ⟨bv,m1,m2,HF⟩:=unV H
 obtain ⟨l,_,hO,_,_⟩:=W8 HF
 have e3:=Z3 x cut P
 rw [e3,←c9] at hO
 have e5:P=cut+k0:=by have:=HI.cut_le;omega
 obtain ⟨ao,q6,rfl,_,_⟩:=hO.form
 have c7:=l.cell (i:=7) rfl
 have b7:=A5 e5
 clear l hO HF H hi HI e3 c9 e5 hI e0 hcI
 go_enter Tryz.func117,Tryz.ntmps117
 go_wp2
 go_loopg [4,5] (i+2) (fun gg t4 t5 wr=>∃ (k a1:Nat),k0≤k∧(k=k0∨k≤i)∧i+1-k < gg∧t4= .int .i64 (k:Int)∧Hid (Z18 x cut (cut+k) a1)∧Hid (A4 w0 wr (inV tr en la at' x cut (cut+k) a1 B lv::Rs)))
 case atStart=>exact ⟨k0,a,T01 _,.inl rfl,by omega,rfl,by rw [←b7.out];exact j5,by rw [←b7.out];exact HH⟩
 case round=>
  obtain ⟨k,a1,c9,hk,hg,rfl,g,HR⟩:=hrel
  have n6:(0:Int)≤(k:Int):=T00 _
  by_cases q1:k < i
  rotate_left
  ·have j6:¬(k:Int) < (i:Int):=by omega
   have g0:Hid (cut+k=max P I):=A5 (by have:=b7.out;have:=j4.out;omega)
   rw [g0.out] at g HR
   go_wp2
   go_end0
   exact ⟨rfl,a1,g.out,HR.out⟩
  have j6:(k:Int) < (i:Int):=by omega
  obtain ⟨p,hp⟩:∃p,p=cut+k:=⟨_,rfl⟩
  rw [←hp] at g HR
  have n7:(cut:Int)+(k:Int)=(p:Int):=by omega
  have e6:p+3≤x.length:=by have:=j3 (by omega);omega
  have n8:p < 1000000000:=by omega
  have n9:(0:Int)≤(p:Int):=T00 _
  have e7:k=p-cut:=by omega
  obtain ⟨bv,m1,m2,HF⟩:=unV HR.out
  obtain ⟨l,q,a7,g6,g8⟩:=W8 HF
  have HB:=A5 l
  have c4:=l.cell (i:=4) rfl
  have c5:=l.cell (i:=5) rfl
  have c6:=l.cell (i:=6) rfl
  have f5:=l.frozen 5
  have f6:=l.frozen 6
  have HP:=A5 hp
  have b9:=A5 e7
  obtain ⟨r,hr⟩:∃r,r=p%32768:=⟨_,rfl⟩
  have o4:(p:Int)%32768=(r:Int):=by omega
  have o5:(p:Int).tmod 32768=(r:Int):=by rw [hr];rfl
  have c0:=A5 hr
  clear hp e7 l hr
  have c1:=A5 HF
  go_upto_if 24 with (fail)
  go_cut [5] (fun s5 wx=>s5= .int .i64 (p:Int)∧∃ (m n1 n2:Nat),m≤p∧p < m+32768∧Hid (m%32768=0)∧m < p+1∧Hid (A4 w0 wx (Y3n tr en la at' cut (x.drop cut) (M5 x cut p) (P3 x m p) (O6 32768 x m) p B lv bv n1 n2++Rs)))
  case first=>
   by_cases g1:r=0
   rotate_left
   ·have e8:((r:Int)==0)=false:=by simp;omega
    go_wp2
    go_meet
    case rel=>
     have h1:=g.out.a_le
     have h2:=g.out.le_a
     have h3:=g.out.mod
     exact ⟨rfl,a1,m1,m2,h1,by have:=c0.out;omega,A5 h3,by omega,c1⟩
   have e8:((r:Int)==0)=true:=by subst g1;rfl
   subst g1
   have e9:(p=0∧a1=0)∨p=a1+32768:=by
    have h1:=g.out.a_le
    have h2:=g.out.le_a
    have h3:=g.out.mod
    have h4:=g.out.some
    have h5:=c0.out
    omega
   have HG:Hid (O6 32768 x p=P3 x a1 p):=by
    rcases e9 with ⟨e1,e2⟩ | e1
    ·subst e1;subst e2;exact A5 (by rw [Y7p,Y3x])
    subst e1;exact A5 (X8z _ _ _)
   clear e9
   go_wp2
   go_region
   have h5:=((c1.out.setObjP 5 (.map (some m2))).setObjP 6 (.map (some m1))).drew
   have h6:A4 w0 _ (Z3n (.map (some m2)) (O6 32768 x a1) p::P5 B (Z6j tr en la lv cut (.map (some m2)) (.map (some m1)) bv at')::B0 5 1 lv (x.drop cut).length (D7 (x.drop cut))::B0 39 1 bv (M5 x cut p).length (D3 .u16 (M5 x cut p))::Z3n (.map (some m1)) (P3 x a1 p) p::Rs):=(X86 h5).fourth
   have H6:=A5 h6
   clear h5 h6
   go_wp2_with (refine Y1l rfl (.tmp 42) rfl Tryz.underlying65 rfl H6.out ?_;intro w7 h7;have H7:=A5 h7;clear h7)
   go_meet
   case rel=>
    refine ⟨rfl,p,m2,m1,T01 _,by omega,A5 ?_,by omega,A5 ?_⟩
    ·have:=c0.out;omega
    rw [X0n,HG.out]
    exact W08 (H7.out.moreMap (Nat.zero_le _))
  case rest=>
   obtain ⟨rfl,m,n1,n2,h1,h2,h3,h4,H8⟩:=hcut
   obtain ⟨l,q,a7,g6,g8⟩:=W8 H8.out
   obtain ⟨D,hD⟩:∃D,D=Z2e 32768 x p:=⟨_,rfl⟩
   have m4:D≤32768:=by rw [hD];exact (Z8l _ _ _).1
   have hN:=Y3t (Z79 _ _ _ _ H8.out.drew) (by have:=HP.out;omega) e6 hlen h1 hb
   rw [←hD,←b9.out] at hN
   have HN:=A5 hN
   have c2:=Z3 x cut p
   rw [c2,←b9.out] at a7
   have b2:=c2
   obtain ⟨bo,y,rfl,q7,q8⟩:=a7.form
   have HB:=A5 l
   have HO:=A5 a7
   have c7:=l.cell (i:=7) rfl
   have f7:=l.frozen 7
   have o8:(0:Int)≤(D:Int):=T00 _
   have o9:IntKind.u16.wrap (D:Int)=(D:Int):=IntWalk.u16_in _ (by omega)
   have k1:=A5 hD
   have c8:A4 w0 wc (P5 B (Z6j tr en la lv cut (.map (some n1)) (.map (some n2)) (.slice bo k y) at')::B0 5 1 lv (x.drop cut).length (D7 (x.drop cut))::B0 39 1 (.slice bo k y) (M5 x cut p).length (D3 .u16 (M5 x cut p))::Z3n (.map (some n1)) (P3 x m p) p::Z3n (.map (some n2)) (O6 32768 x m) p::Rs):=H8.out
   have HA:=A5 c8.third.swap.apartP
   have f0:=A5 c8
   rw [b2,←b9.out] at f0
   clear c2 b2 c8 hN l q a7 g6 g8 HF c1 hD c4 c5 c6 f5 f6
   go_upto_region 7 with (fail)
   go_cut [5] (fun s5 wx=>s5= .int .i64 (p:Int)∧∃ (a8:Option Addr) (d:Nat),Hid (A4 w0 wx (P5 B (Z6j tr en la lv cut (.map (some n1)) (.map (some n2)) (.slice a8 (k+1) d) at')::B0 5 1 lv (x.drop cut).length (D7 (x.drop cut))::
    B0 39 1 (.slice a8 (k+1) d) (k+1) (D3 .u16 (M5 x cut (p+1)))::Z3n (.map (some n1)) (P3 x m p) p::Z3n (.map (some n2)) (O6 32768 x m) p::Rs)))
   case first=>
    go_wp2
    go_region_law ((first
     | (refine Z3f _ (by rfl) (.tmp 47) (.tmp 52) 66 (by rfl) 39 i1 (.int .u16 0) 1 2 Tryz.underlying66 l0 l1 l2 l3 (by rfl) (by decide) (.slice bo k y) k (D3 .u16 (M5 x cut p)) (by rfl) (by exact (k2.out.alloc _)) (.slice (some ⟨w5.heap.size,0,none⟩) 1 1) 1 (D3 .u16 [D]) (by rfl) (by exact (Rd.lit w5 [_] _ 1 1 (by decide) rfl)) (Y0s _ _) (by unfold maxLen;omega) (by omega) ?_;intro g3 b3 w6 a4 s g4;have f1:=A5 ((n.out.alloc _).grown s HA.out);have p1:=f1.out.cell (i:=7) rfl;have p2:=f1.out.frozen 7;have H6:=A5 (((H9.out.alloc _).third.app a4 s g4).swap.setObjP 7 (.slice g3 (k+1) b3));clear a4 s g4)
     | (go_simp;go_at_call 118;refine HN.out.mono ?_;rintro e w5 ⟨rfl,m5⟩;have H9:=A5 (f0.out.drew.same m5);have n:=A5 (HB.out.drew.kept m5 (fun h=>h));have k2:=A5 (HO.out.drew.kept m5 (fun _ _ h=>h));have d7:=n.out.cell (i:=7) rfl;have g7:=n.out.frozen 7;have p4:∀o,(w5.alloc o).cell? ⟨B.b,B.o+7,none⟩=some (.slice bo k y):=fun o=>(n.out.alloc o).cell (i:=7) rfl;clear m5)))
    all_goals
     go_wp2
     go_meet
     case rel=>
      refine ⟨rfl,g3,b3,A5 ?_⟩
      have h6:=W8i H6.out
      have e:D3 .u16 (M5 x cut p)++D3 .u16 [D]=D3 .u16 (M5 x cut (p+1)):=by
       rw [X7n x cut p (by have:=HP.out;omega),←k1.out];simp [D3]
      rw [e] at h6
      exact h6
   case rest=>
    obtain ⟨rfl,a8,d,b0⟩:=hcut
    have l:=b0.out.objp
    have HB:=A5 l
    have q:=b0.out.drop.own
    obtain ⟨b4,e4,hM⟩:=b0.out.drop.drop.drop.map
    simp only [Value.map.injEq,Option.some.injEq] at e4
    subst e4
    have p5:=A5 hM
    obtain ⟨L,hL⟩:∃L,L=(x.drop cut).length:=⟨_,rfl⟩
    have k3:L=x.length-cut:=by rw [hL,T02]
    rw [←hL] at q
    have f2:k≤L:=by omega
    obtain ⟨lo,f,rfl,l8,q9⟩:=q.form
    have c3:=l.cell (i:=3) rfl
    have c5:=l.cell (i:=5) rfl
    have a3:∀wg,(Instr.sliceAt 26 (.slice lo L f) (some (.int .i64 (k:Int))) none none).run Tryz.prog wg= .ok (.slice (if f=k then lo else lo.map fun (x:Addr)=>x.add (k*1)) (L-k) (f-k)) wg:=fun wg=>
     N8 (P:=Tryz.prog) 26 5 i0 1 Tryz.underlying26 k8 k9 lo L f k L (some (.int .i64 (k:Int))) none ⟨_,rfl⟩ rfl f2 l8
    have z:=q.rd.cut (L:=k) (H:=L) f2 (T01 _)
    unfold sliced at z
    generalize (if f=k then lo else lo.map fun (x:Addr)=>x.add (k*1))=lo' at a3 z
    have e2:((D7 (x.drop cut)).drop (k*1)).take ((L-k)*1)=D7 (x.drop p):=by
     rw [T04,T04,T0a (by rw [T02,E5,←hL];omega)]
     simp only [D7,←List.map_drop,List.drop_drop]
     rw [HP.out]
    rw [e2] at z
    obtain ⟨K,hK⟩:∃K,K=L-k:=⟨_,rfl⟩
    rw [←hK] at z a3
    have hS:=Y4f _ K (x.drop p) wc.drew z.drew (by have:=HP.out;omega)
    obtain ⟨s0,s1,s2,hs,hg⟩:=X5l e6 hb
    have f3:(x.drop p).take 3=[s0,s1,s2]:=hs
    rw [f3] at hS
    have HS:Hid (Calls Tryz.prog 150 _ wc.drew fun e w'=>e= .returned (.agg #[.int .u8 (s0:Int),.int .u8 (s1:Int),.int .u8 (s2:Int)])∧E2 wc.drew w' (fun _=>False)):=hS
    have k5:Hid (∀w5,E2 wc.drew w5 (fun _=>False)→∃w7,(Instr.mapUpdate 65 (.map (some n1)) (.agg #[.int .u8 (s0:Int),.int .u8 (s1:Int),.int .u8 (s2:Int)]) (.int .i64 (p:Int))).run Tryz.prog w5= .ok () w7∧
      X3 (X4 .u8) Z3p (fun p:Nat=> .int .i64 (p:Int)) w7 n1 (P3 x m (p+1)) (p+1)∧E2 w5 w7 (fun j=>j=n1)):=A5 fun w5 m5=>by
     have hm:X3 (X4 .u8) Z3p (fun p:Nat=> .int .i64 (p:Int)) wc.drew n1 (P3 x m p) p:=hM
     rw [hs] at hg
     exact (hm.kept m5 (fun h=>h)).store Z5x (t:=65) Tryz.underlying65 [s0,s1,s2] hg p (P3 x m (p+1)) (by rw [Y3w x m p h1,hs];exact if_pos rfl) (fun s' hs'=>by rw [Y3w x m p h1,hs];exact if_neg hs')
    have p8:=A5 (And.intro hs hg)
    have HL:=A5 hL
    clear hS hs hg f3 z e2 hK hL k3 q l hM H8 HN HO
    go_wp2
    go_region_law ((first
     | (
      go_simp;go_at_call 150;refine HS.out.mono ?_;rintro e w5 ⟨rfl,m5⟩;have f4:=A5 (b0.out.drew.same m5);have n:=A5 (HB.out.drew.kept m5 (fun h=>h));have d3:=n.out.cell (i:=3) rfl;have d5:=n.out.cell (i:=5) rfl
      obtain ⟨w7,h0,h8,h9⟩:=k5.out w5 m5
      have f8:=A5 h8;have Hm7:=A5 h9;clear m5 h8 h9)))
    all_goals
     have h6:A4 w0 w5 (Y8s (X4 .u8) Z3p (fun p:Nat=> .int .i64 (p:Int)) (.map (some n1)) (P3 x m p) p::P5 B (Z6j tr en la (.slice lo L f) cut (.map (some n1)) (.map (some n2)) (.slice a8 (k+1) d) at')::
       B0 5 1 (.slice lo L f) (x.drop cut).length (D7 (x.drop cut))::B0 39 1 (.slice a8 (k+1) d) (k+1) (D3 .u16 (M5 x cut (p+1)))::Z3n (.map (some n2)) (O6 32768 x m) p::Rs):=f4.out.fourth
     have h7:=W88 (n':=p+1) (by omega) (W08 (h6.putMap f8.out Hm7.out))
     have hl:(M5 x cut (p+1)).length=k+1:=by rw [Z3];have:=HP.out;omega
     rw [←hl] at h7
     have k6:=A5 (mkV _ _ _ h7)
     have k7:Hid (Z18 x cut (p+1) m):=A5 ⟨by have:=HP.out;omega,.inr (by omega),by omega,by omega,h3.out,.inl h4⟩
     have f9:Hid (p+1=cut+(k+1)):=A5 (by have:=HP.out;omega)
     clear h6 h7 hl f4 n f8 Hm7 h0 d3 d5
     go_wp2
     go_roundg (gk-1)
     case measure=>omega
     case rel=>
      refine ⟨k+1,m,by omega,.inr (by omega),by omega,by go_num, ?_, ?_⟩
      ·rw [←f9.out];exact k7
      rw [←f9.out];exact k6
end
end Go.Proofs.YtbkbkmgogbgofaaGreatDoor
