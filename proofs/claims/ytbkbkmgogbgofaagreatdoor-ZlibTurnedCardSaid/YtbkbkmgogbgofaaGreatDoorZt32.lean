/- The claim's texts, put together and shortened by a program (names, spaces). -/
import Derived.Test.YtbkbkmgogbgofaaGreatDoorZt25
import Derived.Test.YtbkbkmgogbgofaaGreatDoorZt02
import Derived.Test.YtbkbkmgogbgofaaGreatDoorProg
import Derived.Sort.LoopGhostIn
import Derived.Sort.QuietIn
import Derived.Test.YtbkbkmgogbgofaaGreatDoorZt31
import Derived.Test.YtbkbkmgogbgofaaGreatDoorZt16
import Derived.Test.YtbkbkmgogbgofaaGreatDoorZt05
open List renaming length_append→T00,length_nil→T02,nil_append→T03,length_take→T04,size_toArray→T05,length_cons→T06,push_toArray→T09,append_toArray→T0a,cons_append→T0b,length_drop→T0c,perm_append_comm→T0d,mem_of_mem_drop→T0e
open Int renaming natCast_nonneg→T01
open Array renaming replicate_succ→T07,replicate_zero→T08
namespace Go.Proofs.YtbkbkmgogbgofaaGreatDoor
set_option maxRecDepth 100000
set_option maxHeartbeats 6400000
open Go.RowKit
def Y9e (b k:Nat):Prop:=k=b∨k=b+1
def W5u (b:Nat) (W:World) (R:World→Prop):Exit→Act→World→Prop
 | .normal,_,W'=>W'.heap[b]?=W.heap[b]?∧W'.heap[b+1]?=W.heap[b+1]?∧R W'
 | _,_,_=>False
theorem Z9h (W:World) (b:Nat) (o:Obj) (_:b+1 < W.heap.size):E2 W (W.putObj (b+1) o) (Y9e b):=
 ⟨rfl,rfl,rfl,by simp,fun j _ hn=>World.putObj_heap_other (fun e=>hn (.inr (by omega)))⟩
theorem Y90 {F:Fence} {n:Nat} {P:Program} {g:Operand} {ps:Array Tmp} {assign body:Code} {Q:Exit→Act→World→Prop} {a:Act} {w:World}
  (hro:F.round=none) (h1:1≤n) {gf:Nat} {lb:Array Value} (hg:a.eval g= .func (.func gf) #[] lb) (hFg:F.fn gf) (eg:∀args w,(callFunc gf args).run P w= .ok (.enter gf args) w)
  (N:Nat) (args:Nat→Array Value) (hps:∀k,(args k).size=ps.size) (I:Nat→World→Prop) (hI:∀k W W',I k W→E2 W W' (Y9e w.heap.size)→W'.heap.size=W.heap.size→I k W')
  (h0:∀V,E2 w V (fun _=>False)→V.heap.size=w.heap.size+2→I 0 V)
  (hit:∀ (l:Nat) (J:Nat→World→Prop) (W:World),(∀k W,J k W→I k W)→(∀k W W',J k W→E2 W W' (fun _=>False)→W'.heap.size=W.heap.size→J k W')→(∀k W,k < N→J k W→YieldAt F (n-1-1) P l (args k) W fun e W'=>e= .returned (.bool true)∧J (k+1) W')→J 0 W→
   CallsIn F (n-1) P gf (#[.func (.yield l) #[] #[]]++lb) W fun e W'=>(∃v,e= .returned v)∧J N W')
  (a₁:Nat→Act)
  (hassign:∀ (l k:Nat) (W:World) (K:Act→World→Prop),K (a₁ k) W→
   assign.wpIn (F.inRound l) (n-1-1) P (Exit.then K (fun _ _ _=>False)) {tmps:=(ps.zip (args k)).foldl (fun t (p,v)=>t.setIfInBounds p v) a.tmps,defers:=[]} W)
  (hbody:∀ (l k:Nat) (W:World),k < N→I k W→body.wpIn (F.inRound l) (n-1-1) P (W5u w.heap.size W (I (k+1))) (a₁ k) W)
  (hdone:∀ (W:World),I N W→W.heap[w.heap.size]?=some (.deferred (some []))→Q .normal {a with defers:={target:= .collected w.heap.size,args:=#[]}::a.defers} W):
  (Code.rangeFunc g ps assign body).wpIn F n P Q a w:=by
 refine wpIn_rangeFunc fun fn hfn=> ?_
 obtain ⟨f,d⟩:∃f:LoopState→Loop,f=fun s=>{state:=s,pending:=none,fn,tmps:=a.tmps,params:=ps,assign,body,defers:=w.heap.size}:=⟨_,rfl⟩
 obtain ⟨b,y⟩:∃b,b=w.heap.size:=⟨_,rfl⟩
 have r:(w.alloc (.deferred (some []))).heap.size=b+1:=by rw [y];simp
 obtain ⟨V,z⟩:∃V,V=(w.alloc (.deferred (some []))).alloc (.loop (f .ready)):=⟨_,rfl⟩
 have a1:V.heap[b]?=some (.deferred (some [])):=by
  rw [z,Below.heap_alloc _ _ _ (by omega),y];exact World.alloc_heap_new w _
 have a2:V.heap[b+1]?=some (.loop (f .ready)):=by
  have:=World.alloc_heap_new (w.alloc (.deferred (some []))) (.loop (f .ready))
  rw [r] at this;rw [z];exact this
 have a4:I 0 V:=h0 V (by rw [z];exact ((E2.refl w _).alloc _).alloc _) (by rw [z,World.size_alloc,r,y])
 refine ⟨b+1,[{target:= .collected b,args:=#[]}],V,{target:= .fn (.func gf) lb,args:=#[.func (.yield (b+1)) #[] #[]]},V,gf,#[.func (.yield (b+1)) #[] #[]]++lb,V, ?_, ?_, ?_, ?_,fun _=>h1, ?_⟩
 ·rw [hro,z,d,y];exact run_enterLoop_outer _ _ _ _ _
 ·simp only [resolve,hg]
  simp [go_sem]
 ·intro f' x
  simp [Target.leads] at x
  rw [←x];exact hFg
 ·simp [invoke,go_sem,eg]
 rw [←y] at hI hbody hdone
 refine (hit (b+1) (fun k W=>I k W∧W.heap[b+1]?=some (.loop (f .ready))∧W.heap[b]?=some (.deferred (some []))) V (fun k W h=>h.1) (fun k W W' h hm hz=>⟨hI k W _ h.1 (hm.mono fun _ _ h=>h.elim) hz,(hm.block _ (Array.getElem?_eq_some_iff.1 h.2.1).1 (fun h=>h)).trans h.2.1,(hm.block _ (Array.getElem?_eq_some_iff.1 h.2.2).1 (fun h=>h)).trans h.2.2⟩) ?_ ⟨a4,a2,a1⟩).mono ?_
 ·rintro k W hk ⟨hi,o,hd⟩
  have i:b+1 < W.heap.size:=(Array.getElem?_eq_some_iff.1 o).1
  have hy:=run_yield (P:=P) (args:=args k) o (by rw [d];exact hps k)
  rw [d] at hy
  have a5:=run_beginRound (P:=P) o (by rw [d])
  refine ⟨fn,_,assign,body,hy,roundIn_of_wpIn hfn (hassign _ k W _ ⟨_,a5, ?_⟩)⟩
  refine wpIn_mono (hbody (b+1) k _ hk (hI k W _ hi (Z9h W b _ i) (by rw [World.putObj_size]))) ?_
  rintro e a3 W3 q
  cases e with
  | normal=>
   obtain ⟨a0,m,b0⟩:=q
   rw [World.putObj_heap_same i] at m
   rw [World.putObj_heap_other (by omega),hd] at a0
   have j:b+1 < W3.heap.size:=(Array.getElem?_eq_some_iff.1 m).1
   have a6:=run_endRound (P:=P) none m
   refine ⟨_,_,a6,rfl,hI _ _ _ b0 (Z9h W3 b _ j) (by rw [World.putObj_size]), ?_,(World.putObj_heap_other (by omega)).trans a0⟩
   rw [World.putObj_heap_same j,d];rfl
  | ret=>exact q.elim
  | exit id=>exact q.elim
  | goto t=>exact q.elim
  | panic ch=>exact q.elim
  | outgrown=>exact q.elim
 rintro e W2 ⟨⟨v,rfl⟩,hi,o,hd⟩
 have i:b+1 < W2.heap.size:=(Array.getElem?_eq_some_iff.1 o).1
 have a7:=run_endLoop (P:=P) o (by rw [d];simp)
 refine ⟨none,_,by rw [a7,d], ?_⟩
 exact hdone _ (hI _ _ _ hi (Z9h W2 b _ i) (by rw [World.putObj_size])) ((World.putObj_heap_other (by omega)).trans hd)
def X8b (b:Nat) (o1 o2:Option Obj):A6 where
 res:=fun w F=>w.heap[b]?=o1∧w.heap[b+1]?=o2∧b+1 < w.heap.size∧∀k,F k↔Y9e b k
 loc:=fun w w' F S h hm hS=>by
  obtain ⟨h1,h2,h3,h4⟩:=h
  refine ⟨(hm.block b (by omega) (hS b ((h4 b).2 (.inl rfl)))).trans h1,(hm.block (b+1) h3 (hS _ ((h4 _).2 (.inr rfl)))).trans h2,Nat.lt_of_lt_of_le h3 hm.size,h4⟩
def Y02 (b:Nat):A6:=exT fun q:Option Obj×Option Obj=>X8b b q.1 q.2
section
variable {w0 w:World} {Rs:List A6}
theorem A4.newRec {V:World} (h:A4 w0 w Rs) (hm:E2 w V (fun _=>False)) (hs:V.heap.size=w.heap.size+2):A4 w0 V (Y02 w.heap.size::Rs):=
 h.push _ (Y9e w.heap.size) ⟨(_,_),rfl,rfl,by omega,fun _=>Iff.rfl⟩ hm (fun k hk=>by rcases hk with hk | hk <;> omega)
theorem A4.recStep {b:Nat} {w':World} (h:A4 w0 w (Y02 b::Rs)) (hm:E2 w w' (Y9e b)) (hs:w'.heap.size=w.heap.size):A4 w0 w' (Y02 b::Rs):=by
 obtain ⟨F,⟨q,f⟩,g,a⟩:=h.take
 obtain ⟨_,_,i,d⟩:=f
 exact a w' (Y02 b) F ⟨(_,_),rfl,rfl,by omega,d⟩ (hm.mono fun k _ hk=>(d k).2 hk) (fun k hk=> .inl hk) (fun k hk=>by rw [hs];exact (g k hk).2)
theorem A4.recIs {b:Nat} (h:A4 w0 w (Y02 b::Rs)):A4 w0 w (X8b b w.heap[b]? w.heap[b+1]?::Rs):=by
 obtain ⟨F,⟨q,i,j,a,d⟩,f,g⟩:=h
 exact ⟨F,⟨rfl,rfl,a,d⟩,f,g⟩
theorem A4.recAre {b:Nat} {o1 o2:Option Obj} (h:A4 w0 w (X8b b o1 o2::Rs)):w.heap[b]?=o1∧w.heap[b+1]?=o2:=by
 obtain ⟨F,⟨a,d,_⟩,_⟩:=h
 exact ⟨a,d⟩
theorem A4.recAs {b:Nat} {o1 o2:Option Obj} (h:A4 w0 w (X8b b o1 o2::Rs)):A4 w0 w (Y02 b::Rs):=A4.mk (R:=fun q:Option Obj×Option Obj=>X8b b q.1 q.2) (o1,o2) h
end
end Go.Proofs.YtbkbkmgogbgofaaGreatDoor
namespace Go.Proofs.YtbkbkmgogbgofaaGreatDoor
set_option maxRecDepth 100000
set_option maxHeartbeats 6400000
open Go.RowKit
attribute [local go_sem] Oper.semAt_some
theorem W66 (v:Value) (w:World) (hv:∃a n c,v= .slice a n c):
  Calls Tryz.prog 47 #[v,.int .i64 16384] w fun e w'=>e= .returned (.func (.func 72) #[] #[.pointer (some ⟨w.heap.size,0,none⟩),.pointer (some ⟨w.heap.size+1,0,none⟩)])∧w'=(w.alloc (.cells #[v] 26)).alloc (.cells #[.int .i64 16384] 3):=by
 obtain ⟨a,n,c,rfl⟩:=hv
 go_enter Tryz.func47,Tryz.ntmps47
 go_wp2
 go_ret
 exact ⟨rfl,rfl⟩
theorem W8o {P:Program} {w:World} (t e:TypeId) (i:TypeInfo) (size:Nat) (ht:P.underlying t=some (.slice e)) (hi:P.info? e=some i) (hs:i.size=size) (a:Option Addr) (len cap l h:Nat) (h1:l < h) (h2:h≤cap):
  (Instr.sliceAt t (.slice a len cap) (some (.int .i64 (l:Int))) (some (.int .i64 (h:Int))) (some (.int .i64 (h:Int)))).run P w= .ok (.slice (a.map fun (x:Addr)=>x.add (l*size)) (h-l) (h-l)) w:=by
 have b:P.elem t=e:=by simp [Program.elem,ht]
 have d:P.underlying t=some (.slice (P.elem t)):=by rw [b];exact ht
 have f:(sizeOf (P.elem t)).run P w= .ok size w:=by rw [b];simp [sizeOf,typeInfo,hi,hs]
 rw [run_sliceAt_slice w t _ _ _ _ d,run_slice_lhm w t a len cap d .i64 .i64 .i64 (l:Int) (h:Int) (h:Int) (by omega) (by omega) (Int.le_refl _) (by omega),f]
 simp only [Result.andThen,sliced,Int.toNat_natCast]
 rw [if_neg (by omega)]
theorem W46:(Tryz.prog.info? 5).map (fun i=>(i.zero,i.size,i.bytes))=some (some (.int .u8 0),1,1):=by kernel_rfl
def Z0j (L k:Nat):Nat:=min 16384 (L-16384*k)
def Z7d (ao:Option Addr) (L k:Nat):Value:= .slice (ao.map fun (x:Addr)=>x.add (16384*k*1)) (Z0j L k) (Z0j L k)
def Z1b (n:Nat):Nat:=(n+16383) / 16384
theorem W9b (n:Nat) (hn:1≤n) (l C D L cap:Nat) (ao:Option Addr) (hL:L < 1000000000) (hLc:L≤cap)
  (J:Nat→World→Prop) (hJ:∀k W,J k W→W.cell? ⟨C,0,none⟩=some (.slice ao L cap)∧W.cell? ⟨D,0,none⟩=some (.int .i64 16384))
  (hJd:∀k W W',J k W→E2 W W' (fun _=>False)→W'.heap.size=W.heap.size→J k W')
  (hY:∀k W,k < Z1b L→J k W→YieldAt Fence.wide (n-1) Tryz.prog l #[Z7d ao L k] W fun e W'=>e= .returned (.bool true)∧J (k+1) W')
  (W:World) (h0:J 0 W):
  CallsIn Fence.wide n Tryz.prog 72 #[.func (.yield l) #[] #[],.pointer (some ⟨C,0,none⟩),.pointer (some ⟨D,0,none⟩)] W fun e W'=>(∃v,e= .returned v)∧J (Z1b L) W':=by
 obtain ⟨i0,y,d5,z,d6⟩:=info_parts W46
 have b8:(0:Int)≤(L:Int):=T01 _
 refine callsIn_of_wp Tryz.func72 rfl trivial ?_ rfl
 simp only [Tryz.ntmps72,T05,T06,T02,Nat.reduceAdd,Nat.reduceSub,T07,T08,T09,T0a,T03,T0b]
 gi_wp2
 gi_loopg [4,5] (Z1b L+1) (fun g t4 t5 wr=>∃ (k:Nat),k≤Z1b L∧Z1b L-k < g∧t4= .int .i64 ((16384*k:Nat):Int)∧Hid (J k wr))
 case atStart=>exact ⟨0,by omega,by omega,rfl,h0⟩
 case round=>
  obtain ⟨k,hk,hg,rfl,HJ⟩:=hrel
  have c0:=(hJ k wr HJ.out).1
  have d0:=(hJ k wr HJ.out).2
  obtain ⟨i,a⟩:∃i,i=16384*k:=⟨_,rfl⟩
  have c3:i < 2000000000:=by unfold Z1b at hk;omega
  have b3:(0:Int)≤(i:Int):=T01 _
  have HI:=A5 a
  by_cases t:k < Z1b L
  rotate_left
  ·obtain rfl:k=Z1b L:=by omega
   have a4:L≤i:=by unfold Z1b at a;omega
   have a5:¬(i:Int) < (L:Int):=by omega
   rw [←a]
   clear a
   gi_wp2
   go_end0
   exact ⟨⟨_,rfl⟩,HJ⟩
  have a4:i < L:=by unfold Z1b at t;omega
  have a5:(i:Int) < (L:Int):=by omega
  obtain ⟨q,hq⟩:∃q,q=L-i:=⟨_,rfl⟩
  obtain ⟨m,hm⟩:∃m,m=Z0j L k:=⟨_,rfl⟩
  have a6:m=min 16384 q:=by rw [hm,hq,a];rfl
  have c4:(if (q:Int) < 16384 then (q:Int) else 16384)=(m:Int):=by split <;> omega
  obtain ⟨e,he⟩:∃e,e=i+m:=⟨_,rfl⟩
  have c5:(i:Int)+(m:Int)=(e:Int):=by omega
  have o:e≤cap:=by omega
  have p:i < e:=by omega
  have b:∀wg,(Instr.sliceAt 26 (.slice ao L cap) (some (.int .i64 (i:Int))) none none).run Tryz.prog wg= .ok (.slice (if cap=i then ao else ao.map fun (x:Addr)=>x.add (i*1)) (L-i) (cap-i)) wg:=fun wg=>
   N8 (P:=Tryz.prog) 26 5 i0 1 Tryz.underlying26 y z ao L cap i L (some (.int .i64 (i:Int))) none ⟨_,rfl⟩ rfl (by omega) hLc
  rw [←hq] at b
  generalize (if cap=i then ao else ao.map fun (x:Addr)=>x.add (i*1))=a1 at b
  generalize cap-i=cap1 at b
  have a7:∀wg,(Instr.sliceAt 26 (.slice ao L cap) (some (.int .i64 (i:Int))) (some (.int .i64 (e:Int))) (some (.int .i64 (e:Int)))).run Tryz.prog wg= .ok (.slice (ao.map fun (x:Addr)=>x.add (i*1)) m m) wg:=fun wg=>by
   have h1:=W8o (P:=Tryz.prog) (w:=wg) 26 5 i0 1 Tryz.underlying26 y z ao L cap i e p o
   rw [show e-i=m by omega] at h1
   exact h1
  have d:Z7d ao L k= .slice (ao.map fun (x:Addr)=>x.add (i*1)) m m:=by unfold Z7d;rw [←hm,←a]
  generalize (ao.map fun (x:Addr)=>x.add (i*1))=a3 at a7 d
  have a8:=A5 d
  have c6:m≤16384:=by omega
  have c7:e < 2000000000:=by omega
  have r:(i:Int)+16384=((16384*(k+1):Nat):Int):=by omega
  have a9:=A5 r
  have c8:q < 1000000000:=by omega
  have c9:(0:Int)≤(q:Int):=T01 _
  have d1:(0:Int)≤(m:Int):=T01 _
  have d2:(0:Int)≤(e:Int):=T01 _
  rw [←a]
  clear a hq hm a6 he d p o r
  have s:=fun nn=>hJd k wr (wr.drewN nn) HJ.out ((E2.refl wr _).drewN nn) (by simp)
  gi_wp2
  gi_quiet (fail)
  have f:=A5 (s nq)
  generalize wr.drewN nq=w1 at f⊢
  have c1:=(hJ k w1 f.out).1
  obtain ⟨fn,b6,a2,b7,hy,hR⟩:=hY k w1 t f.out
  rw [a8.out] at hy
  clear c0 d0 s HJ
  gi_wp2
  refine hR.mono ?_
  rintro e3 W3 ⟨rfl,j⟩
  have b0:=A5 j
  have d3:=(hJ _ W3 j).2
  clear j
  gi_wp2
  gi_roundg (gk-1)
  case measure=>omega
  case rel=>exact ⟨k+1,by omega,by omega,by rw [←a9.out],b0⟩
end Go.Proofs.YtbkbkmgogbgofaaGreatDoor
namespace Go.Proofs.YtbkbkmgogbgofaaGreatDoor
set_option maxRecDepth 100000
set_option maxHeartbeats 6400000
open Go.RowKit
attribute [local go_sem] Oper.semAt_some
theorem Y7j (b:List Nat) (k:Nat):Z0j b.length k=(Z0d b k).length:=by
 unfold Z0j Z0d
 rw [T04,T0c]
theorem V2n {w:World} {vo:Option Addr} {vc n k:Nat} {b:List Nat} (h:Rd w 1 (.slice vo n vc) n (D7 b)) (hn:n=b.length) (hk:k < Z1b n):Rd w 1 (Z7d vo n k) (Z0j n k) (D7 (Z0d b k)):=by
 have i:n≤vc:=by
  obtain ⟨_,l,g,hn,_⟩:=h.form
  simp only [Value.slice.injEq,true_and] at g
  obtain ⟨_,rfl⟩:=g
  exact hn
 have m:16384*k < n:=by unfold Z1b at hk;omega
 have a:16384*k+Z0j n k≤n:=by unfold Z0j;omega
 have d:=h.cut (L:=16384*k) (H:=16384*k+Z0j n k) (by omega) a
 unfold sliced at d
 rw [if_neg (by omega),Nat.add_sub_cancel_left] at d
 have f:=d.shrink (c:=Z0j n k) (Nat.le_refl _) (by omega)
 have e:((D7 b).drop (16384*k*1)).take (Z0j n k*1)=D7 (Z0d b k):=by
  rw [Nat.mul_one,Nat.mul_one,hn,Y7j]
  have j:∀X:List Nat,X.take (X.take 16384).length=X.take 16384:=fun X=>by rw [T04,←List.take_take,List.take_length]
  unfold D7 Z0d
  rw [←List.map_drop,←List.map_take,j]
 rw [e] at f
 exact f
theorem X9z (vo:Option Addr) (n k m c:Nat):(Z7d vo n k).ownBlock=Value.ownBlock (.slice vo m c):=by
 unfold Z7d
 cases vo with
 | none=>rfl
 | some x=>
  simp only [Option.map_some,Value.ownBlock,Addr.add]
  split <;> rfl
theorem X90 {w0:World} {S:A6} {vo:Option Addr} {vc n k:Nat} {b:List Nat} (h:Y9 w0 S 1 (.slice vo n vc) n (D7 b)) (hn:n=b.length) (hk:k < Z1b n):Y9 w0 S 1 (Z7d vo n k) (Z0j n k) (D7 (Z0d b k)):=by
 intro w F a d
 obtain ⟨f,g⟩:=h w F a d
 have i:16384*k < n:=by unfold Z1b at hk;omega
 refine ⟨V2n f hn hk,fun _ j hj=>g (by omega) j ?_⟩
 rw [X9z vo n k n vc] at hj
 exact hj
section
variable {w0 w:World} {Rs:List A6} {S:A6}
theorem W0b {s:Q0 V5} {p:D0} {x T:List Nat} {e:Nat} (H:A4 w0 w (T9 s p::S::Rs)) (hO:Z3x w0) (HI:S9 I9 x s T e) (he:e≤1000000) (v:Value) (n:Nat) (b:List Nat) (hv:Y9 w0 S 1 v n (D7 b)) (hb:∀c∈b,c < 256) (hx:x.length+b.length≤most):
  Calls Tryz.prog 28 #[.pointer (some ⟨p.b,p.o,none⟩),v] w fun e w'=>e= .returned (.int .i64 0)∧A4 w0 w' (T9 (R8 I9 (G3 C4) s b) p::S::Rs):=by
 have y:=hv.rd H.swap
 have a2:n=b.length:=by have:=y.1;rw [E5] at this;omega
 obtain ⟨a,q,rfl,d2,_⟩:=y.form
 obtain ⟨C,X,bs,rv,lv,d,sp,c,hf,m,b6⟩:=Z3g H
 have c0:=m.objp.cell (i:=16) rfl
 have a3:∀o,(w.alloc o).cell? ⟨p.b,p.o+16,none⟩=some (.bool false):=fun o=>(m.alloc o).objp.cell (i:=16) rfl
 clear m hf b6
 refine (callsIn_wide (n:=3)).1 ?_
 refine callsIn_of_wp_marks Tryz.func28 rfl trivial ?_ rfl
 simp only [Tryz.ntmps28,T05,T06,T02,Nat.reduceAdd,Nat.reduceSub,T07,T08,T09,T0a,T03,T0b]
 have HN:=A5 a2
 have c2:n < 1000000000:=by have:most=16777216:=rfl;omega
 have HA:=A5 (((H.newObj [.pointer (some ⟨p.b,p.o,none⟩)] 42).newObj [.slice a n q] 26).newObj [.int .i64 16384] 3)
 obtain ⟨N,hN⟩:∃N,N=w.heap.size:=⟨_,rfl⟩
 rw [World.size_alloc,World.size_alloc,←hN] at HA
 have a4:((((w.alloc (.cells #[.pointer (some ⟨p.b,p.o,none⟩)] 42)).alloc (.cells #[.slice a n q] 26)).alloc (.cells #[.int .i64 16384] 3))).heap.size=N+3:=by rw [World.size_alloc,World.size_alloc,World.size_alloc,hN]
 have HC:=A5 (W66 (.slice a n q) (w.alloc (.cells #[.pointer (some ⟨p.b,p.o,none⟩)] 42)) ⟨_,_,_,rfl⟩)
 rw [World.size_alloc,←hN] at HC
 clear a2 y H
 gi_wp2_with fail
 refine ⟨trivial, ?_⟩
 refine (callsIn_wide.2 HC.out).mono ?_
 rintro e2 w2 ⟨rfl,rfl⟩
 rw [←hN]
 generalize (((w.alloc (.cells #[.pointer (some ⟨p.b,p.o,none⟩)] 42)).alloc (.cells #[.slice a n q] 26)).alloc (.cells #[.int .i64 16384] 3))=wc at HA a4⊢
 clear c0 a3 HC hN
 gi_wp2_with fail
 have r:∀k,S9 I9 (x++b.take (16384*k)) (Z11 I9 (G3 C4) s b k) T e:=Y6s Z3z Y2d HI b hb hx
 have a5:=A5 r
 clear r
 refine Y90 (gf:=72) (lb:=#[.pointer (some ⟨N+1,0,none⟩),.pointer (some ⟨N+1+1,0,none⟩)]) rfl (by decide) rfl trivial (enters_of Tryz.func72 (by kernel_rfl) rfl) (Z1b n)
  (fun k=>#[Z7d a n k]) (fun _=>rfl)
  (fun k W=>A4 w0 W (Y02 wc.heap.size::E7 (N+1+1) [.int .i64 16384] 3::E7 (N+1) [.slice a n q] 26::E7 N [.pointer (some ⟨p.b,p.o,none⟩)] 42::T9 (Z11 I9 (G3 C4) s b k) p::S::Rs)) ?far ?h0 ?hit
  (fun k=>{tmps:=#[.pointer (some ⟨p.b,p.o,none⟩),.slice a n q,.pointer (some ⟨N,0,none⟩),undef,.int .i64 0,Z7d a n k,.pointer (some ⟨p.b,p.o,none⟩),.bool false,.bool false,.pointer (some ⟨p.b,p.o,none⟩),.pointer (some ⟨p.b,p.o,none⟩),.pointer (some ⟨p.b,p.o+16,none⟩),.bool false,.bool false,.slice a n q,
   .func (.func 72) #[] #[.pointer (some ⟨N+1,0,none⟩),.pointer (some ⟨N+1+1,0,none⟩)],Z7d a n k,undef,undef,undef,undef,undef,undef,undef],defers:=[]}) ?assign ?body ?done
 case far=>exact fun k W W' h hm hz=>h.recStep hm hz
 case h0=>exact fun V hm hz=>HA.out.newRec hm hz
 case hit=>
  intro l J W c8 c9 hY d0
  refine W9b _ (by decide) l (N+1) (N+1+1) n q a c2 d2 J (fun k W h=> ?_) c9 hY W d0
  have h2:=c8 k W h
  exact ⟨h2.third.obj.cell (i:=0) rfl,h2.swap.obj.cell (i:=0) rfl⟩
 case assign=>
  intro l k W K hK
  gi_wp2
  exact hK
 case body=>
  intro l k W hk hI
  have hR:=hI.recIs
  generalize b4:W.heap[wc.heap.size]?=o1 at hR
  generalize b5:W.heap[wc.heap.size+1]?=o2 at hR
  have h2:A4 w0 W ([T9 (Z11 I9 (G3 C4) s b k) p,S]++[X8b wc.heap.size o1 o2,E7 (N+1+1) [.int .i64 16384] 3,E7 (N+1) [.slice a n q] 26,E7 N [.pointer (some ⟨p.b,p.o,none⟩)] 42]++Rs):=
   hR.perm ((T0d (l₁:=[_,_,_,_]) (l₂:=[_,_])).append_right Rs)
  have g:=a5.out k
  have z:(x++b.take (16384*k)).length+(Z0d b k).length≤most:=by
   rw [←T00,List.append_assoc,Y7s,T00,T04]
   omega
  have a7:Z0j n k=(Z0d b k).length:=by rw [HN.out];exact Y7j b k
  have a8:∀c∈Z0d b k,c < 256:=fun c hc=>hb c (T0e (List.mem_of_mem_take hc))
  have a9:=W2n Z3z g (Z0d b k) a8 z
  have b0:(Z11 I9 (G3 C4) s b k).f.x=x++b.take (16384*k):=g.inp
  have b1:(Z11 I9 (G3 C4) s b k).raw.length≤most:=by
   obtain ⟨P,ks,ss,hm⟩:=g.mid
   exact (Y0q hm (by omega) he).2.1
  have a0:most=16777216:=rfl
  have t:=A5 (V0d (S:=S) h2 (Z7d a n k) (Z0j n k) (Z0d b k) (X90 hv HN.out hk) g.ok (by rw [b0,a7];omega) (by omega))
  have b2:=A5 (fun (wz:World) (Rz:List A6) (h:A4 w0 wz (T9 (X20 I9 (Z11 I9 (G3 C4) s b k) (Z0d b k)) p::Rz))=>Y4c h hO a9 (by rw [T00];exact z) he false)
  have cN:W.cell? ⟨N,0,none⟩=some (.pointer (some ⟨p.b,p.o,none⟩)):=(hI.fourth.obj).cell (i:=0) rfl
  have HO:=A5 (And.intro b4 b5)
  clear hR h2 g z a7 a8 a9 b0 b1 a0 b4 b5 hI
  gi_wp2_with fail
  refine ⟨trivial, ?_⟩
  refine (CallsIn.inRound l (callsIn_wide.2 t.out)).mono ?_
  rintro e3 w3 ⟨rfl,m⟩
  have c5:w3.cell? ⟨N,0,none⟩=some (.pointer (some ⟨p.b,p.o,none⟩)):=(m.perm (List.perm_middle (l₁:=[_,_,_,_,_]))).obj.cell (i:=0) rfl
  have b3:=A5 (b2.out _ _ m)
  clear b2 t m cN
  gi_wp2_with fail
  refine ⟨trivial, ?_⟩
  refine (CallsIn.inRound l (callsIn_wide.2 b3.out)).mono ?_
  rintro e4 w4 ⟨rfl,h4⟩
  have H4:=A5 h4
  clear h4 b3 c5
  gi_wp2
  have h5:A4 w0 w4 ([X8b wc.heap.size o1 o2,E7 (N+1+1) [.int .i64 16384] 3,E7 (N+1) [.slice a n q] 26,E7 N [.pointer (some ⟨p.b,p.o,none⟩)] 42]++[T9 (Z11 I9 (G3 C4) s b (k+1)) p,S]++Rs):=
   H4.out.perm ((T0d (l₁:=[_,_]) (l₂:=[_,_,_,_])).append_right Rs)
  have h6:=A4.recAre h5
  exact ⟨by rw [HO.out.1];exact h6.1,by rw [HO.out.2];exact h6.2,A4.recAs h5⟩
 case done=>
  intro W hI hK
  have c6:=A5 hI
  have HE:Hid (Z11 I9 (G3 C4) s b (Z1b n)=R8 I9 (G3 C4) s b):=A5 (by rw [HN.out];rfl)
  clear hI
  gi_wp2
  refine ⟨by simp,.inl ⟨_,_,rfl,run_takeDeferred hK, ?_⟩⟩
  have c7:E2 W (W.putObj wc.heap.size (.deferred none)) (Y9e wc.heap.size):=⟨rfl,rfl,rfl,by simp,fun j hj hne=>World.putObj_heap_other (fun e=>hne (.inl e))⟩
  have m:=c6.out.recStep c7 (by rw [World.putObj_size])
  rw [HE.out] at m
  exact ⟨_,results_tmp rfl _ _ _,rfl,m.drop.drop.drop.drop⟩
end
end Go.Proofs.YtbkbkmgogbgofaaGreatDoor
namespace Go.Proofs.YtbkbkmgogbgofaaGreatDoor
set_option maxRecDepth 100000
set_option maxHeartbeats 6400000
open Go.RowKit
section
variable {w0 w:World} {Rs:List A6} {S:A6}
theorem W39 {M:Z69} {x:List Nat} {s:Q0 M.St} {T:List Nat} {e:Nat} (h:S9 M x s T e) (hx:x.length≤most) (he:e≤1000000):
  s.told≤s.raw.length∧s.raw.length < 1000000000∧s.told≤65535∧N9 s.list∧(∀b∈s.raw,b < 256)∧s.list.length < 1000000000∧s.acc.length < 900000000:=by
 obtain ⟨P,g,i,a⟩:=h.mid
 have d:=Y0q a hx he
 have f:=h.low
 have:most=16777216:=rfl
 refine ⟨d.1,by omega,by omega,a.byt,fun b hb=> ?_,by omega,d.2.2.2⟩
 rw [a.raw] at hb
 exact h.byt b (T0e hb)
def W0v:List Value:=[.int .i64 0,.int .i64 0,.int .i64 0,.slice none 0 0,.int .i64 0,.map none,.map none,.slice none 0 0,.int .i64 0,.slice none 0 0,.slice none 0 0,.int .i64 0]
def W13 (p:D0) (pk:Bool):D0:=Y4w p 12 W0v [.bool pk,.bool true] rfl
theorem W95 (p:D0) (pk:Bool) (d:Value) (sp c:Nat):P5 (W13 p pk) [d,.int .u64 (sp:Int),.int .i64 (c:Int)]=P5 p (W0v++[d,.int .u64 (sp:Int),.int .i64 (c:Int),.bool pk,.bool true]):=Y1w p 12 W0v _ _ rfl
def Z53 (acc:List Nat) (p:D0):A6:=exT fun pk:Bool=>wrT (W13 p pk) acc
theorem W4x {acc:List Nat} {p:D0} (H:A4 w0 w (Z53 acc p::Rs)):
  Calls Tryz.prog 30 #[.pointer (some ⟨p.b,p.o+12,none⟩)] w fun e w'=>∃d,e= .returned d∧A4 w0 w' (B0 5 1 d (D9 acc).length (D7 (D9 acc))::Z53 (acc.drop (8*(D9 acc).length)) p::Rs):=by
 obtain ⟨a,f⟩:=H.ex
 exact (V5n f).mono fun _ _ ⟨d,h2,h3⟩=>⟨d,h2,(A4.mk (R:=fun a:Bool=>wrT (W13 p a) (acc.drop (8*(D9 acc).length))) a h3.swap).swap⟩
theorem W71 {M:Z69} {F:Nat→List E1→List Nat→Nat→List Nat} {x:List Nat} {s:Q0 M.St} {T:List Nat} {e:Nat} (L:V0 M) (HF:Z1c F) (h:S9 M x s T e) (hx:x.length≤most) (he:e≤100000):
  (Q6 F true (T1 M F true s)).acc.length < 1000000000:=by
 have a:=(X13 L HF h hx).2.2.1
 have b:most=16777216:=rfl
 have d:(Q6 F true (T1 M F true s)).acc.length≤(L3 M F s).length:=by
  unfold L3 J2
  rw [T00];omega
 rw [T00] at a
 omega
theorem W0p {s:Q0 V5} {p:D0} {x T:List Nat} {e:Nat} (H:A4 w0 w (T9 s p::Rs)) (hO:Z3x w0) (HI:S9 I9 x s T e) (hx:x.length≤most) (he:e≤100000):
  Calls Tryz.prog 20 #[.pointer (some ⟨p.b,p.o,none⟩)] w fun e w'=>e= .returned (.int .i64 0)∧A4 w0 w' (Z53 (L3 I9 (G3 C4) s) p::Rs):=by
 obtain ⟨C,X,bs,rv,lv,d,sp,c,r,h1,g⟩:=Z3g H
 have t:=h1.objp.cell (i:=16) rfl
 have y:=A5 (Y4c H hO HI hx (by omega) true)
 have z:S9 I9 x (T1 I9 (G3 C4) true s) T e:=Y0w Z3z Y2d HI true hx
 have f:=W39 z hx (by omega)
 have m:=W71 (F:=G3 C4) Z3z Y2d HI hx he
 have hF:L3 I9 (G3 C4) s=J2 (Q6 (St:=V5) (G3 C4) true (T1 I9 (G3 C4) true s)).acc:=rfl
 have j:(Q6 (St:=V5) (G3 C4) true (T1 I9 (G3 C4) true s)).acc.length < 1000000000:=m
 rw [hF]
 clear h1 r g hF z m
 generalize T1 I9 (G3 C4) true s=u at*
 have HN:=A5 f
 have HC:=A5 j
 have l:=A5 (fun (wz:World) (h:A4 w0 wz (T9 (u:Q0 V5) p::Rs))=>Y5w h hO true f.1 f.2.1 f.2.2.1 f.2.2.2.1 f.2.2.2.2.1 f.2.2.2.2.2.1 f.2.2.2.2.2.2)
 generalize Q6 (St:=V5) (G3 C4) true u=u2 at HC l⊢
 clear f j HI H
 go_enter Tryz.func20,Tryz.ntmps20
 go_wp2_with fail
 with_reducible refine y.out.mono ?_
 rintro e1 w1 ⟨rfl,k⟩
 have n:=A5 (l.out _ k)
 clear k y l t
 go_wp2_with fail
 with_reducible refine n.out.mono ?_
 rintro e1 w2 ⟨rfl,k⟩
 have q:=A5 (X97 k (by have:=HC.out;omega))
 clear k n
 go_wp2_with fail
 with_reducible refine q.out.mono ?_
 rintro e1 w3 ⟨rfl,k⟩
 obtain ⟨C,X,bs,rv,lv,d,sp,c,r,a,g⟩:=Z3g k
 have HF:=A5 r
 have H2:=A5 a
 have z0:=a.objp.cell0 rfl
 have f0:=a.objp.frozen0
 have z1:=a.objp.cell (i:=1) rfl
 have f1:=a.objp.frozen 1
 have z2:=a.objp.cell (i:=2) rfl
 have f2:=a.objp.frozen 2
 have z3:=a.objp.cell (i:=3) rfl
 have f3:=a.objp.frozen 3
 have z4:=a.objp.cell (i:=4) rfl
 have f4:=a.objp.frozen 4
 have z5:=a.objp.cell (i:=5) rfl
 have f5:=a.objp.frozen 5
 have z6:=a.objp.cell (i:=6) rfl
 have f6:=a.objp.frozen 6
 have z7:=a.objp.cell (i:=7) rfl
 have f7:=a.objp.frozen 7
 have z8:=a.objp.cell (i:=8) rfl
 have f8:=a.objp.frozen 8
 have z9:=a.objp.cell (i:=9) rfl
 have f9:=a.objp.frozen 9
 have a8:=a.objp.cell (i:=10) rfl
 have a9:=a.objp.frozen 10
 have b0:=a.objp.cell (i:=11) rfl
 have b1:=a.objp.frozen 11
 have H3:=A5 (((((((((((((H2.out.setObjP0 (.int .i64 0)).setObjP 1 (.int .i64 0)).setObjP 2 (.int .i64 0)).setObjP 3 (.slice none 0 0)).setObjP 4 (.int .i64 0)).setObjP 5 (.map none)).setObjP 6 (.map none)).setObjP 7 (.slice none 0 0)).setObjP 8 (.int .i64 0)).setObjP 9 (.slice none 0 0)).setObjP 10 (.slice none 0 0)).setObjP 11 (.int .i64 0)).setObjP 16 (.bool true))
 have b3:=a.objp.cell (i:=16) rfl
 have b4:=a.objp.frozen 16
 clear k a r g q
 go_wp2
 go_ret
 refine ⟨rfl, ?_⟩
 have h5:A4 w0 _ (P5 p (W0v++[d,.int .u64 (sp:Int),.int .i64 (c:Int),.bool u2.packs,.bool true])::_):=H3.out
 rw [←W95] at h5
 exact A4.mk (R:=fun pk:Bool=>wrT (W13 p pk) (J2 u2.acc)) u2.packs (X39 HF.out h5.swap.drop.swap.drop.third.drop)
theorem Y61 {acc:List Nat} {p:D0} (H:A4 w0 w (Z53 acc p::Rs)):
  Calls Tryz.prog 19 #[.pointer (some ⟨p.b,p.o,none⟩)] w fun e w'=>∃d,e= .returned d∧A4 w0 w' (B0 5 1 d (D9 acc).length (D7 (D9 acc))::Z53 (acc.drop (8*(D9 acc).length)) p::Rs):=by
 have f:=A5 (W4x H)
 clear H
 go_enter Tryz.func19,Tryz.ntmps19
 go_wp2_with fail
 with_reducible refine f.out.mono ?_
 rintro e j ⟨d,rfl,a⟩
 obtain ⟨k,i,rfl,_,_⟩:=a.own.form
 have g:=A5 a
 clear a f
 go_wp2
 go_ret
 exact ⟨_,rfl,g.out⟩
end
abbrev Z5h (E:Nat):D0:= .whole E 78
def ecz (x:List Nat) (E:Nat) (hv:Value):List Value:=[.pointer (some ⟨E,0,none⟩),.int .u32 ((K6 1 x:Nat):Int),hv]
def zeO (B:Nat) (x:List Nat) (E:Nat) (hv:Value):A6:=E7 B (ecz x E hv) 48
def zeT (B:Nat) (x:List Nat) (s:Q0 V5) (H:List Nat):A6:=exT fun p:Nat×Value=>Z0e [zeO B x p.1 p.2,B0 5 1 p.2 H.length (D7 H),T9 s (Z5h p.1)]
def zsT (B:Nat) (x acc H:List Nat):A6:=exT fun p:Nat×Value=>Z0e [zeO B x p.1 p.2,B0 5 1 p.2 H.length (D7 H),Z53 acc (Z5h p.1)]
section
variable {w0 w:World} {Rs:List A6} {S:A6} {B E:Nat} {x H acc T:List Nat} {s:Q0 V5} {hv:Value}
theorem W25 (h:A4 w0 w (zeT B x s H::Rs)):∃E hv,A4 w0 w (zeO B x E hv::B0 5 1 hv H.length (D7 H)::T9 s (Z5h E)::Rs):=by
 obtain ⟨p,a⟩:=h.ex
 exact ⟨p.1,p.2,a.unall⟩
theorem W2t (E:Nat) (hv:Value) (h:A4 w0 w (zeO B x E hv::B0 5 1 hv H.length (D7 H)::T9 s (Z5h E)::Rs)):A4 w0 w (zeT B x s H::Rs):=
 A4.mk (R:=fun p:Nat×Value=>Z0e [zeO B x p.1 p.2,B0 5 1 p.2 H.length (D7 H),T9 s (Z5h p.1)]) (E,hv) (A4.all (L:=[zeO B x E hv,B0 5 1 hv H.length (D7 H),T9 s (Z5h E)]) h)
theorem V4b (h:A4 w0 w (zsT B x acc H::Rs)):∃E hv,A4 w0 w (zeO B x E hv::B0 5 1 hv H.length (D7 H)::Z53 acc (Z5h E)::Rs):=by
 obtain ⟨p,a⟩:=h.ex
 exact ⟨p.1,p.2,a.unall⟩
theorem W2r (E:Nat) (hv:Value) (h:A4 w0 w (zeO B x E hv::B0 5 1 hv H.length (D7 H)::Z53 acc (Z5h E)::Rs)):A4 w0 w (zsT B x acc H::Rs):=
 A4.mk (R:=fun p:Nat×Value=>Z0e [zeO B x p.1 p.2,B0 5 1 p.2 H.length (D7 H),Z53 acc (Z5h p.1)]) (E,hv) (A4.all (L:=[zeO B x E hv,B0 5 1 hv H.length (D7 H),Z53 acc (Z5h E)]) h)
theorem Y6q {P:Program} {ops:Array Oper} {o:Oper} {a:Act} {K:Act→World→Prop} {Q:Exit→Act→World→Prop} {Ee:Prop} (hgd:o.guard=none) (s x:Operand) (t:TypeId)
  (ho:o.op= .call {callee:= .builtin .append,args:=#[s,x],argTypes:=#[t,t]})
  (e:TypeId) (i:TypeInfo) (z:Value) (size bytes:Nat) (ht:P.underlying t=some (.slice e)) (hi:P.info? e=some i) (hz:i.zero=some z)
  (hsize:i.size=size) (hby:i.bytes=bytes) (hzs:z.cells.size=size) (hsz:0 < size)
  (v:Value) (n:Nat) (xs:List Value) (hs:a.eval s=v) (hh:A4 w0 w (B0 e size v n xs::Rs))
  (y:Value) (m:Nat) (news:List Value) (hx:a.eval x=y) (hsrc:Rd w size y m news) (h1:∀u∈news,u.oneCell'=true) (N:Nat) (hN:N=n+m)
  (h63:N≤maxLen) (hbytes:N*bytes≤140737488355328)
  (h:∀ao cap w',A4 w0 w' (B0 e size (.slice ao N cap) N (xs++news)::Rs)→K (a.put o.dst (.slice ao N cap)) w'):
  if Region.wanted o (yielded ops a.tmps)=true then Oper.wp P o a w K Q else Ee:=by
 subst hN
 exact Z3f _ hgd s x t ho e i z size bytes ht hi hz hsize hby hzs hsz v n xs hs hh.own y m news hx hsrc h1 h63 hbytes fun ao cap w' h2 h3 h4=>h ao cap w' (hh.app h2 h3 h4)
theorem Z0i (h:A4 w0 w (zeO B x E hv::Rs)) (k:Nat) (u:Value) (hu:(ecz x E hv)[k]?=some u):w.cell? ⟨B,k,none⟩=some u:=h.obj.cell hu
theorem Y1a (h:A4 w0 w (zeO B x E hv::Rs)) (k:Nat):w.frozen? ⟨B,k,none⟩=false:=h.obj.frozen k
theorem W8x (h:A4 w0 w (zeO B x E hv::Rs)) (u:Value):A4 w0 (w.setCell ⟨B,2,none⟩ u) (zeO B x E u::Rs):=A4.setObj h 2 u
theorem V54 {x2:List Nat} (h:A4 w0 w (zeO B x E hv::Rs)) (n:Nat) (hn:n=K6 1 x2):A4 w0 (w.setCell ⟨B,1,none⟩ (.int .u32 (n:Int))) (zeO B x2 E hv::Rs):=by
 subst hn
 exact A4.setObj h 1 _
theorem Y71 {ST ST':A6} (D:List Nat) (h:A4 w0 w (ST::zeO B x E hv::B0 5 1 hv H.length (D7 H)::Rs)) (hD:H.length+D.length < 100000000)
  (hT:∀w' Q,A4 w0 w' (ST::Q)→Calls Tryz.prog 19 #[.pointer (some ⟨E,0,none⟩)] w' fun e w2=>∃d,e= .returned d∧A4 w0 w2 (B0 5 1 d D.length (D7 D)::ST'::Q)):
  Calls Tryz.prog 8 #[.pointer (some ⟨B,0,none⟩)] w fun e w'=>∃d,e= .returned d∧A4 w0 w' (B0 5 1 d (H++D).length (D7 (H++D))::zeO B x E (.slice none 0 0)::ST'::Rs):=by
 obtain ⟨i0,j,k,l,o⟩:=info_parts Z0u
 have y:1000000000≤maxLen:=by decide
 obtain ⟨ho,hc,rfl,_,_⟩:=h.third.own.form
 have z:=Z0i h.swap 0 _ rfl
 have q:=Z0i h.swap 2 _ rfl
 obtain ⟨m,t⟩:∃m,m=H.length:=⟨_,rfl⟩
 obtain ⟨n,p⟩:∃n,n=D.length:=⟨_,rfl⟩
 rw [T00]
 rw [←t] at h q hD⊢
 have g:=A5 (hT _ _ h.drew)
 have HN:=A5 p
 rw [←p] at hD g⊢
 clear h t hT p
 go_enter Tryz.func8,Tryz.ntmps8
 go_wp2
 go_region_law ((first
  | (refine Y6q (by rfl) (.tmp 9) (.tmp 15) 26 (by rfl) 5 i0 (.int .u8 0) 1 1 Tryz.underlying26 j k l o (by rfl) (by decide) (.slice ho m hc) m (D7 H) (by rfl) (by exact s.out) (.slice dO n dc) n (D7 D) (by rfl) (by exact b.out) (T3 _) (m+n) rfl (by omega) (by omega) ?_;intro ao a3 w3 f;have r:=A5 f;have f3:=Y1a f.fourth 2;have e3:=Z0i f.fourth 2 _ rfl;clear f)
  | (go_simp;go_at_call 19;with_reducible refine g.out.mono ?_;rintro e w2 ⟨d,rfl,a⟩;obtain ⟨dO,dc,rfl,_,_⟩:=a.own.form;have d0:=Z0i a.third 0 _ rfl;have d3:=Z0i a.third 2 _ rfl;have b:=A5 a.own.rd;have s:=A5 a.fourth;clear a)))
 all_goals
  have i:=(W8x r.out.fourth (.slice none 0 0))
  rw [←K4] at i
  have H4:=A5 i
  clear i r s b g d0 d3 z q
  go_wp2
  go_ret
  refine ⟨_,rfl, ?_⟩
  exact H4.out.swap.third.drop
theorem W4k (lev:Int) (hl:Y4l w0) (h:A4 w0 w Rs):
  Calls Tryz.prog 5 #[.int .i64 lev] w fun e w'=>∃B:Nat,e= .returned (.pointer (some ⟨B,0,none⟩))∧A4 w0 w' (zeT B [] (P8 I9 lev) [120,156]::Rs):=by
 have d:=A5 (show Calls Tryz.prog 17 #[.int .i64 lev] w fun e w'=>∃E:Nat,e= .returned (.pointer (some ⟨E,0,none⟩))∧A4 w0 w' (T9 (P8 I9 lev) (Z5h E)::Rs) from W9h lev hl h)
 clear h hl
 go_enter Tryz.func5,Tryz.ntmps5
 go_wp2_with fail
 with_reducible refine d.out.mono ?_
 rintro j a ⟨E,rfl,g⟩
 have f:=g.lit 5 1 [.int .u8 120,.int .u8 156] 2 (by decide) rfl
 have b:=f.newObj [.pointer (some ⟨E,0,none⟩),.int .u32 1,.slice (some ⟨a.heap.size,0,none⟩) 2 2] 48
 rw [show (a.alloc (.cells #[.int .u8 120,.int .u8 156] 5)).heap.size=a.heap.size+1 by simp] at b
 have i:=A5 b
 clear g f b d
 go_wp2
 go_ret
 exact ⟨_,rfl,W2t E (.slice (some ⟨a.heap.size,0,none⟩) 2 2) (by unfold zeO ecz;rw [show K6 1 []=1 by decide];exact i.out)⟩
theorem V4h {e:Nat} (h:A4 w0 w (T9 s (Z5h E)::S::Rs)) (hO:Z3x w0) (HI:S9 I9 x s T e) (he:e≤1000000) (v:Value) (n:Nat) (b:List Nat) (hv:Y9 w0 S 1 v n (D7 b)) (hb:∀c∈b,c < 256) (hx:x.length+b.length≤most):
  Calls Tryz.prog 28 #[.pointer (some ⟨E,0,none⟩),v] w fun e w'=>e= .returned (.int .i64 0)∧A4 w0 w' (T9 (R8 I9 (G3 C4) s b) (Z5h E)::S::Rs):=W0b h hO HI he v n b hv hb hx
theorem X8f {e:Nat} (b:List Nat) (v:Value) (h:A4 w0 w (zeO B x E hv::S::T9 s (Z5h E)::Rs)) (hO:Z3x w0) (HI:S9 I9 x s T e) (he:e≤1000000) (hr:Y9 w0 S 1 v b.length (D7 b)) (hb:∀c∈b,c < 256) (hx:x.length+b.length≤most):
  Calls Tryz.prog 18 #[.pointer (some ⟨B,0,none⟩),v] w fun en w'=>en= .returned (.int .i64 0)∧A4 w0 w' (zeO B (x++b) E hv::S::T9 (R8 I9 (G3 C4) s b) (Z5h E)::Rs):=by
 obtain ⟨j,k,rfl,_,_⟩:=(hr.rd h.drop).form
 have q:=Z0i h 0 _ rfl
 have d:=A5 (V4h h.third.mid hO HI he (.slice j b.length k) b.length b hr hb hx)
 have l:most=16777216:=rfl
 have f:=A5 (fun w' (h':A4 w0 w' (zeO B x E hv::S::T9 (R8 I9 (G3 C4) s b) (Z5h E)::Rs))=>X18 (K6 1 x) (.slice j b.length k) b w' (Y59 x) (hr.rd h'.drop) hb (by omega))
 have m:=A5 (Y0t 1 x b)
 clear h hO HI he hr hb hx
 generalize b.length=n at d f⊢
 go_enter Tryz.func18,Tryz.ntmps18
 go_wp2_with fail
 with_reducible refine d.out.mono ?_
 rintro en p ⟨rfl,i⟩
 have a:A4 w0 p (zeO B x E hv::S::T9 (R8 I9 (G3 C4) s b) (Z5h E)::Rs):=i.third.mid
 have g:=A5 (f.out _ a)
 have r:=Z0i a 1 _ rfl
 have t:=Y1a a 1
 have o:=A5 (V54 a (K6 (K6 1 x) b) m.out.symm)
 clear i a f d
 go_wp2_with fail
 with_reducible refine g.out.mono ?_
 rintro en y ⟨rfl,rfl⟩
 clear g
 go_wp2
 go_ret
 exact ⟨rfl,o.out⟩
theorem X47 {e:Nat} (b:List Nat) (v:Value) (h:A4 w0 w (zeT B x s H::S::Rs)) (hO:Z3x w0) (HI:S9 I9 x s T e) (he:e≤1000000) (hr:Y9 w0 S 1 v b.length (D7 b)) (hb:∀c∈b,c < 256) (hx:x.length+b.length≤most):
  Calls Tryz.prog 7 #[.pointer (some ⟨B,0,none⟩),v] w fun en w'=>en= .returned (.int .i64 0)∧A4 w0 w' (zeT B (x++b) (R8 I9 (G3 C4) s b) H::S::Rs):=by
 obtain ⟨E,i,f⟩:=W25 h
 obtain ⟨k,l,rfl,_,_⟩:=(hr.rd h.drop).form
 have a:=A5 (X8f b _ f.fourth.swap.mid2.mid hO HI he hr hb hx)
 clear h f hO HI he hr hb hx
 go_enter Tryz.func7,Tryz.ntmps7
 go_wp2_with fail
 with_reducible refine a.out.mono ?_
 rintro en j ⟨rfl,d⟩
 have g:=A5 d
 clear d a
 go_wp2
 go_ret
 exact ⟨rfl,W2t E i g.out.mid2'.mid⟩
theorem X77 (h:A4 w0 w (zsT B x acc H::Rs)) (hl:H.length+(D9 acc).length < 100000000):
  Calls Tryz.prog 8 #[.pointer (some ⟨B,0,none⟩)] w fun e w'=>∃d,e= .returned d∧A4 w0 w' (B0 5 1 d (H++D9 acc).length (D7 (H++D9 acc))::zsT B x (acc.drop (8*(D9 acc).length)) []::Rs):=by
 obtain ⟨E,i,f⟩:=V4b h
 refine (Y71 (D9 acc) f.third hl fun w' Q hh=>(show Calls Tryz.prog 19 #[.pointer (some ⟨E,0,none⟩)] w' fun e a=>∃d,e= .returned d∧A4 w0 a (B0 5 1 d (D9 acc).length (D7 (D9 acc))::Z53 (acc.drop (8*(D9 acc).length)) (Z5h E)::Q) from Y61 hh)).mono ?_
 rintro g a ⟨d,rfl,b⟩
 exact ⟨d,rfl,(W2r E (.slice none 0 0) (b.swap.mid.nil 5 1).swap).swap⟩
end
section
variable {w0 w:World} {Rs:List A6} {S:A6} {B E:Nat} {x H acc T b:List Nat} {s:Q0 V5} {hv v:Value}
theorem X5p {e:Nat} (h:A4 w0 w (zeT B x s H::Rs)) (hO:Z3x w0) (HI:S9 I9 x s T e) (he:e≤100000) (hx:x.length≤most) (hl:H.length+(D9 (L3 I9 (G3 C4) s)).length < 90000000):
  Calls Tryz.prog 9 #[.pointer (some ⟨B,0,none⟩)] w fun en w'=>en= .returned (.int .i64 0)∧
   A4 w0 w' (zsT B x ((L3 I9 (G3 C4) s).drop (8*(D9 (L3 I9 (G3 C4) s)).length)) (H++D9 (L3 I9 (G3 C4) s)++adB x)::Rs):=by
 obtain ⟨E,hv,p⟩:=W25 h
 have c0:=Z0i p 0 _ rfl
 have l:=A5 (show Calls Tryz.prog 20 #[.pointer (some ⟨E,0,none⟩)] w fun e w'=>e= .returned (.int .i64 0)∧A4 w0 w' (Z53 (L3 I9 (G3 C4) s) (Z5h E)::_) from W0p p.third hO HI hx he)
 clear h hO HI he hx p
 generalize L3 I9 (G3 C4) s=C at l hl⊢
 have r:Hid (∀k,A4 w0 k (Z53 C (Z5h E)::zeO B x E hv::B0 5 1 hv H.length (D7 H)::Rs)→_):=A5 fun k g=>Y71 (D9 C) g.drew (by omega) fun w' Q hh=>(show Calls Tryz.prog 19 #[.pointer (some ⟨E,0,none⟩)] w' fun e k=>∃d,e= .returned d∧A4 w0 k (B0 5 1 d (D9 C).length (D7 (D9 C))::Z53 (C.drop (8*(D9 C).length)) (Z5h E)::Q) from Y61 hh)
 have hQ:=Y59 x
 have a:adB x=beB (K6 1 x):=rfl
 rw [a]
 obtain ⟨n,q⟩:∃n,n=(H++D9 C).length:=⟨_,rfl⟩
 have m:n < 100000000:=by rw [q,T00];omega
 have t:Hid (∀d o Q,A4 w0 o (B0 5 1 d n (D7 (H++D9 C))::Q)→_):=A5 fun d o Q b=>X72 d n (K6 1 x) (H++D9 C) m b
 have j:=A5 q
 clear a hl hQ
 go_enter Tryz.func9,Tryz.ntmps9
 go_wp2_with fail
 with_reducible refine l.out.mono ?_
 rintro en k ⟨rfl,g⟩
 have f:=A5 (r.out _ g)
 rw [←j.out] at f
 have c1:=Z0i g.swap 1 _ rfl
 have c2:=Z0i g.swap 2 _ rfl
 have f2:=Y1a g.swap 2
 clear g r l q
 go_wp2
 go_region_law ((first
  | (go_simp;go_at_call 8;with_reducible refine f.out.mono ?_;rintro e o ⟨d,rfl,b⟩;obtain ⟨dO,dc,rfl,_,_⟩:=b.own.form;have d1:=Z0i b.swap 1 _ rfl;have d2:=Z0i b.swap 2 _ rfl;have g2:=Y1a b.swap 2;have z:=A5 b;clear b)
  | (go_simp;go_at_call 21;refine (t.out _ _ _ z.out).mono ?_;rintro e w4 ⟨y,rfl,i⟩;obtain ⟨yO,yc,rfl,_,_⟩:=i.own.form;have k1:=Z0i i.swap 1 _ rfl;have k2:=Z0i i.swap 2 _ rfl;have l2:=Y1a i.swap 2;have H4:=A5 i;clear i)))
 all_goals
  have H5:=A5 (W8x H4.out.swap (.slice yO (n+4) yc))
  clear H4 z f t c1 c2 f2
  go_wp2
  go_ret
  refine ⟨rfl,W2r E (.slice yO (n+4) yc) ?_⟩
  rw [T00,←j.out]
  exact H5.out
theorem Y7k (C:List Nat):D9 (C.drop (8*(D9 C).length))=[]:=by
 refine List.eq_nil_of_length_eq_zero ?_
 rw [Q5,Q5,T0c]
 omega
theorem Z2p (lev:Int) (b:List Nat) (hb:∀c∈b,c < 256) (hl:b.length≤most):V4o (Z1p I9 (G3 C4) b lev) b∧(Z1p I9 (G3 C4) b lev).length≤b.length+6*(b.length / 16384+1)+6:=by
 obtain ⟨_,a,d,f⟩:=W7j Z3z Y2d b lev hb hl
 refine ⟨V40 a fun N hN=> ?_,d⟩
 obtain ⟨g,i,j,p,k,_⟩:=f N hN
 exact ⟨g,i,j,p,k⟩
def Z3j (lev:Int) (b:List Nat):List Nat:=X4u (Z1p I9 (G3 C4) b lev) b
theorem X37 (S x:List Nat):(X4u S x).length=S.length+6:=by
 have a:(adB x).length=4:=Z9c (K6 1 x)
 have b:(S++adB x).length=S.length+(adB x).length:=T00
 unfold X4u
 generalize adB x=A at a b⊢
 show (S++A).length+1+1=_
 omega
theorem Z57 (lev:Int) (b:List Nat):(Z3j lev b).length=(Z1p I9 (G3 C4) b lev).length+6:=X37 _ b
theorem X2f (o:List Nat):∀c∈adB o,c < 256:=W2s _
theorem W4t {S x t:List Nat} (hS:V4o S x) (ht:∀c∈t,c < 256):∀c∈120::156::(S++t),c < 256:=fun c hc=>by
 rcases List.mem_cons.1 hc with rfl | hc
 ·decide
 rcases List.mem_cons.1 hc with rfl | hc
 ·decide
 exact (List.mem_append.1 hc).elim (hS.byt c) (ht c)
theorem X7r (lev:Int) (b:List Nat) (hb:∀c∈b,c < 256) (hl:b.length≤most):∀c∈Z3j lev b,c < 256:=W4t (Z2p lev b hb hl).1 (X2f b)
theorem X3q {e:Nat} (h:A4 w0 w (zeT B x s H::Rs)) (hO:Z3x w0) (HI:S9 I9 x s T e) (he:e≤1000000) (hv:Rd w0 1 v b.length (D7 b)) (hb:∀c∈b,c < 256) (hx:x.length+b.length≤most):
  Calls Tryz.prog 7 #[.pointer (some ⟨B,0,none⟩),v] w fun en w'=>en= .returned (.int .i64 0)∧A4 w0 w' (zeT B (x++b) (R8 I9 (G3 C4) s b) H::Rs):=
 (X47 b v h.addNon.swap hO HI he (Y9.old hv (by decide)) hb hx).mono fun _ _ ⟨h1,h2⟩=>⟨h1,h2.swap.drop⟩
theorem W69 {lev:Int} (h:A4 w0 w (zeT B [] (P8 I9 lev) [120,156]::Rs)) (hO:Z3x w0) (hv:Rd w0 1 v b.length (D7 b)) (hb:∀c∈b,c < 256) (hx:b.length≤most):
  Calls Tryz.prog 7 #[.pointer (some ⟨B,0,none⟩),v] w fun en w'=>en= .returned (.int .i64 0)∧A4 w0 w' (zeT B b (R8 I9 (G3 C4) (P8 I9 lev) b) [120,156]::Rs):=
 by
 have h1:=X3q (b:=b) (v:=v) h hO (Y2f lev Z3z) (by decide) hv hb (by rw [T02];omega)
 rw [T03] at h1
 exact h1
noncomputable def zfT (B:Nat) (lev:Int) (b:List Nat):A6:=zsT B b ((L3 I9 (G3 C4) (R8 I9 (G3 C4) (P8 I9 lev) b)).drop (8*(D9 (L3 I9 (G3 C4) (R8 I9 (G3 C4) (P8 I9 lev) b))).length)) (Z3j lev b)
theorem W43 {lev:Int} (h:A4 w0 w (zeT B b (R8 I9 (G3 C4) (P8 I9 lev) b) [120,156]::Rs)) (hO:Z3x w0) (hb:∀c∈b,c < 256) (hx:b.length≤most):
  Calls Tryz.prog 9 #[.pointer (some ⟨B,0,none⟩)] w fun en w'=>en= .returned (.int .i64 0)∧A4 w0 w' (zfT B lev b::Rs):=by
 have a:=X16 (F:=G3 C4) Z3z Y2d (Y2f lev Z3z) b hb (by simpa using hx)
 rw [T03] at a
 have f:=(Z2p lev b hb hx).2
 have d:most=16777216:=rfl
 refine X5p h hO a (by decide) hx ?_
 show 2+(Z1p I9 (G3 C4) b lev).length < 90000000
 omega
theorem V12 {lev:Int} (h:A4 w0 w (zfT B lev b::Rs)) (hb:∀c∈b,c < 256) (hx:b.length≤most):
  Calls Tryz.prog 8 #[.pointer (some ⟨B,0,none⟩)] w fun en w'=>∃d,en= .returned d∧A4 w0 w' (B0 5 1 d (Z3j lev b).length (D7 (Z3j lev b))::Rs):=by
 have g:=(Z2p lev b hb hx).2
 have i:=Z57 lev b
 have f:most=16777216:=rfl
 refine (X77 h (by rw [Y7k,T02];omega)).mono ?_
 rintro en w' ⟨d,rfl,a⟩
 rw [Y7k,List.append_nil] at a
 exact ⟨d,rfl,a.swap.drop⟩
end
end Go.Proofs.YtbkbkmgogbgofaaGreatDoor
