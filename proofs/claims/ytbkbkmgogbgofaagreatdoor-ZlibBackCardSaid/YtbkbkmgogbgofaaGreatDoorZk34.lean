/- The claim's texts, put together and shortened by a program (names, spaces). -/
import Derived.Test.YtbkbkmgogbgofaaGreatDoorRows
import Derived.Test.YtbkbkmgogbgofaaGreatDoorZk20
import Derived.ProofKit
import Derived.LaidMore
import Derived.OpenShut
import Derived.Deep.Strs
import Derived.Stop.Joined
import Derived.Test.YtbkbkmgogbgofaaGreatDoorZk23
import Derived.Test.YtbkbkmgogbgofaaGreatDoorZk14
open List renaming getElem?_eq_getElem→T00,getElem?_map→T01,getElem?_take→T02,getElem?_drop→T03,append_nil→T04,mem_append_right→T06,mem_append_left→T07
open Array renaming getElem?_toList→T05
namespace Go.Proofs.YtbkbkmgogbgofaaGreatDoor
set_option maxRecDepth 100000
set_option maxHeartbeats 6400000
open Go.ChangeShapes Go.WideShapes Go.ChangeAt Go.RowKit
def V3p:List (String×DataW Unit):=[("concertina/match.levels",Rows.laid_concertina_match_levels)]
theorem V7k:Tryz.prog.globalNamed "concertina/match.levels"=some 0:=by kernel_rfl
theorem V7w:(Tryz.prog.globals[0]?).map (·.type)=some 129:=by kernel_rfl
theorem Y1q:Tryz.prog.cellsOf 64=3:=by kernel_rfl
theorem X9f:Tryz.prog.cellsOf 3=1:=by kernel_rfl
section
variable {H:Type} {enc:TypeId×Value→H} {W:World} {base:Nat} {sp:Nat→Bool} {held:Bool}
theorem X2j {m:Nat} {cs:List Value} {y:DataW H×List MemPlace} {a:Int} (h:DataW.trod enc Tryz.prog W base sp held m 3 cs=some y) (hy:y.1= .lit (.int .i64 a)):cs=[.int .i64 a]:=by
 obtain ⟨n,b,d,_⟩:=DataW.trod_int Tryz.underlying3 h
 rw [d] at hy
 have:n=a:=by simpa using hy
 rw [←this];exact b
theorem W09 {m:Nat} {cs:List Value} {y:DataW H×List MemPlace} {a b c:Int} (h:DataW.trod enc Tryz.prog W base sp held m 64 cs=some y) (hy:y.1= .agg [.lit (.int .i64 a),.lit (.int .i64 b),.lit (.int .i64 c)]):cs=[.int .i64 a,.int .i64 b,.int .i64 c]:=by
 obtain ⟨o,p,q,n,rfl,i,j,k,l⟩:=Deep.trod_struct3 Tryz.underlying64 h
 simp only [DataW.agg.injEq,List.cons.injEq,and_true] at hy
 rw [Y1q] at i
 have d:=X2j j hy.1
 have f:=X2j k hy.2.1
 have g:=X2j l hy.2.2
 simp only [X9f] at d f g
 match cs,i with
 | [c0,c1,c2],_=>
  simp at d f g
  rw [d,f,g]
theorem X3j (h:laidMetH Tryz.prog V3p W):Y4v W:=by
 rw [MakeChecks.laidMetH_plain _ _ _ (by kernel_rfl)] at h
 obtain ⟨ps,⟨g0,t0,cs,f0,p0,q0,o,x,y,z,_,_⟩,_,_⟩:=h
 obtain rfl:=Option.some.inj (V7k.symm.trans o)
 obtain rfl:=Option.some.inj (V7w.symm.trans x)
 obtain ⟨xs,m,_,hx,a2,hn,a1⟩:=DataW.trod_array Tryz.underlying129 z
 have q:xs.map (·.1)=Y3l.map fun t=>DataW.agg [.lit (.int .i64 (t.1:Int)),.lit (.int .i64 (t.2.1:Int)),.lit (.int .i64 (t.2.2:Int))]:=by
  have e:=congrArg Prod.fst hx
  exact (DataW.agg.inj e).symm
 have r:∀k,k < 10→(cs.toList.drop (k*3)).take 3=[.int .i64 (((Y3l[k]?.getD (0,0,0)).1:Nat):Int),.int .i64 (((Y3l[k]?.getD (0,0,0)).2.1:Nat):Int),.int .i64 (((Y3l[k]?.getD (0,0,0)).2.2:Nat):Int)]:=by
  intro k n
  have g:=a1 k n
  rw [Y1q] at g
  have f:xs[k]?=some (xs[k]'(by omega)):=T00 _
  rw [f] at g
  refine W09 g ?_
  have a:=congrArg (fun l=>l[k]?) q
  simp only [T01] at a
  rw [f] at a
  have s:k < Y3l.length:=n
  rw [T00 s] at a⊢
  simpa using a
 intro i v b
 have hi:i < 30:=(List.getElem?_eq_some_iff.1 b).1
 have d:=World.var?_cell o y i
 rw [d]
 obtain ⟨k,j,p,n,hj⟩:∃k j,i=k*3+j∧k < 10∧j < 3:=⟨i / 3,i%3,by omega,by omega,by omega⟩
 have g:=r k n
 have f:=X19 k n
 have a:=congrArg (fun l=>l[j]?) g
 simp only [T02,if_pos hj,T03] at a
 rw [←p,T05] at a
 rw [a]
 rw [p] at b
 match j,hj with
 | 0,_=>rw [Nat.add_zero,f.1] at b;exact b
 | 1,_=>rw [f.2.1] at b;exact b
 | 2,_=>rw [f.2.2] at b;exact b
end
end Go.Proofs.YtbkbkmgogbgofaaGreatDoor
namespace Go.Proofs.YtbkbkmgogbgofaaGreatDoor
set_option maxRecDepth 100000
set_option maxHeartbeats 6400000
open Go.ChangeShapes Go.WideShapes Go.ChangeAt Go.RowKit
def V3u:List (String×DataW Unit):=[("concertina/block.order",Rows.laid_concertina_block_order)]
theorem V7q:Tryz.prog.globalNamed "concertina/block.order"=some 2:=by kernel_rfl
theorem V7l:(Tryz.prog.globals[2]?).map (·.type)=some 203:=by kernel_rfl
theorem X7s:Tryz.prog.cellsOf 3=1:=by kernel_rfl
section
variable {H:Type} {enc:TypeId×Value→H} {W:World} {base:Nat} {sp:Nat→Bool} {held:Bool}
theorem V4v {m:Nat} {cs:List Value} {y:DataW H×List MemPlace} {a:Int} (h:DataW.trod enc Tryz.prog W base sp held m 3 cs=some y) (hy:y.1= .lit (.int .i64 a)):cs=[.int .i64 a]:=by
 obtain ⟨n,b,d,_⟩:=DataW.trod_int Tryz.underlying3 h
 rw [d] at hy
 have:n=a:=by simpa using hy
 rw [←this];exact b
theorem X60 (h:laidMetH Tryz.prog V3u W):Z4p W:=by
 rw [MakeChecks.laidMetH_plain _ _ _ (by kernel_rfl)] at h
 obtain ⟨ps,⟨g0,t0,cs,f0,p0,q0,b,n,p,q,_,_⟩,_,_⟩:=h
 obtain rfl:=Option.some.inj (V7q.symm.trans b)
 obtain rfl:=Option.some.inj (V7l.symm.trans n)
 obtain ⟨r,m,_,hx,z,hn,s⟩:=DataW.trod_array Tryz.underlying203 q
 have f:r.map (·.1)=M5.map fun (t:Nat)=>DataW.lit (.int .i64 (t:Int)):=by
  have e:=congrArg Prod.fst hx
  exact (DataW.agg.inj e).symm
 intro i v k
 have x:i < 19:=(List.getElem?_eq_some_iff.1 k).1
 have a:=World.var?_cell b p i
 rw [a]
 have g:=s i x
 rw [X7s] at g
 have y:r[i]?=some (r[i]'(by omega)):=T00 _
 rw [y] at g
 obtain ⟨o,ho⟩:∃o,M5[i]?=some o:=⟨M5[i]'x,T00 _⟩
 have j:=congrArg (fun l=>l[i]?) f
 simp only [T01] at j
 rw [y,ho] at j
 have h4:=V4v g (by simpa using j)
 have d:=congrArg (fun l=>l[0]?) h4
 simp only [T02,T03] at d
 rw [Nat.mul_one] at d
 simp at d
 have h6:v= .int .i64 (o:Int):=by
  simp [D5,ho] at k
  exact k.symm
 rw [h6,d]
end
end Go.Proofs.YtbkbkmgogbgofaaGreatDoor
namespace Go.Proofs.YtbkbkmgogbgofaaGreatDoor
set_option maxRecDepth 100000
set_option maxHeartbeats 6400000
open Go.ChangeShapes Go.WideShapes Go.ChangeAt Go.RowKit
theorem Z96 {P:Program} {x:String×DataW Unit} {r:List (String×DataW Unit)} {W:World} (h:laidMet P (x::r) W):laidMet P [x] W∧laidMet P r W:=by
 obtain ⟨n,d⟩:=x
 obtain ⟨y,⟨g,t,j,a,p,q,k,l,m,o,s,rfl⟩,f,i⟩:=h
 refine ⟨⟨_,⟨g,t,j,a,p,[],k,l,m,o,rfl,rfl⟩, ?_,fun b off hm=>i b off ?_⟩,q,s,(List.nodup_append.1 f).2.1,fun b off hm=>i b off (T06 _ hm)⟩
 ·rw [T04];exact (List.nodup_append.1 f).1
 rw [T04] at hm;exact T07 _ hm
end Go.Proofs.YtbkbkmgogbgofaaGreatDoor
namespace Go.Proofs.YtbkbkmgogbgofaaGreatDoor
set_option maxRecDepth 100000
set_option maxHeartbeats 6400000
open Go.ChangeShapes Go.WideShapes Go.ChangeAt Go.RowKit
def V43:List (String×DataW Unit):=[("concertina/inflate.order",Rows.laid_concertina_inflate_order),("concertina/inflate.runs",Rows.laid_concertina_inflate_runs)]
theorem V7n:Tryz.prog.globalNamed "concertina/inflate.order"=some 1:=by kernel_rfl
theorem V7u:(Tryz.prog.globals[1]?).map (·.type)=some 203:=by kernel_rfl
theorem V7r:Tryz.prog.globalNamed "concertina/inflate.runs"=some 3:=by kernel_rfl
theorem V7t:(Tryz.prog.globals[3]?).map (·.type)=some 244:=by kernel_rfl
theorem X09:Tryz.prog.cellsOf 243=2:=by kernel_rfl
theorem Y73:Tryz.prog.cellsOf 3=1:=by kernel_rfl
theorem Y75 {P:Program} {x:String×DataW Unit} {r:List (String×DataW Unit)} {W:World} (h:laidMet P (x::r) W):laidMet P [x] W∧laidMet P r W:=by
 obtain ⟨n,d⟩:=x
 obtain ⟨y,⟨g,t,j,a,p,q,k,l,m,o,s,rfl⟩,f,i⟩:=h
 refine ⟨⟨_,⟨g,t,j,a,p,[],k,l,m,o,rfl,rfl⟩, ?_,fun b off hm=>i b off ?_⟩,q,s,(List.nodup_append.1 f).2.1,fun b off hm=>i b off (T06 _ hm)⟩
 ·rw [T04];exact (List.nodup_append.1 f).1
 rw [T04] at hm;exact T07 _ hm
section
variable {H:Type} {enc:TypeId×Value→H} {W:World} {base:Nat} {sp:Nat→Bool} {held:Bool}
theorem X28 {m:Nat} {cs:List Value} {y:DataW H×List MemPlace} {a:Int} (h:DataW.trod enc Tryz.prog W base sp held m 3 cs=some y) (hy:y.1= .lit (.int .i64 a)):cs=[.int .i64 a]:=by
 obtain ⟨n,b,d,_⟩:=DataW.trod_int Tryz.underlying3 h
 rw [d] at hy
 have:n=a:=by simpa using hy
 rw [←this];exact b
theorem V3k {m:Nat} {cs:List Value} {y:DataW H×List MemPlace} {a b:Int} (h:DataW.trod enc Tryz.prog W base sp held m 243 cs=some y) (hy:y.1= .agg [.lit (.int .i64 a),.lit (.int .i64 b)]):cs=[.int .i64 a,.int .i64 b]:=by
 obtain ⟨k,l,n,rfl,g,i,j⟩:=trod_struct2 Tryz.underlying243 h
 simp only [DataW.agg.injEq,List.cons.injEq,and_true] at hy
 rw [X09] at g
 have d:=X28 i hy.1
 have f:=X28 j hy.2
 simp only [Y73] at d f
 match cs,g with
 | [c0,c1],_=>
  simp at d f
  rw [d,f]
theorem X7a (h:laidMet Tryz.prog [("concertina/inflate.order",Rows.laid_concertina_inflate_order)] W) (i:Nat) (v:Value) (hv:(D5 .i64 M5)[i]?=some v):W.cell? ⟨1,i,none⟩=some v:=by
 obtain ⟨ps,⟨g0,t0,cs,f0,p0,q0,b,k,n,p,_,_⟩,_,_⟩:=h
 obtain rfl:=Option.some.inj (V7n.symm.trans b)
 obtain rfl:=Option.some.inj (V7u.symm.trans k)
 obtain ⟨q,m,_,hx,y,hn,r⟩:=DataW.trod_array Tryz.underlying203 p
 have f:q.map (·.1)=M5.map fun (t:Nat)=>DataW.lit (.int .i64 (t:Int)):=by
  have e:=congrArg Prod.fst hx
  exact (DataW.agg.inj e).symm
 have s:i < 19:=(List.getElem?_eq_some_iff.1 hv).1
 have a:=World.var?_cell b n i
 rw [a]
 have g:=r i s
 rw [Y73] at g
 have x:q[i]?=some (q[i]'(by omega)):=T00 _
 rw [x] at g
 obtain ⟨o,z⟩:∃o,M5[i]?=some o:=⟨M5[i]'s,T00 _⟩
 have j:=congrArg (fun l=>l[i]?) f
 simp only [T01] at j
 rw [x,z] at j
 have h4:=X28 g (by simpa using j)
 have d:=congrArg (fun l=>l[0]?) h4
 simp only [T02,T03] at d
 rw [Nat.mul_one] at d
 simp at d
 have h6:v= .int .i64 (o:Int):=by
  simp [D5,z] at hv
  exact hv.symm
 rw [h6,d]
def Y8x:List (Nat×Nat):=[(2,3),(3,3),(7,11)]
theorem X84:∀k,k < 3→(D5 .i64 X4p)[k*2]?=some (.int .i64 (((Y8x[k]?.getD (0,0)).1:Nat):Int))∧(D5 .i64 X4p)[k*2+1]?=some (.int .i64 (((Y8x[k]?.getD (0,0)).2:Nat):Int)):=by
 intro k a
 match k,a with
 | 0,_ | 1,_ | 2,_=>exact ⟨rfl,rfl⟩
 | k+3,h=>omega
theorem X6w (h:laidMet Tryz.prog [("concertina/inflate.runs",Rows.laid_concertina_inflate_runs)] W) (i:Nat) (v:Value) (hv:(D5 .i64 X4p)[i]?=some v):W.cell? ⟨3,i,none⟩=some v:=by
 obtain ⟨ps,⟨g0,t0,cs,f0,p0,q0,n,s,x,y,_,_⟩,_,_⟩:=h
 obtain rfl:=Option.some.inj (V7r.symm.trans n)
 obtain rfl:=Option.some.inj (V7t.symm.trans s)
 obtain ⟨z,m,_,hx,a1,hn,a0⟩:=DataW.trod_array Tryz.underlying244 y
 have p:z.map (·.1)=Y8x.map fun t=>DataW.agg [.lit (.int .i64 (t.1:Int)),.lit (.int .i64 (t.2:Int))]:=by
  have e:=congrArg Prod.fst hx
  exact (DataW.agg.inj e).symm
 have q:∀k,k < 3→(cs.toList.drop (k*2)).take 2=[.int .i64 (((Y8x[k]?.getD (0,0)).1:Nat):Int),.int .i64 (((Y8x[k]?.getD (0,0)).2:Nat):Int)]:=by
  intro k g
  have d:=a0 k g
  rw [X09] at d
  have f:z[k]?=some (z[k]'(by omega)):=T00 _
  rw [f] at d
  refine V3k d ?_
  have a:=congrArg (fun l=>l[k]?) p
  simp only [T01] at a
  rw [f] at a
  have r:k < Y8x.length:=g
  rw [T00 r] at a⊢
  simpa using a
 have hi:i < 6:=(List.getElem?_eq_some_iff.1 hv).1
 have b:=World.var?_cell n x i
 rw [b]
 obtain ⟨k,j,o,g,hj⟩:∃k j,i=k*2+j∧k < 3∧j < 2:=⟨i / 2,i%2,by omega,by omega,by omega⟩
 have d:=q k g
 have f:=X84 k g
 have a:=congrArg (fun l=>l[j]?) d
 simp only [T02,if_pos hj,T03] at a
 rw [←o,T05] at a
 rw [a]
 rw [o] at hv
 match j,hj with
 | 0,_=>rw [Nat.add_zero,f.1] at hv;exact hv
 | 1,_=>rw [f.2] at hv;exact hv
theorem X5h (h:laidMetH Tryz.prog V43 W):Y9 W:=by
 rw [MakeChecks.laidMetH_plain _ _ _ (by kernel_rfl)] at h
 obtain ⟨a,b⟩:=Y75 h
 exact ⟨X7a a,X6w b⟩
end
end Go.Proofs.YtbkbkmgogbgofaaGreatDoor
namespace Go.Proofs.YtbkbkmgogbgofaaGreatDoor
set_option maxRecDepth 100000
set_option maxHeartbeats 6400000
open Go.ChangeShapes Go.WideShapes Go.ChangeAt Go.RowKit
def Y6z:List (String×DataW Unit):=[("concertina/match.levels",Rows.laid_concertina_match_levels),("concertina/block.order",Rows.laid_concertina_block_order),("concertina/inflate.order",Rows.laid_concertina_inflate_order),("concertina/inflate.runs",Rows.laid_concertina_inflate_runs)]
theorem V65 (os:Os) (args:Array Value):laidMetH Tryz.prog Y6z ((World.doorLaid Tryz.prog 400 os).forCall (fun _ _=>0) ⟨#[],args,[]⟩).memory:=
 laidMetH_of_parts3 (fuel:=8) (laidMet_of_run' 8 (by kernel_rfl) (by kernel_rfl)) (by kernel_rfl) (by kernel_rfl)
theorem X9a {W:World} (h:laidMetH Tryz.prog Y6z W):Y4v W∧Z4p W∧Y9 W:=by
 rw [MakeChecks.laidMetH_plain _ _ _ (by kernel_rfl)] at h
 obtain ⟨a,b⟩:=Z96 h
 obtain ⟨d,f⟩:=Z96 b
 refine ⟨X3j ?_,X60 ?_,X5h ?_⟩
 ·rw [MakeChecks.laidMetH_plain _ _ _ (by kernel_rfl)];exact a
 ·rw [MakeChecks.laidMetH_plain _ _ _ (by kernel_rfl)];exact d
 rw [MakeChecks.laidMetH_plain _ _ _ (by kernel_rfl)];exact f
end Go.Proofs.YtbkbkmgogbgofaaGreatDoor
