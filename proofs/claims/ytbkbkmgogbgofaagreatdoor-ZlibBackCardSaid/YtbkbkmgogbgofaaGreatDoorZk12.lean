/- The claim's texts, put together and shortened by a program (names, spaces). -/
import Derived.Test.YtbkbkmgogbgofaaGreatDoorZk03
import Derived.Test.YtbkbkmgogbgofaaGreatDoorZk11
import Derived.Deep.MidRow
import Derived.Laws.BitsAllLaws
import Derived.Test.YtbkbkmgogbgofaaGreatDoorProg
import Derived.Test.YtbkbkmgogbgofaaGreatDoorZk04
import Derived.StillTailTactics
import Derived.Lib.AppendZerosOnto
open List renaming replicate→T00,getElem?_eq_getElem→T01,length_append→T02,perm_middle→T04,append_assoc→T05,append_nil→T06,length_drop→T07,length_take→T08,drop_drop→T0a,getElem?_take→T0c,take_of_length_le→T0e,length_cons→T0g,perm_cons_erase→T0h,ext_getElem?→T0i,getElem?_eq_none→T0j,drop_replicate→T0k
open Nat renaming zero_add→T09,and_two_pow_sub_one_eq_mod→T0b,mul_one→T0d,lt_of_le_of_lt→T0f
open Int renaming natCast_nonneg→T03
namespace Go.Proofs.YtbkbkmgogbgofaaGreatDoor
set_option maxRecDepth 100000
set_option maxHeartbeats 6400000
open Go.RowKit
theorem Z2y {P:Program} {w:World} {fn:Func} {p:Tmp} {t:TypeId} (hf:fn.results=#[.cell p t]) {R:Ending→World→Prop} {a:Act}
  (d:TypeDesc) (n:Nat) (ht:P.underlying t=some d) (hd:Z5y d=true) (hi:(P.info? t).map (·.size)=some n)
  (B:Nat) (cs:List Value) (T:TypeId) (hp:a.tmps.getD p undef= .pointer (some ⟨B,0,none⟩)) (hl:cs.length=n) (hB:X6 w B cs T)
  (hdf:a.defers=[]) (h:R (.returned (.agg cs.toArray)) w):bodyPost P fn R .ret a w:=
 bodyPost_ret (v:= .agg cs.toArray) (results_cell_row hf a.tmps w B T cs.toArray (0,0) d hp hB ht (by cases d <;> simp_all [Z5y]) (by rw [hi];simp [hl])) hdf h
theorem Y3a {P:Program} {fn:Func} {p q:Tmp} {ty:TypeId} (h:fn.results=#[.cell p ty,.tmp q]) (tmps:Array Value) (w:World) (g:Nat) (t:TypeId) (cs:Array Value) (fr:Nat×Nat) (d:TypeDesc)
  (hp:tmps.getD p undef= .pointer (some ⟨g,0,none⟩)) (hg:w.heap[g]?=some (.cells cs t fr))
  (hu:P.underlying ty=some d) (hd:(match d with | .struct _ | .array _ _=>true | _=>false)=true) (hi:(P.info? ty).map (·.size)=some cs.size):
  (results fn tmps).run P w= .ok (.tuple #[.agg cs,tmps.getD q undef]) w:=by
 have a:tmps[p]?.getD undef= .pointer (some ⟨g,0,none⟩):=by simpa using hp
 simp [results,h,a,asAddr,run_loadVar_row w g t ty cs fr d hg hu hd hi]
theorem M9 {P:Program} {w:World} {fn:Func} {p q:Tmp} {t:TypeId} (hf:fn.results=#[.cell p t,.tmp q]) {R:Ending→World→Prop} {a:Act}
  (d:TypeDesc) (n:Nat) (ht:P.underlying t=some d) (hd:Z5y d=true) (hi:(P.info? t).map (·.size)=some n)
  (B:Nat) (cs:List Value) (T:TypeId) (u:Value) (hp:a.tmps.getD p undef= .pointer (some ⟨B,0,none⟩)) (hq:a.tmps.getD q undef=u) (hl:cs.length=n) (hB:X6 w B cs T)
  (hdf:a.defers=[]) (h:R (.returned (.tuple #[.agg cs.toArray,u])) w):bodyPost P fn R .ret a w:=
 bodyPost_ret (v:= .tuple #[.agg cs.toArray,u]) (by rw [←hq];exact Y3a hf a.tmps w B T cs.toArray (0,0) d hp hB ht (by cases d <;> simp_all [Z5y]) (by rw [hi];simp [hl])) hdf h
theorem Z2b (w:World) (a b:Nat):(w.drewN a).drewN b=w.drewN (a+b):=by
 simp only [World.drewN,Nat.add_assoc]
def Y3c (a b:Option Addr):Value:= .agg #[.pointer a,.pointer b]
def V5y (w w':World) (L1 L2:List Int) (e:Ending):Prop:=
 (D0 L1 15≠0∧e= .returned (.tuple #[Y3c none none,.int .i64 ((D0 L1 15:Nat):Int)])∧A4 w w' [])∨
 (D0 L1 15=0∧D0 L2 15≠0∧e= .returned (.tuple #[Y3c none none,.int .i64 ((D0 L2 15:Nat):Int)])∧A4 w w' [])∨
 (D0 L1 15=0∧D0 L2 15=0∧∃B1 B2,e= .returned (.tuple #[Y3c (some ⟨B1,0,none⟩) (some ⟨B2,0,none⟩),.int .i64 0])∧A4 w w' [J7 L2 B2,J7 L1 B1])
theorem Y1j (x y:Value) (n1 n2:Nat) (L1 L2:List Int) (w:World) (hx:Rd w 1 x n1 (D3 L1)) (hy:Rd w 1 y n2 (D3 L2)) (hn1:n1≤1000) (hn2:n2≤1000):
  Calls Tryz.prog 171 #[x,y] w fun e w'=>V5y w w' L1 L2 e:=by
 have H0:=(A4.start w).newObj [.pointer none,.pointer none] 96
 have j:E5 w (w.alloc (.cells #[.pointer none,.pointer none] 96)) (fun _=>False):=(E5.refl w _).alloc _
 have q:=A5 (Z3v x n1 L1 15 _ (hx.kept j (fun _ _ h=>h)) hn1)
 have HY:=A5 (hy.kept j (fun _ _ h=>h))
 have m:=A5 H0
 clear hx hy H0 j
 go_enter Tryz.func171,Tryz.ntmps171
 go_wp2_with fail
 generalize w.alloc (.cells #[.pointer none,.pointer none] 96)=w1 at q HY m⊢
 with_reducible refine q.out.mono ?_
 rintro e w2 (⟨f,rfl,l⟩ | ⟨f,B1,rfl,l⟩)
 ·have b:=A5 (A4.frame m.out l)
  obtain ⟨c,a⟩:∃c,c=D0 L1 15:=⟨_,rfl⟩
  have n:=A5 a
  rw [←a] at f⊢
  have a0:¬(c:Int)=0:=by omega
  have a1:((c:Int)==0)=false:=by simp;omega
  have r:=b.out.obj.cell (i:=0) rfl
  have s:=b.out.obj.cell (i:=1) rfl
  have t:=b.out.obj.frozen 0
  have z:=b.out.obj.frozen 1
  clear a l q m f
  go_wp2
  have g:=(b.out.setObj 0 (.pointer none)).setObj 1 (.pointer none)
  refine M9 rfl _ 2 Tryz.underlying96 rfl (by kernel_rfl) w.heap.size [.pointer none,.pointer none] 96 _ rfl rfl rfl g.obj rfl ?_
  refine .inl ⟨?_, ?_,g.drop⟩
  ·rw [←n.out];omega
  rw [←n.out];rfl
 have b:=A5 (A4.frame m.out l)
 have k:=A5 (Z3v y n2 L2 15 w2 (HY.out.kept l.mod (fun _ _ h=>h)) hn2)
 have r:=b.out.swap.obj.cell (i:=0) rfl
 have s:=b.out.swap.obj.cell (i:=1) rfl
 have t:=b.out.swap.obj.frozen 0
 have z:=b.out.swap.obj.frozen 1
 have o:=A5 f
 clear l q m f r s t z
 go_wp2_with fail
 with_reducible refine k.out.mono ?_
 rintro e w3 (⟨f,rfl,g⟩ | ⟨f,B2,rfl,g⟩)
 ·have d:=A5 (A4.frame b.out.swap g)
  obtain ⟨c,a⟩:∃c,c=D0 L2 15:=⟨_,rfl⟩
  have n:=A5 a
  rw [←a] at f⊢
  have a0:¬(c:Int)=0:=by omega
  have a1:((c:Int)==0)=false:=by simp;omega
  have r:=d.out.obj.cell (i:=0) rfl
  have s:=d.out.obj.cell (i:=1) rfl
  have t:=d.out.obj.frozen 0
  have z:=d.out.obj.frozen 1
  clear a g k b f
  go_wp2
  have p:=(d.out.setObj 0 (.pointer none)).setObj 1 (.pointer none)
  refine M9 rfl _ 2 Tryz.underlying96 rfl (by kernel_rfl) w.heap.size [.pointer none,.pointer none] 96 _ rfl rfl rfl p.obj rfl ?_
  refine .inr (.inl ⟨o.out, ?_, ?_,p.drop.drop⟩)
  ·rw [←n.out];omega
  rw [←n.out];rfl
 have d:=A5 (A4.frame b.out.swap g).swap
 have r:=d.out.obj.cell (i:=0) rfl
 have s:=d.out.obj.cell (i:=1) rfl
 have t:=d.out.obj.frozen 0
 have z:=d.out.obj.frozen 1
 have a2:=A5 f
 clear g k b f
 go_wp2
 have p:=(d.out.setObj 0 (.pointer (some ⟨B1,0,none⟩))).setObj 1 (.pointer (some ⟨B2,0,none⟩))
 refine M9 rfl _ 2 Tryz.underlying96 rfl (by kernel_rfl) w.heap.size [.pointer (some ⟨B1,0,none⟩),.pointer (some ⟨B2,0,none⟩)] 96 _ rfl rfl rfl p.obj rfl ?_
 exact .inr (.inr ⟨o.out,a2.out,B1,B2,rfl,p.drop⟩)
def Z27 (Ts:List (List Int×Nat)):A6:=Z0g (Ts.map fun t=>J7 t.1 t.2)
def P8 (p:C4) (c:DC) (v:Value) (bs l o got:List Nat) (ls:List Int) (Ts:List (List Int×Nat)) (Rs:List A6):List A6:=
 J9 (J0 p c) v bs l::B0 5 1 c.wv (L7 o).length (D9 (L7 o))::B0 5 1 c.lv got.length (D9 got)::B0 3 1 c.hv ls.length (D3 ls)::Z27 Ts::Rs
def Z05 (b:Nat):Option Addr:=some ⟨b,0,none⟩
def PhC (c:DC) (ls:List Int) (Ts:List (List Int×Nat)):Ph→Prop
 | .hd=>c.st=0
 | .sz b=>c.st=1∧c.last=b
 | .sto b n=>c.st=2∧c.last=b∧c.left=n
 | .cnt b=>c.st=3∧c.last=b
 | .thd b A B C=>c.st=4∧c.last=b∧c.hA=A∧c.hB=B∧c.hC=C∧ls=[]
 | .len b A B head l=>c.st=5∧c.last=b∧c.hA=A∧c.hB=B∧ls=l∧∃t,c.ht=Z05 t∧(head,t)∈Ts
 | .tok b lit dist=>c.st=6∧c.last=b∧∃t1 t2,c.cl=Z05 t1∧c.cd=Z05 t2∧(lit,t1)∈Ts∧(dist,t2)∈Ts
 | .cop b lit dist n d=>c.st=7∧c.last=b∧c.left=n∧c.dist=d∧∃t1 t2,c.cl=Z05 t1∧c.cd=Z05 t2∧(lit,t1)∈Ts∧(dist,t2)∈Ts
def FxC (c:DC) (Ts:List (List Int×Nat)):Prop:=(c.fl=none∧c.fd=none)∨∃t1 t2,c.fl=Z05 t1∧c.fd=Z05 t2∧(I5,t1)∈Ts∧(G7,t2)∈Ts
def Y5:Nat:=1000000000
structure Z0h (M:Nat) (c:DC) (ls:List Int) (Ts:List (List Int×Nat)) (ph:Ph) (l o got:List Nat):Prop where
 cell:PhC c ls Ts ph
 fx:FxC c Ts
 ok:MOk ph l o
 most:c.most+o.length=M
 big:M < Y5
 len:l.length < Y5
 got:got.length≤o.length
 room:0≤c.room
 top:c.room≤9223372036854775807
inductive Y4r (w0 w':World) (p:C4) (v:Value) (bs:List Nat) (M:Nat) (ph:Ph) (c:DC) (l o got:List Nat) (ls:List Int) (Ts:List (List Int×Nat)) (Rs:List A6):Nat→Prop
 | go {c':DC} {l' o' t:List Nat} {ls':List Int} {Ts':List (List Int×Nat)} {ph' p1:Ph} {l1 o1:List Nat} (H:A4 w0 w' (P8 p c' v bs l' o' (got++t) ls' Ts' Rs)) (hi:Z0h M c' ls' Ts' ph' l' o' (got++t))
   (hs:F9 M l o ph= .go p1 l1 o1) (hr:S8 M p1 l1 o1 ph' l' o') (ho:o'=o++t) (hroom:c'.room+t.length=c.room):Y4r w0 w' p v bs M ph c l o got ls Ts Rs 0
 | over {c':DC} {l':List Nat} (H:A4 w0 w' (P8 p c' v bs l' o got ls Ts Rs)) (hs:F9 M l o ph= .done l') (hroom:c'.room=c.room∧c'.most=c.most):Y4r w0 w' p v bs M ph c l o got ls Ts Rs 8
 | bad {c':DC} {l':List Nat} {ls':List Int} {Ts':List (List Int×Nat)} {e:Nat} (H:A4 w0 w' (P8 p c' v bs l' o got ls' Ts' Rs)) (hs:F9 M l o ph= .err e) (h5:e=5→c'=c∧ls'=ls∧Ts'=Ts) (hroom:c'.room=c.room∧c'.most=c.most):Y4r w0 w' p v bs M ph c l o got ls Ts Rs e
def Y5o (w0 w':World) (p:C4) (v:Value) (bs:List Nat) (M:Nat) (ph:Ph) (c:DC) (l o got:List Nat) (ls:List Int) (Ts:List (List Int×Nat)) (Rs:List A6) (e:Ending):Prop:=
 ∃er:Nat,e= .returned (.int .i64 (er:Int))∧Y4r w0 w' p v bs M ph c l o got ls Ts Rs er
theorem Z0h.next {M:Nat} {c c':DC} {ls ls':List Int} {Ts Ts':List (List Int×Nat)} {ph ph':Ph} {l l' o got:List Nat} (hi:Z0h M c ls Ts ph l o got) (hs:F9 M l o ph= .go ph' l' o) (hc:PhC c' ls' Ts' ph') (hf:FxC c' Ts') (hm:c'.most=c.most) (hr:c'.room=c.room):Z0h M c' ls' Ts' ph' l' o got:=by
 obtain ⟨a,_,b⟩:=hi.ok.step hs
 exact ⟨hc,hf,a,by rw [hm];exact hi.most,hi.big,T0f b hi.len,hi.got,by rw [hr];exact hi.room,by rw [hr];exact hi.top⟩
theorem Y4r.on {w0 w':World} {p:C4} {v:Value} {bs:List Nat} {M:Nat} {c c':DC} {ls ls':List Int} {Ts Ts':List (List Int×Nat)} {ph ph':Ph} {l l' o got:List Nat} {Rs:List A6} (hi:Z0h M c ls Ts ph l o got) (hs:F9 M l o ph= .go ph' l' o)
  (H:A4 w0 w' (P8 p c' v bs l' o got ls' Ts' Rs)) (hc:PhC c' ls' Ts' ph') (hf:FxC c' Ts') (hm:c'.most=c.most) (hr:c'.room=c.room):Y4r w0 w' p v bs M ph c l o got ls Ts Rs 0:=
 .go (t:=[]) (by rw [T06];exact H) (by rw [T06];exact hi.next hs hc hf hm hr) hs .refl (by rw [T06]) (by rw [hr];simp)
theorem Z3f {w0 w:World} {Rs:List A6} {R1 R2 R3:A6} {hv:Value} {n:Nat} {xs:List Value} (h:A4 w0 w (R1::R2::R3::B0 3 1 hv n xs::Rs)):A4 w0 w (R1::R2::R3::B0 3 1 (.slice none 0 0) ([]:List Int).length (D3 [])::Rs):=
 (h.fourth.drop.nil 3 1).perm (T04 (l₁:=[_,_,_])).symm
theorem X6r {w0 w:World} {Rs:List A6} {R1 R2 R3 R4 R5:A6} (h:A4 w0 w (R1::R2::R3::R4::R5::Rs)):A4 w0 w (R1::R5::R2::R3::R4::Rs):=h.perm (List.Perm.cons _ (T04 (l₁:=[_,_,_])))
theorem X11 {w0 w:World} {Rs:List A6} {R1 R2 R3 R4 R5:A6} (h:A4 w0 w (R1::R5::R2::R3::R4::Rs)):A4 w0 w (R1::R2::R3::R4::R5::Rs):=h.perm (List.Perm.cons _ (T04 (l₁:=[_,_,_])).symm)
theorem A4.at6 {w0 w:World} {Rs:List A6} {R1 R2 R3 R4 R5 R6:A6} (h:A4 w0 w (R1::R2::R3::R4::R5::R6::Rs)):A4 w0 w (R6::R1::R2::R3::R4::R5::Rs):=h.perm (T04 (l₁:=[_,_,_,_,_]))
theorem A4.to5 {w0 w:World} {Rs:List A6} {R1 R2 R3 R4 R5:A6} (h:A4 w0 w (R5::R1::R2::R3::R4::Rs)):A4 w0 w (R1::R2::R3::R4::R5::Rs):=h.perm (T04 (l₁:=[_,_,_,_])).symm
def X3v (cs:List Value) (o:Nat):List Value→List Value
 | []=>cs
 | u::r=>X3v (cs.set o u) (o+1) r
theorem X71 (A C:List Value):∀ (vs B:List Value) (i o:Nat),o=A.length+i→i+vs.length≤B.length→X3v (A++(B++C)) o vs=A++(X3v B i vs++C)
 | [],_,_,_,_,_=>rfl
 | u::r,B,i,o,ho,h=>by
  simp only [T0g] at h
  rw [X3v,X3v,List.set_append_right _ _ (by omega),show o-A.length=i by omega,List.set_append_left _ _ (by omega)]
  exact X71 A C r _ (i+1) (o+1) (by omega) (by rw [List.length_set];omega)
theorem A4.setObjs {w0:World} {B:Nat} {T:TypeId} {Rs:List A6}:∀ (vs:List Value) (cs:List Value) (o:Nat) (w:World),A4 w0 w (E8 B cs T::Rs)→A4 w0 (w.setCells B o vs) (E8 B (X3v cs o vs) T::Rs)
 | [],_,_,_,h=>h
 | u::r,_,o,_,h=>A4.setObjs r _ (o+1) _ (h.setObj o u)
section
variable {w0 w:World} {Rs:List A6} {p:C4} {c:DC} {v:Value} {bs l:List Nat}
theorem V6r (h:A4 w0 w (J9 (J0 p c) v bs l::Rs)) (k:Nat) (vs:List Value) (c':DC) (hc:c'.post=X3v c.post (k-3) vs) (hk:3≤k∧k+vs.length≤21):A4 w0 (w.setCells p.b (p.o+k) vs) (J9 (J0 p c') v bs l::Rs):=by
 obtain ⟨f,n,a,s,g,j⟩:=Z1e h
 have d:=A4.setObjs vs _ (p.o+k) w (show A4 w0 w (E8 p.b (p.pre++([_,_,_]++(c.post++p.post))) p.T::_) from j)
 have i:c.post.length=18:=rfl
 have e:p.pre++([Value.slice f n a,.int .u64 (s:Int),.int .i64 (g:Int)]++(c.post++p.post))=(p.pre++[Value.slice f n a,.int .u64 (s:Int),.int .i64 (g:Int)])++(c.post++p.post):=by rw [T05]
 rw [e,X71 _ _ vs c.post (k-3) (p.o+k) (by rw [T02,p.len];simp only [T0g,List.length_nil];omega) (by omega),←hc,T05] at d
 exact Z1r (q:=J0 p c') d
theorem V5h (h:A4 w0 w (J9 (J0 p c) v bs l::Rs)) (k n:Nat) (hk:3≤k∧k+n≤21):w.there p.b (p.o+k) n:=by
 intro j i
 have f:k+j-3 < c.post.length:=by have g:c.post.length=18:=rfl;omega
 have a:=F0 h (k+j) (c.post[k+j-3]) (T01 f) (by omega)
 have d:=Y4 h (k+j)
 rw [←Nat.add_assoc] at a d
 exact ⟨by rw [a];rfl,d⟩
theorem K4 {P:Program} {ops:Array Oper} {rest:List Oper} {op:Oper} {a:Act} {Q:Exit→Act→World→Prop} (hgd:op.guard=none) (ty:TypeId) (x y:Operand) (ho:op.op= .store ty x y)
  (h:A4 w0 w (J9 (J0 p c) v bs l::Rs)) (k:Nat) (cells:List Value) (hx:a.eval x= .pointer (some ⟨p.b,p.o+k,none⟩)) (hy:a.eval y= .agg cells.toArray)
  (hi:(P.info? ty).map (·.size)=some cells.length) (h1:cells.all (·.oneCell')=true) (c':DC) (hc:c'.post=X3v c.post (k-3) cells) (hk:3≤k∧k+cells.length≤21)
  (hK:∀w',A4 w0 w' (J9 (J0 p c') v bs l::Rs)→wpList P ops Q rest (a.put op.dst undef) w'):wpList P ops Q (op::rest) a w:=
 wpList_store_mid hgd ty x y ho p.b (p.o+k) cells.toArray hx hy (V5h h k _ (by simpa using hk)) (by rw [hi];simp) (by simpa using h1) (hK _ (V6r h k cells c' hc hk))
end
section
variable {w0 w:World} {Rs:List A6} {p:C4} {c:DC} {v:Value} {bs l:List Nat}
theorem Z4u (h:A4 w0 w (J9 (J0 p c) v bs l::Rs)) (n:Nat) (ni:Int) (hni:ni=(n:Int)) (hn:n≤32) (hl:l.length < n):
  Calls Tryz.prog 140 #[.pointer (some ⟨p.b,p.o,none⟩),.int .i64 ni] w fun e w'=>e= .returned (.tuple #[.int .u32 0,.bool false])∧A4 w0 w' (J9 (J0 p c) v bs l::Rs):=by
 subst hni
 exact W5c (P:=J0 p c) (Z8l _ v bs) h n hn hl
theorem Z34 (h:A4 w0 w (J9 (J0 p c) v bs l::Rs)) (n:Nat) (ni:Int) (hni:ni=(n:Int)) (hn:n≤32) (hl:n≤l.length) (hb:l.length < Y5):
  Calls Tryz.prog 140 #[.pointer (some ⟨p.b,p.o,none⟩),.int .i64 ni] w fun e w'=>e= .returned (.tuple #[.int .u32 ((E4 (l.take n):Nat):Int),.bool true])∧A4 w0 w' (J9 (J0 p c) v bs (l.drop n)::Rs):=by
 subst hni
 exact W9t (P:=J0 p c) (Z8l _ v bs) h n hn hl (by unfold Y5 at hb;omega)
theorem V67 (h:A4 w0 w (J9 (J0 p c) v bs l::Rs)):
  Calls Tryz.prog 92 #[.pointer (some ⟨p.b,p.o,none⟩)] w fun e w'=>e= .returned (.tuple #[])∧A4 w0 w' (J9 (J0 p c) v bs (l.drop (l.length%8))::Rs):=
 W8s (P:=J0 p c) (Z8l _ v bs) h
theorem V7d (h:A4 w0 w (J9 (J0 p c) v bs l::Rs)) (hb:l.length < Y5):
  Calls Tryz.prog 93 #[.pointer (some ⟨p.b,p.o,none⟩)] w fun e w'=>e= .returned (.int .i64 (l.length:Int))∧A4 w0 w' (J9 (J0 p c) v bs l::Rs):=
 W6k (P:=J0 p c) (Z8l _ v bs) h (by unfold Y5 at hb;omega)
theorem V4w (h:A4 w0 w (J9 (J0 p c) v bs l::Rs)) (n:Int) (hb:l.length < Y5):
  Calls Tryz.prog 81 #[.pointer (some ⟨p.b,p.o,none⟩),.int .i64 n] w fun e w'=>∃x,e= .returned x∧
   A4 w0 w' (B0 5 1 x (Z49 l n) (D9 ((D4 (l.drop (l.length%8))).take (Z49 l n)))::J9 (J0 p c) v bs ((l.drop (l.length%8)).drop (8*Z49 l n))::Rs):=
 V58 (P:=J0 p c) (Z8l _ v bs) h n (by unfold Y5 at hb;omega)
theorem W75 (T:List Int) (B:Nat) (h:A4 w0 w (J9 (J0 p c) v bs l::J7 T B::Rs)) (hF:Y4w T) (hb:isBits l) (hlen:l.length < Y5):
  Calls Tryz.prog 146 #[.pointer (some ⟨B,0,none⟩),.pointer (some ⟨p.b,p.o,none⟩)] w fun e w'=>
   ∃k q er:Nat,e= .returned (.tuple #[.int .i64 (k:Int),.int .i64 (er:Int)])∧A4 w0 w' (J9 (J0 p c) v bs (l.drop q)::J7 T B::Rs)∧Hid (O9 T l k q er):=
 W4s (P:=J0 p c) (Z8l _ v bs) T B l h hF hb (by unfold Y5 at hlen;omega)
end
section
variable {w0 w:World} {Rs:List A6} {Ts:List (List Int×Nat)}
theorem V41 {T:List Int} {B:Nat} (hm:(T,B)∈Ts) (h:A4 w0 w (Z27 Ts::Rs)):A4 w0 w (J7 T B::Z0g ((Ts.erase (T,B)).map fun t=>J7 t.1 t.2)::Rs):=by
 have a:(Ts.map fun t:List Int×Nat=>J7 t.1 t.2).Perm (J7 T B::(Ts.erase (T,B)).map fun t=>J7 t.1 t.2):=(T0h hm).map _
 exact A4.unpair (Z8n h a)
theorem V69 {T:List Int} {B:Nat} (hm:(T,B)∈Ts) (h:A4 w0 w (J7 T B::Z0g ((Ts.erase (T,B)).map fun t=>J7 t.1 t.2)::Rs)):A4 w0 w (Z27 Ts::Rs):=by
 have a:(Ts.map fun t:List Int×Nat=>J7 t.1 t.2).Perm (J7 T B::(Ts.erase (T,B)).map fun t=>J7 t.1 t.2):=(T0h hm).map _
 exact Z8n (L:=J7 T B::(Ts.erase (T,B)).map fun t=>J7 t.1 t.2) (A4.pair h) a.symm
theorem Z7v {T:List Int} {B:Nat} (h:A4 w0 w (J7 T B::Z27 Ts::Rs)):A4 w0 w (Z27 ((T,B)::Ts)::Rs):=A4.pair h
theorem V3f {R1 R2 R3 R4:A6} {T:List Int} {B:Nat} (h:A4 w0 w (R1::J7 T B::R2::R3::R4::Z27 Ts::Rs)):A4 w0 w (R1::R2::R3::R4::Z27 ((T,B)::Ts)::Rs):=
 (Z7v h.at6.third).to5
theorem X61 {R1 R2 R3 R4:A6} {T T2:List Int} {B B2:Nat} (h:A4 w0 w (R1::J7 T B::J7 T2 B2::R2::R3::R4::Z27 Ts::Rs)):A4 w0 w (R1::R2::R3::R4::Z27 ((T2,B2)::(T,B)::Ts)::Rs):=by
 have a:A4 w0 w (Z27 Ts::R1::J7 T B::J7 T2 B2::R2::R3::R4::Rs):=h.perm (T04 (l₁:=[_,_,_,_,_,_]))
 exact (Z7v (Z7v a.third).third).to5
end
theorem Y36 {l:List Nat} (hb:isBits l) (n m:Nat) (h:n+m≤l.length):E4 (l.take (n+m))%2^n=E4 (l.take n)∧E4 (l.take (n+m)) / 2^n=E4 ((l.drop n).take m):=by
 have e:l.take (n+m)=l.take n++(l.drop n).take m:=List.take_add
 have b:(l.take n).length=n:=by rw [T08];omega
 have a:=Z0v hb n
 rw [e,X1x,b]
 refine ⟨?_, ?_⟩
 ·rw [Nat.add_mul_mod_self_left,Nat.mod_eq_of_lt a]
 rw [Nat.add_mul_div_left _ _ (Nat.two_pow_pos n),Nat.div_eq_of_lt a,T09]
theorem V4n (m:Nat) (h:m < 65536):bits .xor .u16 IntKind.u16.max (m:Int)=((65535-m:Nat):Int):=by
 have b:=u16_xor_nat 65535 m (by decide) h
 have e:IntKind.u16.max=((65535:Nat):Int):=by decide
 rw [e,b]
 congr 1
 refine Nat.eq_of_testBit_eq fun i=> ?_
 rw [show 65535-m=2^16- (m+1) by omega,Nat.testBit_two_pow_sub_succ (by omega:m < 2^16),Nat.testBit_xor,show 65535=2^16-1 by rfl,Nat.testBit_two_pow_sub_one]
 by_cases a:i < 16
 ·simp [a]
 have:m.testBit i=false:=Nat.testBit_lt_two_pow (Nat.lt_of_lt_of_le (by omega:m < 2^16) (Nat.pow_le_pow_right (by decide) (by omega)))
 simp [a,this]
section
variable {w0 w:World} {Rs:List A6} {p:C4} {c:DC} {v:Value} {bs l o got:List Nat} {ls:List Int} {Ts:List (List Int×Nat)} {M:Nat}
theorem W3n (b:Bool) (h:A4 w0 w (P8 p c v bs l o got ls Ts Rs)) (hi:Z0h M c ls Ts (.sz b) l o got):
  Calls Tryz.prog 109 #[.pointer (some ⟨p.b,p.o,none⟩)] w fun e w'=>Y5o w0 w' p v bs M (.sz b) c l o got ls Ts Rs e:=by
 have z:=hi.cell
 have a0:=hi.fx
 have HI:=A5 hi
 obtain ⟨wv,most,i,lv,st,a,left,j,hA,hB,hC,ht,hv,cl,cd,fl,fd,en⟩:=c
 obtain ⟨rfl,rfl⟩:st=1∧a=b:=z
 unfold P8 at h
 have HA:=A5 (V67 h)
 obtain ⟨k,f⟩:∃k,k=l.drop (l.length%8):=⟨_,rfl⟩
 rw [←f] at HA
 have q:isBits k:=by rw [f];exact F3 hi.ok.bits _
 have a1:k.length < Y5:=by rw [f,T07];have:=hi.len;omega
 have d:F9 M l o (.sz a)=szR a k o:=by
  show szM a l o=_
  unfold szM
  rw [←f]
 unfold szR at d
 have b4:=A5 a0
 by_cases a2:k.length < 32
 ·rw [if_pos a2] at d
  have HS:=A5 d
  clear h hi f d a0
  go_enter Tryz.func109,Tryz.ntmps109
  go_wp2_with fail
  with_reducible refine HA.out.mono ?_
  rintro e w1 ⟨rfl,h1⟩
  have s:=A5 (Z4u h1 32 32 rfl (by decide) a2)
  clear h1 HA
  go_wp2_with fail
  with_reducible refine s.out.mono ?_
  rintro e w2 ⟨rfl,r⟩
  have H2:=A5 r
  clear r s
  go_wp2
  go_ret
  exact ⟨5,rfl,.bad H2.out HS.out (fun _=>⟨rfl,rfl,rfl⟩) ⟨rfl,rfl⟩⟩
 rw [if_neg a2] at d
 obtain ⟨s1,s2⟩:=Y36 q 16 16 (by omega)
 have a4:=Z0v q 16
 have t:=L8 q 16 16
 generalize E4 (k.take 16)=n at d s1 a4
 generalize E4 ((k.drop 16).take 16)=m at d s2 t
 have HS:=A5 d
 obtain ⟨x,hx⟩:∃x,x=E4 (k.take (16+16)):=⟨_,rfl⟩
 have c8:x < 4294967296:=by rw [hx];exact Z0v q 32
 rw [←hx] at s1 s2
 have d4:IntKind.u16.wrap (x:Int)=(n:Int):=by
  rw [←s1];simp [IntKind.wrap,IntKind.signed,IntKind.bits]
 have hd:(x:Int) / 65536=(m:Int):=by rw [←s2];omega
 have d5:IntKind.u16.wrap (m:Int)=(m:Int):=by
  simp [IntKind.wrap,IntKind.signed,IntKind.bits];omega
 have s:=fun (wz:World) (Rz:List A6) (hz:A4 w0 wz (J9 (J0 p ⟨wv,most,i,lv,1,a,left,j,hA,hB,hC,ht,hv,cl,cd,fl,fd,en⟩) v bs k::Rz))=>Z34 hz 32 32 rfl (by decide) (by omega) a1
 rw [show (32:Nat)=16+16 from rfl,←hx] at s
 have s:=A5 s
 have a5:=V4n m t
 obtain ⟨y,hy⟩:∃y,y=65535-m:=⟨_,rfl⟩
 rw [←hy] at a5
 have b5:n+m≠65535∧¬n=y∧((n:Int) != (y:Int))=true∨n+m=65535∧y=n∧((n:Int) != (n:Int))=false:=by
  by_cases he:n+m=65535
  ·exact .inr ⟨he,by omega,by simp⟩
  refine .inl ⟨he,by omega, ?_⟩
  simp;omega
 have d0:bits .xor .u16 (if IntKind.u16.signed=true then -1 else IntKind.u16.max) (m:Int)=(y:Int):=by rw [if_neg (by decide)];exact a5
 clear h hi f d a0 hx s1 s2 hy
 rcases b5 with ⟨hne,hI,hbq⟩ | ⟨hne,rfl,hbq⟩
 all_goals
  go_enter Tryz.func109,Tryz.ntmps109
  go_wp2_with fail
  with_reducible refine HA.out.mono ?_
  rintro e w1 ⟨rfl,h1⟩
  have a6:=A5 (s.out _ _ h1)
  clear h1 HA s
  go_wp2_with fail
  with_reducible refine a6.out.mono ?_
  rintro e w2 ⟨rfl,r⟩
  have H2:=A5 r
  have c9:w2.cell? ⟨p.b,p.o+8+1,none⟩=some (.int .i64 (left:Int)):=F0 r 9 _ rfl
  have f9:w2.frozen? ⟨p.b,p.o+8+1,none⟩=false:=Y4 r 9
  have c7:w2.cell? ⟨p.b,p.o+7,none⟩=some (.int .i64 1):=F0 r 7 _ rfl
  have f7:w2.frozen? ⟨p.b,p.o+7,none⟩=false:=Y4 r 7
  clear r a6
  go_wp2
 ·go_ret
  have g:=HS.out
  rw [if_pos hne] at g
  exact ⟨2,rfl,.bad H2.out g (fun h=>by cases h) ⟨rfl,rfl⟩⟩
 go_ret
 have g:=HS.out
 rw [if_neg (not_not_intro hne)] at g
 have h3:=Z2q (Z2q H2.out 9 (.int .i64 (y:Int)) ⟨wv,most,i,lv,1,a,y,j,hA,hB,hC,ht,hv,cl,cd,fl,fd,en⟩ rfl) 7 (.int .i64 2) ⟨wv,most,i,lv,2,a,y,j,hA,hB,hC,ht,hv,cl,cd,fl,fd,en⟩ rfl
 exact ⟨0,rfl,.on HI.out g h3 ⟨rfl,rfl,rfl⟩ b4.out rfl rfl⟩
theorem X7w (b:Bool) (h:A4 w0 w (P8 p c v bs l o got ls Ts Rs)) (hi:Z0h M c ls Ts (.cnt b) l o got):
  Calls Tryz.prog 111 #[.pointer (some ⟨p.b,p.o,none⟩)] w fun e w'=>Y5o w0 w' p v bs M (.cnt b) c l o got ls Ts Rs e:=by
 have t:=hi.cell
 have z:=hi.fx
 have HI:=A5 hi
 obtain ⟨wv,most,r,lv,st,j,left,s,hA,hB,hC,ht,hv,cl,cd,fl,fd,en⟩:=c
 obtain ⟨rfl,rfl⟩:st=3∧j=b:=t
 unfold P8 at h
 have hb:=hi.ok.bits
 have g:F9 M l o (.cnt j)=Z79 j l o:=rfl
 unfold Z79 at g
 by_cases a4:l.length < 14
 ·rw [if_pos a4] at g
  have n:=A5 (Z4u h 14 14 rfl (by decide) a4)
  have HS:=A5 g
  clear h hi g z
  go_enter Tryz.func111,Tryz.ntmps111
  go_wp2_with fail
  with_reducible refine n.out.mono ?_
  rintro e w2 ⟨rfl,q⟩
  have H2:=A5 q
  clear q n
  go_wp2
  go_ret
  exact ⟨5,rfl,.bad H2.out HS.out (fun _=>⟨rfl,rfl,rfl⟩) ⟨rfl,rfl⟩⟩
 rw [if_neg a4] at g
 have n:=Z34 h 14 14 rfl (by decide) (by omega) hi.len
 obtain ⟨s1,s2⟩:=Y36 hb 5 9 (by omega)
 obtain ⟨s3,s4⟩:=Y36 (F3 hb 5) 5 4 (by rw [T07];omega)
 rw [T0a,show 5+5=10 from rfl] at s4
 have a1:=Z0v hb 5
 have k:=L8 hb 5 5
 have a2:=L8 hb 10 4
 obtain ⟨x,hx⟩:∃x,x=E4 (l.take (5+9)):=⟨_,rfl⟩
 have b9:x < 16384:=by rw [hx];exact Z0v hb 14
 rw [show (14:Nat)=5+9 from rfl,←hx] at n
 rw [←hx] at s1 s2
 rw [show (9:Nat)=5+4 from rfl] at s2
 rw [←s2] at s3 s4
 generalize E4 (l.take 5)=a at g s1 a1
 generalize E4 ((l.drop 5).take 5)=d at g s3 k
 generalize E4 ((l.drop 10).take 4)=f at g a2 s4
 have b6:bits .and .u32 (x:Int) 31=(a:Int):=by
  have m:=Z4g x 31 (by omega) (by decide)
  rw [show (31:Nat)=2^5-1 from rfl,T0b,s1] at m
  exact m
 obtain ⟨y,hy⟩:∃y,y=x / 2^5:=⟨_,rfl⟩
 rw [←hy] at s3 s4
 have d1:(x:Int) / 32=(y:Int):=by omega
 have c0:(x:Int) / 1024=(f:Int):=by omega
 have b7:bits .and .u32 (y:Int) 31=(d:Int):=by
  have m:=Z4g y 31 (by omega) (by decide)
  rw [show (31:Nat)=2^5-1 from rfl,T0b,s3] at m
  exact m
 obtain ⟨An,a9⟩:∃A,A=a+257:=⟨_,rfl⟩
 obtain ⟨Bn,b0⟩:∃B,B=d+1:=⟨_,rfl⟩
 obtain ⟨Cn,b1⟩:∃C,C=f+4:=⟨_,rfl⟩
 rw [←a9,←b0,←b1] at g
 have i1:(257:Int)+(a:Int)=(An:Int):=by omega
 have i2:(1:Int)+(d:Int)=(Bn:Int):=by omega
 have i3:(4:Int)+(f:Int)=(Cn:Int):=by omega
 have a3:(286 < An∧decide ((286:Int) < (An:Int))=true)∨(¬286 < An∧decide ((286:Int) < (An:Int))=false∧30 < Bn∧decide ((30:Int) < (Bn:Int))=true)∨(¬286 < An∧decide ((286:Int) < (An:Int))=false∧¬30 < Bn∧decide ((30:Int) < (Bn:Int))=false):=by
  by_cases m:286 < An
  ·exact .inl ⟨m,decide_eq_true (by omega)⟩
  by_cases q:30 < Bn
  ·exact .inr (.inl ⟨m,decide_eq_false (by omega),q,decide_eq_true (by omega)⟩)
  exact .inr (.inr ⟨m,decide_eq_false (by omega),q,decide_eq_false (by omega)⟩)
 have HS:=A5 g
 have n:=A5 n
 have b8:=A5 z
 have d2:An < 1000:=by omega
 have d3:Bn < 1000:=by omega
 have d4:Cn < 1000:=by omega
 have d5:a < 32:=a1
 have d6:d < 32:=k
 have d7:f < 16:=a2
 have d8:y < 512:=by omega
 clear h hi g z hx s1 s2 s3 s4 hy a9 b0 b1 a1 k a2 hb
 rcases a3 with ⟨hn,hq⟩ | ⟨hn,hq,k,hq2⟩ | ⟨hn,hq,k,hq2⟩
 all_goals
  go_enter Tryz.func111,Tryz.ntmps111
  go_wp2_with fail
  with_reducible refine n.out.mono ?_
  rintro e w2 ⟨rfl,q⟩
  have H2:=A5 q
  clear q n
 ·go_wp2
  go_ret
  have i:=HS.out
  rw [if_pos (.inl hn)] at i
  exact ⟨2,rfl,.bad H2.out i (fun h=>by cases h) ⟨rfl,rfl⟩⟩
 ·go_wp2
  go_ret
  have i:=HS.out
  rw [if_pos (.inr k)] at i
  exact ⟨2,rfl,.bad H2.out i (fun h=>by cases h) ⟨rfl,rfl⟩⟩
 go_wp2_with ((with_reducible show wpList _ _ _ (⟨none,.store 94 _ _,_,_,_,_⟩::_) _ _);go_must (refine K4 rfl 94 (.tmp 43) (.tmp 40) rfl H2.out 11 [.int .i64 (An:Int),.int .i64 (Bn:Int),.int .i64 (Cn:Int),.pointer none,.slice none 0 0] rfl rfl (by kernel_rfl) rfl ⟨wv,most,r,lv,3,j,left,s,An,Bn,Cn,none,.slice none 0 0,cl,cd,fl,fd,en⟩ rfl ⟨by decide,Nat.le_of_ble_eq_true rfl⟩ ?_);intro w3 h3;have H3:=A5 h3;have c7:w3.cell? ⟨p.b,p.o+7,none⟩=some (.int .i64 3):=F0 h3 7 _ rfl;have f7:w3.frozen? ⟨p.b,p.o+7,none⟩=false:=Y4 h3 7;clear h3)
 go_ret
 have i:=HS.out
 rw [if_neg (not_or.2 ⟨hn,k⟩)] at i
 have h4:=Z2q (Z3f H3.out) 7 (.int .i64 4) ⟨wv,most,r,lv,4,j,left,s,An,Bn,Cn,none,.slice none 0 0,cl,cd,fl,fd,en⟩ rfl
 exact ⟨0,rfl,.on HI.out i h4 ⟨rfl,rfl,rfl,rfl,rfl,rfl⟩ b8.out rfl rfl⟩
end
theorem X1g {l:List Nat} (h:8≤l.length):D4 l=E4 (l.take 8)::D4 (l.drop 8):=by
 unfold D4
 rw [T07,show l.length / 8=(l.length-8) / 8+1 by omega,List.range_succ_eq_map,List.map_cons,List.map_map]
 congr 1
 refine List.map_congr_left fun i _=> ?_
 simp only [Function.comp]
 rw [T0a]
 rw [show 8*(i+1)=8+8*i by omega]
theorem X6x {M:Nat} {b:Bool}:∀ (m n:Nat) (l o:List Nat),8*m≤l.length→m≤n→o.length+m≤M→S8 M (.sto b n) l o (.sto b (n-m)) (l.drop (8*m)) (o++(D4 l).take m)
 | 0,n,l,o,_,_,_=>by simpa using S8.refl
 | m+1,n,l,o,h8,hn,hM=>by
  have hst:F9 M l o (.sto b n)= .go (.sto b (n-1)) (l.drop 8) (o++[E4 (l.take 8)]):=by
   show Z46 M b n l o=_
   unfold Z46
   rw [if_neg (by omega),if_neg (by omega),if_neg (by omega)]
  have a:=X6x (M:=M) (b:=b) m (n-1) (l.drop 8) (o++[E4 (l.take 8)]) (by rw [T07];omega) (by omega) (by rw [T02];simp;omega)
  rw [T0a,show 8+8*m=8*(m+1) by omega,show n-1-m=n- (m+1) by omega,T05] at a
  rw [X1g (by omega),List.take_succ_cons]
  exact .step hst a
theorem Y4r.outs {w0 w':World} {p:C4} {v:Value} {bs:List Nat} {M:Nat} {c c':DC} {ls ls':List Int} {Ts Ts':List (List Int×Nat)} {ph ph':Ph} {l l' o got t:List Nat} {Rs:List A6} (hi:Z0h M c ls Ts ph l o got) (hr:S8 M ph l o ph' l' (o++t)) (ht:t≠[])
  (H:A4 w0 w' (P8 p c' v bs l' (o++t) (got++t) ls' Ts' Rs)) (hc:PhC c' ls' Ts' ph') (hf:FxC c' Ts') (hm:c'.most+t.length=c.most) (hroom:c'.room+t.length=c.room) (hr0:0≤c'.room):Y4r w0 w' p v bs M ph c l o got ls Ts Rs 0:=by
 obtain ⟨f,_,g⟩:=hi.ok.reach hr
 have a:Z0h M c' ls' Ts' ph' l' (o++t) (got++t):=⟨hc,hf,f,by rw [T02];have:=hi.most;omega,hi.big,T0f g hi.len,by rw [T02,T02];have:=hi.got;omega,hr0,by have:=hi.top;omega⟩
 generalize b:o++t=o' at hr H a
 cases hr with
 | refl=>
  have d:=congrArg List.length b
  rw [T02] at d
  exact absurd (List.eq_nil_of_length_eq_zero (by omega)) ht
 | step hs hr=>exact .go H a hs hr b.symm hroom
theorem Z7h:(Tryz.prog.info? 3).map (fun i=>(i.zero,i.size,i.bytes))=some (some (.int .i64 0),1,8):=by kernel_rfl
section
variable {P:Program} {w:World}
theorem X4j (dT sT ty e:TypeId) (i:TypeInfo) (ht:P.underlying dT=some (.slice e)) (hi:P.info? e=some i) (hs:i.size=1) (g n cap L m capd:Nat) (xs ys:List Value) (hown:Own w e 1 (.slice (some ⟨g,0,none⟩) n cap) n xs) (hLm:L+m=n)
  (s:Value) (k:Nat) (hsrc:Rd w 1 s k ys) (h1:∀u∈ys,u.oneCell'=true) (hq:0 < min k m):
  ∃w',(Builtin.copy_ #[dT,sT] ty #[.slice (some ⟨g,L,none⟩) m capd,s]).run P w= .ok (goInt ((min k m:Nat):Int)) w'∧Own w' e 1 (.slice (some ⟨g,0,none⟩) n cap) n (xs.take L++(ys.take (min k m)++xs.drop (L+min k m)))∧E5 w w' (fun k=>k=g):=by
 obtain ⟨t,sa,a2,rfl,a5,a6,a7,q⟩:=hsrc
 rcases hown.2 with ⟨hv,hn0⟩ | ⟨g',off,cap',cur,hv,hg,hn,hc,hcs,hx⟩
 ·cases hv
 simp only [Value.slice.injEq,Option.some.injEq,Addr.mk.injEq,and_true,true_and] at hv
 obtain ⟨⟨rfl,rfl⟩,rfl⟩:=hv
 rcases q with hm0 | ⟨b,so,rfl,hcl0⟩
 ·omega
 have a4:xs.length=n:=by rw [hown.1];omega
 have o:ys.length=k:=by rw [t];omega
 have a:(ys.take (min k m)).length=min k m:=by rw [T08,o];omega
 have y:=run_loadCells_list (P:=P) w ⟨b,so,none⟩ (ys.take (min k m)) (fun j u hu=>by
  rw [Addr.add_lit]
  refine hcl0 j u ?_
  rw [T0c] at hu
  split at hu
  ·exact hu
  cases hu)
 rw [a] at y
 have d:=run_storeCells_at P g L e (ys.take (min k m)) 0 cur w hg (by rw [a];omega) (fun u hu=>h1 u (List.mem_of_mem_take hu))
 rw [a,Nat.add_zero] at d
 have p:cur.toList.take L=xs.take L:=by
  refine T0i fun j=> ?_
  rw [T0c,T0c]
  by_cases r:j < L
  ·rw [if_pos r,if_pos r]
   have z:j < xs.length:=by omega
   have h3:=hx j _ (T01 z)
   rw [T09] at h3
   rw [Array.getElem?_toList,h3,T01 z]
  rw [if_neg r,if_neg r]
 have f:(xs.take L++ys.take (min k m)).length=L+min k m:=by rw [T02,T08,a];omega
 obtain ⟨x,H2⟩:=Own.splice (vs:=xs.take L++ys.take (min k m)) (w':=w.setRow g (cur.toList.take L++ys.take (min k m)++cur.toList.drop (L+min k m)).toArray) hown.1 hg hn hc hcs hx (by rw [f];omega) (by rw [f,p];simp)
 rw [f,T05] at x
 rw [T05] at x H2 d
 refine ⟨_, ?_,x,H2⟩
 have a1:Nat.min m k=min k m:=Nat.min_comm m k
 have l:Nat.min k m=min k m:=rfl
 simp [Builtin.copy_,run_underlying ht,Builtin.lenOf,Builtin.firstCells,sizeOf,typeInfo,hi,hs,l,y,d]
theorem X1q {ops:Array Oper} {o:Oper} {ac:Act} {K:Act→World→Prop} {Q:Exit→Act→World→Prop} {E:Prop} (hgd:o.guard=none) (d s:Operand) (dT sT:TypeId)
  (ho:o.op= .call {callee:= .builtin .copy,args:=#[d,s],argTypes:=#[dT,sT]}) (e:TypeId) (i:TypeInfo) (ht:P.underlying dT=some (.slice e)) (hi:P.info? e=some i) (hs:i.size=1)
  (g n cap L m capd:Nat) (xs ys:List Value) (hd:ac.eval d= .slice (some ⟨g,L,none⟩) m capd) (hown:Own w e 1 (.slice (some ⟨g,0,none⟩) n cap) n xs) (hLm:L+m=n) (y:Value) (k:Nat) (hy:ac.eval s=y) (hsrc:Rd w 1 y k ys) (h1:∀u∈ys,u.oneCell'=true) (hq:0 < min k m)
  (h:∀w',Own w' e 1 (.slice (some ⟨g,0,none⟩) n cap) n (xs.take L++(ys.take (min k m)++xs.drop (L+min k m)))→E5 w w' (fun k=>k=g)→K (ac.put o.dst (goInt ((min k m:Nat):Int))) w'):
  if Region.wanted o (yielded ops ac.tmps)=true then Oper.wp P o ac w K Q else E:=by
 rw [if_pos (by simp [Region.wanted,hgd])]
 obtain ⟨w',a,b,f⟩:=X4j (P:=P) dT sT o.type e i ht hi hs g n cap L m capd xs ys hown hLm y k hsrc h1 hq
 unfold Oper.wp execOp
 simp only [ho,resolve,invoke,builtin,Sem.run_bind,Sem.run_pure,Result.andThen_ok,List.map_toArray,List.map_cons,List.map_nil,hd,hy,a]
 exact h w' b f
end
theorem X5q (c:Nat) (hc:c < 4294967296) (w:World):
  Calls Tryz.prog 155 #[.int .u64 1,.int .u64 (c:Int)] w fun e w'=>e= .returned (.tuple #[.int .u64 0,.int .u64 (c:Int)])∧w=w':=by
 have a:(0:Int)≤(c:Int):=T03 _
 have b:bits .and .u64 1 4294967295=1:=by decide
 have d:bits .and .u64 (c:Int) 4294967295=(c:Int):=by
  have h:=bits_and_u64_nat c 4294967295 (by omega) (by decide)
  rw [show (4294967295:Nat)=2^32-1 from rfl,T0b,Nat.mod_eq_of_lt (by omega)] at h
  exact h
 have f:(c:Int) / 4294967296=0:=by omega
 have g:IntKind.u64.wrap (c:Int)=(c:Int):=IntWalk.u64_in _ (by omega)
 have i:IntKind.u64.wrap 0=0:=rfl
 have j:bits .and .u64 0 4294967295=0:=by decide
 go_enter Tryz.func155,Tryz.ntmps155
 go_wp2
 go_ret2
 exact ⟨rfl,rfl⟩
theorem Z83 (z:Value) (n:Nat) (hz:z.cells=#[z]):(madeCells z.cells (n*1)).toList=T00 n z:=by
 rw [T0d,hz]
 refine T0i fun j=> ?_
 by_cases a:j < n
 ·simp [madeCells,a,Nat.mod_one]
 rw [T0j (by simp [madeCells];omega),T0j (by simp;omega)]
theorem V48 (a:Int) (n c:Nat):D3 (T00 n a++T00 (c-n) 0)=D3 (T00 n a)++T00 (c-n) (.int .i64 0):=by simp [D3]
theorem X8x (x:Value) (a:Int) (c:Nat) (w:World) (hx:Rd w 1 x 1 (D3 [a])) (hc:1≤c∧c≤144):
  Calls Tryz.prog 127 #[x,.int .i64 (c:Int)] w fun e w'=>∃v,e= .returned v∧A4 w w' [B0 3 1 v c (D3 (T00 c a))]:=by
 obtain ⟨i,g,a7,b,a8⟩:=info_parts Z7h
 obtain ⟨ao,c6,rfl,_,_⟩:=hx.form
 have HM:=A5 (X5q c (by omega) w)
 obtain ⟨c7,c8⟩:=id hc
 have b6:(0:Int)≤(c:Int):=T03 _
 have b7:(0:Int) < (c:Int):=by omega
 have b8:IntKind.u64.wrap (c:Int)=(c:Int):=IntWalk.u64_in _ (by omega)
 have b9:IntKind.i64.wrap (c:Int)=(c:Int):=Z25 c (by omega)
 have c0:decide ((9223372036854775807:Int) < (c:Int))=false:=by simp;omega
 clear hc
 go_enter Tryz.func127,Tryz.ntmps127
 go_wp2_with fail
 refine HM.out.mono ?_
 rintro e w1 ⟨rfl,rfl⟩
 go_wp2_with first
  | ((with_reducible show wpList _ _ _ (⟨some 30,_,_,_,_,_⟩::_) _ _);refine wpList_make_own rfl 52 (.tmp 29) (.tmp 29) rfl 3 i (.int .i64 0) 1 Tryz.underlying52 g a7 b .i64 c rfl rfl (by rw [a8];omega) (by unfold maxLen;omega) ?_;intro v1 w2 zs m f o a6 p;subst a6;have H1:=A5 ((A4.start w).pushOwn m f o);have j:=A5 (hx.kept f (fun _ _ h=>h));clear f o m)
  | ((with_reducible show wpList _ _ _ (⟨some 33,_,_,_,_,_⟩::_) _ _);refine Y38 rfl (.tmp 31) (.tmp 32) 52 52 rfl 3 i 1 Tryz.underlying52 g b (.slice (some ⟨w.heap.size,0,none⟩) c c) _ c 1 zs (D3 [a]) rfl rfl H1.out.own j.out (S6 _) ?_;intro w3 r s;have H2:=A5 (H1.out.putOwn r (s.mono fun k _ hk=>by simp [Value.ownBlock] at hk;omega));rw [show min 1 c=1 by omega];clear r s)
  | fail
 have d:Hid ((D3 [a]).take (min 1 c*1)++zs.drop (min 1 c*1)=D3 (T00 1 a++T00 (c-1) 0)):=by
  rw [p,Z83 _ _ rfl,show min 1 c=1 by omega,V48,T0d]
  refine A5 ?_
  rw [T0e (by simp [D3]),T0k];rfl
 rw [d.out] at H2
 have hb:=g
 clear p d H1 j hx HM
 go_loopg [8] 1000 (fun k t8 wr=>∃n:Nat,1≤n∧n≤c∧c-n < k∧t8= .int .i64 (n:Int)∧Hid (A4 w wr [B0 3 1 (.slice (some ⟨w.heap.size,0,none⟩) c c) c (D3 (T00 n a++T00 (c-n) 0))]))
 case atStart=>exact ⟨1,by omega,by omega,by omega,rfl,H2⟩
 case round=>
  obtain ⟨n,c9,d0,hk,rfl,z⟩:=hrel
  have c1:(0:Int)≤(n:Int):=T03 _
  by_cases c5:n < c
  rotate_left
  ·have l:¬(n:Int) < (c:Int):=by omega
   obtain rfl:n=c:=by omega
   have hE:Hid (D3 (T00 n a++T00 (n-n) 0)=D3 (T00 n a)):=by
    rw [Nat.sub_self,List.replicate_zero,T06]
    exact A5 rfl
   rw [hE.out] at z
   go_wp2
   go_ret
   exact ⟨_,rfl,z.out⟩
  have l:(n:Int) < (c:Int):=by omega
  have a1:∀wg,(Instr.sliceAt 52 (.slice (some ⟨w.heap.size,0,none⟩) c c) (some (.int .i64 (n:Int))) none none).run Tryz.prog wg= .ok (.slice (some ⟨w.heap.size,n,none⟩) (c-n) (c-n)) wg:=fun wg=>by
   have h:=O0 (P:=Tryz.prog) (w:=wg) 52 3 i 1 Tryz.underlying52 g b (some ⟨w.heap.size,0,none⟩) c c n c (some (.int .i64 (n:Int))) none ⟨_,rfl⟩ rfl (by omega) (Nat.le_refl _)
   rw [h]
   unfold sliced
   rw [if_neg (by omega)]
   simp [Addr.add_lit]
  have a2:∀wg,(Instr.sliceAt 52 (.slice (some ⟨w.heap.size,0,none⟩) c c) none (some (.int .i64 (n:Int))) none).run Tryz.prog wg= .ok (.slice (some ⟨w.heap.size,0,none⟩) n c) wg:=fun wg=>by
   have h:=O0 (P:=Tryz.prog) (w:=wg) 52 3 i 1 Tryz.underlying52 g b (some ⟨w.heap.size,0,none⟩) c c 0 n none (some (.int .i64 (n:Int))) rfl ⟨_,rfl⟩ (by omega) (by omega)
   rw [h,Z14 _ _ _ _ (fun x hx=>by simp at hx;rw [←hx])]
  have a3:Hid (Rd wr 1 (.slice (some ⟨w.heap.size,0,none⟩) n c) n (D3 (T00 n a))):=by
   have h:=z.out.own.rd.front (H:=n) (by omega)
   rw [V48,T0d,List.take_left' (by simp [D3])] at h
   exact A5 h
  have b1:(c:Int)- (n:Int)=((c-n:Nat):Int):=by omega
  go_wp2
  go_region_held3 (fun _=>True) (trivial) ((first | skip;refine X1q (by rfl) (.tmp 41) (.tmp 44) 52 52 (by rfl) 3 i Tryz.underlying52 g b w.heap.size c c n (c-n) (c-n) (D3 (T00 n a++T00 (c-n) 0)) (D3 (T00 n a)) (by rfl) (by exact z.out.own.drew) (by omega) (.slice (some ⟨w.heap.size,0,none⟩) n c) n (by rfl) (by exact a3.out.drew) (S6 _) (by omega) ?_;intro w4 t y;have H4:=A5 (z.out.drew.putOwn t y);clear t y))
  obtain ⟨q,hq⟩:∃q,q=min n (c-n):=⟨_,rfl⟩
  have c2:1≤q∧n+q≤c:=by omega
  have hE:Hid ((D3 (T00 n a++T00 (c-n) 0)).take n++((D3 (T00 n a)).take (min n (c-n))++(D3 (T00 n a++T00 (c-n) 0)).drop (n+min n (c-n)))=D3 (T00 (n+q) a++T00 (c- (n+q)) 0)):=by
   rw [←hq,V48,V48,List.take_left' (by simp [D3])]
   have h1:(D3 (T00 n a)).take q=D3 (T00 q a):=by
    simp only [D3,List.map_replicate,List.take_replicate]
    rw [Nat.min_eq_left (by omega)]
   have h2:(D3 (T00 n a)++T00 (c-n) (Value.int .i64 0)).drop (n+q)=T00 (c- (n+q)) (.int .i64 0):=by
    rw [List.drop_append,List.drop_of_length_le (by simp [D3]),List.nil_append,T0k]
    simp [D3]
    omega
   rw [h1,h2,←T05]
   refine A5 ?_
   rw [←T7,List.replicate_append_replicate]
  have a5:IntKind.i64.wrap ((n:Int)+((min n (c-n):Nat):Int))=((n+q:Nat):Int):=by
   rw [←hq,←Int.natCast_add];exact Z25 _ (by omega)
  rw [hE.out] at H4
  simp only [goInt,a5]
  go_wp2
  go_roundg (gk-1)
  case measure=>omega
  case rel=>exact ⟨n+q,by omega,by omega,by omega,rfl,H4⟩
theorem W5n (n:Nat) (w0 w:World) (Rs:List A6) (h:A4 w0 w Rs) (hn:0 < n) (hN2:n≤100000):
  Calls Tryz.prog 154 #[.slice none 0 0,.int .i64 (n:Int)] w fun e w'=>∃v,e= .returned v∧A4 w0 w' (B0 3 1 v 0 []::Rs):=by
 obtain ⟨i,p,l,m,b⟩:=info_parts Z7h
 obtain ⟨G,d⟩:∃G,G=grownCap w (0+n) 0 3:=⟨_,rfl⟩
 have f:∀ty,(Builtin.append_ #[52,3] ty #[.slice none 0 0,.int .i64 (n:Int)]).run Tryz.prog w=
   .ok (.slice (some ⟨w.heap.size,0,none⟩) n G) (w.drew.alloc (.cells (#[]++Builtin.zeroCells (#[.int .i64 0]) n++Builtin.zeroCells (#[.int .i64 0]) (G-n)) 3)):=fun ty=>by
  have h:=Lib.run_append_grow_zeros w 52 3 ty 3 i (.int .i64 0) .i64 .i64 Tryz.underlying52 Tryz.underlying3 p l none 0 0 [] (by simp [Builtin.firstCells]) n hn (by rw [m];decide) (by omega) (by omega) (by rw [b];omega) (growslice_fits (by omega) (by rw [b];omega))
  rw [←d,T09] at h
  exact h
 have o:n≤G:=by rw [d];have:=grownCap_ge w (0+n) 0 3;omega
 have g:G≤maxLen:=by rw [d];exact grownCap_le_maxLen w (0+n) 0 _ (by unfold maxLen;omega)
 have H:=A5 h
 have q:(0:Int)≤(n:Int):=T03 _
 have r:¬(n:Int) < 0:=by omega
 have s:(0:Int) < (n:Int):=by omega
 clear h d
 go_enter Tryz.func154,Tryz.ntmps154
 go_wp2_with (at_builtin;refine Lib.wpList_append_run _ rfl _ _ _ _ rfl _ _ rfl rfl _ _ (f _) ?_)
 go_ret
 refine ⟨_,rfl, ?_⟩
 have a:Own ((w.alloc (.cells (Builtin.zeroCells #[.int .i64 0] n++Builtin.zeroCells #[.int .i64 0] (G-n)) 3)).drew) 3 1 (.slice (some ⟨w.heap.size,0,none⟩) 0 G) 0 []:=
  ⟨rfl,.inr ⟨w.heap.size,0,G,_,rfl,heap_alloc_new w _,Nat.zero_le _,g,by simp [size_zeroCells];omega,fun j u hu=>by simp at hu⟩⟩
 exact H.out.pushOwn a (((E5.refl w _).alloc _).drew) (fun k hk=>by simp [Value.ownBlock] at hk;omega)
theorem Y2u (ls:List (List Int)) (i:Nat) (l:List Int) (h:ls[i]?=some l):(ls.take (i+1)).flatten=(ls.take i).flatten++l:=by
 rw [List.take_add_one,h];simp
theorem W31 (ls:List (List Int)) (i:Nat):(ls.take i).flatten.length≤ls.flatten.length:=by
 conv=>rhs;rw [←List.take_append_drop i ls,List.flatten_append,T02]
 omega
theorem Y43 (vs:List Value) (ls:List (List Int)) (u:Value) (n:Nat) (w:World) (hu:Rd w 1 u n vs) (hn:vs.length=n) (hl:ls.length=n) (hR:∀ (i:Nat) (v:Value) (l:List Int),vs[i]?=some v→ls[i]?=some l→Rd w 1 v l.length (D3 l)) (hpos:0 < ls.flatten.length) (htot:ls.flatten.length≤100000) (hn2:n≤1000):
  Calls Tryz.prog 126 #[u] w fun e w'=>∃v,e= .returned v∧A4 w w' [B0 3 1 v ls.flatten.length (D3 ls.flatten)]:=by
 obtain ⟨i0,hi,b5,b6,b7⟩:=info_parts Z7h
 obtain ⟨uo,uc,rfl,_,_⟩:=hu.form
 have HU:=A5 hu
 have HR:=A5 hR
 have HL:=A5 (And.intro hn hl)
 have c8:(0:Int)≤(n:Int):=T03 _
 obtain ⟨N,hN⟩:∃N,N=ls.flatten.length:=⟨_,rfl⟩
 rw [←hN] at hpos htot⊢
 have HN:=A5 hN
 clear hu hR hn hl hN
 go_enter Tryz.func126,Tryz.ntmps126
 go_wp2
 go_loopg [3,11] (n+1) (fun k t3 t11 wr=>∃ (i s:Nat),i≤n∧n-i < k∧t11= .int .i64 (i:Int)∧t3= .int .i64 (s:Int)∧s≤N∧Hid (s=(ls.take i).flatten.length)∧wr=w)
 case atStart=>exact ⟨0,0,by omega,by omega,rfl,rfl,by omega,A5 rfl,rfl⟩
 case round=>
  obtain ⟨i,s,d8,hk,rfl,rfl,hs,HS,b9⟩:=hrel
  obtain rfl:=b9.symm
  have c9:(0:Int)≤(i:Int):=T03 _
  have d0:(0:Int)≤(s:Int):=T03 _
  by_cases d4:i < n
  ·have a5:(i:Int) < (n:Int):=by omega
   obtain ⟨g,c0,rfl,a⟩:=HU.out.spot (by omega)
   have o:i < vs.length:=by have:=HL.out.1;omega
   have b:i < ls.length:=by have:=HL.out.2;omega
   have d:=HR.out i _ _ (T01 o) (T01 b)
   obtain ⟨ao,m,t,a1,a2⟩:=d.form
   have p:=a i _ (T01 o)
   rw [t] at p
   obtain ⟨q,hq⟩:∃q,q=(ls[i]'b).length:=⟨_,rfl⟩
   rw [←hq] at p
   have f:s+q=(ls.take (i+1)).flatten.length:=by rw [Y2u ls i _ (T01 b),T02,←HS.out,←hq]
   have r:s+q≤N:=by rw [f,HN.out];exact W31 ls _
   have z:=A5 f
   have d1:(0:Int)≤(q:Int):=T03 _
   have d2:¬(s:Int)+(q:Int) < 0:=by omega
   clear a d t hq f a1 a2
   go_wp2
   go_roundg (gk-1)
   case measure=>omega
   case rel=>exact ⟨i+1,s+q,by omega,by omega,by go_num,by go_num,r,z,rfl⟩
  have a5:¬(i:Int) < (n:Int):=by omega
  have r:s=N:=by
   rw [HS.out,HN.out,T0e (by have:=HL.out.2;omega)]
  subst r
  have HG:=A5 (W5n s w w [] (A4.start w) hpos htot)
  go_wp2_with fail
  refine HG.out.mono ?_
  rintro e w1 ⟨v,rfl,hh⟩
  have HH:=A5 hh
  clear hh HG
  go_wp2
  go_loopg [6,27] (n+1) (fun k t6 t27 wq=>∃ (j L:Nat) (ao:Option Addr) (m:Nat),j≤n∧n-j < k∧t27= .int .i64 (j:Int)∧t6= .slice ao L m∧L≤s∧Hid (L=(ls.take j).flatten.length)∧
   Hid (A4 w wq [B0 3 1 (.slice ao L m) L (D3 (ls.take j).flatten)]))
  case atStart=>
   obtain ⟨ao,m,rfl,_,_⟩:=HH.out.own.form
   exact ⟨0,0,ao,m,by omega,by omega,rfl,rfl,by omega,A5 rfl,HH⟩
  case round=>
   obtain ⟨j,L,ao,m,d9,e0,rfl,rfl,e1,HJ,x⟩:=hrel
   have d3:(0:Int)≤(j:Int):=T03 _
   by_cases d5:j < n
   ·have a6:(j:Int) < (n:Int):=by omega
    have a7:=x.out.old HU.out
    obtain ⟨g,c0,rfl,a⟩:=a7.spot (by omega)
    have o:j < vs.length:=by have:=HL.out.1;omega
    have b:j < ls.length:=by have:=HL.out.2;omega
    have d:=x.out.old (HR.out j _ _ (T01 o) (T01 b))
    obtain ⟨bo,bc,t,a1,a2⟩:=d.form
    have p:=a j _ (T01 o)
    rw [t] at p d
    obtain ⟨q,hq⟩:∃q,q=(ls[j]'b).length:=⟨_,rfl⟩
    rw [←hq] at p d
    have f:L+q=(ls.take (j+1)).flatten.length:=by rw [Y2u ls j _ (T01 b),T02,←HJ.out,←hq]
    have r:L+q≤s:=by rw [f,HN.out];exact W31 ls _
    have hE:Hid (D3 (ls.take j).flatten++D3 (ls[j]'b)=D3 (ls.take (j+1)).flatten):=by
     rw [Y2u ls j _ (T01 b),T7];exact A5 rfl
    have z:=A5 f
    have b1:=A5 d
    clear a d t hq f a7 a1 a2
    go_wp2_with ((with_reducible show wpList _ _ _ (⟨some 33,_,_,_,_,_⟩::_) _ _);refine D6 rfl (.tmp 31) (.tmp 32) 52 rfl 3 i0 (.int .i64 0) 1 8 Tryz.underlying52 hi b5 b6 b7 rfl (by decide) _ _ (D3 (ls.take j).flatten) rfl x.out _ q (D3 (ls[j]'b)) rfl b1.out (S6 _) (L+q) rfl (by unfold maxLen;omega) (by omega) ?_;intro b3 a8 w4 h1;rw [hE.out] at h1;have b2:=A5 h1;clear h1)
    go_roundg (gk-1)
    case measure=>omega
    case rel=>exact ⟨j+1,L+q,b3,a8,by omega,by omega,by go_num,rfl,r,z,b2⟩
   have a6:¬(j:Int) < (n:Int):=by omega
   have hE:Hid (A4 w wr [B0 3 1 (.slice ao L m) s (D3 ls.flatten)]):=by
    have h:=x.out
    have y:=HJ.out
    rw [T0e (by have:=HL.out.2;omega)] at h y
    rw [HN.out]
    rw [y] at h⊢
    exact A5 h
   go_wp2
   go_ret
   exact ⟨_,rfl,hE.out⟩
end Go.Proofs.YtbkbkmgogbgofaaGreatDoor
