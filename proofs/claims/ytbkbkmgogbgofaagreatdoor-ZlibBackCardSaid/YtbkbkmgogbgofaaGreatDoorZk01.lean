/- The claim's texts, put together and shortened by a program (names, spaces). -/
import Derived.WalkKit
import Derived.Deep.RegionHeld3
import Derived.Deep.RegionLaw
import Derived.Maps.AppendAt
import Derived.Deep.Draws
import Derived.Deep.QuietTactic
import Derived.BigQuiet
import Derived.Deep.LoopGhost
import Derived.Outline
import Derived.OpenShut
open List renaming length_cons→T04,length_append→T07,take_succ_cons→T0b,eq_nil_of_length_eq_zero→T0c,append_nil→T0d,length_drop→T0e,cons_append→T0f,count_cons→T0g,getElem?_take→T0i,length_take→T0k,getElem?_eq_getElem→T0m,getElem?_eq_none→T0o,length_replicate→T0q,take_add_one→T0r,count_cons_self→T0t,count_cons_of_ne→T0u
open Nat renaming add_mul→T00,mul_comm→T01,le_refl→T02,pow_succ→T03,le_trans→T05,add_zero→T06,zero_add→T08,mul_le_mul_right→T09,zero_le→T0a,one_mul→T0h,div_div_eq_div_mul→T0n,pow_le_pow_right→T0p,one_le_two_pow→T0s
open Option renaming map_none→T0l
open Array renaming getElem?_setIfInBounds→T0j
namespace Go.Proofs.YtbkbkmgogbgofaaGreatDoor
set_option maxRecDepth 100000
set_option maxHeartbeats 6400000
open Go.RowKit
theorem A5 {p:Prop} (h:p):Hid p:=h
structure E5 (w w':World) (S:Nat→Prop):Prop where
 os:w'.os=w.os
 tape:w'.tape=w.tape
 output:w'.output=w.output
 size:w.heap.size≤w'.heap.size
 block:∀k,k < w.heap.size→¬S k→w'.heap[k]?=w.heap[k]?
theorem E5.refl (w:World) (S:Nat→Prop):E5 w w S:=⟨rfl,rfl,rfl,T02 _,fun _ _ _=>rfl⟩
theorem E5.mono {w w':World} {S T:Nat→Prop} (h:E5 w w' S) (hs:∀k,k < w.heap.size→S k→T k):E5 w w' T:=
 ⟨h.os,h.tape,h.output,h.size,fun k hk ht=>h.block k hk fun hS=>ht (hs k hk hS)⟩
theorem E5.trans {a b c:World} {S T:Nat→Prop} (h:E5 a b S) (h2:E5 b c T) (hs:∀k,k < a.heap.size→T k→S k):E5 a c S:=
 ⟨h2.os.trans h.os,h2.tape.trans h.tape,h2.output.trans h.output,T05 h.size h2.size,
  fun k hk hS=>(h2.block k (Nat.lt_of_lt_of_le hk h.size) fun ht=>hS (hs k hk ht)).trans (h.block k hk hS)⟩
theorem E5.same {a b c:World} {S:Nat→Prop} (h:E5 a b S) (h2:E5 b c S):E5 a c S:=h.trans h2 fun _ _ h=>h
theorem E5.alloc {a w:World} {S:Nat→Prop} (h:E5 a w S) (o:Obj):E5 a (w.alloc o) S:=
 h.trans (T:=fun _=>False) ⟨rfl,rfl,rfl,by simp,fun k hk _=>Below.heap_alloc _ _ _ hk⟩ (fun _ _ h=>h.elim)
theorem E5.setCell {a w:World} {S:Nat→Prop} (h:E5 a w S) {p:Addr} (hp:a.heap.size≤p.block∨S p.block) (u:Value):E5 a (w.setCell p u) S:=
 h.trans (T:=fun k=>k=p.block) ⟨rfl,rfl,rfl,by simp [World.setCell],fun k _ hne=>Below.heap_setCell _ _ _ _ hne⟩ (fun k hk e=>by subst e;exact hp.resolve_left (by omega))
theorem E5.drew {a w:World} {S:Nat→Prop} (h:E5 a w S):E5 a w.drew S:=⟨h.os,h.tape,h.output,h.size,h.block⟩
theorem E5.drewN {a w:World} {S:Nat→Prop} (h:E5 a w S) (n:Nat):E5 a (w.drewN n) S:=⟨h.os,h.tape,h.output,h.size,h.block⟩
theorem E5.grown {a w w':World} {S:Nat→Prop} {row:Option Nat} (h:E5 a w S) (hg:w.grownBy w' row) (hr:∀k,row=some k→a.heap.size≤k∨S k):E5 a w' S:=
 h.trans (T:=fun k=>row=some k) ⟨hg.os,hg.tape,hg.output,hg.size,fun k hk hne=>hg.block k hk fun e=>hne e.symm⟩
  (fun k hk e=>(hr k e).resolve_left (by omega))
theorem E5.below {w w':World} {S:Nat→Prop} (h:E5 w w' S) {B:Nat} (hB:B≤w.heap.size) (hs:∀k,k < B→¬S k):Below B w w':=
 ⟨h.os,h.tape,h.output,h.size,fun k hk=>h.block k (by omega) (hs k hk)⟩
theorem E5.of_below {w w':World} {B:Nat} (h:Below B w w'):E5 w w' (fun k=>B≤k):=⟨h.os,h.tape,h.output,h.size,fun k _ hS=>h.block k (by omega)⟩
theorem E5.cell {w w':World} {S:Nat→Prop} (h:E5 w w' S) {p:Addr} (hp:p.block < w.heap.size) (hs:¬S p.block):w'.cell? p=w.cell? p:=World.cell?_of_block (w:=w) (h.block p.block hp hs)
def X6 (w:World) (B:Nat) (cs:List Value) (T:TypeId):Prop:=w.heap[B]?=some (.cells cs.toArray T (0,0))
section
variable {w w':World} {B:Nat} {cs:List Value} {T:TypeId}
theorem X6.lt (h:X6 w B cs T):B < w.heap.size:=(Array.getElem?_eq_some_iff.1 h).1
theorem X6.cell (h:X6 w B cs T) {i:Nat} {v:Value} (hv:cs[i]?=some v):w.cell? ⟨B,i,none⟩=some v:=by
 rw [cell_of_row w B i _ T (0,0) h];simpa using hv
theorem X6.frozen (h:X6 w B cs T) (i:Nat):w.frozen? ⟨B,i,none⟩=false:=frozen_of_row w B i _ T h
theorem X6.set (h:X6 w B cs T) (i:Nat) (u:Value):X6 (w.setCell ⟨B,i,none⟩ u) B (cs.set i u) T:=by
 unfold X6
 rw [heap_setCell_same w B i _ T u h,List.setIfInBounds_toArray]
theorem X6.kept (h:X6 w B cs T) {S:Nat→Prop} (hm:E5 w w' S) (hs:¬S B):X6 w' B cs T:=(hm.block B h.lt hs).trans h
theorem X6.other (h:X6 w B cs T) {p:Addr} (hp:B≠p.block) (u:Value):X6 (w.setCell p u) B cs T:=(Below.heap_setCell w p u B hp).trans h
theorem X6.alloc (h:X6 w B cs T) (o:Obj):X6 (w.alloc o) B cs T:=(Below.heap_alloc w o B h.lt).trans h
theorem X6.grown (h:X6 w B cs T) {row:Option Nat} (hg:w.grownBy w' row) (hr:row≠some B):X6 w' B cs T:=(hg.block B h.lt fun e=>hr e.symm).trans h
theorem X6.drew (h:X6 w B cs T):X6 w.drew B cs T:=h
theorem X6.new (w:World) (cs:List Value) (T:TypeId):X6 (w.alloc (.cells cs.toArray T)) w.heap.size cs T:=heap_alloc_new w _
end
def Rd (w:World) (size:Nat) (v:Value) (n:Nat) (xs:List Value):Prop:=
 xs.length=n*size∧∃ao cap,v= .slice ao n cap∧n≤cap∧cap≤maxLen∧(ao=none→cap=0)∧
  (n=0∨∃b off,ao=some ⟨b,off,none⟩∧∀j u,xs[j]?=some u→w.cell? ⟨b,off+j,none⟩=some u)
def Own (w:World) (e:TypeId) (size:Nat) (v:Value) (n:Nat) (xs:List Value):Prop:=
 xs.length=n*size∧((v= .slice none 0 0∧n=0)∨
  ∃g off cap cur,v= .slice (some ⟨g,off,none⟩) n cap∧w.heap[g]?=some (.cells cur e (0,0))∧n≤cap∧cap≤maxLen∧off+cap*size≤cur.size∧
   ∀j u,xs[j]?=some u→cur[off+j]?=some u)
section
variable {w w':World} {e:TypeId} {size:Nat} {v:Value} {n:Nat} {xs:List Value}
theorem Own.nil (w:World) (e:TypeId) (size:Nat):Own w e size (.slice none 0 0) 0 []:=⟨by simp,.inl ⟨rfl,rfl⟩⟩
theorem Own.of_row {base:Nat} (h:w.ownsRow base e size v n xs):Own w e size v n xs:=by
 refine ⟨h.1, ?_⟩
 rcases h.2 with h2 | ⟨g,cap,cur,hv,_,hg,hn,hc,hs,ht⟩
 ·exact .inl h2
 refine .inr ⟨g,0,cap,cur,hv,hg,hn,hc,by omega,fun j u hu=> ?_⟩
 rw [←ht,T0i] at hu
 split at hu
 ·simpa using hu
 cases hu
theorem Own.lt (h:Own w e size v n xs):∀k,v.ownBlock=some k→k < w.heap.size:=by
 intro k a
 rcases h.2 with ⟨rfl,_⟩ | ⟨g,off,cap,cur,rfl,hg,_⟩
 ·simp [Value.ownBlock] at a
 simp [Value.ownBlock] at a
 subst a
 exact (Array.getElem?_eq_some_iff.1 hg).1
theorem Own.kept (h:Own w e size v n xs) {S:Nat→Prop} (hm:E5 w w' S) (hs:∀k,v.ownBlock=some k→¬S k):Own w' e size v n xs:=by
 refine ⟨h.1, ?_⟩
 rcases h.2 with h2 | ⟨g,off,cap,cur,rfl,hg,rest⟩
 ·exact .inl h2
 exact .inr ⟨g,off,cap,cur,rfl,by rw [hm.block g (Array.getElem?_eq_some_iff.1 hg).1 (hs g rfl)];exact hg,rest⟩
theorem Own.alloc (h:Own w e size v n xs) (o:Obj):Own (w.alloc o) e size v n xs:=h.kept ((E5.refl w (fun _=>False)).alloc o) (fun _ _ h=>h)
theorem Own.drew (h:Own w e size v n xs):Own w.drew e size v n xs:=h
theorem Own.rd (h:Own w e size v n xs):Rd w size v n xs:=by
 refine ⟨h.1, ?_⟩
 rcases h.2 with ⟨rfl,rfl⟩ | ⟨g,off,cap,cur,rfl,hg,hn,hc,hs,ht⟩
 ·exact ⟨none,0,rfl,T02 _,T0a _,fun _=>rfl,.inl rfl⟩
 exact ⟨_,cap,rfl,hn,hc,(fun h=>by cases h),.inr ⟨g,off,rfl,fun j u hu=>by rw [cell_of_row w g _ cur e (0,0) hg];exact ht j u hu⟩⟩
theorem Own.form (h:Own w e size v n xs):∃ao cap,v= .slice ao n cap∧n≤cap∧cap≤maxLen:=by
 rcases h.2 with ⟨rfl,rfl⟩ | ⟨g,off,cap,cur,rfl,hg,hn,hc,_⟩
 ·exact ⟨_,_,rfl,T02 _,T0a _⟩
 exact ⟨_,_,rfl,hn,hc⟩
theorem Own.lit (w:World) (cs:List Value) (n:Nat) (hm:n≤maxLen) (hs:cs.length=n*size):
  Own (w.alloc (.cells cs.toArray e)) e size (.slice (some ⟨w.heap.size,0,none⟩) n n) n cs:=
 ⟨hs,.inr ⟨w.heap.size,0,n,_,rfl,heap_alloc_new w _,T02 _,hm,by simp [hs],fun j u hu=>by simpa using hu⟩⟩
end
section
variable {w w':World} {size:Nat} {v:Value} {n:Nat} {xs:List Value}
theorem Rd.kept (h:Rd w size v n xs) {S:Nat→Prop} (hm:E5 w w' S) (hs:∀k,v.ownBlock=some k→¬S k):Rd w' size v n xs:=by
 obtain ⟨g,i,d,rfl,l,m,o,a⟩:=h
 refine ⟨g,i,d,rfl,l,m,o, ?_⟩
 rcases a with a | ⟨b,off,rfl,a⟩
 ·exact .inl a
 exact .inr ⟨b,off,rfl,fun j u hu=>by
  have f:=a j u hu
  rw [hm.cell (World.block_lt_of_cell? w _ f) (hs b rfl)];exact f⟩
theorem Rd.nil (w:World) (size:Nat):Rd w size (.slice none 0 0) 0 []:=⟨by simp,none,0,rfl,T02 _,T0a _,fun _=>rfl,.inl rfl⟩
end
theorem Z97 (b:Nat) (e:TypeId):∀ (vs:List Value) (o:Nat) (w:World) (cur:Array Value),w.heap[b]?=some (.cells cur e (0,0))→
  ∃cur',(w.setCells b o vs).heap[b]?=some (.cells cur' e (0,0))∧cur'.size=cur.size∧(∀i,i < o→cur'[i]?=cur[i]?)∧(o+vs.length≤cur.size→∀j u,vs[j]?=some u→cur'[o+j]?=some u)
 | [],o,w,cur,h=>⟨cur,h,rfl,fun _ _=>rfl,fun _ j u hu=>by simp at hu⟩
 | v::r,o,w,cur,h=>by
  obtain ⟨cur',h1,h2,h3,h4⟩:=Z97 b e r (o+1) (w.setCell ⟨b,o,none⟩ v) (cur.setIfInBounds o v) (heap_setCell_same w b o cur e v h)
  refine ⟨cur',h1,by simpa using h2,fun i hi=> ?_,fun hl j u hu=> ?_⟩
  ·rw [h3 i (by omega),T0j,if_neg (by omega)]
  simp only [T04] at hl
  match j,hu with
  | 0,hu=>
   simp only [List.getElem?_cons_zero,Option.some.injEq] at hu
   subst hu
   rw [T06,h3 o (by omega),T0j,if_pos rfl,if_pos (by omega)]
  | j+1,hu=>
   rw [show o+(j+1)=o+1+j by omega]
   exact h4 (by simpa using (by omega)) j u (by simpa using hu)
theorem Y3p (w:World) (b:Nat):∀ (vs:List Value) (o:Nat),w.grownBy (w.setCells b o vs) (some b):=by
 intro vs
 induction vs generalizing w with
 | nil=>intro o;exact World.grownBy.refl _ _
 | cons v r ih=>
  intro o
  have a:=ih (w.setCell ⟨b,o,none⟩ v) (o+1)
  refine ⟨a.os,a.tape,a.output,T05 (by simp [World.setCell]) a.size,fun k hk hne=> ?_⟩
  rw [World.setCells,a.block k (by simpa [World.setCell] using hk) hne]
  exact Below.heap_setCell _ _ _ _ (fun e=>hne (by rw [e]))
section
variable {P:Program} (w:World)
theorem V4j (t ty e:TypeId) (i:TypeInfo) (z:Value) (size bytes:Nat) (ht:P.underlying t=some (.slice e)) (hi:P.info? e=some i) (hz:i.zero=some z)
  (hsize:i.size=size) (hby:i.bytes=bytes) (hzs:z.cells.size=size) (hsz:0 < size)
  (v:Value) (n:Nat) (xs:List Value) (hown:Own w e size v n xs)
  (x:Value) (m:Nat) (news:List Value) (hsrc:Rd w size x m news) (h1:∀u∈news,u.oneCell'=true)
  (h63:n+m≤maxLen) (hbytes:(n+m)*bytes≤140737488355328):
  ∃ao cap w',(Builtin.append_ #[t,t] ty #[v,x]).run P w= .ok (.slice ao (n+m) cap) w'∧Own w' e size (.slice ao (n+m) cap) (n+m) (xs++news)∧w.grownBy w' v.ownBlock∧
   (Value.ownBlock (.slice ao (n+m) cap)=v.ownBlock∨Value.ownBlock (.slice ao (n+m) cap)=some w.heap.size):=by
 subst hsize
 subst hby
 obtain ⟨y,xo,c,rfl,b3,b0,a7,hsrc⟩:=hsrc
 have a3:n+m≤9223372036854775807:=by simp only [maxLen] at h63;omega
 have q:(xs++news).length=(n+m)*i.size:=by rw [T07,hown.1,y,T00]
 by_cases hm:m=0
 ·subst hm
  obtain rfl:news=[]:=T0c (by simpa using y)
  obtain ⟨ao,cap,hv,s,p⟩:=hown.form
  refine ⟨ao,cap,w, ?_, ?_,World.grownBy.refl _ _,.inl (by rw [hv];rfl)⟩
  ·subst hv
   cases xo with
   | none=>
    obtain rfl:c=0:=a7 rfl
    cases ao with
    | none=>
     rcases hown.2 with ⟨h,_⟩ | ⟨_,_,_,_,h,_⟩
     ·simp only [Value.slice.injEq,true_and] at h
      obtain ⟨rfl,rfl⟩:=h
      simp [Builtin.append_,run_underlying ht,sizeOf,typeInfo,hi,Builtin.lenOf,Builtin.firstCells]
     simp at h
    | some a=>simp [Builtin.append_,run_underlying ht,sizeOf,typeInfo,hi,Builtin.lenOf,Builtin.firstCells,s,storeCells]
   | some xa=>
    cases ao with
    | none=>
     rcases hown.2 with ⟨h,_⟩ | ⟨_,_,_,_,h,_⟩
     ·simp only [Value.slice.injEq,true_and] at h
      obtain ⟨rfl,rfl⟩:=h
      simp [Builtin.append_,run_underlying ht,sizeOf,typeInfo,hi,Builtin.lenOf,Builtin.firstCells,loadCells,loadCellsFrom]
     simp at h
    | some a=>simp [Builtin.append_,run_underlying ht,sizeOf,typeInfo,hi,Builtin.lenOf,Builtin.firstCells,loadCells,loadCellsFrom,s,storeCells]
  rw [T06,T0d,←hv];exact hown
 rcases hsrc with h0 | ⟨xb,xoff,rfl,hnews'⟩
 ·exact absurd h0 hm
 have d:∀j u,news[j]?=some u→w.cell? ((⟨xb,xoff,none⟩:Addr).add j)=some u:=fun j u hu=>by rw [Addr.add_lit];exact hnews' j u hu
 have o:∀ (b:Nat),b < n+m→∀ (a1:Option Nat),
   Own (w.drew.alloc (.cells (xs.toArray++news.toArray++Builtin.zeroCells z.cells (grownCap w (n+m) b e- (n+m))) e)) e i.size
    (.slice (some ⟨w.heap.size,0,none⟩) (n+m) (grownCap w (n+m) b e)) (n+m) (xs++news)∧
   w.grownBy (w.drew.alloc (.cells (xs.toArray++news.toArray++Builtin.zeroCells z.cells (grownCap w (n+m) b e- (n+m))) e)) a1:=by
  intro b ho a1
  have a5:=grownCap_ge w (n+m) b e
  have p:grownCap w (n+m) b e≤maxLen:=grownCap_le_maxLen w (n+m) b e h63
  refine ⟨⟨q,.inr ⟨w.heap.size,0,_,_,rfl,heap_alloc_new w.drew _,a5,p, ?_,fun j u hu=> ?_⟩⟩,⟨rfl,rfl,rfl,by simp,fun k hk _=>Below.heap_alloc w.drew _ k hk⟩⟩
  ·simp only [Array.size_append,List.size_toArray,size_zeroCells,hzs,hown.1,y,←T00]
   have:n+m+(grownCap w (n+m) b e- (n+m))=grownCap w (n+m) b e:=by omega
   rw [this];omega
  have hj:j < (xs++news).length:=(List.getElem?_eq_some_iff.1 hu).1
  rw [T08,Array.getElem?_append_left (by simpa using hj),←hu]
  simp
 rcases hown.2 with ⟨rfl,rfl⟩ | ⟨g,off,cap,cur,rfl,hg,s,p,hcs,hcur⟩
 ·obtain rfl:xs=[]:=T0c (by simpa using hown.1)
  have hr:=run_append_nil (P:=P) w t ty e i z ht hi hz ⟨xb,xoff,none⟩ m c news y d (by omega) (by omega) (by have hb:=hbytes;simp only [T08] at hb;omega)
  have l:=o 0 (by omega) (Value.ownBlock (.slice none 0 0))
  simp only [T08,List.nil_append,Array.empty_append] at l⊢
  exact ⟨_,_,_,hr,l.1,l.2,.inr rfl⟩
 by_cases f:n+m≤cap
 ·have a6:(n+m)*i.size≤cap*i.size:=T09 _ f
  rw [T00] at a6
  have hr:=run_append_room_cells (P:=P) w t ty e i ht hi g off n cap ⟨xb,xoff,none⟩ m c news y d h1 f
   (fun j hj=>by
    rw [cell_of_row w g _ cur e (0,0) hg,Array.getElem?_eq_getElem (by omega)];rfl)
   (fun j _=>frozen_of_row w g _ cur e hg)
  obtain ⟨a2,k1,k2,k3,k4⟩:=Z97 g e news (off+n*i.size) w cur hg
  refine ⟨_,_,_,hr,⟨q,.inr ⟨g,off,cap,a2,rfl,k1,f,p,by omega,fun j u hu=> ?_⟩⟩,Y3p w g news _,.inl rfl⟩
  by_cases hj:j < xs.length
  ·rw [List.getElem?_append_left hj] at hu
   rw [k3 _ (by have:=hown.1;omega)]
   exact hcur j u hu
  rw [List.getElem?_append_right (by omega)] at hu
  have:=k4 (by omega) (j-xs.length) u hu
  rw [hown.1] at this
  rwa [show off+n*i.size+(j-n*i.size)=off+j by have:=hown.1;omega] at this
 have r:∀j u,xs[j]?=some u→w.cell? ((⟨g,off,none⟩:Addr).add j)=some u:=fun j u hu=>by
  rw [Addr.add_lit,cell_of_row w g _ cur e (0,0) hg];exact hcur j u hu
 have hr:=run_append_grow (P:=P) w t ty e i z ht hi hz ⟨g,off,none⟩ n cap xs hown.1 r ⟨xb,xoff,none⟩ m c news y d (by omega) (by omega) (growslice_fits (by omega) hbytes)
 have l:=o cap (by omega) (Value.ownBlock (.slice (some ⟨g,off,none⟩) n cap))
 exact ⟨_,_,_,hr,l.1,l.2,.inr rfl⟩
theorem W7i {o:Oper} {a:Act} {K:Act→World→Prop} {Q:Exit→Act→World→Prop} (s x:Operand) (t:TypeId)
  (ho:o.op= .call {callee:= .builtin .append,args:=#[s,x],argTypes:=#[t,t]})
  (e:TypeId) (i:TypeInfo) (z:Value) (size bytes:Nat) (ht:P.underlying t=some (.slice e)) (hi:P.info? e=some i) (hz:i.zero=some z)
  (hsize:i.size=size) (hby:i.bytes=bytes) (hzs:z.cells.size=size) (hsz:0 < size)
  (v:Value) (n:Nat) (xs:List Value) (hs:a.eval s=v) (hown:Own w e size v n xs)
  (y:Value) (m:Nat) (news:List Value) (hx:a.eval x=y) (hsrc:Rd w size y m news) (h1:∀u∈news,u.oneCell'=true)
  (h63:n+m≤maxLen) (hbytes:(n+m)*bytes≤140737488355328)
  (h:∀ao cap w',Own w' e size (.slice ao (n+m) cap) (n+m) (xs++news)→w.grownBy w' v.ownBlock→
   (Value.ownBlock (.slice ao (n+m) cap)=v.ownBlock∨Value.ownBlock (.slice ao (n+m) cap)=some w.heap.size)→K (a.put o.dst (.slice ao (n+m) cap)) w'):o.wp P a w K Q:=by
 obtain ⟨ao,cap,w',b,d,f,g⟩:=V4j (P:=P) w t o.type e i z size bytes ht hi hz hsize hby hzs hsz v n xs hown y m news hsrc h1 h63 hbytes
 unfold Oper.wp execOp
 simp only [ho,resolve,invoke,builtin,Sem.run_bind,Sem.run_pure,Result.andThen_ok,List.map_toArray,List.map_cons,List.map_nil,hs,hx,b]
 exact h ao cap w' d f g
theorem Z4c {ops:Array Oper} {rest:List Oper} {o:Oper} {a:Act} {Q:Exit→Act→World→Prop} (hgd:o.guard=none) (s x:Operand) (t:TypeId)
  (ho:o.op= .call {callee:= .builtin .append,args:=#[s,x],argTypes:=#[t,t]})
  (e:TypeId) (i:TypeInfo) (z:Value) (size bytes:Nat) (ht:P.underlying t=some (.slice e)) (hi:P.info? e=some i) (hz:i.zero=some z)
  (hsize:i.size=size) (hby:i.bytes=bytes) (hzs:z.cells.size=size) (hsz:0 < size)
  (v:Value) (n:Nat) (xs:List Value) (hs:a.eval s=v) (hown:Own w e size v n xs)
  (y:Value) (m:Nat) (news:List Value) (hx:a.eval x=y) (hsrc:Rd w size y m news) (h1:∀u∈news,u.oneCell'=true)
  (h63:n+m≤maxLen) (hbytes:(n+m)*bytes≤140737488355328)
  (h:∀ao cap w',Own w' e size (.slice ao (n+m) cap) (n+m) (xs++news)→w.grownBy w' v.ownBlock→
   (Value.ownBlock (.slice ao (n+m) cap)=v.ownBlock∨Value.ownBlock (.slice ao (n+m) cap)=some w.heap.size)→wpList P ops Q rest (a.put o.dst (.slice ao (n+m) cap)) w'):wpList P ops Q (o::rest) a w:=
 wpList_plain hgd fun _ hK=>W7i w s x t ho e i z size bytes ht hi hz hsize hby hzs hsz v n xs hs hown y m news hx hsrc h1 h63 hbytes fun ao cap w' h2 h3 h4=>hK _ _ (h ao cap w' h2 h3 h4)
theorem Z3e {ops:Array Oper} {o:Oper} {a:Act} {K:Act→World→Prop} {Q:Exit→Act→World→Prop} {E:Prop} (hgd:o.guard=none) (s x:Operand) (t:TypeId)
  (ho:o.op= .call {callee:= .builtin .append,args:=#[s,x],argTypes:=#[t,t]})
  (e:TypeId) (i:TypeInfo) (z:Value) (size bytes:Nat) (ht:P.underlying t=some (.slice e)) (hi:P.info? e=some i) (hz:i.zero=some z)
  (hsize:i.size=size) (hby:i.bytes=bytes) (hzs:z.cells.size=size) (hsz:0 < size)
  (v:Value) (n:Nat) (xs:List Value) (hs:a.eval s=v) (hown:Own w e size v n xs)
  (y:Value) (m:Nat) (news:List Value) (hx:a.eval x=y) (hsrc:Rd w size y m news) (h1:∀u∈news,u.oneCell'=true)
  (h63:n+m≤maxLen) (hbytes:(n+m)*bytes≤140737488355328)
  (h:∀ao cap w',Own w' e size (.slice ao (n+m) cap) (n+m) (xs++news)→w.grownBy w' v.ownBlock→
   (Value.ownBlock (.slice ao (n+m) cap)=v.ownBlock∨Value.ownBlock (.slice ao (n+m) cap)=some w.heap.size)→K (a.put o.dst (.slice ao (n+m) cap)) w'):
  if Region.wanted o (yielded ops a.tmps)=true then Oper.wp P o a w K Q else E:=by
 have b:Region.wanted o (yielded ops a.tmps)=true:=by simp [Region.wanted,hgd]
 rw [if_pos b]
 exact W7i w s x t ho e i z size bytes ht hi hz hsize hby hzs hsz v n xs hs hown y m news hx hsrc h1 h63 hbytes h
end
theorem Rd.lit (w:World) (cs:List Value) (e:TypeId) (size n:Nat) (hm:n≤maxLen) (hs:cs.length=n*size):
  Rd (w.alloc (.cells cs.toArray e)) size (.slice (some ⟨w.heap.size,0,none⟩) n n) n cs:=(Own.lit (e:=e) w cs n hm hs).rd
theorem Rd.drew {w:World} {size:Nat} {v:Value} {n:Nat} {xs:List Value} (h:Rd w size v n xs):Rd w.drew size v n xs:=h
def Bnd (o:Option Value) (dflt n:Nat):Prop:=match o with
 | none=>n=dflt
 | some v=>∃k,v= .int k (n:Int)
section
variable {P:Program} {w:World}
theorem O0 (t e:TypeId) (i:TypeInfo) (size:Nat) (ht:P.underlying t=some (.slice e)) (hi:P.info? e=some i) (hs:i.size=size)
  (a:Option Addr) (len cap L H:Nat) (lo hh:Option Value) (hlo:Bnd lo 0 L) (hhi:Bnd hh len H) (h1:L≤H) (h2:H≤cap):
  (Instr.sliceAt t (.slice a len cap) lo hh none).run P w= .ok (sliced a L H cap size) w:=by
 have f:P.elem t=e:=by simp [Program.elem,ht]
 have b:P.underlying t=some (.slice (P.elem t)):=by rw [f];exact ht
 have d:(sizeOf (P.elem t)).run P w= .ok size w:=by rw [f];simp [sizeOf,typeInfo,hi,hs]
 rw [run_sliceAt_slice w t _ _ _ _ b]
 cases lo with
 | none=>
  obtain rfl:L=0:=hlo
  cases hh with
  | none=>
   obtain rfl:H=len:=hhi
   rw [run_slice_all w t a H cap b,d];rfl
  | some v=>
   obtain ⟨k,rfl⟩:=hhi
   rw [run_slice_h w t a len cap b k H (by omega) (by omega),d];simp [Result.andThen]
 | some v=>
  obtain ⟨k,rfl⟩:=hlo
  cases hh with
  | none=>
   obtain rfl:H=len:=hhi
   rw [run_slice_l w t a H cap b k L (by omega) (by omega),d];simp [Result.andThen]
  | some v=>
   obtain ⟨g,rfl⟩:=hhi
   rw [run_slice_lh w t a len cap b k g L H (by omega) (by omega) (by omega),d];simp [Result.andThen]
theorem W2j {xs:List Value} {o n j:Nat} {u:Value} (h:((xs.drop o).take n)[j]?=some u):xs[o+j]?=some u:=by
 rw [T0i] at h
 split at h
 ·rwa [List.getElem?_drop] at h
 cases h
theorem W13 {xs:List Value} {size n L H:Nat} (h:xs.length=n*size) (h1:L≤H) (h2:H≤n):((xs.drop (L*size)).take ((H-L)*size)).length=(H-L)*size:=by
 have a:H*size≤n*size:=T09 _ h2
 have b:L*size≤H*size:=T09 _ h1
 rw [T0k,T0e,h,Nat.sub_mul]
 omega
theorem Own.cut {e:TypeId} {size n cap L H:Nat} {a:Option Addr} {xs:List Value} (h:Own w e size (.slice a n cap) n xs) (h1:L≤H) (h2:H≤n):
  Own w e size (sliced a L H cap size) (H-L) ((xs.drop (L*size)).take ((H-L)*size)):=by
 refine ⟨W13 h.1 h1 h2, ?_⟩
 rcases h.2 with ⟨hv,h0⟩ | ⟨g,off,cap',cur,hv,hg,hn,hc,hsz,hcur⟩
 ·simp only [Value.slice.injEq] at hv
  obtain ⟨rfl,_,rfl⟩:=hv
  obtain rfl:L=0:=by omega
  exact .inl ⟨by simp [sliced];omega,by omega⟩
 simp only [Value.slice.injEq,true_and] at hv
 obtain ⟨rfl,rfl⟩:=hv
 right
 by_cases b:cap=L
 ·subst b
  obtain rfl:H=cap:=by omega
  refine ⟨g,off,0,cur,by simp [sliced],hg,by omega,by omega,by omega,fun j u hu=> ?_⟩
  simp at hu
 refine ⟨g,off+L*size,cap-L,cur,by simp [sliced,b,Addr.add_lit],hg,by omega,by omega, ?_,fun j u hu=> ?_⟩
 ·have:L*size+(cap-L)*size=cap*size:=by rw [←T00];congr 1;omega
  omega
 rw [Nat.add_assoc];exact hcur _ u (W2j hu)
theorem Rd.cut {size n cap L H:Nat} {a:Option Addr} {xs:List Value} (h:Rd w size (.slice a n cap) n xs) (h1:L≤H) (h2:H≤n):
  Rd w size (sliced a L H cap size) (H-L) ((xs.drop (L*size)).take ((H-L)*size)):=by
 obtain ⟨k,m,g,i,o,p,l,d⟩:=h
 simp only [Value.slice.injEq,true_and] at i
 obtain ⟨rfl,rfl⟩:=i
 refine ⟨W13 k h1 h2,_,_,rfl,by omega,by omega, ?_, ?_⟩
 ·split
  ·intro;omega
  intro h;cases a with
  | none=>have:=l rfl;omega
  | some x=>simp at h
 by_cases f:cap=L
 ·left;omega
 rcases d with d | ⟨b,off,rfl,d⟩
 ·left;omega
 right
 refine ⟨b,off+L*size,by rw [if_neg f];simp [Addr.add_lit],fun j u hu=> ?_⟩
 rw [Nat.add_assoc];exact d _ u (W2j hu)
theorem Z3u (a:Option Addr) (L H cap size:Nat) (n:Nat):Value.ownBlock (sliced a L H cap size)=Value.ownBlock (.slice a n cap):=by
 unfold sliced
 split
 ·cases a <;> rfl
 cases a with
 | none=>rfl
 | some x=>simp only [Option.map_some,Value.ownBlock,Addr.add];split <;> rfl
theorem X9e {o:Oper} {ac:Act} {K:Act→World→Prop} {Q:Exit→Act→World→Prop} (t:TypeId) (x:Operand) (lo hh:Option Operand)
  (ho:o.op= .slice t x lo hh none) (e:TypeId) (i:TypeInfo) (size:Nat) (ht:P.underlying t=some (.slice e)) (hi:P.info? e=some i) (hs:i.size=size)
  (a:Option Addr) (n cap L H:Nat) (xs:List Value) (hx:ac.eval x= .slice a n cap) (hown:Own w e size (.slice a n cap) n xs)
  (hlo:Bnd (lo.map ac.eval) 0 L) (hhi:Bnd (hh.map ac.eval) n H) (h1:L≤H) (h2:H≤n)
  (h:∀a',Own w e size (.slice a' (H-L) (cap-L)) (H-L) ((xs.drop (L*size)).take ((H-L)*size))→Value.ownBlock (.slice a' (H-L) (cap-L))=Value.ownBlock (.slice a n cap)→
   K (ac.put o.dst (.slice a' (H-L) (cap-L))) w):o.wp P ac w K Q:=by
 obtain ⟨j,b,d,k,l⟩:=hown.form
 simp only [Value.slice.injEq,true_and] at d
 obtain ⟨rfl,rfl⟩:=d
 have f:=O0 (P:=P) (w:=w) t e i size ht hi hs a n cap L H _ _ hlo hhi h1 (by omega)
 have g:=h (if cap=L then a else a.map fun (x:Addr)=>x.add (L*size)) (hown.cut h1 h2) (Z3u a L H cap size n)
 unfold Oper.wp execOp
 simp only [ho,hx,Sem.run_bind,Sem.run_pure,T0l,f,Result.andThen_ok]
 exact g
theorem Z7q {ops:Array Oper} {rest:List Oper} {o:Oper} {ac:Act} {Q:Exit→Act→World→Prop} (hgd:o.guard=none) (t:TypeId) (x:Operand) (lo hh:Option Operand)
  (ho:o.op= .slice t x lo hh none) (e:TypeId) (i:TypeInfo) (size:Nat) (ht:P.underlying t=some (.slice e)) (hi:P.info? e=some i) (hs:i.size=size)
  (a:Option Addr) (n cap L H:Nat) (xs:List Value) (hx:ac.eval x= .slice a n cap) (hown:Own w e size (.slice a n cap) n xs)
  (hlo:Bnd (lo.map ac.eval) 0 L) (hhi:Bnd (hh.map ac.eval) n H) (h1:L≤H) (h2:H≤n)
  (h:∀a',Own w e size (.slice a' (H-L) (cap-L)) (H-L) ((xs.drop (L*size)).take ((H-L)*size))→Value.ownBlock (.slice a' (H-L) (cap-L))=Value.ownBlock (.slice a n cap)→
   wpList P ops Q rest (ac.put o.dst (.slice a' (H-L) (cap-L))) w):wpList P ops Q (o::rest) ac w:=
 wpList_plain hgd fun _ hK=>X9e t x lo hh ho e i size ht hi hs a n cap L H xs hx hown hlo hhi h1 h2 fun a' p q=>hK _ _ (h a' p q)
theorem W6c {o:Oper} {ac:Act} {K:Act→World→Prop} {Q:Exit→Act→World→Prop} (t:TypeId) (x:Operand) (lo hh:Option Operand)
  (ho:o.op= .slice t x lo hh none) (e:TypeId) (i:TypeInfo) (size:Nat) (ht:P.underlying t=some (.slice e)) (hi:P.info? e=some i) (hs:i.size=size)
  (a:Option Addr) (n cap L H:Nat) (xs:List Value) (hx:ac.eval x= .slice a n cap) (hrd:Rd w size (.slice a n cap) n xs)
  (hlo:Bnd (lo.map ac.eval) 0 L) (hhi:Bnd (hh.map ac.eval) n H) (h1:L≤H) (h2:H≤n)
  (h:∀a',Rd w size (.slice a' (H-L) (cap-L)) (H-L) ((xs.drop (L*size)).take ((H-L)*size))→Value.ownBlock (.slice a' (H-L) (cap-L))=Value.ownBlock (.slice a n cap)→
   K (ac.put o.dst (.slice a' (H-L) (cap-L))) w):o.wp P ac w K Q:=by
 have b:n≤cap:=by
  obtain ⟨_,k,d,f,b,_⟩:=hrd
  simp only [Value.slice.injEq,true_and] at f
  obtain ⟨rfl,rfl⟩:=f
  exact b
 have g:=O0 (P:=P) (w:=w) t e i size ht hi hs a n cap L H _ _ hlo hhi h1 (by omega)
 have j:=h (if cap=L then a else a.map fun (x:Addr)=>x.add (L*size)) (hrd.cut h1 h2) (Z3u a L H cap size n)
 unfold Oper.wp execOp
 simp only [ho,hx,Sem.run_bind,Sem.run_pure,T0l,g,Result.andThen_ok]
 exact j
theorem Z5j {ops:Array Oper} {rest:List Oper} {o:Oper} {ac:Act} {Q:Exit→Act→World→Prop} (hgd:o.guard=none) (t:TypeId) (x:Operand) (lo hh:Option Operand)
  (ho:o.op= .slice t x lo hh none) (e:TypeId) (i:TypeInfo) (size:Nat) (ht:P.underlying t=some (.slice e)) (hi:P.info? e=some i) (hs:i.size=size)
  (a:Option Addr) (n cap L H:Nat) (xs:List Value) (hx:ac.eval x= .slice a n cap) (hrd:Rd w size (.slice a n cap) n xs)
  (hlo:Bnd (lo.map ac.eval) 0 L) (hhi:Bnd (hh.map ac.eval) n H) (h1:L≤H) (h2:H≤n)
  (h:∀a',Rd w size (.slice a' (H-L) (cap-L)) (H-L) ((xs.drop (L*size)).take ((H-L)*size))→Value.ownBlock (.slice a' (H-L) (cap-L))=Value.ownBlock (.slice a n cap)→
   wpList P ops Q rest (ac.put o.dst (.slice a' (H-L) (cap-L))) w):wpList P ops Q (o::rest) ac w:=
 wpList_plain hgd fun _ hK=>W6c t x lo hh ho e i size ht hi hs a n cap L H xs hx hrd hlo hhi h1 h2 fun a' p q=>hK _ _ (h a' p q)
end
theorem Rd.form {w:World} {size:Nat} {v:Value} {n:Nat} {xs:List Value} (h:Rd w size v n xs):∃ao cap,v= .slice ao n cap∧n≤cap∧cap≤maxLen:=by
 obtain ⟨_,ao,cap,a,b,d,_⟩:=h
 exact ⟨ao,cap,a,b,d⟩
theorem Rd.spot {w:World} {size:Nat} {ao:Option Addr} {cap n:Nat} {xs:List Value} (h:Rd w size (.slice ao n cap) n xs) (hn:0 < n):
  ∃b off,ao=some ⟨b,off,none⟩∧∀j u,xs[j]?=some u→w.cell? ⟨b,off+j,none⟩=some u:=by
 obtain ⟨_,g,a,d,_,_,_,f | f⟩:=h
 ·omega
 simp only [Value.slice.injEq,true_and] at d
 obtain ⟨rfl,rfl⟩:=d
 exact f
theorem W4t {w wr w1:World} {v v':Value} {o:Obj} (hM:E5 w wr (fun _=>False)) (hfr:∀k,v.ownBlock=some k→w.heap.size≤k) (hgrow:(wr.alloc o).grownBy w1 v.ownBlock)
  (hat:v'.ownBlock=v.ownBlock∨v'.ownBlock=some (wr.alloc o).heap.size):E5 w w1 (fun _=>False)∧∀k,v'.ownBlock=some k→w.heap.size≤k:=by
 refine ⟨(hM.alloc o).grown hgrow fun k hk=> .inl (hfr k hk),fun k hk=> ?_⟩
 rcases hat with h | h
 ·exact hfr k (h ▸ hk)
 have a:(wr.alloc o).heap.size=wr.heap.size+1:=by show (wr.heap.push o).size=_;simp
 rw [h,a] at hk;injection hk with hk
 have:=hM.size;omega
theorem E5.toBelow {w w':World} (h:E5 w w' (fun _=>False)):Below w.heap.size w w':=h.below (T02 _) (fun _ _ h=>h)
theorem Rd.kept0 {w w':World} {size:Nat} {v:Value} {n:Nat} {xs:List Value} (h:Rd w size v n xs) {S:Nat→Prop} (hm:E5 w w' S) (hs:0 < n→∀k,v.ownBlock=some k→¬S k):Rd w' size v n xs:=by
 by_cases b:0 < n
 ·exact h.kept hm (hs b)
 obtain ⟨d,f,a,g,i,j,l,_⟩:=h
 exact ⟨d,f,a,g,i,j,l,.inl (by omega)⟩
theorem Rd.lt {w:World} {size:Nat} {v:Value} {n:Nat} {xs:List Value} (h:Rd w size v n xs) (hs:0 < size) (hn:0 < n):∀k,v.ownBlock=some k→k < w.heap.size:=by
 obtain ⟨f,l,g,rfl,_,_,_,m | ⟨b,i,rfl,j⟩⟩:=h
 ·omega
 intro k a
 simp only [Value.ownBlock,Option.some.injEq] at a
 subst a
 have d:0 < xs.length:=by rw [f];exact Nat.mul_pos hn hs
 exact World.block_lt_of_cell? w _ (j 0 _ (T0m d))
theorem Y3z {P:Program} {wr:World} {x:Value} {ops:Array Oper} {rest:List Oper} {o:Oper} {a:Act} {Q:Exit→Act→World→Prop} (hgd:o.guard=none) (s y:Operand) (t:TypeId)
  (ho:o.op= .call {callee:= .builtin .append,args:=#[s,y],argTypes:=#[t,t]})
  (e:TypeId) (i:TypeInfo) (z:Value) (bytes:Nat) (ht:P.underlying t=some (.slice e)) (hi:P.info? e=some i) (hz:i.zero=some z)
  (hsize:i.size=1) (hby:i.bytes=bytes) (hzs:z.cells.size=1)
  (v:Value) (n:Nat) (xs:List Value) (hs:a.eval s=v) (hown:Own wr e 1 v n xs)
  (hx:a.eval y= .slice (some ⟨wr.heap.size,0,none⟩) 1 1) (h1:x.oneCell'=true)
  (h63:n+1≤maxLen) (hbytes:(n+1)*bytes≤140737488355328)
  (h:∀ao cap w',Own w' e 1 (.slice ao (n+1) cap) (n+1) (xs++[x])→(wr.alloc (.cells #[x] e)).grownBy w' v.ownBlock→
   (Value.ownBlock (.slice ao (n+1) cap)=v.ownBlock∨Value.ownBlock (.slice ao (n+1) cap)=some (wr.alloc (.cells #[x] e)).heap.size)→wpList P ops Q rest (a.put o.dst (.slice ao (n+1) cap)) w'):wpList P ops Q (o::rest) a (wr.alloc (.cells #[x] e)):=
 Z4c _ hgd s y t ho e i z 1 bytes ht hi hz hsize hby hzs (by decide) v n xs hs (hown.alloc _) _ 1 [x] hx (Rd.lit wr [x] e 1 1 (by decide) rfl) (by simpa using h1) h63 hbytes h
def A9:Nat→Nat→List Nat
 | 0,_=>[]
 | n+1,v=>v%2::A9 n (v / 2)
def E4:List Nat→Nat
 | []=>0
 | b::l=>b+2*E4 l
def D7 (bs:List Nat):List Nat:=bs.flatMap (A9 8)
def isBits (l:List Nat):Prop:=∀b∈l,b≤1
theorem B5 (n v:Nat):(A9 n v).length=n:=by
 induction n generalizing v with
 | zero=>rfl
 | succ n ih=>simp [A9,ih]
theorem Z9u (n v i:Nat) (h:i < n):(A9 n v)[i]?=some (v / 2^i%2):=by
 induction n generalizing v i with
 | zero=>omega
 | succ n ih=>
  cases i with
  | zero=>simp [A9]
  | succ i=>
   simp only [A9,List.getElem?_cons_succ]
   rw [ih (v / 2) i (by omega),T0n,T03,T01 2]
theorem F5 (n v:Nat):isBits (A9 n v):=by
 induction n generalizing v with
 | zero=>intro b a;cases a
 | succ n ih=>
  intro b a
  simp only [A9,List.mem_cons] at a
  rcases a with rfl | a
  ·omega
  exact ih _ b a
theorem Z0m (a b v:Nat):A9 (a+b) v=A9 a v++A9 b (v / 2^a):=by
 induction a generalizing v with
 | zero=>simp [A9]
 | succ a ih=>
  rw [show a+1+b=a+b+1 by omega]
  simp only [A9,T0f]
  rw [ih,T0n,T03,T01 2]
theorem Z0r (n v:Nat):A9 n (v%2^n)=A9 n v:=by
 induction n generalizing v with
 | zero=>rfl
 | succ n ih=>
  simp only [A9]
  have a:v%2^(n+1)%2=v%2:=by
   rw [T03,T01,Nat.mod_mul_right_mod]
  have b:v%2^(n+1) / 2=v / 2%2^n:=by
   rw [T03,T01,Nat.mod_mul_right_div_self]
  rw [a,b,ih]
theorem Z52 (c n s v:Nat) (hs:s < 2^c):A9 (c+n) (s+2^c*v)=A9 c s++A9 n v:=by
 rw [Z0m]
 have a:(s+2^c*v) / 2^c=v:=by
  rw [Nat.add_mul_div_left _ _ (Nat.two_pow_pos c),Nat.div_eq_of_lt hs,T08]
 have b:A9 c (s+2^c*v)=A9 c s:=by
  rw [←Z0r c (s+2^c*v),Nat.add_mul_mod_self_left,Nat.mod_eq_of_lt hs]
 rw [a,b]
theorem Y4u (c n s:Nat) (hs:s < 2^c):A9 (c+n) s=A9 c s++List.replicate n 0:=by
 have h:=Z52 c n s 0 hs
 simp only [Nat.mul_zero,T06] at h
 rw [h]
 congr 1
 clear h
 induction n with
 | zero=>rfl
 | succ n ih=>simp [A9,List.replicate_succ,ih]
theorem Z88 (l:List Nat) (h:isBits l):E4 l < 2^l.length:=by
 induction l with
 | nil=>simp [E4]
 | cons b l ih=>
  have a:=h b (by simp)
  have:=ih fun x hx=>h x (by simp [hx])
  simp only [E4,T04,T03]
  omega
theorem X1x (l m:List Nat):E4 (l++m)=E4 l+2^l.length*E4 m:=by
 induction l with
 | nil=>simp [E4]
 | cons b l ih=>
  simp only [T0f,E4,T04,T03,ih]
  rw [Nat.mul_add,←Nat.mul_assoc,T01 2 (2^l.length)]
  omega
theorem Z22 (n v:Nat):E4 (A9 n v)=v%2^n:=by
 induction n generalizing v with
 | zero=>simp [A9,E4,Nat.mod_one]
 | succ n ih=>
  simp only [A9,E4,ih]
  rw [T03,T01 (2^n) 2,Nat.mod_mul]
theorem Y0y (l:List Nat) (h:isBits l):A9 l.length (E4 l)=l:=by
 induction l with
 | nil=>rfl
 | cons b l ih=>
  have a:=h b (by simp)
  have:=ih fun x hx=>h x (by simp [hx])
  simp only [T04,A9,E4]
  rw [show (b+2*E4 l)%2=b by omega,show (b+2*E4 l) / 2=E4 l by omega,this]
theorem D8 {l m:List Nat} (h:isBits l) (k:isBits m):isBits (l++m):=by
 intro b a
 rcases List.mem_append.1 a with a | a
 ·exact h b a
 exact k b a
theorem F3 {l:List Nat} (h:isBits l) (n:Nat):isBits (l.drop n):=fun b hb=>h b (List.mem_of_mem_drop hb)
theorem Z0t {l:List Nat} (h:isBits l) (n:Nat):isBits (l.take n):=fun b hb=>h b (List.mem_of_mem_take hb)
theorem M8 (bs:List Nat):isBits (D7 bs):=by
 intro b a
 obtain ⟨x,_,d⟩:=List.mem_flatMap.1 a
 exact F5 8 x b d
theorem Z62:D7 []=[]:=rfl
theorem Q6 (b:Nat) (l:List Nat):D7 (b::l)=A9 8 b++D7 l:=by simp [D7]
theorem M7 (l m:List Nat):D7 (l++m)=D7 l++D7 m:=by simp [D7]
theorem E1 (l:List Nat):(D7 l).length=8*l.length:=by
 induction l with
 | nil=>rfl
 | cons b l ih=>rw [Q6,T07,B5,ih,T04];omega
theorem Z9x (l:List Nat) (k:Nat):(D7 l).drop (8*k)=D7 (l.drop k):=by
 induction k generalizing l with
 | zero=>simp
 | succ k ih=>
  cases l with
  | nil=>simp [D7]
  | cons b l=>
   rw [Q6,List.drop_append,B5,show 8*(k+1)-8=8*k by omega,ih,List.drop_eq_nil_of_le (by rw [B5];omega)]
   rfl
theorem X8r (l:List Nat) (k:Nat):(D7 l).take (8*k)=D7 (l.take k):=by
 induction k generalizing l with
 | zero=>simp [D7]
 | succ k ih=>
  cases l with
  | nil=>simp [D7]
  | cons b l=>
   rw [Q6,List.take_append,B5,show 8*(k+1)-8=8*k by omega,ih,List.take_of_length_le (by rw [B5];omega),T0b,Q6]
def D4 (l:List Nat):List Nat:=(List.range (l.length / 8)).map fun i=>E4 ((l.drop (8*i)).take 8)
theorem O7 (l:List Nat):(D4 l).length=l.length / 8:=by simp [D4]
theorem X3y (l:List Nat) (i:Nat) (h:i < l.length / 8):(D4 l)[i]?=some (E4 ((l.drop (8*i)).take 8)):=by
 simp [D4,List.getElem?_map,List.getElem?_range h]
theorem Z0e (bs t:List Nat) (hb:∀b∈bs,b < 256) (ht:t.length < 8):D4 (D7 bs++t)=bs:=by
 apply List.ext_getElem?
 intro i
 have d:(D7 bs++t).length / 8=bs.length:=by rw [T07,E1];omega
 by_cases a:i < bs.length
 ·rw [X3y _ _ (by omega),List.drop_append_of_le_length (by rw [E1];omega),Z9x,
   List.take_append_of_le_length (by rw [E1,T0e];omega)]
  have f:=X8r (bs.drop i) 1
  rw [Nat.mul_one] at f
  rw [f,T0m a]
  have g:(bs.drop i).take 1=[bs[i]]:=by rw [List.drop_eq_getElem_cons a,T0b,List.take_zero]
  rw [g,Q6,Z62,T0d,Z22,Nat.mod_eq_of_lt (hb _ (List.getElem_mem a))]
 rw [T0o (by rw [O7];omega),T0o (by omega)]
theorem Z69 (l:List Nat) (h:isBits l):∀b∈D4 l,b < 256:=by
 intro b d
 obtain ⟨i,j,rfl⟩:=List.mem_map.1 d
 have f:=Z88 ((l.drop (8*i)).take 8) (Z0t (F3 h _) _)
 have a:((l.drop (8*i)).take 8).length≤8:=List.length_take_le _ _
 have g:2^((l.drop (8*i)).take 8).length≤2^8:=T0p (by decide) a
 omega
theorem Z91 (l:List Nat) (h:isBits l) (h8:l.length%8=0):D7 (D4 l)=l:=by
 obtain ⟨k,q⟩:∃k,l.length=8*k:=⟨l.length / 8,by omega⟩
 clear h8
 have g:∀ (k:Nat) (l:List Nat),isBits l→l.length=8*k→∃d:List Nat,l=D7 d∧∀b∈d,b < 256:=by
  intro k
  induction k with
  | zero=>intro l _ p;exact ⟨[],T0c (by omega),by simp⟩
  | succ k ih=>
   intro l i p
   obtain ⟨d,j,m⟩:=ih (l.drop 8) (F3 i 8) (by rw [T0e];omega)
   have f:(l.take 8).length=8:=by rw [T0k];omega
   have n:=Y0y (l.take 8) (Z0t i 8)
   have o:=Z88 (l.take 8) (Z0t i 8)
   rw [f] at n o
   refine ⟨E4 (l.take 8)::d, ?_, ?_⟩
   ·rw [Q6,n,←j,List.take_append_drop]
   intro b a
   rcases List.mem_cons.1 a with rfl | a
   ·exact o
   exact m b a
 obtain ⟨d,j,m⟩:=g k l h q
 have f:=Z0e d [] m (by decide)
 rw [T0d] at f
 rw [j,f]
def J2 (l:List Nat):List Nat:=l++List.replicate ((8-l.length%8)%8) 0
theorem Z5c (l:List Nat):(J2 l).length%8=0:=by
 simp only [J2,T07,T0q];omega
theorem Y31 (l:List Nat):(J2 l).length≤l.length+7:=by
 simp only [J2,T07,T0q];omega
theorem Y8f {l:List Nat} (h:isBits l):isBits (J2 l):=
 D8 h fun b hb=>by rw [List.eq_of_mem_replicate hb];omega
def D9 (l:List Nat):List Value:=l.map fun (b:Nat)=>Value.int .u8 (b:Int)
theorem E6 (l:List Nat):(D9 l).length=l.length:=by simp [D9]
theorem J8 (l m:List Nat):D9 (l++m)=D9 l++D9 m:=by simp [D9]
theorem Z3 (l:List Nat) (j:Nat):(D9 l)[j]?=(l[j]?).map fun (b:Nat)=>Value.int .u8 (b:Int):=by simp [D9]
theorem T0 (l:List Nat):∀u∈D9 l,u.oneCell'=true:=by
 intro u a
 obtain ⟨_,_,rfl⟩:=List.mem_map.1 a
 rfl
def D5 (k:IntKind) (l:List Nat):List Value:=l.map fun (b:Nat)=>Value.int k (b:Int)
theorem Z7p (k:IntKind) (l:List Nat):(D5 k l).length=l.length:=by simp [D5]
theorem O8 (k:IntKind) (l:List Nat) (j:Nat):(D5 k l)[j]?=(l[j]?).map fun (b:Nat)=>Value.int k (b:Int):=by simp [D5]
def Z1y (n:Nat) (a:Int):Nat:=if 1≤a∧a≤(n:Int) then 2^(15-a.toNat) else 0
def tot (l:List Int):Nat→Nat
 | 0=>0
 | n+1=>tot l n+l.count ((n+1:Nat):Int)*2^(14-n)
def F4 (l:List Int):Nat:=tot l 15
theorem W4x (n:Nat) (a:Int):Z1y (n+1) a=Z1y n a+(if a=((n+1:Nat):Int) then 2^(14-n) else 0):=by
 unfold Z1y
 by_cases h:a=((n+1:Nat):Int)
 ·subst h
  rw [if_pos (by omega),if_neg (by omega),if_pos rfl]
  have:(((n+1:Nat):Int)).toNat=n+1:=by omega
  rw [this,T08];congr 1;omega
 rw [if_neg h]
 by_cases b:1≤a∧a≤(n:Int)
 ·rw [if_pos b,if_pos (by omega)];rfl
 rw [if_neg b,if_neg (by omega)]
theorem Z7z (a:Int) (l:List Int):∀n:Nat,tot (a::l) n=Z1y n a+tot l n
 | 0=>by simp [tot,Z1y];omega
 | n+1=>by
  rw [tot,Z7z a l n,tot,W4x,T0g]
  by_cases h:a=((n+1:Nat):Int)
  ·subst h
   simp only [beq_self_eq_true,if_true,T00,T0h];omega
  rw [if_neg h,if_neg (by simpa using h)];simp only [T06];omega
theorem Z6d:∀n:Nat,tot [] n=0
 | 0=>rfl
 | n+1=>by rw [tot,Z6d n];simp
theorem Y5x (l m:List Int) (n:Nat):tot (l++m) n=tot l n+tot m n:=by
 induction l with
 | nil=>simp [Z6d]
 | cons a l ih=>rw [T0f,Z7z,Z7z,ih];omega
theorem Z72 (l:List Int) (n:Nat):∀m:Nat,n≤m→tot l n≤tot l m
 | 0,h=>by
       obtain rfl:n=0:=by omega
       exact T02 _
 | m+1,h=>by
  by_cases e:n=m+1
  ·subst e;exact T02 _
  exact T05 (Z72 l n m (by omega)) (Nat.le_add_right _ _)
theorem sum_cons (a:Int) (l:List Int):F4 (a::l)=Z1y 15 a+F4 l:=Z7z a l 15
theorem W7r (l:List Int) (a:Int):F4 (l++[a])=F4 l+Z1y 15 a:=by
 unfold F4;rw [Y5x,Z7z,Z6d,T06]
theorem Y8w (l:List Int) (i:Nat) (a:Int) (h:l[i]?=some a):F4 (l.take (i+1))=F4 (l.take i)+Z1y 15 a:=by
 rw [T0r,h];exact W7r _ _
theorem V50 (a:Int):Z1y 15 a≤16384:=by
 unfold Z1y
 split
 ·have h:15-a.toNat≤14:=by omega
  exact T0p (n:=2) (by decide) h
 omega
theorem V5j (l:List Int):F4 l≤16384*l.length:=by
 induction l with
 | nil=>simp [F4,Z6d]
 | cons a l ih=>rw [sum_cons,T04];have:=V50 a;omega
theorem V0l (l:List Int) (n:Nat) (h:n≤15):tot l n≤16384*l.length:=T05 (Z72 l n 15 h) (V5j l)
def Z8 (l:List Int):Nat→Nat
 | 0=>0
 | 1=>0
 | n+2=>2*(Z8 l (n+1)+l.count ((n+1:Nat):Int))
theorem X3d (l:List Int):∀n:Nat,n≤14→Z8 l (n+1)*2^(14-n)=tot l n
 | 0,_=>by simp [Z8,tot]
 | n+1,h=>by
  have ih:=X3d l n (by omega)
  rw [Z8,tot,←ih]
  have e:14-n=(14- (n+1))+1:=by omega
  rw [e,T03]
  generalize 2^(14- (n+1))=p
  generalize Z8 l (n+1)=x
  generalize List.count ((n+1:Nat):Int) l=c
  rw [←T00,T01 p 2,←Nat.mul_assoc,T01 2]
theorem X3e (l:List Int) (n:Nat) (h:n≤15):Z8 l n≤16384*l.length:=by
 match n with
 | 0=>simp [Z8]
 | n+1=>
  have b:=X3d l n (by omega)
  have d:=V0l l n (by omega)
  have a:1≤2^(14-n):=T0s
  have f:=Nat.le_mul_of_pos_right (Z8 l (n+1)) a
  omega
def Q2 (a:Int):Bool:=decide (1≤a∧a≤15)
def G0 (l:List Int) (i:Nat):Nat:=match l[i]? with
 | some a=>if Q2 a then Z8 l a.toNat+(l.take i).count a else 0
 | none=>0
def G1 (l:List Int):List Nat:=(List.range l.length).map (G0 l)
theorem X59 (l:List Int) (i:Nat) (h:i < l.length):(G1 l)[i]?=some (G0 l i):=by simp [G1,h]
theorem Z0x (l:List Int) (i:Nat) (a:Int) (h:l[i]?=some a) (ha:Q2 a=true):G0 l i=Z8 l a.toNat+(l.take i).count a:=by simp [G0,h,ha]
theorem Z4a (l:List Int) (i:Nat) (a:Int) (h:l[i]?=some a) (ha:Q2 a=false):G0 l i=0:=by simp [G0,h,ha]
theorem V2 (l:List Int) (i:Nat) (a b:Int) (h:l[i]?=some a):(l.take (i+1)).count b=(l.take i).count b+(if a=b then 1 else 0):=by
 rw [T0r,h,List.count_append]
 simp [T0g]
theorem Y4s (l:List Int) (i k:Nat) (h:i≤k) (b:Int):(l.take i).count b≤(l.take k).count b:=
 (List.take_prefix_take_left h).sublist.count_le b
theorem Z2w (l:List Int) (i:Nat) (b:Int):(l.take i).count b≤l.count b:=(List.take_prefix i l).sublist.count_le b
theorem Y2q (l:List Int) (i:Nat):G0 l i≤16385*l.length:=by
 cases h:l[i]? with
 | none=>simp [G0,h]
 | some a=>
  cases ha:Q2 a with
  | false=>rw [Z4a l i a h ha];exact T0a _
  | true=>
   rw [Z0x l i a h ha]
   have b:1≤a∧a≤15:=by simpa [Q2] using ha
   have d:=X3e l a.toNat (by omega)
   have f:=Z2w l i a
   have g:=List.count_le_length (a:=a) (l:=l)
   omega
theorem Z7n (l:List Int) (i n:Nat) (h:l[i]?=some ((n+1:Nat):Int)) (hn:n≤14):G0 l i*2^(14-n)=tot l n+(l.take i).count ((n+1:Nat):Int)*2^(14-n):=by
 rw [Z0x l i _ h (by simp [Q2];omega),Int.toNat_natCast,T00,X3d l n hn]
theorem Y30 (l:List Int) (i n:Nat) (h:l[i]?=some ((n+1:Nat):Int)) (hn:n≤14):G0 l i*2^(14-n)+2^(14-n)≤tot l (n+1):=by
 rw [Z7n l i n h hn,tot]
 have a:=V2 l i _ ((n+1:Nat):Int) h
 rw [if_pos rfl] at a
 have b:=Z2w l (i+1) ((n+1:Nat):Int)
 rw [a] at b
 have d:=T09 (2^(14-n)) b
 rw [T00,T0h] at d
 omega
theorem Z8g (l:List Int) (i k n m:Nat) (h:l[i]?=some ((n+1:Nat):Int)) (h2:l[k]?=some ((m+1:Nat):Int)) (hn:n≤14) (hm:m≤14) (ho:n < m∨n=m∧i < k):
  G0 l i*2^(14-n)+2^(14-n)≤G0 l k*2^(14-m):=by
 rcases ho with ho | ⟨rfl,ho⟩
 ·have a:=Y30 l i n h hn
  have d:=Z72 l (n+1) m ho
  have f:=Z7n l k m h2 hm
  omega
 rw [Z7n l i n h hn,Z7n l k n h2 hn]
 have b:=V2 l i _ ((n+1:Nat):Int) h
 rw [if_pos rfl] at b
 have h2:=Y4s l (i+1) k (by omega) ((n+1:Nat):Int)
 rw [b] at h2
 have a:=T09 (2^(14-n)) h2
 rw [T00,T0h] at a
 omega
theorem W52 (l:List Int) (i n:Nat) (h:l[i]?=some ((n+1:Nat):Int)) (hn:n≤14):G0 l i*2^(14-n)+2^(14-n)≤F4 l:=
 T05 (Y30 l i n h hn) (Z72 l (n+1) 15 (by omega))
theorem X3b (l:List Int) (a:Int):∀q:Nat,q < l.count a→∃i:Nat,l[i]?=some a∧(l.take i).count a=q:=by
 induction l with
 | nil=>intro q h;simp at h
 | cons b l ih=>
  intro q h
  by_cases e:b=a
  ·subst e
   cases q with
   | zero=>exact ⟨0,rfl,by simp⟩
   | succ q=>
    obtain ⟨i,d,f⟩:=ih q (by rw [T0t] at h;omega)
    exact ⟨i+1,by simpa using d,by rw [T0b,T0t,f]⟩
  obtain ⟨i,d,f⟩:=ih q (by rw [T0u e] at h;exact h)
  exact ⟨i+1,by simpa using d,by rw [T0b,T0u e,f]⟩
theorem Y40 (l:List Int) (b:Nat):∀n:Nat,n≤15→b < tot l n→∃i m:Nat,l[i]?=some ((m+1:Nat):Int)∧m < n∧G0 l i*2^(14-m)≤b∧b < G0 l i*2^(14-m)+2^(14-m)
 | 0,_,h=>by simp [tot] at h
 | n+1,hn,h=>by
  by_cases hb:b < tot l n
  ·obtain ⟨i,m,h1,h2,h3⟩:=Y40 l b n (by omega) hb
   exact ⟨i,m,h1,by omega,h3⟩
  rw [tot] at h
  have hp:0 < 2^(14-n):=Nat.two_pow_pos _
  have hq:(b-tot l n) / 2^(14-n) < l.count ((n+1:Nat):Int):=by
   rw [Nat.div_lt_iff_lt_mul hp];omega
  obtain ⟨i,h1,h2⟩:=X3b l _ _ hq
  have h3:=Z7n l i n h1 (by omega)
  rw [h2] at h3
  have a:=Nat.div_add_mod (b-tot l n) (2^(14-n))
  have d:=Nat.mod_lt (b-tot l n) hp
  rw [T01] at a
  exact ⟨i,n,h1,by omega,by rw [h3];omega,by rw [h3];omega⟩
def Z0s (l:List Int) (most:Int):Bool:=l.all fun a=>decide (0≤a∧a≤most)
def U4 (l:List Int) (most:Int):Bool:=decide (most < 1∨15 < most∨288 < l.length) || !Z0s l most
def D0 (l:List Int) (most:Int):Nat:=
 if U4 l most then 1 else if F4 l=0∨F4 l=32768∨F4 l=16384∧l.count 1=1 then 0 else 3
def Z08 (l:List Int):Nat:=l.countP fun a=>decide (0 < a)
theorem Y86 (l:List Int) (h:∀a∈l,0≤a∧a≤15):16384*l.count 1+(Z08 l-l.count 1)≤F4 l∧F4 l≤16384*Z08 l∧l.count 1≤Z08 l:=by
 induction l with
 | nil=>simp [Z08,F4,Z6d]
 | cons a l ih=>
  obtain ⟨k,m,n⟩:=ih fun b hb=>h b (List.mem_cons_of_mem _ hb)
  have i:=h a List.mem_cons_self
  have j:=V50 a
  rw [sum_cons,Z08,List.countP_cons,T0g,←Z08]
  by_cases e:a=1
  ·subst e
   have:Z1y 15 1=16384:=by decide
   simp only [this,beq_self_eq_true,if_true,show decide ((0:Int) < 1)=true from rfl]
   omega
  by_cases g:a=0
  ·subst g
   have:Z1y 15 0=0:=by decide
   simp [this];omega
  have d:decide (0 < a)=true:=by simp;omega
  have f:1≤Z1y 15 a:=by
   unfold Z1y
   rw [if_pos (by omega)];exact T0s
  rw [if_neg (by simpa using e),d]
  simp only [if_true]
  omega
theorem Z1p (l:List Int) (most:Int):Z0s l most=true↔∀a∈l,0≤a∧a≤most:=by simp [Z0s]
theorem W4e (l:List Int) (most:Int) (h:U4 l most=false):
  (32768 < F4 l∨F4 l < 32768∧¬(Z08 l=0∨Z08 l=1∧l.count 1=1))↔¬(F4 l=0∨F4 l=32768∨F4 l=16384∧l.count 1=1):=by
 have b:most≤15∧Z0s l most=true:=by
  simp only [U4,Bool.or_eq_false_iff,decide_eq_false_iff_not,Bool.not_eq_false'] at h
  exact ⟨by omega,h.2⟩
 have d:=Y86 l fun a ha=>by
  have:=(Z1p l most).1 b.2 a ha
  omega
 omega
theorem V1c {l:List Int} (h:D0 l 15=0):(∀a∈l,0≤a∧a≤15)∧l.length≤288∧(F4 l=0∨F4 l=32768∨F4 l=16384∧l.count 1=1):=by
 unfold D0 at h
 split at h
 ·cases h
 rename_i b
 split at h
 ·rename_i d
  simp only [U4,Bool.or_eq_true,decide_eq_true_eq,Bool.not_eq_true',not_or,Bool.not_eq_false] at b
  exact ⟨(Z1p l 15).1 b.2,by omega,d⟩
 cases h
end Go.Proofs.YtbkbkmgogbgofaaGreatDoor
