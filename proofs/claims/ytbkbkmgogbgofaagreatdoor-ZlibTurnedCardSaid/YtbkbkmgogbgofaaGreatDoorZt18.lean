/- The claim's texts, put together and shortened by a program (names, spaces). -/
import Derived.Test.YtbkbkmgogbgofaaGreatDoorZt17
import Derived.Test.YtbkbkmgogbgofaaGreatDoorZt16
import Derived.Test.YtbkbkmgogbgofaaGreatDoorZt02
import Derived.Test.YtbkbkmgogbgofaaGreatDoorZt01
import Derived.Deep.Slices
import Derived.OpenShut
import Derived.ProofKit
import Derived.Test.YtbkbkmgogbgofaaGreatDoorZt07
import Derived.Test.YtbkbkmgogbgofaaGreatDoorZt10
import Derived.Deep.DeepCutAuto
import Derived.Test.YtbkbkmgogbgofaaGreatDoorZt13
import Derived.Test.YtbkbkmgogbgofaaGreatDoorZt11
import Derived.Test.YtbkbkmgogbgofaaGreatDoorZt04
import Derived.Test.YtbkbkmgogbgofaaGreatDoorZt03
import Derived.StillTailTactics
import Derived.Lib.SlBytesConst
import Derived.Test.YtbkbkmgogbgofaaGreatDoorZt05
import Derived.Test.YtbkbkmgogbgofaaGreatDoorZt08
open List renaming length_append→T00,append_nil→T01,replicate→T02,getElem?_append_left→T03,getElem?_map→T04,eq_nil_of_length_eq_zero→T05,eq_of_mem_replicate→T06,length_replicate→T07
open Int renaming natCast_nonneg→T08
namespace Go.Proofs.YtbkbkmgogbgofaaGreatDoor
set_option maxRecDepth 100000
set_option maxHeartbeats 6400000
open Go.RowKit
def W4o (M:Nat) (l:List Nat) (st:ZSt):Prop:=ZOk st∧∀cl out e,Z1r cl M l out e→Y1t cl M st out e
def FdZ (w0 wr:World) (Rs:List A6) (D M:Nat) (l:List Nat) (n g:Nat):Prop:=
 (g=2∧∃ (yo:Option Addr) (yc:Nat),A4 w0 wr (zdT D (.slice yo n yc) false M 0 0 none 0::B0 5 1 (.slice yo n yc) n (D7 l)::Rs))∨
 (g=1∧∃B,W4o M l (.str B (.run .hd (D6 (l.drop 2)) []) [])∧A4 w0 wr (zdT D (.slice none 0 0) false M 1 0 (some ⟨B,0,none⟩) 1::Z27 (Y22 B) M (.run .hd (D6 (l.drop 2)) [])::Rs))
section
variable {w0 w:World} {Rs:List A6} {D n M:Nat} {l:List Nat} {cl:Bool} {st:ZSt}
theorem V3z (B:Nat) (h:A4 w0 w (zdT D (.slice none 0 0) cl M 1 0 (some ⟨B,0,none⟩) 1::Z27 (Y22 B) M (.run .hd (D6 (l.drop 2)) [])::Rs)):A4 w0 w (zT D cl M (.str B (.run .hd (D6 (l.drop 2)) []) [])::Rs):=
 S1 (.slice none 0 0) (show A4 w0 w (zdT D (.slice none 0 0) cl M 1 0 (some ⟨B,0,none⟩) (K6 1 [])::_::Rs) by rw [show K6 1 []=1 by decide];exact h)
theorem X91 {yo:Option Addr} {yc:Nat} (hb:∀b∈l,b < 256) (hl:l.length < 1000000) (hM:M < 100000000) (hn:n=l.length)
  (h:A4 w0 w (zdT D (.slice yo n yc) false M 0 0 none 0::B0 5 1 (.slice yo n yc) n (D7 l)::Rs)):
  Calls Tryz.prog 25 #[.pointer (some ⟨D,0,none⟩),.int .i64 0] w fun en w'=>∃k:Nat,en= .returned (.tuple #[.slice none 0 0,.int .i64 (k:Int)])∧
   (0 < k∧(∃st,W4o M l st∧A4 w0 w' (zT D false M st::Rs))∨k=0∧∃B,W4o M l (.str B (.run .hd (D6 (l.drop 2)) []) [])∧A4 w0 w' (zdT D (.slice none 0 0) false M 1 0 (some ⟨B,0,none⟩) 1::Z27 (Y22 B) M (.run .hd (D6 (l.drop 2)) [])::Rs)):=by
 subst hn
 refine (Y6f (R:=fun x k w'=>x= .slice none 0 0∧X0k w0 w' Rs D l (.slice yo l.length yc) false M 0 0 (.returned (.int .i64 k))) 0 h ((X03 h hb hl (by unfold Y6;omega)).mono ?_)).mono ?_
 ·rintro en w' a
  obtain ⟨rfl,_⟩:=id a
  exact ⟨_,rfl,rfl,a⟩
 rintro en w' ⟨x,k,rfl,rfl,d,a⟩
 obtain rfl:k=(zhd l:Nat):=by cases d;rfl
 refine ⟨zhd l,rfl, ?_⟩
 rcases a with ⟨hz,h2⟩ | ⟨hz,h2⟩ | ⟨hz,B,h2⟩
 ·refine .inl ⟨by omega,.hdr l,⟨⟨hb,hl⟩,fun cl out e hg=> ?_⟩,S1 (.slice yo l.length yc) (show A4 w0 w' (_::_::Rs) from h2)⟩
  rcases hg with ⟨_,rfl,rfl⟩ | ⟨h0,_⟩
  ·exact ⟨hz,rfl,hz⟩
  omega
 ·refine .inl ⟨by omega,.bad 2 0,⟨(show (2:Nat)≠0 by decide),fun cl out e hg=> ?_⟩,S1 (.slice none 0 0) (show A4 w0 w' (_::Rs) from h2)⟩
  rcases hg with ⟨_,rfl,rfl⟩ | ⟨h0,_⟩
  ·exact ⟨rfl,hz⟩
  omega
 refine .inr ⟨hz,B,⟨trivial,fun cl out e hg=> ?_⟩,h2⟩
 rcases hg with ⟨h0,_⟩ | ⟨_,hg⟩
 ·omega
 exact ⟨rfl,hg⟩
theorem X0x (v:Value) (l:List Nat) (h:A4 w0 w (zT D false M (.hdr [])::Rs)) (hv:∀w',A4 w0 w' Rs→Rd w' 1 v l.length (D7 l)) (hb:∀b∈l,b < 256) (hl:l.length < 1000000) (hM:M < 100000000):
  Calls Tryz.prog 12 #[.pointer (some ⟨D,0,none⟩),v] w fun en w'=>en= .returned (.tuple #[])∧∃st,W4o M l st∧A4 w0 w' (zT D false M st::Rs):=by
 obtain ⟨i0,y,z,a0,a1⟩:=info_parts Z0u
 have a9:1000000000≤maxLen:=by decide
 obtain ⟨iv,a⟩:=X31 h
 have a:A4 w0 w (zdT D iv false M 0 0 none 0::B0 5 1 iv 0 (D7 [])::Rs):=a
 obtain ⟨vo,vc,rfl,b7,_⟩:=(hv w a.drop.drop).form
 obtain ⟨ao,b8,rfl,a8,_⟩:=a.drop.own.form
 have c0:=F6 a 0 _ rfl
 have c1:=F6 a 1 _ rfl
 have p:=F6 a 3 _ rfl
 have q:=A5 (hv w a.drop.drop)
 obtain ⟨n,s⟩:∃n,n=l.length:=⟨_,rfl⟩
 rw [←s] at q⊢
 have H1:=A5 a.swap
 have m:=A5 (And.intro hb (And.intro hl (And.intro hM s)))
 have b2:n < 1000000:=by omega
 clear h a hv hb hl hM s
 go_enter Tryz.func12,Tryz.ntmps12
 go_wp2_with ((with_reducible show wpList _ _ _ (⟨some 38,_,_,_,_,_⟩::_) _ _);go_must (refine D4 rfl (.tmp 36) (.tmp 37) 26 rfl 5 i0 (.int .u8 0) 1 1 Tryz.underlying26 y z a0 a1 rfl (by decide) _ 0 (D7 []) rfl H1.out _ n (D7 l) rfl q.out (T3 _) n (by omega) (by omega) (by omega) ?_);intro t x w2 h2;have o:=h2.swap;have d0:=F6 o 0 _ rfl;have e0:=X5 o 0;have h4:=Z1e o 0 (.slice t n x) (Z6 (.slice t n x) false M 0 0 none 0) rfl;have H4:=A5 h4;clear h2 o h4)
 have H5:Hid (FdZ w0 _ Rs D M l n 2):=A5 (.inl ⟨rfl,t,x,H4.out⟩)
 clear H4 H1 q c0 c1 p d0 e0
 go_loopg [4,5] 2 (fun g t4 t5 wr=>Hid (FdZ w0 wr Rs D M l n g))
 case atStart=>exact H5
 case round=>
  clear H5
  rcases hrel.out with ⟨rfl,yo2,yc2,i⟩ | ⟨rfl,B,f,i⟩
  ·have p:=F6 i 3 _ rfl
   have r:=A5 (X91 m.out.1 m.out.2.1 m.out.2.2.1 m.out.2.2.2 i)
   clear i hrel
   go_wp2_with fail
   with_reducible refine r.out.mono ?_
   rintro en w4 ⟨k,rfl,⟨b5,st,f,j⟩ | ⟨rfl,B,f,j⟩⟩
   ·have d:=A5 (And.intro f j)
    clear f j r
    go_wp2
    refine bodyPost_ret (results_none rfl _ _ _) rfl ?_
    exact ⟨rfl,st,d.out.1,d.out.2⟩
   have d:=A5 (And.intro f j)
   clear f j r
   go_wp2
   go_roundg 1
   case measure=>omega
   case rel=>exact A5 (.inr ⟨rfl,B,d.out.1,d.out.2⟩)
  have p:=F6 i 3 _ rfl
  have d:=A5 (And.intro f (V3z B i))
  clear f i hrel
  go_wp2
  go_end0
  exact ⟨rfl,_,d.out.1,d.out.2⟩
theorem W3y (h:A4 w0 w Rs):A4 w0 (w.alloc (.cells #[.slice none 0 0,.bool false,.int .i64 (M:Int),.int .i64 0,.int .i64 0,.pointer none,.int .u32 0] 61)) (zT w.heap.size false M (.hdr [])::Rs):=by
 have a:A4 w0 _ (zdT w.heap.size (.slice none 0 0) false M 0 0 none 0::Rs):=h.newObj [.slice none 0 0,.bool false,.int .i64 (M:Int),.int .i64 0,.int .i64 0,.pointer none,.int .u32 0] 61
 exact S1 (.slice none 0 0) (show A4 w0 _ (_::_::Rs) from (a.nil 5 1).swap)
theorem X4t (Mi:Int) (hM:Mi=(M:Int)) (h:A4 w0 w Rs):Calls Tryz.prog 11 #[.int .i64 Mi] w fun e w'=>∃D:Nat,e= .returned (.pointer (some ⟨D,0,none⟩))∧A4 w0 w' (zT D false M (.hdr [])::Rs):=by
 subst hM
 have H:=A5 (W3y (M:=M) h)
 clear h
 go_enter Tryz.func11,Tryz.ntmps11
 go_wp2
 go_ret
 exact ⟨_,rfl,H.out⟩
theorem W56 (h:A4 w0 w (zT D cl M st::Rs)):Calls Tryz.prog 13 #[.pointer (some ⟨D,0,none⟩)] w fun e w'=>e= .returned (.tuple #[])∧A4 w0 w' (zT D true M st::Rs):=by
 obtain ⟨a,b⟩:=X31 h
 cases st with
 | hdr l=>exact (Z7l (show A4 w0 w (zdT _ _ _ _ _ _ _ _::_) from b)).mono fun _ _ ⟨h2,h3⟩=>⟨h2,S1 a h3⟩
 | str B s o=>exact (Z7l (show A4 w0 w (zdT _ _ _ _ _ _ _ _::_) from b)).mono fun _ _ ⟨h2,h3⟩=>⟨h2,S1 a h3⟩
 | tot o l=>exact (Z7l (show A4 w0 w (zdT _ _ _ _ _ _ _ _::_) from b)).mono fun _ _ ⟨h2,h3⟩=>⟨h2,S1 a h3⟩
 | fin o l=>exact (Z7l (show A4 w0 w (zdT _ _ _ _ _ _ _ _::_) from b)).mono fun _ _ ⟨h2,h3⟩=>⟨h2,S1 a h3⟩
 | bad e sm=>exact (Z7l (show A4 w0 w (zdT _ _ _ _ _ _ _ _::_) from b)).mono fun _ _ ⟨h2,h3⟩=>⟨h2,S1 a h3⟩
def ZAt (w0 w:World) (Rs:List A6) (D:Nat) (out:List Nat) (e:Nat):Prop:=∃cl M st,M < 100000000∧Y1t cl M st out e∧ZOk st∧A4 w0 w (zT D cl M st::Rs)
theorem X4a {out:List Nat} {e:Nat} (hG:X7 w0) (n:Nat) (ni:Int) (hni:ni=(n:Int)) (hn2:n≤9223372036854775807) (h:ZAt w0 w Rs D out e) (ho:out.length < 100000000):
  Calls Tryz.prog 14 #[.pointer (some ⟨D,0,none⟩),.int .i64 ni] w fun en w'=>∃ (x:Value) (t:List Nat) (er:Nat) (out':List Nat),en= .returned (.tuple #[x,.int .i64 (er:Int)])∧out=t++out'∧
   (er=0∧t.length=n∨t.length < n∧out'=[]∧er=if t=[] then e else 5)∧ZAt w0 w' (B0 5 1 x t.length (D7 t)::Rs) D out' e:=by
 subst hni
 obtain ⟨l,M,p,j,m,i,o⟩:=h
 refine (W3v hG hn2 j o i m ho).mono ?_
 rintro en w' ⟨x,t,er,d,out',rfl,f,g,b,k,a⟩
 exact ⟨x,t,er,out',rfl,f,a,l,M,d,j,g,b,k.swap⟩
end
section
variable {w0 w:World} {Rs:List A6} {p:D0} {M:Nat}
end
structure Y49 (P:Program) (α:Type) where
 t:TypeId
 size:Nat
 good:World→List Value→α→Prop
 sized:P.cellsOf t=size
 long:∀w cs a,good w cs a→cs.length=size
 opens:∀ {H:Type} {enc:TypeId×Value→H} {W:World} {fuel:Nat} {cs:List Value} {x:DataW H×List MemPlace},
  DataW.trod enc P W 0 (fun _=>true) true fuel t cs=some x→∃a,good W cs a
section
variable {P:Program}
def V4u (t:TypeId) (k:IntKind) (ht:P.underlying t=some (.int k)) (hc:P.cellsOf t=1):Y49 P Int where
 t:=t
 size:=1
 good:=fun _ cs n=>cs=[.int k n]∧(Lit.int k n).wf=true
 sized:=hc
 long:=fun _ _ _ h=>by rw [h.1];rfl
 opens:=fun h=>by
  obtain ⟨n,h1,_,h2⟩:=DataW.trod_int ht h
  exact ⟨n,h1,h2⟩
def Z6h {α:Type} (S:Y49 P α) (W:World) (v:Value) (l:List α):Prop:=
 ∃ao cap,v= .slice ao l.length cap∧l.length≤cap∧cap≤maxLen∧(ao=none→cap=0)∧(l.length=0∨∃g off,ao=some ⟨g,off,none⟩∧
  ∀i a,l[i]?=some a→∃xs,S.good W xs a∧∀j u,xs[j]?=some u→W.cell? ⟨g,off+i*S.size+j,none⟩=some u)
def V3r {α:Type} (S:Y49 P α) (t:TypeId) (ht:P.underlying t=some (.slice S.t)) (hc:P.cellsOf t=1) (hs:0 < S.size) [Inhabited α]:Y49 P (List α) where
 t:=t
 size:=1
 good:=fun W cs l=>∃v,cs=[v]∧Z6h S W v l
 sized:=hc
 long:=fun _ _ _ h=>by obtain ⟨v,h,_⟩:=h;rw [h];rfl
 opens:=fun {H enc W fuel cs x} h=>by
  rcases Go.Deep.open_slice ht h with ⟨hcs,_⟩ | ⟨ad,l,c,m,n,D,Pl,hcs,_,hl,hm,hmm,_,hel⟩
  ·exact ⟨[],_,hcs,none,0,rfl,Nat.le_refl _,Nat.zero_le _,fun _=>rfl,.inl rfl⟩
  ·simp only [if_true] at hmm
   subst hmm
   rw [S.sized] at hel
   by_cases h0:l=0
   ·subst h0
    exact ⟨[],_,hcs,some ad,m,rfl,by simp,hm,(fun h=>by cases h),.inl rfl⟩
   ·obtain ⟨g,off,spot⟩:=ad
    have hspot:spot=none:=by
     obtain ⟨cs',hc0,_⟩:=hel 0 (by omega)
     obtain ⟨_,hcl,hcc⟩:=World.cells?_some hc0
     have hx:=hcc 0 hs
     rw [List.getElem?_eq_getElem (by omega)] at hx
     have:=World.cell?_spot hx
     simpa [Addr.add] using this
    subst hspot
    obtain ⟨A,hA⟩:=Go.Deep.choose_lt (α:=α) (n:=l) (p:=fun i a=>∃xs,S.good W xs a∧∀j u,xs[j]?=some u→W.cell? ⟨g,off+i*S.size+j,none⟩=some u) (fun i hi=>by
     obtain ⟨cs',hc0,ht⟩:=hel i (by omega)
     obtain ⟨a,ha⟩:=S.opens ht
     obtain ⟨_,hcl,hcc⟩:=World.cells?_some hc0
     refine ⟨a,cs',ha,fun j u hu=> ?_⟩
     have hj:=hcc j (by have:=(List.getElem?_eq_some_iff.1 hu).1;omega)
     rw [Addr.add_lit,Addr.add_lit] at hj
     rw [hj];exact hu)
    refine ⟨(List.range l).map A,_,hcs,some ⟨g,off,none⟩,m,by simp,by simpa using hl,hm,(fun h=>by cases h),.inr ⟨g,off,rfl,fun i a hi=> ?_⟩⟩
    have hil:i < l:=by have:=(List.getElem?_eq_some_iff.1 hi).1;simpa using this
    rw [T04,List.getElem?_range hil] at hi
    simp only [Option.map_some,Option.some.injEq] at hi
    subst hi
    exact hA i hil
theorem Z6h.rd {α:Type} {S:Y49 P α} {W:World} {v:Value} {l:List α} (h:Z6h S W v l) (f:α→Value) (hf:∀W xs a,S.good W xs a→xs=[f a]) (hs:S.size=1):Rd W 1 v l.length (l.map f):=by
 obtain ⟨i,d,k,m,n,o,b⟩:=h
 refine ⟨by simp,i,d,k,m,n,o, ?_⟩
 rcases b with b | ⟨g,off,b,h6⟩
 ·exact .inl b
 refine .inr ⟨g,off,b,fun j u hu=> ?_⟩
 rw [T04,Option.map_eq_some_iff] at hu
 obtain ⟨a,p,rfl⟩:=hu
 obtain ⟨xs,q,r⟩:=h6 j a p
 have:=r 0 (f a) (by rw [hf W xs a q];rfl)
 rwa [hs,Nat.mul_one,Nat.add_zero] at this
theorem Z6h.each {α:Type} {S:Y49 P α} {W:World} {v:Value} {l:List α} (h:Z6h S W v l) {i:Nat} {a:α} (ha:l[i]?=some a):∃xs,S.good W xs a:=by
 obtain ⟨k,d,m,n,o,p,b⟩:=h
 have j:=(List.getElem?_eq_some_iff.1 ha).1
 rcases b with b | ⟨g,off,b,h6⟩
 ·omega
 obtain ⟨xs,f,_⟩:=h6 i a ha
 exact ⟨xs,f⟩
theorem Z6h.bytes {t:TypeId} {ht:P.underlying t=some (.int .u8)} {hc:P.cellsOf t=1} {W:World} {v:Value} {l:List Int} (h:Z6h (V4u t .u8 ht hc) W v l):
  ∃b:List Nat,b.length=l.length∧(∀x∈b,x < 256)∧Rd W 1 v b.length (D7 b):=by
 have f:∀x∈l,0≤x∧x≤255:=by
  intro x d
  obtain ⟨i,j⟩:=List.mem_iff_getElem?.1 d
  obtain ⟨k,g,m⟩:=h.each j
  exact bounds_u8 m
 refine ⟨l.map Int.toNat,by simp,fun x d=> ?_, ?_⟩
 ·obtain ⟨y,o,rfl⟩:=List.mem_map.1 d
  have:=f y o;omega
 have g:=h.rd (fun n=> .int .u8 n) (fun W k a hg=>hg.1) rfl
 have e:D7 (l.map Int.toNat)=l.map (fun n=>Value.int .u8 n):=by
  unfold D7
  rw [List.map_map]
  refine List.map_congr_left fun x d=> ?_
  have:=f x d
  simp only [Function.comp]
  rw [Int.toNat_of_nonneg this.1]
 rw [e,List.length_map]
 exact g
end
def V7m:Y49 Tryz.prog Int:=V4u 5 .u8 Tryz.underlying5 (by kernel_rfl)
def Y10:Y49 Tryz.prog (List Int):=V3r V7m 26 Tryz.underlying26 (by kernel_rfl) (by decide)
theorem V07 {w:World} {v:Value} {l:List Int} (h:Y10.good w [v] l):∃bs:List Nat,(∀b∈bs,b < 256)∧Rd w 1 v bs.length (D7 bs):=by
 obtain ⟨a,d,f⟩:=h
 obtain rfl:v=a:=by simpa using d
 obtain ⟨b,_,g,i⟩:=f.bytes
 exact ⟨b,g,i⟩
section
variable {w0 w:World} {Rs:List A6}
theorem W3z (h:A4 w0 w Rs) (v u:Value) (a b:List Nat) (hab:a=b) (hv:Rd w 1 v a.length (D7 a)) (hu:Rd w 1 u b.length (D7 b)) (hal:a.length < 8000000000):
  Calls Tryz.prog 15 #[v,u] w fun e w'=>e= .returned (.bool true)∧A4 w0 w' Rs:=
 (V5j h v u a b hv hu hal).mono fun _ _ ⟨h1,h2⟩=>⟨by rw [h1,decide_eq_true hab],h2⟩
end
theorem W8m:I6 I0 ((D6 [3,0,0,0,0,1]).drop 3)=(256,7,0):=by
 have h:=X66 (Y15 Z12.1) (k:=256) ⟨7,by kernel_rfl,by decide⟩ (post:=(D6 [3,0,0,0,0,1]).drop 10) (fun b hb=>M7 _ b (List.mem_of_mem_drop hb))
 rw [show D8 I0 256++(D6 [3,0,0,0,0,1]).drop 10=(D6 [3,0,0,0,0,1]).drop 3 by decide+kernel] at h
 exact h
theorem W3l (M:Nat):Z01 M .hd (D6 [3,0,0,0,0,1]) [] 8 ((D6 [3,0,0,0,0,1]).drop 10) []:=by
 refine .go (p1:= .tok true I0 G7) (l1:=(D6 [3,0,0,0,0,1]).drop 3) (o1:=[]) (by kernel_rfl) (.done ?_)
 show Z64 M true I0 G7 _ [] (I6 I0 ((D6 [3,0,0,0,0,1]).drop 3))=_
 rw [W8m]
 rfl
theorem W9n:Z1r true 5 [120,156,3,0,0,0,0,1] [] 8:= .inr ⟨by decide,8,_,W3l 5,.inr ⟨rfl,by
 rw [show R0 ((D6 [3,0,0,0,0,1]).drop 10)=[0,0,0,1] by decide+kernel]
 decide+kernel⟩⟩
section
variable {w0 w:World} {Rs:List A6} {D M:Nat} {st:ZSt} {l out:List Nat} {e:Nat}
theorem W1r (hM:M < 100000000) (hF:W4o M l st) (hg:Z1r true M l out e) (h:A4 w0 w (zT D false M st::Rs)):
  Calls Tryz.prog 13 #[.pointer (some ⟨D,0,none⟩)] w fun en w'=>en= .returned (.tuple #[])∧ZAt w0 w' Rs D out e:=
 (W56 h).mono fun _ _ ⟨h1,h2⟩=>⟨h1,true,M,st,hM,hF.2 _ _ _ hg,hF.1,h2⟩
theorem ZAt.held (h:ZAt w0 w Rs D out e):∃T,A4 w0 w (T::Rs):=by
 obtain ⟨_,_,_,_,_,_,h⟩:=h
 exact ⟨_,h⟩
theorem Y3y (hG:X7 w0) (h:A4 w0 w Rs):
  Calls Tryz.prog 6 #[] w fun e w'=>e= .returned (.bool true)∧A4 w0 w' Rs:=by
 have b:=A5 (X4t (M:=5) 5 rfl h)
 have r:=A5 hG
 clear h hG
 go_enter Tryz.func6,Tryz.ntmps6
 go_wp2_with fail
 with_reducible refine b.out.mono ?_
 rintro e a ⟨D,rfl,j⟩
 have d:A4 w0 (a.alloc (.cells #[.int .u8 120,.int .u8 156,.int .u8 3,.int .u8 0,.int .u8 0,.int .u8 0,.int .u8 0,.int .u8 1] 5)) (B0 5 1 (.slice (some ⟨a.heap.size,0,none⟩) 8 8) 8 (D7 [120,156,3,0,0,0,0,1])::_):=j.lit 5 1 (D7 [120,156,3,0,0,0,0,1]) 8 (by decide) rfl
 have f:=A5 (X0x (M:=5) (.slice (some ⟨a.heap.size,0,none⟩) 8 8) [120,156,3,0,0,0,0,1] d.swap (fun w' h=>h.own.rd) (by decide) (by decide) (by decide))
 clear j d b
 go_wp2_with fail
 with_reducible refine f.out.mono ?_
 rintro e z ⟨rfl,st,k,l⟩
 have g:=A5 (W1r (by decide) k W9n l)
 clear k l f
 go_wp2_with fail
 with_reducible refine g.out.mono ?_
 rintro e w4 ⟨rfl,m⟩
 have i:=A5 (X4a r.out 1 1 rfl (by decide) m (by decide))
 clear m g
 go_wp2_with fail
 with_reducible refine i.out.mono ?_
 rintro e w5 ⟨x,t,y,o2,rfl,n,o,p⟩
 obtain rfl:t=[]:=(List.append_eq_nil_iff.1 n.symm).1
 obtain rfl:y=8:=by
  rcases o with ⟨_,h1⟩ | ⟨_,_,h1⟩
  ·cases h1
  rwa [if_pos rfl] at h1
 obtain ⟨T,q⟩:=p.held
 have s:=A5 q.drop.drop.drop
 clear p q i n o
 go_wp2
 go_ret
 exact ⟨rfl,s.out⟩
end
section
variable {w0 w:World} {Rs:List A6} {D e:Nat}
def RdZ (w0 wr:World) (Rs:List A6) (D:Nat) (all:List Nat) (e:Nat) (v:Value) (i k:Nat):Prop:=
 ∃ (O out:List Nat),all=O++out∧k=O.length∧(k=1000*i∨out=[]∧i≤1101)∧ZAt w0 wr (B0 5 1 v k (D7 O)::Rs) D out e
theorem X0p (hG:X7 w0) (v:Value) (n:Nat) (l all:List Nat) (hn:n=l.length) (h:A4 w0 w Rs) (hv:∀w',A4 w0 w' Rs→Rd w' 1 v n (D7 l)) (hb:∀b∈l,b < 256) (hl:l.length < 1000000) (hg:Z1r true 1048576 l all e):
  Calls Tryz.prog 16 #[v] w fun en w'=>∃y,en= .returned (.tuple #[y,.int .i64 (e:Int)])∧A4 w0 w' (B0 5 1 y all.length (D7 all)::Rs):=by
 obtain ⟨i0,a9,b0,b1,b2⟩:=info_parts Z0u
 have b9:=A5 (show 1000000000≤maxLen by decide)
 subst hn
 obtain ⟨vo,vc,rfl,_,_⟩:=(hv w h).form
 have c8:=hg.le
 have HN:=A5 (X4t (M:=1048576) 1048576 rfl h)
 have HF:=A5 (fun (w':World) (D:Nat) (h':A4 w0 w' (zT D false 1048576 (.hdr [])::Rs))=>X0x (.slice vo l.length vc) l h' hv hb hl (by decide))
 have HE:=A5 (fun (w':World) (D:Nat) (o:ZSt) (hF:W4o 1048576 l o) (h':A4 w0 w' (zT D false 1048576 o::Rs))=>W1r (by decide) hF hg h')
 have HG:=A5 hG
 clear h hv hb hl hg hG
 generalize l.length=n at HF⊢
 go_enter Tryz.func16,Tryz.ntmps16
 go_wp2_with fail
 with_reducible refine HN.out.mono ?_
 rintro en w2 ⟨D,rfl,h2⟩
 have a3:=A5 (HF.out w2 D h2)
 clear h2 HN HF
 go_wp2_with fail
 with_reducible refine a3.out.mono ?_
 rintro en w3 ⟨rfl,o,hF,h3⟩
 have a4:=A5 (HE.out w3 D o hF h3)
 clear hF h3 a3 HE
 go_wp2_with fail
 with_reducible refine a4.out.mono ?_
 rintro en w4 ⟨rfl,h4⟩
 have H4:Hid (RdZ w0 w4 Rs D all e (.slice none 0 0) 0 0):=by
  obtain ⟨cl,M,o,h5,r,d,z⟩:=h4
  exact A5 ⟨[],all,rfl,rfl,.inl rfl,cl,M,o,h5,r,d,(z.nil _ 1).swap⟩
 clear h4 a4
 go_wp2
 go_loopg [5,6] (3001) (fun g t5 t6 wr=>∃ (i k:Nat) (oo:Option Addr) (oc:Nat),t5= .slice oo k oc∧t6= .int .i64 (i:Int)∧g=3001-i∧Hid (RdZ w0 wr Rs D all e (.slice oo k oc) i k))
 case atStart=>exact ⟨0,0,none,0,rfl,rfl,rfl,H4⟩
 case round=>
  obtain ⟨i,k,oo,oc,rfl,rfl,rfl,HR⟩:=hrel
  clear H4
  obtain ⟨O,out,p,q,a,hD⟩:=HR.out
  have e4:k+out.length=all.length:=by rw [p,T00,q]
  have e5:i < 2000:=by rcases a with h | ⟨_,h⟩ <;> omega
  have e6:(i:Int) < 3000:=by omega
  have HT:=A5 (X4a HG.out 1000 1000 rfl (by decide) hD (by omega))
  have HF:=A5 (And.intro p (And.intro q a))
  have e7:k≤1048576:=by omega
  clear HR p q a hD
  go_wp2_with fail
  with_reducible refine HT.out.mono ?_
  rintro en w5 ⟨x,t,er,a8,rfl,f,hc,h5⟩
  obtain ⟨cl,M,o,r,d,j,z⟩:=h5
  obtain ⟨xo,xc,rfl,_,_⟩:=z.swap.own.form
  have c0:t.length≤out.length:=by rw [f,T00];omega
  obtain ⟨m,s⟩:∃m,m=t.length:=⟨_,rfl⟩
  rw [←s] at z c0⊢
  have HX:=A5 z.swap.own.rd
  have H8:=A5 (show A4 w0 w5 (B0 5 1 (.slice oo k oc) k (D7 O)::zT D cl M o::B0 5 1 (.slice xo m xc) m (D7 t)::Rs) from z.third)
  have HS:=A5 (And.intro f (And.intro hc (And.intro r (And.intro d (And.intro j s)))))
  have a5:k+m≤maxLen:=by have:=b9.out;omega
  clear f hc r d j s z HT
  by_cases a6:m=0
  ·have c1:(m:Int)=0:=by omega
   have HM:=A5 a6
   clear a6
   go_wp2_with (first
    | ((with_reducible show wpList _ _ _ (⟨some 26,_,_,_,_,_⟩::_) _ _);go_must (refine D4 rfl (.tmp 24) (.tmp 25) 26 rfl 5 i0 (.int .u8 0) 1 1 Tryz.underlying26 a9 b0 b1 b2 rfl (by decide) _ k (D7 O) rfl H8.out _ m (D7 t) rfl HX.out (T3 _) (k+m) rfl a5 (by omega) ?_);intro yo yc w7 d;have H7:=A5 d;clear d)
    | fail)
   go_ret2
   obtain ⟨p,q,a⟩:=HF.out
   obtain ⟨f,hc,r,d,j,s⟩:=HS.out
   have c3:t=[]:=T05 (s.symm.trans HM.out)
   subst c3
   obtain ⟨h1,h2⟩ | ⟨_,b3,b4⟩:=hc
   ·cases h2
   rw [if_pos rfl] at b4
   rw [b3] at f
   rw [f,T01,T01] at p
   have j:=H7.out
   rw [←K4,T01,←p] at j
   have c4:k+m=all.length:=by rw [HM.out,p];exact q
   rw [b4]
   refine ⟨_,rfl, ?_⟩
   rw [←c4]
   exact j.swap.drop.swap.drop
  have c1:¬(m:Int)=0:=by omega
  go_wp2_with (first
   | ((with_reducible show wpList _ _ _ (⟨some 26,_,_,_,_,_⟩::_) _ _);go_must (refine D4 rfl (.tmp 24) (.tmp 25) 26 rfl 5 i0 (.int .u8 0) 1 1 Tryz.underlying26 a9 b0 b1 b2 rfl (by decide) _ k (D7 O) rfl H8.out _ m (D7 t) rfl HX.out (T3 _) (k+m) rfl a5 (by omega) ?_);intro yo yc w7 d;have H7:=A5 d;clear d)
   | fail)
  go_roundg (3001- (i+1))
  case measure=>omega
  case rel=>
   obtain ⟨p,q,a⟩:=HF.out
   obtain ⟨f,hc,r,d,c7,s⟩:=HS.out
   have j:=H7.out
   rw [←K4] at j
   refine ⟨i+1,k+m,yo,yc,rfl,by push_cast;rfl,rfl,A5 ⟨O++t,a8,by rw [p,f,List.append_assoc],by rw [T00,q,s], ?_,cl,M,o,r,d,c7,j.third.drop.swap⟩⟩
   rcases a with h1 | ⟨h1,h2⟩
   ·rcases hc with ⟨_,h3⟩ | ⟨_,h3,_⟩
    ·left
     omega
    right
    exact ⟨h3,by omega⟩
   rw [h1] at f
   have h3:t.length=0:=by
    have:=congrArg List.length f
    rw [T00,List.length_nil] at this
    omega
   omega
end
def Z5m (kind:Nat) (raw out o:List Nat):List Nat:=if kind=0 then out++raw else o
def W2f (kind:Nat) (tk l:List E1):List E1:=if kind=0 then tk else tk++l
section
variable {l:List E1} {raw bs out o pre post:List Nat} {tk:List E1} {kind M f:Nat} {ks ss:List Nat}
theorem W6t (h:O9 l raw (pre.length+3) kind bs) (hp:isBits post) (he:Q7 out l=(0,o)) (ho:o.length≤M) (hr:out.length+raw.length≤M) (v:Nat) (hv:v < 8) (hvk:v / 2=kind):
  I7 (pre++(A9 3 v++(bs++post))) pre.length 3=some v∧I8 (pre++(A9 3 v++(bs++post))) M (v / 2) (pre.length+3) out tk=(0,pre.length+3+bs.length,Z5m kind raw out o,W2f kind tk l):=by
 refine ⟨Z2m pre (bs++post) 3 v hv, ?_⟩
 have e:pre++(A9 3 v++(bs++post))=(pre++A9 3 v)++(bs++post):=by simp
 have a:(pre++A9 3 v).length=pre.length+3:=by rw [T00,B5]
 have b:=W05 (pre++A9 3 v) (by rw [a];exact h) hp M out o tk he ho hr
 rw [a,←e] at b
 rw [hvk]
 exact b
theorem W4q (h:O9 l raw (pre.length+3) kind bs) (hk:kind < 3) (hp:isBits post) (he:Q7 out l=(0,o)) (ho:o.length≤M) (hr:out.length+raw.length≤M):
  S7 (pre++(A9 3 (2*kind)++(bs++post))) M (f+1) pre.length out tk ks ss=S7 (pre++(A9 3 (2*kind)++(bs++post))) M f (pre.length+3+bs.length) (Z5m kind raw out o) (W2f kind tk l) (ks++[kind]) (ss++[(Z5m kind raw out o).length]):=by
 obtain ⟨b,d⟩:=W6t (tk:=tk) h hp he ho hr (2*kind) (by omega) (by omega)
 have a:=Y7m (f:=f) (Y04 (ks:=ks) (ss:=ss) b d (by omega))
 rw [show 2*kind / 2=kind by omega] at a
 exact a
theorem W4c (h:O9 l raw (pre.length+3) kind bs) (hk:kind < 3) (hp:isBits post) (he:Q7 out l=(0,o)) (ho:o.length≤M) (hr:out.length+raw.length≤M):
  S7 (pre++(A9 3 (1+2*kind)++(bs++post))) M (f+1) pre.length out tk ks ss=⟨0,pre.length+3+bs.length,Z5m kind raw out o,W2f kind tk l,ks++[kind],ss++[(Z5m kind raw out o).length],(pre.length+3+bs.length+7) / 8⟩:=by
 obtain ⟨b,d⟩:=W6t (tk:=tk) h hp he ho hr (1+2*kind) (by omega) (by omega)
 have a:=Z0q (f:=f) (Z9l (ks:=ks) (ss:=ss) b d (by omega))
 rw [show (1+2*kind) / 2=kind by omega] at a
 exact a
end
def V3v:List Nat:=A9 3 0++G6 3 []
theorem Y5v {a b:Nat} (h:a%8=b%8) (raw:List Nat):G6 a raw=G6 b raw:=by
 unfold G6
 rw [show W5 a-a=W5 b-b by unfold W5;omega]
def gaps:Nat→List Nat
 | 0=>[]
 | n+1=>gaps n++V3v
def Z36 (l:List E1):Prop:=∀t∈l,E8 t=true
def Z3u (kind:Int) (l:List E1) (raw:List Nat):Prop:=kind=0∧raw.length≤65535∨(kind=1∨kind=2)∧Z36 l∧l.length < 1048576
instance (l:List E1):Decidable (Z36 l):=by unfold Z36;infer_instance
instance (kind:Int) (l:List E1) (raw:List Nat):Decidable (Z3u kind l raw):=by unfold Z3u;infer_instance
section
variable (F:Nat→List E1→List Nat→Nat→List Nat)
def Q3 (kind:Nat) (l:List E1) (raw:List Nat) (last:Bool) (a:Nat):List Nat:=A9 3 ((if last then 1 else 0)+2*kind)++F kind l raw (a+3)
def V9 (kind:Int) (l:List E1) (raw:List Nat):Int:=if Z3u kind l raw then ((3+(F kind.toNat l raw 3).length:Nat):Int) else -1
def P4 (b:Int×Int) (k c:Int):Int×Int:=if 0≤c∧(b.1 < 0∨c < b.2) then (k,c) else b
def Z7c (l:List E1) (raw:List Nat):Int×Int:=
 P4 (P4 (P4 (-1,0) 0 (V9 F 0 l raw)) 1 (V9 F 1 l raw)) 2 (V9 F 2 l raw)
end
section
variable {F:Nat→List E1→List Nat→Nat→List Nat} {Lv:World→Prop} {w0 w:World} {Rs:List A6}
end
theorem W5k {kind:Nat} {l:List E1} {raw:List Nat} (h:Z3u kind l raw):kind < 3:=by
 rcases h with ⟨h,_⟩ | ⟨h | h,_⟩ <;> omega
theorem X38 (n:Nat):isBits (T02 n 0):=fun b hb=>by rw [T06 hb];omega
theorem O9.isBits {l:List E1} {raw bs:List Nat} {a kind:Nat} (h:O9 l raw a kind bs):isBits bs:=by
 cases h with
 | stored=>exact D5 (X38 _) (D5 (F4 _ _) (D5 (F4 _ _) (M7 _)))
 | fixed _ h=>exact h.isBits
 | dynamic lit dist hd C lb bs h h2=>exact D5 (D5 (F4 _ _) (D5 (F4 _ _) (D5 (F4 _ _) (D5 (Z6u _ _) h.lens.isBits)))) h2.isBits
theorem X9h (l:List Nat):∃p,isBits p∧J2 l=l++p:=
 ⟨T02 ((8-l.length%8)%8) 0,(fun b hb=>by rw [T06 hb];omega),rfl⟩
theorem Y8n (l:List Nat):(D9 (J2 l)).length=(l.length+7) / 8:=by
 rw [Q5]
 simp only [J2,T00,T07]
 omega
section
variable {F:Nat→List E1→List Nat→Nat→List Nat} {Lv:World→Prop} {l:List E1} {raw o:List Nat} {kind a M:Nat}
def Y5i (F:Nat→List E1→List Nat→Nat→List Nat) (l:List E1) (raw:List Nat) (b:Int×Int):Prop:=∃kk:Nat,b.1=(kk:Int)∧Z3u kk l raw∧b.2=((3+(F kk l raw 3).length:Nat):Int)
theorem Z8b (k:Nat) (b:Int×Int) (h:b.1 < 0∨Y5i F l raw b):(P4 b k (V9 F k l raw)).1 < 0∨Y5i F l raw (P4 b k (V9 F k l raw)):=by
 unfold P4
 split
 ·rename_i d
  refine .inr ⟨k,rfl, ?_⟩
  have a:Z3u k l raw:=by
   refine Classical.byContradiction fun hno=> ?_
   have:=d.1
   unfold V9 at this
   rw [if_neg hno] at this
   omega
  refine ⟨a, ?_⟩
  show V9 F k l raw=_
  unfold V9
  rw [if_pos a]
  rfl
 exact h
theorem Y4s (k:Nat) (b:Int×Int) (h:b.1 < 0∨Y5i F l raw b) (hm:Z3u k l raw):Y5i F l raw (P4 b k (V9 F k l raw)):=by
 rcases Z8b k b h with h2 | h2
 ·exfalso
  have d:(0:Int)≤V9 F k l raw:=by
   unfold V9
   rw [if_pos hm]
   exact T08 _
  unfold P4 at h2
  split at h2
  ·have:((k:Int)) < 0:=h2
   omega
  rename_i a
  exact a ⟨d,.inl h2⟩
 exact h2
theorem X71 (hs:Z36 l) (hl:l.length < 1048576):Y5i F l raw (Z7c F l raw):=
 Y4s 2 _ (Z8b 1 _ (Z8b 0 _ (.inl (by decide)))) (.inr ⟨.inr rfl,hs,hl⟩)
end
inductive Z1w (N:Nat):List Nat→List Nat→List Nat→List Nat→Prop
 | nil:Z1w N [] [] [] []
 | snoc (D out ks ss:List Nat) (kind:Nat) (l:List E1) (raw bs o:List Nat):Z1w N D out ks ss→kind < 3→O9 l raw (D.length+3) kind bs→Q7 out l=(0,o)→o.length≤N→out.length+raw.length≤N→
   (Z5m kind raw out o).length≤out.length+16642→Z1w N (D++(A9 3 (2*kind)++bs)) (Z5m kind raw out o) (ks++[kind]) (ss++[(Z5m kind raw out o).length])
def V1e (ss:List Nat):Prop:=∀i v,ss[i]?=some v→v≤(if i=0 then 0 else ss[i-1]?.getD 0)+16642
theorem Y91 {ss:List Nat} {v:Nat} (h:V1e ss) (hv:v≤ss.getLast?.getD 0+16642):V1e (ss++[v]):=by
 intro i u a
 rcases Nat.lt_or_ge i ss.length with hi | hi
 ·rw [T03 hi] at a
  have:=h i u a
  by_cases b:i=0
  ·rw [if_pos b] at this⊢;exact this
  rw [if_neg b] at this⊢
  rw [T03 (by omega)];exact this
 rw [List.getElem?_append_right hi] at a
 have d:i-ss.length=0:=by
  have:=(List.getElem?_eq_some_iff.1 a).1
  simp at this;omega
 rw [d] at a
 simp at a
 subst a
 have f:i=ss.length:=by omega
 by_cases b:i=0
 ·rw [if_pos b]
  have:ss=[]:=T05 (by omega)
  subst this
  simpa using hv
 rw [if_neg b,T03 (by omega),f,←List.getLast?_eq_getElem?]
 exact hv
section
variable {N M:Nat} {D out ks ss:List Nat}
theorem Z1w.bits01 (h:Z1w N D out ks ss):isBits D:=by
 induction h with
 | nil=>intro b a;cases a
 | snoc D out ks ss kind l raw bs o _ _ a _ _ _ _ ih=>exact D5 ih (D5 (F4 _ _) a.isBits)
theorem Z1w.count (h:Z1w N D out ks ss):ks.length≤D.length∧ss.length=ks.length:=by
 induction h with
 | nil=>exact ⟨Nat.le_refl _,rfl⟩
 | snoc D out ks ss kind l raw bs o _ _ hb _ _ _ _ ih=>
  simp only [T00,List.length_cons,List.length_nil,B5]
  omega
theorem Z1w.gaps (h:Z1w N D out ks ss):V1e ss∧ss.getLast?.getD 0=out.length:=by
 induction h with
 | nil=>exact ⟨fun i v hv=>by simp at hv,rfl⟩
 | snoc D out ks ss kind l raw bs o _ _ hb _ _ _ hg ih=>exact ⟨Y91 ih.1 (by rw [ih.2];exact hg),by simp⟩
theorem Z1w.stops (h:Z1w N D out ks ss):∀v∈ss,v≤N:=by
 induction h with
 | nil=>exact fun v a=>by cases a
 | snoc D out ks ss kind l raw bs o _ _ _ _ ho hr _ ih=>
  intro v a
  rcases List.mem_append.1 a with a | a
  ·exact ih v a
  simp only [List.mem_singleton] at a
  subst a
  unfold Z5m
  split
  ·rw [T00];exact hr
  exact ho
theorem Z1w.more {N2:Nat} (h:Z1w N D out ks ss) (hN:N≤N2):Z1w N2 D out ks ss:=by
 induction h with
 | nil=>exact .nil
 | snoc D out ks ss kind l raw bs o _ hk hb he ho hr hg ih=>exact .snoc D out ks ss kind l raw bs o ih hk hb he (by omega) (by omega) hg
theorem Z1w.read (h:Z1w N D out ks ss) (hM:N≤M):∀post,isBits post→∃tk,∀f,S7 (D++post) M (ks.length+f) 0 [] [] [] []=S7 (D++post) M f D.length out tk ks ss:=by
 induction h with
 | nil=>exact fun post _=>⟨[],fun f=>by simp⟩
 | snoc D out ks ss kind l raw bs o hc hk hb he ho hr hg ih=>
  intro post a
  obtain ⟨tk,d⟩:=ih (A9 3 (2*kind)++(bs++post)) (D5 (F4 _ _) (D5 hb.isBits a))
  refine ⟨W2f kind tk l,fun f=> ?_⟩
  have b:=W4q (pre:=D) (f:=f) (M:=M) (tk:=tk) (ks:=ks) (ss:=ss) hb hk a he (by omega) (by omega)
  have e:D++(A9 3 (2*kind)++bs)++post=D++(A9 3 (2*kind)++(bs++post)):=by simp
  rw [e,T00,List.length_singleton,show ks.length+1+f=ks.length+(f+1) by omega,d (f+1),b]
  congr 1
  simp only [T00,B5]
  omega
theorem Z1w.last {kind:Nat} {l:List E1} {raw bs o:List Nat} (h:Z1w N D out ks ss) (hM:N≤M) (hk:kind < 3) (hb:O9 l raw (D.length+3) kind bs) (he:Q7 out l=(0,o)) (ho:o.length≤M) (hr:out.length+raw.length≤M):
  ∃tk,S7 (J2 (D++(A9 3 (1+2*kind)++bs))) M ((J2 (D++(A9 3 (1+2*kind)++bs))).length+1) 0 [] [] [] []=
   ⟨0,(D++(A9 3 (1+2*kind)++bs)).length,Z5m kind raw out o,tk,ks++[kind],ss++[(Z5m kind raw out o).length],((D++(A9 3 (1+2*kind)++bs)).length+7) / 8⟩:=by
 obtain ⟨a,i,e⟩:=X9h (D++(A9 3 (1+2*kind)++bs))
 obtain ⟨tk,m⟩:=h.read hM (A9 3 (1+2*kind)++(bs++a)) (D5 (F4 _ _) (D5 hb.isBits i))
 have b:J2 (D++(A9 3 (1+2*kind)++bs))=D++(A9 3 (1+2*kind)++(bs++a)):=by rw [e];simp
 have p:=h.count.1
 have d:ks.length≤(J2 (D++(A9 3 (1+2*kind)++bs))).length:=by rw [b,T00];omega
 rw [b] at d⊢
 generalize q:(D++(A9 3 (1+2*kind)++(bs++a))).length=n at d
 have g:=m (n-ks.length+1)
 rw [show ks.length+(n-ks.length+1)=n+1 by omega] at g
 have j:=W4c (pre:=D) (f:=n-ks.length) (M:=M) (tk:=tk) (ks:=ks) (ss:=ss) hb hk i he ho hr
 have k:(D++(A9 3 (1+2*kind)++bs)).length=D.length+3+bs.length:=by simp only [T00,B5];omega
 rw [k]
 exact ⟨_,g.trans j⟩
end
structure Z1c (F:Nat→List E1→List Nat→Nat→List Nat):Prop where
 good:∀ (kind:Nat) (l:List E1) (raw:List Nat) (a:Nat),Z3u kind l raw→N9 l→(∀b∈raw,b < 256)→O9 l raw a kind (F kind l raw a)
 same:∀ (kind:Nat) (l:List E1) (raw:List Nat) (a b:Nat),kind≠0→F kind l raw a=F kind l raw b
 place:∀ (kind:Nat) (l:List E1) (raw:List Nat) (a b:Nat),a%8=b%8→F kind l raw a=F kind l raw b
section
variable {F:Nat→List E1→List Nat→Nat→List Nat}
theorem O9.of_zero {l:List E1} {raw bs:List Nat} {a:Nat} (h:O9 l raw a 0 bs):bs=G6 a raw:=by
 generalize b:0=k at h
 cases h with
 | stored=>rfl
 | fixed=>omega
 | dynamic=>omega
theorem Y06 (a:Nat) (raw:List Nat):(G6 a raw).length≤8*raw.length+39:=by
 unfold G6
 simp only [T00,T07,B5,E4]
 unfold W5
 omega
theorem W1v (k:Nat) (b:Int×Int) (c:Int) (h0:0≤b.1) (hk:b.2≤c) (l:List E1) (raw:List Nat):(P4 b k (V9 F k l raw)).2≤c∧0≤(P4 b k (V9 F k l raw)).1:=by
 unfold P4
 split
 ·rename_i a
  rcases a.2 with h | h
  ·omega
  exact ⟨by show V9 F k l raw≤c;omega,by show (0:Int)≤(k:Int);omega⟩
 exact ⟨hk,h0⟩
theorem X7x (l:List E1) (raw:List Nat) (h:Z3u 0 l raw):(Z7c F l raw).2≤V9 F 0 l raw:=by
 have b:(0:Int)≤V9 F 0 l raw:=by unfold V9;rw [if_pos h];exact T08 _
 have d:P4 (-1,0) 0 (V9 F 0 l raw)=(0,V9 F 0 l raw):=by unfold P4;rw [if_pos ⟨b,.inl (by decide)⟩]
 unfold Z7c
 rw [d]
 have a:=W1v (F:=F) 1 (0,V9 F 0 l raw) (V9 F 0 l raw) (Int.le_refl 0) (Int.le_refl _) l raw
 exact (W1v (F:=F) 2 _ (V9 F 0 l raw) a.2 a.1 l raw).1
def Z32 (F:Nat→List E1→List Nat→Nat→List Nat) (packs:Bool) (l:List E1) (raw:List Nat) (last:Bool) (a:Nat):List Nat:=
 if packs then (if (Z7c F l raw).1 < 0 then [] else Q3 F (Z7c F l raw).1.toNat l raw last a) else Q3 F 0 [] raw last a
theorem Z90 (H:Z1c F) {a b:Nat} (h:a%8=b%8) (kind:Nat) (l:List E1) (raw:List Nat) (last:Bool):Q3 F kind l raw last a=Q3 F kind l raw last b:=by
 unfold Q3
 rw [H.place kind l raw (a+3) (b+3) (by omega)]
theorem Z91 (H:Z1c F) {a b:Nat} (h:a%8=b%8) (packs:Bool) (l:List E1) (raw:List Nat) (last:Bool):Z32 F packs l raw last a=Z32 F packs l raw last b:=by
 unfold Z32
 rw [Z90 H h,Z90 H h]
theorem X32 (H:Z1c F) {packs:Bool} {l:List E1} {raw:List Nat} (hb:N9 l) (hr:∀b∈raw,b < 256) (hm:raw.length≤65535) (hs:Z36 l) (hl:l.length < 1048576) (last:Bool) (a:Nat):
  ∃ (kind:Nat) (l':List E1) (bs:List Nat),kind < 3∧(packs=false→kind=0)∧(l'=l∨kind=0∧l'=[])∧O9 l' raw (a+3) kind bs∧Z32 F packs l raw last a=A9 3 ((if last then 1 else 0)+2*kind)++bs∧bs.length≤8*raw.length+39:=by
 cases packs with
 | false=>
  have d:=H.good 0 [] raw (a+3) (.inl ⟨rfl,hm⟩) (fun _ h=>by cases h) hr
  refine ⟨0,[],F 0 [] raw (a+3),by decide,fun _=>rfl,.inr ⟨rfl,rfl⟩,d,rfl, ?_⟩
  rw [d.of_zero]
  exact Y06 _ _
 | true=>
  obtain ⟨k,j,i,p⟩:=X71 (F:=F) (raw:=raw) hs hl
  have m:=X7x (F:=F) l raw (.inl ⟨rfl,hm⟩)
  have d:=H.good k l raw (a+3) i hb hr
  refine ⟨k,l,F k l raw (a+3),W5k i,(fun h=>by cases h),.inl rfl,d, ?_, ?_⟩
  ·unfold Z32
   rw [if_pos rfl,if_neg (by omega),j,Int.toNat_natCast]
   rfl
  by_cases g:k=0
  ·subst g
   rw [d.of_zero]
   exact Y06 _ _
  rw [H.same k l raw (a+3) 3 g]
  have n:V9 F 0 l raw=((3+(G6 3 raw).length:Nat):Int):=by
   have f:=H.good 0 l raw 3 (.inl ⟨rfl,hm⟩) hb hr
   unfold V9
   rw [if_pos (.inl ⟨rfl,hm⟩)]
   show ((3+(F 0 l raw 3).length:Nat):Int)=_
   rw [f.of_zero]
  have o:=Y06 3 raw
  omega
end
structure Z69 where
 St:Type
 start:Int→St
 write:St→List Nat→St
 toks:St→Bool→St×List E1
 inp:St→List Nat
 outs:St→List E1
 wait:St→Nat
 one:List Nat→Int→List E1
 Ok:St→Prop
 Clean:Int→St→Prop
structure V0 (M:Z69):Prop where
 ok_start:∀lev,M.Ok (M.start lev)
 ok_write:∀s bs,M.Ok s→(∀b∈bs,b < 256)→(M.inp s).length+bs.length < 1000000000→M.Ok (M.write s bs)
 ok_toks:∀s e,M.Ok s→M.Ok (M.toks s e).1
 inp_start:∀lev,M.inp (M.start lev)=[]
 inp_write:∀s bs,M.inp (M.write s bs)=M.inp s++bs
 inp_toks:∀s e,M.inp (M.toks s e).1=M.inp s
 outs_start:∀lev,M.outs (M.start lev)=[]
 outs_write:∀s bs,M.outs (M.write s bs)=M.outs s
 outs_toks:∀s e,M.outs (M.toks s e).1=M.outs s++(M.toks s e).2
 bytes:∀s,M.Ok s→N9 (M.outs s)
 means:∀s,M.Ok s→(M.inp s).length≤most→M.wait s≤(M.inp s).length∧Q7 [] (M.outs s)=(0,(M.inp s).take ((M.inp s).length-M.wait s))
 wait_end:∀s,M.Ok s→M.wait (M.toks s true).1=0
 wait_some:∀s,M.Ok s→M.wait (M.toks s false).1≤261
 clean_start:∀lev,M.Clean lev (M.start lev)
 clean_write:∀lev s bs,M.Clean lev s→M.Clean lev (M.write s bs)
 clean_toks:∀lev s,M.Clean lev s→M.Clean lev (M.toks s false).1
 X32:∀lev s,M.Ok s→M.Clean lev s→M.outs (M.toks s true).1=M.one (M.inp s) lev
 level0:∀bs lev,(∀b∈bs,b < 256)→bs.length < 1000000000→lev≤0→∀t∈M.one bs lev,t.2.1=0
 short:∀c n lev,c < 256→517≤n→n≤6000→1≤lev→lev≤9→10*(M.one (T02 n c) lev).length < n
def Y4r (v:Value) (l:List E1):A6:=B0 112 3 v l.length (I5 l)
theorem Z8f:∀ (l:List E1) (acc o:List Nat),Q7 acc l=(0,o)→acc.length+l.length≤o.length
 | [],acc,o,h=>by simp [Q7] at h;subst h;simp
 | t::r,acc,o,h=>by
  rw [Z0c] at h
  by_cases h0:(M9 acc t).1=0
  rotate_left
  ·rw [if_neg h0] at h;simp at h;exact absurd h.1 h0
  rw [if_pos h0] at h
  have ih:=Z8f r _ o h
  have h1:acc.length+1≤(M9 acc t).2.length:=by
   unfold M9 at h0⊢
   split <;> rename_i b
   ·rw [if_pos b] at h0;simp at h0
   rw [if_neg b] at h0
   have f:E8 t=true:=by simpa using b
   split <;> rename_i d
   ·rw [if_pos d] at h0
    split <;> rename_i a
    ·rw [if_pos a] at h0;simp at h0
    simp
   have:=V2 f d
   rw [if_neg d] at h0
   split <;> rename_i a
   ·rw [if_pos a] at h0;simp at h0
   rw [if_neg a] at h0
   split <;> rename_i g
   ·rw [if_pos g] at h0;simp at h0
   simp only [G1];omega
  simp;omega
section
variable {w0 w:World} {Rs:List A6}
end
end Go.Proofs.YtbkbkmgogbgofaaGreatDoor
