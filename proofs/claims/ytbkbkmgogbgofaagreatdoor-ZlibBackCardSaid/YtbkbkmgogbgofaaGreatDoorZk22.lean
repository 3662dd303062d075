/- The claim's texts, put together and shortened by a program (names, spaces). -/
import Derived.Test.YtbkbkmgogbgofaaGreatDoorZk13
import Derived.Test.YtbkbkmgogbgofaaGreatDoorZk21
import Derived.Test.YtbkbkmgogbgofaaGreatDoorZk05
import Derived.Test.YtbkbkmgogbgofaaGreatDoorZk03
import Derived.Test.YtbkbkmgogbgofaaGreatDoorZk10
import Derived.Test.YtbkbkmgogbgofaaGreatDoorZk11
import Derived.Test.YtbkbkmgogbgofaaGreatDoorZk02
import Derived.StillTailTactics
import Derived.Test.YtbkbkmgogbgofaaGreatDoorZk12
import Derived.Handy
open List renaming getElem?_set→T02,getElem?_eq_getElem→T03,mem_of_getElem?→T06,length_append→T07,take_of_length_le→T08,perm_append_comm→T09,getElem?_append_right→T0a,take_add_one→T0b,getElem?_append_left→T0d,mem_of_mem_take→T0h,append_assoc→T0i,length_range→T0j,getElem?_eq_none→T0k,length_drop→T0l
open Nat renaming le_refl→T00,add_zero→T05,pow_le_pow_right→T0c,min_eq_left→T0e,min_eq_right→T0f
open Int renaming natCast_nonneg→T01,eq_ofNat_of_zero_le→T04,toNat_natCast→T0g
namespace Go.Proofs.YtbkbkmgogbgofaaGreatDoor
set_option maxRecDepth 100000
set_option maxHeartbeats 6400000
open Go.RowKit
def wrB (l:List E3):Bool:=decide (l.length < 1048576) && l.all E9
theorem V4t (l:List E3):wrB l=true↔l.length < 1048576∧∀t∈l,E9 t=true:=by simp [wrB]
theorem Y1x (v:Value) (n:Nat) (l:List E3) (w:World) (hv:Rd w 3 v n (I6 l)) (hn:n < 1000000000):
  Calls Tryz.prog 86 #[v] w fun e w'=>e= .returned (.bool (wrB l))∧E5 w w' (fun _=>False):=by
 obtain ⟨ao,b0,rfl,_,_⟩:=hv.form
 have m:=A5 hv.toks_len
 have HV:=A5 hv
 have a4:(0:Int)≤(n:Int):=T01 _
 clear hv
 by_cases a1:1048576≤n
 ·have y:decide ((1048575:Int) < (n:Int))=true:=by simp;omega
  have o:Hid (wrB l=false):=by
   unfold Hid wrB
   rw [decide_eq_false (by have:=m.out;omega)];rfl
  go_enter Tryz.func86,Tryz.ntmps86
  go_wp2
  go_ret
  rw [o.out]
  exact ⟨rfl,E5.refl _ _⟩
 have y:decide ((1048575:Int) < (n:Int))=false:=by simp;omega
 have o:Hid (wrB l=l.all E9):=by
  unfold Hid wrB
  rw [decide_eq_true (by have:=m.out;omega)];rfl
 go_enter Tryz.func86,Tryz.ntmps86
 go_wp2
 go_loopg [10] (n+1) (fun k t10 wr=>∃i:Nat,i≤n∧n-i < k∧t10= .int .i64 (i:Int)∧Hid ((l.take i).all E9=true)∧Hid (E5 w wr (fun _=>False)))
 case atStart=>exact ⟨0,by omega,by omega,rfl,A5 rfl,A5 (E5.refl _ _)⟩
 case round=>
  obtain ⟨i,hi,hk,rfl,HS,p⟩:=hrel
  have a5:(0:Int)≤(i:Int):=T01 _
  by_cases a8:i < n
  rotate_left
  ·have z:¬(i:Int) < (n:Int):=by omega
   have hF:Hid (l.all E9=true):=by
    have h:=HS.out
    rw [T08 (by have:=m.out;omega)] at h
    exact A5 h
   go_wp2
   go_ret
   rw [o.out,hF.out]
   exact ⟨rfl,p.out⟩
  have z:(i:Int) < (n:Int):=by omega
  obtain ⟨⟨q,r,s⟩,x⟩:∃t,l[i]?=some t:=⟨l[i]'(by have:=m.out;omega),T03 _⟩
  obtain ⟨g,b1,rfl,c0,c1,c2⟩:=(HV.out.kept p.out (fun _ _ h=>h)).tok x
  have HT:Hid ((l.take (i+1)).all E9=E9 (q,r,s)):=A5 (by
   rw [T0b,x]
   simp [HS.out])
  have f:Hid (E9 (q,r,s)=false→l.all E9=false):=A5 fun h=>by
   refine Classical.byContradiction fun h2=> ?_
   have h3:l.all E9=true:=by simpa using h2
   rw [List.all_eq_true.1 h3 _ (T06 x)] at h
   cases h
  clear x
  have a:=A5 (W32 (q,r,s))
  unfold Y69 at a
  simp only at a
  generalize E9 (q,r,s)=b at a HT f
  cases b with
  | false=>
   go_wp2_with fail
   refine (a.out _).mono ?_
   rintro e w3 ⟨rfl,j⟩
   have d:=A5 ((p.out.alloc _).same j)
   clear j
   go_wp2
   go_ret
   rw [o.out,f.out (by first | rfl | trivial)]
   exact ⟨rfl,d.out⟩
  | true=>
   go_wp2_with fail
   refine (a.out _).mono ?_
   rintro e w3 ⟨rfl,j⟩
   have d:=A5 ((p.out.alloc _).same j)
   clear j
   go_wp2
   go_roundg (gk-1)
   case measure=>omega
   case rel=>exact ⟨i+1,by omega,by omega,by go_num,HT,d⟩
section
variable {w0 w:World} {Rs:List A6}
theorem W4d (l:List Int) (B:Nat) (Bw:C4) (bs:List Nat) (s:Int) (h:A4 w0 w (wrT Bw bs::J7 l B::Rs)) (hF:Y4w l) (hlen:bs.length < 1000000000000):
  Calls Tryz.prog 224 #[.pointer (some ⟨B,0,none⟩),.pointer (some ⟨Bw.b,Bw.o,none⟩),.int .i64 s] w fun e w'=>
   (∃i p:Nat,s=(i:Int)∧l[i]?=some (p:Int)∧0 < p∧e= .returned (.bool true)∧A4 w0 w' (wrT Bw (bs++W7 p (G0 l i))::J7 l B::Rs))∨
   ((∀i p:Nat,s=(i:Int)→l[i]?=some (p:Int)→p=0)∧e= .returned (.bool false)∧A4 w0 w' (wrT Bw bs::J7 l B::Rs)):=by
 obtain ⟨⟨lv,cv,S⟩,h1⟩:=h.swap.ex
 have r:A4 w0 w (Y10 l l.length B lv cv S::wrT Bw bs::Rs):=h1
 have t:=unK r
 obtain ⟨n,hn⟩:∃n,n=l.length:=⟨_,rfl⟩
 have f:=t.swap.own
 have k:=t.third.own
 rw [←hn] at f k
 obtain ⟨lo,c2,rfl,_,_⟩:=f.form
 obtain ⟨co,c3,rfl,_,_⟩:=k.form
 have a9:=t.obj.cell (i:=0) (V5m _ _ _ _)
 have b0:=t.obj.cell (i:=1) (W9l _ _ _ _)
 have H0:=A5 h
 have HN:=A5 hn
 have HF:=A5 hF
 have b1:n≤288:=by have:=hF.2.1;omega
 clear h h1 r t hn hF
 have c7:(0:Int)≤(n:Int):=T01 _
 have z:s < 0∨0≤s∧(n:Int)≤s∨0≤s∧s < (n:Int):=by omega
 rcases z with z | ⟨z,h4⟩ | ⟨z,h4⟩
 ·have a0:decide (s < 0)=true:=by simp;omega
  have HR:Hid (∀i p:Nat,s=(i:Int)→l[i]?=some (p:Int)→p=0):=fun i p h=>by omega
  clear f k a9 b0
  go_enter Tryz.func224,Tryz.ntmps224
  go_wp2
  go_ret
  exact .inr ⟨HR.out,rfl,H0.out⟩
 ·have a0:decide (s < 0)=false:=by simp;omega
  have b2:decide ((n:Int)≤s)=true:=by simp;omega
  have HR:Hid (∀i p:Nat,s=(i:Int)→l[i]?=some (p:Int)→p=0):=fun i p h r=>by
   have:=(List.getElem?_eq_some_iff.1 r).1
   have:=HN.out
   omega
  clear f k
  go_enter Tryz.func224,Tryz.ntmps224
  go_wp2
  go_ret
  exact .inr ⟨HR.out,rfl,H0.out⟩
 obtain ⟨i,rfl⟩:=T04 z
 have c8:i < n:=by omega
 obtain ⟨a,q⟩:∃a,l[i]?=some a:=⟨l[i]'(by have:=HN.out;omega),T03 _⟩
 have ha:=HF.out.1 a (T06 q)
 obtain ⟨p,rfl⟩:=T04 ha.1
 have a0:decide ((i:Int) < 0)=false:=by simp
 have b2:decide ((n:Int)≤(i:Int))=false:=by simp;omega
 have d0:decide (n≤i)=false:=by simp;omega
 obtain ⟨g,d8,rfl,m,_,_⟩:=f.site (by omega)
 have d1:=m i _ (by rw [G5,q];rfl)
 obtain ⟨g2,c4,rfl,d,_,_⟩:=k.site (by omega)
 have b3:=d i _ (Y95 l i (by have:=HN.out;omega))
 have a2:=Y2q l i
 obtain ⟨x,hx⟩:∃x,x=G0 l i:=⟨_,rfl⟩
 rw [←hx] at b3 a2
 have HX:=A5 hx
 have a3:x < 4294967296:=by have:=HN.out;omega
 have a4:=A5 q
 clear m d f k q hx a2
 by_cases hp:p=0
 ·subst hp
  have HR:Hid (∀j p:Nat,(i:Int)=(j:Int)→l[j]?=some (p:Int)→p=0):=fun j p h r=>by
   obtain rfl:i=j:=by omega
   have:=a4.out.symm.trans r
   simp only [Option.some.injEq] at this
   omega
  go_enter Tryz.func224,Tryz.ntmps224
  go_wp2
  go_ret
  exact .inr ⟨HR.out,rfl,H0.out⟩
 have d3:((p:Int)==0)=false:=by simp;omega
 have b4:0 < p:=by omega
 have d4:(0:Int)≤(p:Int):=T01 _
 have a5:p≤15:=by omega
 have HP:=A5 (Z6r H0.out (Z4j x p) p (by have:=X3i x p (by omega);have r:2^p≤2^15:=T0c (by decide) a5;omega) (by omega) (by omega))
 have HE:Hid (A9 p (Z4j x p)=W7 p (G0 l i)):=by unfold Hid;rw [HX.out];exact Y3v _ _ (by omega)
 have a6:=A5 (Z8a x p w a3 (by omega))
 obtain ⟨y,hy⟩:∃y,y=Z4j x p:=⟨_,rfl⟩
 rw [←hy] at HP HE a6
 clear hp hy
 go_enter Tryz.func224,Tryz.ntmps224
 go_wp2_with fail
 refine a6.out.mono ?_
 rintro e w3 ⟨rfl,rfl⟩
 go_wp2_with fail
 refine HP.out.mono ?_
 rintro e w4 ⟨rfl,hh⟩
 rw [HE.out] at hh
 have H4:=A5 hh
 clear hh HP
 go_wp2
 go_ret
 exact .inl ⟨i,p,rfl,a4.out,b4,rfl,H4.out⟩
end
section
variable {w0 w:World} {S:A6} {size:Nat} {v:Value} {n:Nat} {xs:List Value} {Rs:List A6}
theorem Y8g {B:C4} {l news:List Nat} (h:A4 w0 w (wrT B l::S::Rs)) (hr:Z04 w0 S 1 v n (D9 news)) (hn256:∀b∈news,b < 256) (hnl:n < 1099511627776) (hl:l.length < 1099511600000):
  Calls Tryz.prog 220 #[.pointer (some ⟨B.b,B.o,none⟩),v] w fun e w'=>e= .returned (.tuple #[])∧A4 w0 w' (wrT B (J2 l++D7 news)::S::Rs):=by
 have j:=hr.rd h.swap
 have a:=h.mod
 obtain ⟨F,p,⟨d,q,i⟩,r,f,s,g⟩:=h.take2
 have m:0 < n→∀k,v.ownBlock=some k→¬Z1l B.b d k:=fun hn k hk hs=>by
  rcases (hr w p a r).2 hn k hk with h4 | h4
  ·have:=(s k ((i k).2 hs)).1;omega
  exact f k h4 ((i k).2 hs)
 exact (W4b B d v l news n w q hl j m hn256 hnl).mono fun _ w' ⟨h5,d',hW',hm,hmv⟩=>⟨h5,g w' _ _ ⟨d',hW',fun _=>Iff.rfl⟩ (hm.mono fun k _ hk=>(i k).2 hk) (Y3k i hmv) hW'.lt⟩
end
section
variable {w0 w:World} {Rs:List A6}
theorem X4q {l:List Int} {B:Nat} {Bw:C4} {bs:List Nat} (k:Nat) (h:A4 w0 w (wrT Bw bs::J7 l B::Rs)) (hF:Y4w l) (hk:L4 l k) (hlen:bs.length < 1000000000000):
  Calls Tryz.prog 224 #[.pointer (some ⟨B,0,none⟩),.pointer (some ⟨Bw.b,Bw.o,none⟩),.int .i64 (k:Int)] w fun e w'=>e= .returned (.bool true)∧A4 w0 w' (wrT Bw (bs++E0 l k)::J7 l B::Rs):=
 (W4d l B Bw bs (k:Int) h hF hlen).mono fun e w' h2=>by
  obtain ⟨a,ha,ha0⟩:=hk
  rcases h2 with ⟨i,p,hi,hp,hp0,he,hh⟩ | ⟨hno,_,_⟩
  ·obtain rfl:k=i:=by omega
   refine ⟨he, ?_⟩
   unfold E0
   rw [hp]
   exact hh
  have:=hno k a.toNat rfl (by rw [ha];congr 1;omega)
  omega
theorem W2y (w:World) (o:Obj):(w.alloc o).heap.size=w.heap.size+1:=by
 show (w.heap.push o).size=_
 simp
def Z3h (lv:Value) (B1 B2 bits:Nat):Value:= .agg #[lv,.pointer (some ⟨B1,0,none⟩),.pointer (some ⟨B2,0,none⟩),.int .i64 (bits:Int)]
theorem W8c {lit dist:List Int} {B1 B2 bits:Nat} {Bw:C4} {acc:List Nat} (lv:Value) (t:E3) (h:A4 w0 w (wrT Bw acc::J7 lit B1::J7 dist B2::Rs)) (hF1:Y4w lit) (hF2:Y4w dist) (hs:E9 t=true) (hb:0≤t.1∧t.1≤255) (h1:L4 lit (X3 t)) (h2:t.2.1≠0→L4 dist (Z2g t)) (hacc:acc.length < 100000000000) (hlit:∀a∈lit,0≤a∧a≤15) (hdist:∀a∈dist,0≤a∧a≤15):
  Calls Tryz.prog 223 #[Z3h lv B1 B2 bits,.pointer (some ⟨Bw.b,Bw.o,none⟩),Y69 t] w fun e w'=>e= .returned (.tuple #[])∧A4 w0 w' (wrT Bw (acc++Z6z lit dist t)::J7 lit B1::J7 dist B2::Rs):=by
 obtain ⟨a,n,d⟩:=t
 by_cases l:n=0
 ·subst l
  have b9:0≤a:=hb.1
  have d5:a≤255:=hb.2
  obtain ⟨z,rfl⟩:=T04 b9
  have hz:z≤255:=by omega
  have p:L4 lit z:=h1
  have HH:=A5 (X4q z ((h.alloc (.cells #[lv,.pointer (some ⟨B1,0,none⟩),.pointer (some ⟨B2,0,none⟩),.int .i64 (bits:Int)] 148)).alloc (.cells #[.int .u8 (z:Int),.int .i64 0,.int .i64 d] 112)) hF1 p (by omega))
  have hw:IntKind.i64.wrap (z:Int)=(z:Int):=Z25 z (by omega)
  have hE:Hid (E0 lit z=Z6z lit dist ((z:Int),0,d)):=by
   unfold Hid Z6z
   rw [if_pos rfl];rfl
  clear h h1 h2 p hs hb
  unfold Z3h Y69
  simp only
  go_enter Tryz.func223,Tryz.ntmps223
  go_wp2_with fail
  refine HH.out.mono ?_
  rintro e w3 ⟨rfl,f⟩
  rw [hE.out] at f
  have H3:=A5 f
  clear f HH
  go_wp2
  refine bodyPost_ret (results_none rfl _ _ _) rfl ?_
  exact ⟨rfl,H3.out⟩
 obtain ⟨ha,⟨a3,a4⟩,a5,a6⟩:=V5 hs l
 have ha:a=0:=ha
 have a3:3≤n:=a3
 have a4:n≤258:=a4
 have a5:1≤d:=a5
 have a6:d≤32768:=a6
 subst ha
 have g:=Y12 hs l
 have j:=Z6h hs l
 have p:L4 lit (257+Y0e (0,n,d)):=by
  unfold X3 at h1
  rw [if_neg l] at h1
  exact h1
 have a2:=h2 l
 have hE:Hid (Z6z lit dist (0,n,d)=E0 lit (257+Y0e (0,n,d))++(A9 (lX (Y0e (0,n,d))) (n.toNat-lB (Y0e (0,n,d)))++(E0 dist (Z2g (0,n,d))++A9 (dX (Z2g (0,n,d))) (d.toNat-dB (Z2g (0,n,d)))))):=by
  unfold Hid Z6z
  rw [if_neg l]
 generalize Y0e (0,n,d)=c at g p hE
 generalize Z2g (0,n,d)=q at j a2 hE
 obtain ⟨n,rfl⟩:=T04 (show 0≤n by omega)
 obtain ⟨d,rfl⟩:=T04 (show 0≤d by omega)
 simp only [T0g] at g j hE
 have a7:=X0u c g.1
 have a8:=Y9l q j.1
 have a9:=X6j g (by omega)
 have b0:=Y8y j (by omega)
 have c1:2^lX c≤2^5:=T0c (by decide) a7
 have b1:2^dX q≤2^13:=T0c (by decide) a8
 obtain ⟨x,hx⟩:∃x,x=n-lB c:=⟨_,rfl⟩
 obtain ⟨y,hy⟩:∃y,y=d-dB q:=⟨_,rfl⟩
 obtain ⟨lx,r⟩:∃lx,lx=lX c:=⟨_,rfl⟩
 obtain ⟨dx,s⟩:∃dx,dx=dX q:=⟨_,rfl⟩
 rw [←hx] at a9 hE
 rw [←hy] at b0 hE
 rw [←r] at a9 hE c1 a7
 rw [←s] at b0 hE b1 a8
 have d0:x < 32:=by omega
 have d1:y < 8192:=by omega
 have HL:=A5 (Y4j ((n:Nat):Int))
 have HD:=A5 (Y1g ((d:Nat):Int))
 have d7:IntKind.u32.wrap (x:Int)=(x:Int):=by
  unfold IntKind.wrap;simp [IntKind.bits,IntKind.signed];omega
 have d8:IntKind.u32.wrap (y:Int)=(y:Int):=by
  unfold IntKind.wrap;simp [IntKind.bits,IntKind.signed];omega
 have c3:Hid (∀v,Z8m ((n:Nat):Int) v→v= .tuple #[.int .i64 ((257+c:Nat):Int),.int .i64 (lx:Int),.int .i64 (x:Int)]):=A5 fun v hv=>by
  rcases hv with ⟨h,_⟩ | ⟨k,c2,q2,x2,z2,e1,_,_,e2,rfl,rfl,rfl,rfl⟩
  ·omega
  obtain rfl:n=k:=by omega
  obtain rfl:=e2.same g
  rw [r,hx]
 have c4:Hid (∀v,Z6k ((d:Nat):Int) v→v= .tuple #[.int .i64 (q:Int),.int .i64 (dx:Int),.int .i64 (y:Int)]):=A5 fun v hv=>by
  rcases hv with ⟨h,_⟩ | ⟨k,c2,q2,x2,z2,e1,_,_,e2,rfl,rfl,rfl,rfl⟩
  ·omega
  obtain rfl:d=k:=by omega
  obtain rfl:=e2.same j
  rw [s,hy,Nat.zero_add]
 have d9:(E0 lit (257+c)).length≤15:=by rw [R8];exact Z43 (m:=15) hlit _
 have e0:(E0 dist q).length≤15:=by rw [R8];exact Z43 (m:=15) hdist _
 have HA:=A5 ((h.newObj [lv,.pointer (some ⟨B1,0,none⟩),.pointer (some ⟨B2,0,none⟩),.int .i64 (bits:Int)] 148).newObj [.int .u8 0,.int .i64 ((n:Nat):Int),.int .i64 ((d:Nat):Int)] 112)
 rw [W2y] at HA
 have c5:=A5 (HA.out.perm ((T09 (l₁:=[_,_]) (l₂:=[_,_,_])).append_right Rs))
 have HC:=A5 (And.intro g.1 (And.intro j.1 (And.intro p a2)))
 clear h h1 h2 p a2 hs hb g j hx hy r s hlit hdist
 have e3:(257+c:Nat) < 288:=by have:=HC.out.1;omega
 unfold Z3h Y69
 simp only
 go_enter Tryz.func223,Tryz.ntmps223
 go_wp2_with fail
 refine (HL.out _).mono ?_
 rintro e w1 ⟨⟨v,rfl,hv⟩,rfl⟩
 obtain rfl:=c3.out v hv
 clear hv HL
 have b2:=A5 (X4q (257+c) c5.out hF1 HC.out.2.2.1 (by omega))
 go_wp2_with fail
 refine b2.out.mono ?_
 rintro e w2 ⟨rfl,f⟩
 have k0:=f.drop.drop.drop.obj.cell (i:=2) rfl
 have k1:=f.drop.drop.drop.drop.obj.cell (i:=1) rfl
 have k2:=f.drop.drop.drop.drop.obj.cell (i:=2) rfl
 have b3:=A5 (Z6r f x lx (by omega) (by omega) (by rw [T07];omega))
 clear f b2
 go_wp2_with fail
 refine b3.out.mono ?_
 rintro e w3 ⟨rfl,f⟩
 have j0:=f.drop.drop.drop.obj.cell (i:=2) rfl
 have j1:=f.drop.drop.drop.drop.obj.cell (i:=1) rfl
 have j2:=f.drop.drop.drop.drop.obj.cell (i:=2) rfl
 have b4:=A5 (X4q q f.mid hF2 HC.out.2.2.2 (by simp only [T07,B5];omega))
 clear f b3 k0 k1 k2
 go_wp2_with fail
 refine (HD.out _).mono ?_
 rintro e w1 ⟨⟨v,rfl,hv⟩,rfl⟩
 obtain rfl:=c4.out v hv
 clear hv HD
 go_wp2_with fail
 refine b4.out.mono ?_
 rintro e w4 ⟨rfl,f⟩
 have b5:=A5 (Z6r f.mid y dx (by omega) (by omega) (by simp only [T07,B5];omega))
 clear f b4 j0 j1 j2
 go_wp2_with fail
 refine b5.out.mono ?_
 rintro e w5 ⟨rfl,f⟩
 have b6:acc++E0 lit (257+c)++A9 lx x++E0 dist q++A9 dx y=acc++Z6z lit dist (0,(n:Int),(d:Int)):=by rw [hE.out];simp
 rw [b6] at f
 have H9:=A5 (f.perm ((T09 (l₁:=[_,_,_]) (l₂:=[_,_])).append_right Rs)).drop.drop
 clear f b6 b5
 go_wp2
 go_end0
 exact ⟨rfl,H9.out⟩
theorem W9p (lit dist:List Int) (l:List E3) (i:Nat) (t:E3) (h:l[i]?=some t):(l.take (i+1)).flatMap (Z6z lit dist)=(l.take i).flatMap (Z6z lit dist)++Z6z lit dist t:=by
 rw [T0b,h];simp
theorem Y74 {lit dist:List Int} {B1 B2 bits n:Nat} {Bw:C4} {acc:List Nat} {S:A6} (lv:Value) (l:List E3) (h:A4 w0 w (wrT Bw acc::J7 lit B1::J7 dist B2::S::Rs)) (hr:Z04 w0 S 3 lv n (I6 l)) (hF1:Y4w lit) (hF2:Y4w dist) (hs:∀t∈l,E9 t=true) (hb:O3 l) (hc:X2b lit dist l) (hn:n < 1048576) (hacc:acc.length < 10000000000):
  Calls Tryz.prog 222 #[Z3h lv B1 B2 bits,.pointer (some ⟨Bw.b,Bw.o,none⟩)] w fun e w'=>e= .returned (.tuple #[])∧A4 w0 w' (wrT Bw (acc++Q3 lit dist l)::J7 lit B1::J7 dist B2::S::Rs):=by
 have j:=hr.rd h.drop.drop.drop
 obtain ⟨ao,m,rfl,_,_⟩:=j.form
 have HL:=A5 j.toks_len
 have HR:=A5 hr
 have p:=A5 (And.intro hs (And.intro hb hc))
 have b2:(0:Int)≤(n:Int):=T01 _
 have H0:=A5 ((h.newObj [.slice ao n m,.pointer (some ⟨B1,0,none⟩),.pointer (some ⟨B2,0,none⟩),.int .i64 (bits:Int)] 148).perm ((T09 (l₁:=[_]) (l₂:=[_,_,_,_])).append_right Rs))
 obtain ⟨C,hC⟩:∃C,C=w.heap.size:=⟨_,rfl⟩
 have y:=A5 hacc
 have z:=H0.out.drop.drop.drop.drop.obj.cell (i:=0) rfl
 clear j hr h hs hb hc hC hacc
 unfold Z3h
 go_enter Tryz.func222,Tryz.ntmps222
 go_wp2
 clear z
 go_loopg [9] (n+1) (fun k t9 wr=>∃i:Nat,i≤n∧n-i < k∧t9= .int .i64 (i:Int)∧
  Hid (A4 w0 wr (wrT Bw (acc++(l.take i).flatMap (Z6z lit dist))::J7 lit B1::J7 dist B2::S::E8 w.heap.size [.slice ao n m,.pointer (some ⟨B1,0,none⟩),.pointer (some ⟨B2,0,none⟩),.int .i64 (bits:Int)] 148::Rs)))
 case atStart=>
  refine ⟨0,by omega,by omega,rfl, ?_⟩
  rw [List.take_zero,List.flatMap_nil,List.append_nil]
  exact H0
 case round=>
  obtain ⟨i,hi,hk,rfl,x⟩:=hrel
  have b3:(0:Int)≤(i:Int):=T01 _
  have f:Hid ((acc++(l.take i).flatMap (Z6z lit dist)).length < 100000000000):=by
   have h1:=Z3d hF1.1 hF2.1 (l:=l.take i) fun t r=>p.out.1 t (T0h r)
   unfold Q3 at h1
   rw [T07] at h1
   rw [T07]
   have h2:(l.take i).length≤i:=by simp;omega
   have h3:=y.out
   exact A5 (by omega)
  by_cases b7:i < n
  ·have a0:(i:Int) < (n:Int):=by omega
   obtain ⟨⟨ta,tl,td⟩,r⟩:∃t,l[i]?=some t:=⟨l[i]'(by have:=HL.out;omega),T03 _⟩
   obtain ⟨g,a3,rfl,c0,c1,c2⟩:=(HR.out.rd x.out.drop.drop.drop).tok r
   have a:=T06 r
   have q:=x.out.alloc (.cells #[.int .u8 ta,.int .i64 tl,.int .i64 td] 112)
   have z:=q.drop.drop.drop.drop.obj.cell (i:=0) rfl
   have k1:=q.drop.drop.drop.drop.obj.cell (i:=1) rfl
   have k2:=q.drop.drop.drop.drop.obj.cell (i:=2) rfl
   have k3:=q.drop.drop.drop.drop.obj.cell (i:=3) rfl
   have d:=A5 (W8c (bits:=bits) (.slice (some ⟨g,a3,none⟩) n m) (ta,tl,td) q hF1 hF2 (p.out.1 _ a) (p.out.2.1 _ a) (p.out.2.2.2 _ a).1 (p.out.2.2.2 _ a).2 f.out hF1.1 hF2.1)
   rw [T0i,←W9p lit dist l i _ r] at d
   unfold Z3h Y69 at d
   simp only at d
   clear q r a
   go_wp2_with fail
   refine d.out.mono ?_
   rintro e w2 ⟨rfl,s⟩
   have H2:=A5 s
   clear s d c0 c1 c2 z k1 k2 k3
   go_wp2
   go_roundg (gk-1)
   case measure=>omega
   case rel=>exact ⟨i+1,by omega,by omega,by go_num,H2⟩
  have a0:¬(i:Int) < (n:Int):=by omega
  have hE:Hid (acc++(l.take i).flatMap (Z6z lit dist)++E0 lit 256=acc++Q3 lit dist l):=by
   rw [T08 (by have:=HL.out;omega),Q3,T0i]
   exact A5 rfl
  have k1:=x.out.drop.drop.drop.drop.obj.cell (i:=1) rfl
  have d:=A5 (X4q 256 x.out hF1 p.out.2.2.1 (by have:=f.out;omega))
  rw [hE.out] at d
  clear x
  go_wp2_with fail
  refine d.out.mono ?_
  rintro e w2 ⟨rfl,s⟩
  have H2:=A5 (s.perm ((T09 (l₁:=[_,_,_,_]) (l₂:=[_])).append_right Rs)).drop
  clear s d k1
  go_wp2
  go_end0
  exact ⟨rfl,H2.out⟩
end
def Z2l (l:List E3):List Nat:=(List.range 286).map (litN l)++(Z0y l++[Z5d l])
def Z4q (l:List E3):List Nat:=Z1i l++(Z0y l++[Z5d l])
theorem T8 (l:List E3):(Z2l l).length=317:=by simp [Z2l,Z0y]
theorem Y3t (l:List E3):(Z4q l).length=317:=by simp [Z4q,Z0y,Z1i]
theorem Z32 (l:List E3) {k:Nat} (h:k < 286):(Z2l l)[k]?=some (litN l k):=by
 unfold Z2l
 rw [T0d (by simpa using h),List.getElem?_map,List.getElem?_range h];rfl
theorem Z7f (l:List E3) {k:Nat} (h:k < 30):(Z2l l)[286+k]?=some (Z5n l k):=by
 unfold Z2l
 rw [T0a (by simp),List.length_map,T0j,Nat.add_sub_cancel_left,T0d (by rw [N4];exact h),X5p l h]
theorem Y22 (l:List E3):(Z2l l)[316]?=some (Z5d l):=by
 unfold Z2l
 rw [T0a (by simp),List.length_map,T0j,T0a (by rw [N4];decide),N4];rfl
theorem Z8s {a b:List Nat} (hl:a.length=b.length) (h:∀k,k < b.length→a[k]?=b[k]?):a=b:=by
 refine List.ext_getElem? fun k=> ?_
 by_cases d:k < b.length
 ·exact h k d
 rw [T0k (by omega),T0k (by omega)]
theorem Z9n {P:Nat→Prop} (h1:∀k,k < 286→P k) (h2:∀k,k < 30→P (286+k)) (h3:P 316):∀k,k < 317→P k:=fun k hk=>by
 by_cases c:k < 286
 ·exact h1 k c
 by_cases c2:k < 316
 ·have:=h2 (k-286) (by omega)
  rwa [show 286+(k-286)=k by omega] at this
 obtain rfl:k=316:=by omega
 exact h3
theorem W8x (l:List E3) (t:E3) (h0:t.2.1=0) (hs:X3 t < 286):(Z2l l).set (X3 t) (litN l (X3 t)+1)=Z2l (l++[t]):=by
 refine Z8s (by simp [T8]) ?_
 rw [T8]
 refine Z9n (fun k hk=> ?_) (fun k hk=> ?_) ?_
 ·rw [T02,Z32 _ hk,Z32 _ hk,X0a,T8]
  by_cases c:X3 t=k
  ·subst c
   rw [if_pos rfl,if_pos (by omega),if_pos rfl]
  rw [if_neg c,if_neg c,T05]
 ·rw [T02,if_neg (by omega),Z7f _ hk,Z7f _ hk,X04,if_neg (fun h=>h.1 h0),T05]
 rw [T02,if_neg (by omega),Y22,Y22,Y9j,Y67,if_pos h0,T05]
theorem X93 (l:List E3) (t:E3) (h0:t.2.1≠0) (hs:X3 t < 286) (hq:Z2g t < 30):
  (((Z2l l).set (X3 t) (litN l (X3 t)+1)).set (286+Z2g t) (Z5n l (Z2g t)+1)).set 316 (Z5d l+Y67 t)=Z2l (l++[t]):=by
 refine Z8s (by simp [T8]) ?_
 rw [T8]
 refine Z9n (fun k hk=> ?_) (fun k hk=> ?_) ?_
 ·rw [T02,if_neg (by omega),T02,if_neg (by omega),T02,Z32 _ hk,Z32 _ hk,X0a,T8]
  by_cases c:X3 t=k
  ·subst c
   rw [if_pos rfl,if_pos (by omega),if_pos rfl]
  rw [if_neg c,if_neg c,T05]
 ·rw [T02,if_neg (by omega),T02,X04 l t k |> fun e=>Z7f (l++[t]) hk |>.trans (congrArg some e)]
  rw [List.length_set,T8]
  by_cases c:Z2g t=k
  ·subst c
   rw [if_pos rfl,if_pos (by omega),if_pos ⟨h0,rfl⟩]
  rw [if_neg (by omega),T02,if_neg (by omega),Z7f _ hk,if_neg (fun h=>c h.2),T05]
 rw [T02,if_pos rfl,if_pos (by simp [T8]),Y22,Y9j]
theorem W7y (l:List E3):(Z2l l).set 256 (litN l 256+1)=Z4q l:=by
 refine Z8s (by simp [T8,Y3t]) ?_
 rw [Y3t]
 have d:∀k,286≤k→(Z4q l)[k]?=(Z2l l)[k]?:=fun k hk=>by
  have e:∀a b:List Nat,a.length=286→(a++b)[k]?=b[k-286]?:=fun a b ha=>by rw [T0a (by omega),ha]
  unfold Z4q Z2l
  rw [e _ _ (N6 l),e _ _ (by simp)]
 refine Z9n (fun k hk=> ?_) (fun k hk=> ?_) ?_
 ·have e:(Z4q l)[k]?=some (Z5o l k):=by
   unfold Z4q
   rw [T0d (by rw [N6];exact hk),X79 l hk]
  rw [e,T02,Z32 _ hk,T8]
  unfold Z5o
  by_cases c:256=k
  ·subst c;rfl
  rw [if_neg c,if_neg c,T05]
 ·rw [d _ (by omega),T02,if_neg (by omega)]
 rw [d _ (by omega),T02,if_neg (by omega)]
section
variable {P:Program} {w:World}
theorem Y6o (t:TypeId) (z:Array Value) (fields:Array Field) (hz:(P.info? t).map (·.zero)=some (some (.agg z))) (ht:P.underlying t=some (.struct fields))
  (ps:Array (Nat×Nat)) (hp:(fields.mapM (m:=Sem) fun f=>do pure (f.offset,←sizeOf f.type)).run P w= .ok ps w):(Instr.build t #[]).run P w= .ok (.agg z) w:=by
 cases hq:P.info? t with
 | none=>simp [hq] at hz
 | some i=>
  have b:i.zero=some (.agg z):=by simpa [hq] using hz
  have a:(zeroValue t).run P w= .ok (.agg z) w:=by
   unfold zeroValue
   simp [typeInfo,hq,b]
  unfold Instr.build
  simp only [Sem.run_bind,a,Result.andThen_ok,run_underlying ht w,hp,Instr.fill,Value.cells,Sem.run_pure]
theorem Y0l {ops:Array Oper} {rest:List Oper} {o:Oper} {ac:Act} {Q:Exit→Act→World→Prop} (hgd:o.guard=none) (t:TypeId) (ho:o.op= .build t #[])
  (z:Array Value) (fields:Array Field) (hz:(P.info? t).map (·.zero)=some (some (.agg z))) (ht:P.underlying t=some (.struct fields))
  (ps:Array (Nat×Nat)) (hp:(fields.mapM (m:=Sem) fun f=>do pure (f.offset,←sizeOf f.type)).run P w= .ok ps w)
  (h:wpList P ops Q rest (ac.put o.dst (.agg z)) w):wpList P ops Q (o::rest) ac w:=
 wpList_plain hgd fun _ hK=>by
  have hr:=Y6o (P:=P) (w:=w) t z fields hz ht ps hp
  unfold Oper.wp execOp
  simp only [ho,Sem.run_bind,Sem.run_pure,List.map_toArray,List.map_nil,hr,Result.andThen_ok]
  exact hK _ _ h
end
theorem V3z:(Tryz.prog.info? 172).map (·.zero)=some (some (.agg (D5 .i64 (Z2l [])).toArray)):=by kernel_rfl
theorem X0x (v:Value) (n:Nat) (l:List E3) (w:World) (hv:Rd w 3 v n (I6 l)) (hn:n < 1048576) (hs:∀t∈l,E9 t=true) (hb:O3 l):
  Calls Tryz.prog 101 #[v] w fun e w'=>∃B,e= .returned (.pointer (some ⟨B,0,none⟩))∧A4 w w' [E8 B (D5 .i64 (Z4q l)) 172]:=by
 obtain ⟨ao,k0,rfl,_,_⟩:=hv.form
 have HL:=A5 hv.toks_len
 have HV:=A5 hv
 have HP:=A5 (And.intro hs hb)
 have i3:(0:Int)≤(n:Int):=T01 _
 clear hv hs hb
 go_enter Tryz.func101,Tryz.ntmps101
 go_wp2_with first
  | ((with_reducible show wpList _ _ _ (⟨some 12,_,_,_,_,_⟩::_) _ _);refine Y0l rfl 172 rfl (D5 .i64 (Z2l [])).toArray _ V3z Tryz.underlying172 _ (by kernel_rfl) ?_)
  | ((with_reducible show wpList _ _ _ (⟨some 13,_,_,_,_,_⟩::_) _ _);refine Z4h rfl 172 (.tmp 12) rfl .i64 (Z2l []) rfl ?_)
  | fail
 have H0:Hid (A4 w (w.alloc (.cells (D5 .i64 (Z2l [])).toArray 172)) [E8 w.heap.size (D5 .i64 (Z2l [])) 172]):=A5 ((A4.start w).newObj _ _)
 go_loopg [16] (n+1) (fun k t16 wr=>∃i:Nat,i≤n∧n-i < k∧t16= .int .i64 (i:Int)∧Hid (A4 w wr [E8 w.heap.size (D5 .i64 (Z2l (l.take i))) 172]))
 case atStart=>exact ⟨0,by omega,by omega,rfl,H0⟩
 case round=>
  obtain ⟨i,hi,hk,rfl,HH⟩:=hrel
  have i5:(0:Int)≤(i:Int):=T01 _
  by_cases j8:i < n
  rotate_left
  ·have e4:¬(i:Int) < (n:Int):=by omega
   have hK:l.take i=l:=T08 (by have:=HL.out;omega)
   rw [hK] at HH
   have a5:litN l 256≤1048576:=by have h1:=X3o l 256;have:=HL.out;omega
   have hg:=Z32 l (k:=256) (by decide)
   have d2:=A5 (W7y l)
   obtain ⟨x,hx⟩:∃x,x=litN l 256:=⟨_,rfl⟩
   rw [←hx] at hg d2 a5
   have k1:=HH.out.obj.cell (i:=256) (v:= .int .i64 (x:Int)) (by simp [D5,hg])
   have f1:=HH.out.obj.frozen 256
   clear hg hx hK
   go_wp2_with fail
   go_still_tail 9,(by kernel_rfl)
   change wpList _ _ _ _ _ (World.drew _)
   have h4:=HH.out.drew.setObj 256 (.int .i64 ((x:Int)+1))
   have H4:Hid (A4 w (wr.drew.setCell ⟨w.heap.size,256,none⟩ (.int .i64 ((x:Int)+1))) [E8 w.heap.size (D5 .i64 (Z4q l)) 172]):=by
    have h7:A4 w _ [E8 w.heap.size ((D5 .i64 (Z2l l)).set 256 (.int .i64 ((x+1:Nat):Int))) 172]:=h4
    rw [Y3,d2.out] at h7
    exact A5 h7
   clear h4
   go_wp2
   go_ret
   exact ⟨_,rfl,H4.out⟩
  have e4:(i:Int) < (n:Int):=by omega
  obtain ⟨⟨ta,b,a⟩,ht⟩:∃t,l[i]?=some t:=⟨l[i]'(by have:=HL.out;omega),T03 _⟩
  obtain ⟨g,k4,rfl,c0,c1,c2⟩:=(HH.out.old HV.out).tok ht
  have a8:=T06 ht
  have r:=HP.out.1 _ a8
  have a2:=HP.out.2 _ a8
  have a3:l.take (i+1)=l.take i++[(ta,b,a)]:=by rw [T0b,ht];rfl
  have a4:(l.take i).length≤1048576:=by simp;omega
  have a9:=Y1v r a2
  have HA:=A5 (HH.out.newObj [.int .u8 ta,.int .i64 b,.int .i64 a] 112)
  obtain ⟨K,hK⟩:∃K,K=l.take i:=⟨_,rfl⟩
  rw [←hK] at HA a3 a4
  have b0:∀k,litN K k≤1048576:=fun k=>Nat.le_trans (X3o K k) a4
  have b4:∀k,Z5n K k≤1048576:=fun k=>Nat.le_trans (X2p K k) a4
  by_cases j:b=0
  ·subst j
   obtain ⟨z,rfl⟩:=T04 a2.1
   have hz:z≤255:=by have:(z:Int)≤255:=a2.2;omega
   have a0:X3 ((z:Int),0,a)=z:=by unfold X3;rw [if_pos rfl];rfl
   have m:=W8x K ((z:Int),0,a) rfl a9
   rw [a0,←a3] at m
   obtain ⟨x,hx⟩:∃x,x=litN K z:=⟨_,rfl⟩
   have a5:=b0 z
   have b5:=Z32 K (k:=z) (by omega)
   rw [←hx] at m a5 b5
   have kx:=HA.out.swap.obj.cell (i:=z) (v:= .int .i64 (x:Int)) (by simp [D5,b5])
   have fx:=HA.out.swap.obj.frozen z
   have t0:=HA.out.obj.cell (i:=0) rfl
   have i9:(z:Int) < 286:=by omega
   have j0:(0:Int)≤(z:Int):=T01 _
   have H9:Hid (A4 w (((wr.alloc (.cells #[.int .u8 (z:Int),.int .i64 0,.int .i64 a] 112)).drew).setCell ⟨w.heap.size,z,none⟩ (.int .i64 ((x+1:Nat):Int))) [E8 w.heap.size (D5 .i64 (Z2l (l.take (i+1)))) 172]):=by
    have h:=(HA.out.swap.drew.setObj z (.int .i64 ((x+1:Nat):Int))).one
    rw [Y3,m] at h
    exact A5 h
   clear HA m b5 hx hK a3 ht a8 r a2 a9 a0 b0 b4
   go_wp2
   generalize wr.alloc (.cells #[.int .u8 (z:Int),.int .i64 0,.int .i64 a] 112)=w2 at kx fx t0 H9⊢
   go_still_tail 11,(by kernel_rfl)
   change wpList _ _ _ _ _ (World.drew _)
   go_wp2
   go_roundg (gk-1)
   case measure=>omega
   case rel=>exact ⟨i+1,by omega,by omega,by go_num,H9⟩
  obtain ⟨b6,⟨c5,c6⟩,c7,c8⟩:=V5 r j
  have b6:ta=0:=b6
  have c5:3≤b:=c5
  have c6:b≤258:=c6
  have c7:1≤a:=c7
  have c8:a≤32768:=c8
  subst b6
  have a1:=Y12 r j
  have d:=Z6h r j
  have f:=X93 K (0,b,a) j a9 d.1
  have a0:X3 (0,b,a)=257+Y0e (0,b,a):=by unfold X3;rw [if_neg j]
  have b1:Y67 (0,b,a)=lX (Y0e (0,b,a))+dX (Z2g (0,b,a)):=by unfold Y67;rw [if_neg j]
  rw [a0,b1,←a3] at f
  generalize Y0e (0,b,a)=c at a1 f a0 b1
  generalize Z2g (0,b,a)=q at d f b1
  obtain ⟨b,rfl⟩:=T04 (show 0≤b by omega)
  obtain ⟨a,rfl⟩:=T04 (show 0≤a by omega)
  simp only [T0g] at a1 d
  have e5:=X0u c a1.1
  have e6:=Y9l q d.1
  have g0:=a1.1
  have c9:=d.1
  have hL:=A5 (Y4j ((b:Nat):Int))
  have hD:=A5 (Y1g ((a:Nat):Int))
  obtain ⟨lx,o⟩:∃lx,lx=lX c:=⟨_,rfl⟩
  obtain ⟨dx,p⟩:∃dx,dx=dX q:=⟨_,rfl⟩
  obtain ⟨x,hx⟩:∃x,x=litN K (257+c):=⟨_,rfl⟩
  obtain ⟨y,hy⟩:∃y,y=Z5n K q:=⟨_,rfl⟩
  obtain ⟨u,hu⟩:∃u,u=Z5d K:=⟨_,rfl⟩
  rw [←hx,←hy,←hu,←o,←p] at f
  rw [←o] at e5
  rw [←p] at e6
  have a5:=b0 (257+c)
  have e7:=b4 q
  have e8:u≤18*K.length:=by
   rw [hu]
   have:∀L:List E3,(∀t∈L,E9 t=true)→Z5d L≤18*L.length:=by
    intro L
    induction L with
    | nil=>intro _;exact T00 _
    | cons t L ih=>
     intro h
     have h1:=ih fun s hs=>h s (List.mem_cons_of_mem _ hs)
     have h2:=X2l (h t (List.mem_cons_self ..))
     simp only [Z5d,List.map_cons,List.sum_cons,List.length_cons] at h1⊢
     omega
   refine this K fun t ht2=>HP.out.1 t ?_
   rw [hK] at ht2
   exact T0h ht2
  rw [←hx] at a5
  rw [←hy] at e7
  have g1:=Z32 K (k:=257+c) (by omega)
  have g2:=Z7f K (k:=q) c9
  have g3:=Y22 K
  rw [←hx] at g1
  rw [←hy] at g2
  rw [←hu] at g3
  have d0:Hid (∀v,Z8m ((b:Nat):Int) v→v= .tuple #[.int .i64 ((257+c:Nat):Int),.int .i64 (lx:Int),.int .i64 ((b-lB c:Nat):Int)]):=A5 fun v hv=>by
   rcases hv with ⟨h,_⟩ | ⟨k,c2,q2,x2,z2,e1,_,_,e2,rfl,rfl,rfl,rfl⟩
   ·omega
   obtain rfl:b=k:=by omega
   obtain rfl:=e2.same a1
   rw [o]
  have e9:Hid (∀v,Z6k ((a:Nat):Int) v→v= .tuple #[.int .i64 (q:Int),.int .i64 (dx:Int),.int .i64 ((a-dB q:Nat):Int)]):=A5 fun v hv=>by
   rcases hv with ⟨h,_⟩ | ⟨k,c2,q2,x2,z2,e1,_,_,e2,rfl,rfl,rfl,rfl⟩
   ·omega
   obtain rfl:a=k:=by omega
   obtain rfl:=e2.same d
   rw [p,Nat.zero_add]
  obtain ⟨s,hs⟩:∃s,s=257+c:=⟨_,rfl⟩
  rw [←hs] at f g1 d0
  have j1:(s:Int) < 286:=by omega
  have j2:(q:Int) < 30:=by omega
  have j3:(0:Int)≤(s:Int):=T01 _
  have j4:(0:Int)≤(q:Int):=T01 _
  have j5:s < 286:=by omega
  have HB:=HA.out.swap
  have t1:=HA.out.obj.cell (i:=1) rfl
  have t2:=HA.out.obj.cell (i:=2) rfl
  have k1:=HB.obj.cell (i:=s) (v:= .int .i64 (x:Int)) (by simp [D5,g1])
  have k2:=HB.obj.cell (i:=286+q) (v:= .int .i64 (y:Int)) (by simp [D5,g2])
  have k3:=HB.obj.cell (i:=316) (v:= .int .i64 (u:Int)) (by simp [D5,g3])
  have f1:=HB.obj.frozen s
  have f2:=HB.obj.frozen (286+q)
  have f3:=HB.obj.frozen 316
  have j6:u≤18*1048576:=by omega
  have b7:=A5 HB
  have f5:=A5 f
  have G2:Hid ((D5 .i64 (Z2l K))[286+q]?=some (.int .i64 (y:Int))∧(D5 .i64 (Z2l K))[316]?=some (.int .i64 (u:Int))):=A5 ⟨by simp [D5,g2],by simp [D5,g3]⟩
  clear k2 k3 f2 f3
  clear HA HB f g1 g2 g3 hx hy hu hK a3 ht a8 r a2 a9 a0 b0 b4 a1 d o p b1 e8 hs
  go_wp2_with fail
  refine (hL.out _).mono ?_
  rintro e w3 ⟨⟨v,rfl,hv⟩,rfl⟩
  obtain rfl:=d0.out v hv
  clear hv hL
  go_wp2_with fail
  refine (hD.out _).mono ?_
  rintro e w3 ⟨⟨v,rfl,hv⟩,rfl⟩
  obtain rfl:=e9.out v hv
  clear hv hD
  go_wp2
  generalize wr.alloc (.cells #[.int .u8 0,.int .i64 ((b:Nat):Int),.int .i64 ((a:Nat):Int)] 112)=w2 at k1 f1 t1 t2 b7⊢
  go_still_tail 10,(by kernel_rfl)
  change wpList _ _ _ _ _ (World.drew _)
  go_wp2
  have h4:=(b7.out.setObj s (.int .i64 ((x:Int)+1))).drew
  generalize (w2.setCell ⟨w.heap.size,s,none⟩ (.int .i64 ((x:Int)+1))).drew=w4 at h4⊢
  have k2:=h4.obj.cell (i:=286+q) (v:= .int .i64 (y:Int)) (by rw [T02,if_neg (by omega)];exact G2.out.1)
  have f2:=h4.obj.frozen (286+q)
  have H4:=A5 h4
  clear h4 b7 k1 f1 t1 t2
  go_still_tail 10,(by kernel_rfl)
  change wpList _ _ _ _ _ (World.drew _)
  have h5:=(H4.out.setObj (286+q) (.int .i64 ((y:Int)+1))).drew
  have k3:=h5.obj.cell (i:=316) (v:= .int .i64 (u:Int)) (by rw [T02,if_neg (by omega),T02,if_neg (by omega)];exact G2.out.2)
  have f3:=h5.obj.frozen 316
  have h6:=h5.setObj 316 (.int .i64 ((u:Int)+((lx:Int)+(dx:Int))))
  have H6:Hid (A4 w (((w4.setCell ⟨w.heap.size,286+q,none⟩ (.int .i64 ((y:Int)+1))).drew).setCell ⟨w.heap.size,316,none⟩ (.int .i64 ((u:Int)+((lx:Int)+(dx:Int))))) [E8 w.heap.size (D5 .i64 (Z2l (l.take (i+1)))) 172]):=by
   have h7:A4 w _ [E8 w.heap.size ((((D5 .i64 (Z2l K)).set s (.int .i64 ((x+1:Nat):Int))).set (286+q) (.int .i64 ((y+1:Nat):Int))).set 316 (.int .i64 ((u+(lx+dx):Nat):Int))) 172]:=h6.one
   rw [Y3,Y3,Y3,f5.out] at h7
   exact A5 h7
  clear h5 h6
  go_wp2
  go_roundg (gk-1)
  case measure=>omega
  case rel=>exact ⟨i+1,by omega,by omega,by go_num,H6⟩
theorem W3c (v:Value) (n:Nat) (l:List Int) (w:World) (hv:Rd w 1 v n (D3 l)) (hn:n < 1000000) (h1:1≤n):
  Calls Tryz.prog 189 #[v] w fun e w'=>e= .returned (.int .i64 ((N8 (l[0]?.getD 0) l:Nat):Int))∧∃c,w'=w.drewN c:=by
 obtain ⟨g,b,a3,a⟩:∃g b,(∃o,v= .slice (some ⟨g,b,none⟩) n o)∧∀j u,(D3 l)[j]?=some u→w.cell? ⟨g,b+j,none⟩=some u:=by
  obtain ⟨ao,o,rfl,_,_⟩:=hv.form
  obtain ⟨g,b,rfl,h⟩:=hv.spot (by omega)
  exact ⟨g,b,⟨o,rfl⟩,h⟩
 obtain ⟨o,rfl⟩:=a3
 have p:l.length=n:=by have:=hv.1;rw [L6] at this;omega
 obtain ⟨z,hz⟩:∃z,l[0]?=some z:=⟨l[0]'(by omega),T03 _⟩
 have HC:=A5 a
 have c0:=a 0 _ (by rw [G5,hz];rfl)
 rw [T05] at c0
 rw [hz]
 simp only [Option.getD_some]
 have a0:=A5 p
 have q:=Y1b z l
 rw [p] at q
 obtain ⟨r,hr⟩:∃r,r=N8 z l:=⟨_,rfl⟩
 rw [←hr] at q⊢
 have HR:=A5 hr
 have a9:(0:Int)≤(n:Int):=T01 _
 clear hv a hz p hr
 go_enter Tryz.func189,Tryz.ntmps189
 go_wp2
 go_loopg [3] (n+1) (fun k t3 wr=>∃ (i d:Nat),i≤r∧n-i < k∧t3= .int .i64 (i:Int)∧wr=w.drewN d)
 case atStart=>exact ⟨0,0,by omega,by omega,rfl,rfl⟩
 case round=>
  obtain ⟨i,d,hi,hk,rfl,rfl⟩:=hrel
  have b0:(0:Int)≤(i:Int):=T01 _
  by_cases b4:i < n
  rotate_left
  ·have a1:decide ((i:Int) < (n:Int))=false:=by simp;omega
   have s:decide (i < n)=false:=by simp;omega
   have f:i=r:=by omega
   subst f
   go_wp2_with fail
   go_quiet (fail)
   go_wp2
   go_ret
   exact ⟨rfl,_,Z2b _ _ _⟩
  have a1:decide ((i:Int) < (n:Int))=true:=by simp;omega
  have s:decide (i < n)=true:=by simp;omega
  have b1:(i:Int) < (n:Int):=by omega
  have b2:(0:Int) < (n:Int):=by omega
  obtain ⟨x,t⟩:∃x,l[i]?=some x:=⟨l[i]'(by have:=a0.out;omega),T03 _⟩
  have c1:=HC.out i _ (by rw [G5,t];rfl)
  by_cases m:x=z
  ·have f:i+1≤r:=by
    refine Classical.byContradiction fun h=> ?_
    obtain rfl:r=i:=by omega
    have y:=HR.out
    have h3:=Y6b z l x (by rw [←y];exact t)
    exact h3 m
   have a2:(x==z)=true:=by simp [m]
   clear t
   go_wp2_with fail
   go_quiet (fail)
   go_wp2
   go_roundg (gk-1)
   case measure=>omega
   case rel=>exact ⟨i+1,_,by omega,by omega,by go_num,rfl⟩
  have f:i=r:=by
   refine Classical.byContradiction fun h=>m ?_
   have y:=Y3m z l i (by have:=HR.out;omega)
   rw [t] at y
   simpa using y
  have a2:(x==z)=false:=by simp [m]
  clear t
  subst f
  go_wp2_with fail
  go_quiet (fail)
  go_wp2
  go_ret
  exact ⟨rfl,_,Z2b _ _ _⟩
theorem Z9t (sy ex le mx r:Nat) (hc:sy=18∧ex=7∧le=11∧mx=138∨sy=17∧ex=3∧le=3∧mx=10∨sy=16∧ex=2∧le=3∧mx=6) (hr:le≤r) (hr2:r < 1000000) (w:World):
  Calls Tryz.prog 190 #[.int .i64 (sy:Int),.int .i64 (ex:Int),.int .i64 (le:Int),.int .i64 (r:Int)] w fun e w'=>e= .returned (.tuple #[.agg #[.int .i64 (sy:Int),.int .i64 (ex:Int),.int .i64 ((min r mx-le:Nat):Int)],.int .i64 ((min r mx:Nat):Int)])∧E5 w w' (fun _=>False):=by
 have g:(0:Int)≤(r:Int):=T01 _
 rcases hc with ⟨rfl,rfl,rfl,rfl⟩ | ⟨rfl,rfl,rfl,rfl⟩ | ⟨rfl,rfl,rfl,rfl⟩
 ·by_cases f:r < 138
  ·have a:(r:Int) < 138:=by omega
   have b:(r:Int)-11=((r-11:Nat):Int):=by omega
   rw [T0e (by omega)]
   go_enter Tryz.func190,Tryz.ntmps190
   go_wp2
   go_returns
   exact ⟨rfl,(E5.refl _ _).alloc _⟩
  have a:¬(r:Int) < 138:=by omega
  have b:(if (r:Int) < 138 then (r:Int) else 138)=138:=if_neg a
  have d:(if (138:Int) < (r:Int) then (138:Int) else (r:Int))=138:=by
   split <;> omega
  rw [T0f (by omega)]
  go_enter Tryz.func190,Tryz.ntmps190
  go_wp2
  go_returns
  exact ⟨rfl,(E5.refl _ _).alloc _⟩
 ·by_cases f:r < 10
  ·have a:(r:Int) < 10:=by omega
   have b:(r:Int)-3=((r-3:Nat):Int):=by omega
   rw [T0e (by omega)]
   go_enter Tryz.func190,Tryz.ntmps190
   go_wp2
   go_returns
   exact ⟨rfl,(E5.refl _ _).alloc _⟩
  have a:¬(r:Int) < 10:=by omega
  have b:(if (r:Int) < 10 then (r:Int) else 10)=10:=if_neg a
  have d:(if (10:Int) < (r:Int) then (10:Int) else (r:Int))=10:=by
   split <;> omega
  rw [T0f (by omega)]
  go_enter Tryz.func190,Tryz.ntmps190
  go_wp2
  go_returns
  exact ⟨rfl,(E5.refl _ _).alloc _⟩
 by_cases f:r < 6
 ·have a:(r:Int) < 6:=by omega
  have b:(r:Int)-3=((r-3:Nat):Int):=by omega
  rw [T0e (by omega)]
  go_enter Tryz.func190,Tryz.ntmps190
  go_wp2
  go_returns
  exact ⟨rfl,(E5.refl _ _).alloc _⟩
 have a:¬(r:Int) < 6:=by omega
 have b:(if (r:Int) < 6 then (r:Int) else 6)=6:=if_neg a
 have d:(if (6:Int) < (r:Int) then (6:Int) else (r:Int))=6:=by
  split <;> omega
 rw [T0f (by omega)]
 go_enter Tryz.func190,Tryz.ntmps190
 go_wp2
 go_returns
 exact ⟨rfl,(E5.refl _ _).alloc _⟩
def itV (x:Y0):Value:= .agg #[.int .i64 (x.1:Int),.int .i64 (x.2.1:Int),.int .i64 (x.2.2:Int)]
theorem X2h (v:Value) (n a:Nat) (all:List Int) (w:World) (hv:Rd w 1 v n (D3 all)) (hn:n < 100000) (ha:a < n) (hA:∀x∈all,0≤x∧x≤15):
  Calls Tryz.prog 169 #[v,.int .i64 (a:Int)] w fun e w'=>e= .returned (.tuple #[itV (U7 all a).1,.int .i64 (((U7 all a).2:Nat):Int)])∧E5 w w' (fun _=>False):=by
 obtain ⟨i,hi,d,d9,f6⟩:=info_parts Z7h
 obtain ⟨ao,a5,rfl,e0,f7⟩:=hv.form
 have c5:all.length=n:=by have:=hv.1;rw [L6] at this;omega
 have a4:=(hv.cut (L:=a) (H:=n) (by omega) (T00 _))
 have a7:∀wg,(Instr.sliceAt 52 (.slice ao n a5) (some (.int .i64 (a:Int))) none none).run Tryz.prog wg= .ok (sliced ao a n a5 1) wg:=fun wg=>
  O0 (P:=Tryz.prog) 52 3 i 1 Tryz.underlying52 hi d9 ao n a5 a n (some (.int .i64 (a:Int))) none ⟨_,rfl⟩ rfl (by omega) e0
 have e2:((D3 all).drop (a*1)).take ((n-a)*1)=D3 (all.drop a):=by
  rw [Nat.mul_one,Nat.mul_one,T08 (by rw [T0l,L6];omega)]
  simp [D3,List.map_drop]
 rw [e2] at a4
 generalize sliced ao a n a5 1=sv at a7 a4
 obtain ⟨g,a6,rfl,t⟩:=hv.spot (by omega)
 obtain ⟨z,hz⟩:∃z,all[a]?=some z:=⟨all[a]'(by omega),T03 _⟩
 have c0:=t a _ (by rw [G5,hz];rfl)
 have HQ:=A5 (fun k=>W3c sv (n-a) (all.drop a) ((w.alloc (.cells #[.int .i64 0,.int .i64 0,.int .i64 0] 205)).drewN k) ((a4.kept ((E5.refl w (fun _=>False)).alloc _) (fun _ _ h=>h)).drewTo rfl) (by omega) (by omega))
 have c6:(all.drop a)[0]?.getD 0=z:=by rw [List.getElem?_drop,T05,hz];rfl
 rw [c6] at HQ
 have y:=hA z (T06 hz)
 have c7:=Y1b z (all.drop a)
 rw [T0l,c5] at c7
 have hE:Hid (U7 all a=if z=0∧11≤N8 z (all.drop a) then ((18,7,min (N8 z (all.drop a)) 138-11),min (N8 z (all.drop a)) 138) else if z=0∧3≤N8 z (all.drop a) then ((17,3,min (N8 z (all.drop a)) 10-3),min (N8 z (all.drop a)) 10)
   else if 0 < a∧all[a-1]?.getD 0=z∧3≤N8 z (all.drop a) then ((16,2,min (N8 z (all.drop a)) 6-3),min (N8 z (all.drop a)) 6) else ((z.toNat,0,0),1)):=by
  unfold Hid U7
  rw [hz];rfl
 generalize N8 z (all.drop a)=r at hE HQ c7
 have e6:(0:Int)≤(a:Int):=T01 _
 have e7:(a:Int) < (n:Int):=by omega
 have e8:(0:Int)≤(r:Int):=T01 _
 have c8:=A5 (((hv.kept ((E5.refl w (fun _=>False)).alloc (.cells #[.int .i64 0,.int .i64 0,.int .i64 0] 205)) (fun _ _ h=>h)).at (u:= .int .i64 z) (j:=a) (by rw [G5,hz];rfl)))
 have HP:Hid (0 < a→w.cell? ⟨g,a6+(a-1),none⟩=some (.int .i64 (all[a-1]?.getD 0))):=A5 fun h=>t (a-1) _ (by rw [G5,T03 (by omega)];rfl)
 clear t hv a4 e2 c6 hz c5
 go_enter Tryz.func169,Tryz.ntmps169
 go_wp2_with fail
 have d3:(w.alloc (.cells #[.int .i64 0,.int .i64 0,.int .i64 0] 205)).cell? ⟨g,a6+a,none⟩=some (.int .i64 z):=c8.out
 go_quiet ((go_at_call 189;exact (HQ.out _).mono fun _ _ h=>⟨h.1,_,h.2.choose_spec.trans (Z2b _ _ _)⟩))
 obtain ⟨w1,c3⟩:∃w1,w1=(w.alloc (.cells #[.int .i64 0,.int .i64 0,.int .i64 0] 205)).drewN nq:=⟨_,rfl⟩
 have q:Hid (A4 w w1 [E8 w.heap.size [.int .i64 0,.int .i64 0,.int .i64 0] 205]):=by
  rw [c3];exact A5 (((A4.start w).newObj [.int .i64 0,.int .i64 0,.int .i64 0] 205).drewN _)
 have c9:Hid (0 < a→w1.cell? ⟨g,a6+(a-1),none⟩=some (.int .i64 (all[a-1]?.getD 0))):=A5 fun h=>by
  have b:=HP.out h
  rw [q.out.mod.cell (World.block_lt_of_cell? w _ b) (fun h=>h)];exact b
 rw [←c3]
 clear HQ a7 c8 d3 c0 HP c3
 generalize all[a-1]?.getD 0=p at hE c9
 have d0:Hid (0 < a→w1.cell? ⟨g,a6+(a-1),none⟩=some (.int .i64 p)):=c9
 by_cases d:z=0
 rotate_left
 ·have b1:(z==0)=false:=by simp [d]
  by_cases a3:0 < a
  rotate_left
  ·have b4:decide ((0:Int) < (a:Int))=false:=by simp;omega
   have f:Hid (U7 all a=((z.toNat,0,0),1)):=by
    unfold Hid;rw [hE.out,if_neg (fun h=>d h.1),if_neg (fun h=>d h.1),if_neg (fun h=>a3 h.1)]
   have o:Hid (((z.toNat:Nat):Int)=z):=A5 (by have:=y.1;omega)
   have b:=q.out
   have f0:=b.obj.frozen 0
   have f1:=b.obj.frozen 1
   have f2:=b.obj.frozen 2
   have k0:=b.obj.cell (i:=0) rfl
   have k1:=b.obj.cell (i:=1) rfl
   have k2:=b.obj.cell (i:=2) rfl
   have l:=A5 (((b.setObj 0 (.int .i64 z)).setObj 1 (.int .i64 0)).setObj 2 (.int .i64 0))
   have m:=A5 b.mod
   clear b q
   go_wp2
   try simp only [Exit.inBlock,Exit.then]
   refine M9 rfl _ 3 Tryz.underlying205 rfl (by kernel_rfl) w.heap.size [.int .i64 z,.int .i64 0,.int .i64 0] 205 _ rfl rfl rfl l.out.obj rfl ?_
   rw [f.out]
   unfold itV
   simp only [o.out]
   exact ⟨rfl,((m.out.setCell (.inl (T00 _)) _).setCell (.inl (T00 _)) _).setCell (.inl (T00 _)) _⟩
  have b4:decide ((0:Int) < (a:Int))=true:=by simp;omega
  have d6:(a:Int)-1=((a-1:Nat):Int):=by omega
  have d7:((a-1:Nat):Int) < (n:Int):=by omega
  have kp:=d0.out a3
  by_cases s:p=z
  rotate_left
  ·have b5:(p==z)=false:=by simp [s]
   have f:Hid (U7 all a=((z.toNat,0,0),1)):=by
    unfold Hid;rw [hE.out,if_neg (fun h=>d h.1),if_neg (fun h=>d h.1),if_neg (fun h=>s h.2.1)]
   have o:Hid (((z.toNat:Nat):Int)=z):=A5 (by have:=y.1;omega)
   have b:=q.out
   have f0:=b.obj.frozen 0
   have f1:=b.obj.frozen 1
   have f2:=b.obj.frozen 2
   have k0:=b.obj.cell (i:=0) rfl
   have k1:=b.obj.cell (i:=1) rfl
   have k2:=b.obj.cell (i:=2) rfl
   have l:=A5 (((b.setObj 0 (.int .i64 z)).setObj 1 (.int .i64 0)).setObj 2 (.int .i64 0))
   have m:=A5 b.mod
   clear b q
   go_wp2
   try simp only [Exit.inBlock,Exit.then]
   refine M9 rfl _ 3 Tryz.underlying205 rfl (by kernel_rfl) w.heap.size [.int .i64 z,.int .i64 0,.int .i64 0] 205 _ rfl rfl rfl l.out.obj rfl ?_
   rw [f.out]
   unfold itV
   simp only [o.out]
   exact ⟨rfl,((m.out.setCell (.inl (T00 _)) _).setCell (.inl (T00 _)) _).setCell (.inl (T00 _)) _⟩
  have b5:(p==z)=true:=by simp [s]
  by_cases h3:3≤r
  ·have b3:decide ((3:Int)≤(r:Int))=true:=by simp;omega
   have HX:=A5 (Z9t 16 2 3 6 r (.inr (.inr ⟨rfl,rfl,rfl,rfl⟩)) h3 (by omega) w1)
   have f:Hid (U7 all a=((16,2,min r 6-3),min r 6)):=by
    unfold Hid;rw [hE.out,if_neg (fun h=>d h.1),if_neg (fun h=>d h.1),if_pos ⟨a3,s,h3⟩]
   go_wp2_with fail
   refine HX.out.mono ?_
   rintro e w2 ⟨rfl,hm⟩
   have b:=q.out.same hm
   have f0:=b.obj.frozen 0
   have f1:=b.obj.frozen 1
   have f2:=b.obj.frozen 2
   have k0:=b.obj.cell (i:=0) rfl
   have k1:=b.obj.cell (i:=1) rfl
   have k2:=b.obj.cell (i:=2) rfl
   have l:=A5 (((b.setObj 0 (.int .i64 ((16:Nat):Int))).setObj 1 (.int .i64 ((2:Nat):Int))).setObj 2 (.int .i64 ((min r 6-3:Nat):Int)))
   have m:=A5 b.mod
   clear b hm HX
   go_wp2
   try simp only [Exit.inBlock,Exit.then]
   refine M9 rfl _ 3 Tryz.underlying205 rfl (by kernel_rfl) w.heap.size [.int .i64 ((16:Nat):Int),.int .i64 ((2:Nat):Int),.int .i64 ((min r 6-3:Nat):Int)] 205 _ rfl rfl rfl l.out.obj rfl ?_
   rw [f.out]
   exact ⟨rfl,((m.out.setCell (.inl (T00 _)) _).setCell (.inl (T00 _)) _).setCell (.inl (T00 _)) _⟩
  have b3:decide ((3:Int)≤(r:Int))=false:=by simp;omega
  have f:Hid (U7 all a=((z.toNat,0,0),1)):=by
   unfold Hid;rw [hE.out,if_neg (fun h=>d h.1),if_neg (fun h=>d h.1),if_neg (fun h=>h3 h.2.2)]
  have o:Hid (((z.toNat:Nat):Int)=z):=A5 (by have:=y.1;omega)
  have b:=q.out
  have f0:=b.obj.frozen 0
  have f1:=b.obj.frozen 1
  have f2:=b.obj.frozen 2
  have k0:=b.obj.cell (i:=0) rfl
  have k1:=b.obj.cell (i:=1) rfl
  have k2:=b.obj.cell (i:=2) rfl
  have l:=A5 (((b.setObj 0 (.int .i64 z)).setObj 1 (.int .i64 0)).setObj 2 (.int .i64 0))
  have m:=A5 b.mod
  clear b q
  go_wp2
  try simp only [Exit.inBlock,Exit.then]
  refine M9 rfl _ 3 Tryz.underlying205 rfl (by kernel_rfl) w.heap.size [.int .i64 z,.int .i64 0,.int .i64 0] 205 _ rfl rfl rfl l.out.obj rfl ?_
  rw [f.out]
  unfold itV
  simp only [o.out]
  exact ⟨rfl,((m.out.setCell (.inl (T00 _)) _).setCell (.inl (T00 _)) _).setCell (.inl (T00 _)) _⟩
 have b1:(z==0)=true:=by simp [d]
 by_cases a0:11≤r
 ·have b2:decide ((11:Int)≤(r:Int))=true:=by simp;omega
  have HX:=A5 (Z9t 18 7 11 138 r (.inl ⟨rfl,rfl,rfl,rfl⟩) a0 (by omega) w1)
  have f:Hid (U7 all a=((18,7,min r 138-11),min r 138)):=by
   unfold Hid;rw [hE.out,if_pos ⟨d,a0⟩]
  go_wp2_with fail
  refine HX.out.mono ?_
  rintro e w2 ⟨rfl,hm⟩
  have b:=q.out.same hm
  have f0:=b.obj.frozen 0
  have f1:=b.obj.frozen 1
  have f2:=b.obj.frozen 2
  have k0:=b.obj.cell (i:=0) rfl
  have k1:=b.obj.cell (i:=1) rfl
  have k2:=b.obj.cell (i:=2) rfl
  have l:=A5 (((b.setObj 0 (.int .i64 ((18:Nat):Int))).setObj 1 (.int .i64 ((7:Nat):Int))).setObj 2 (.int .i64 ((min r 138-11:Nat):Int)))
  have m:=A5 b.mod
  clear b hm HX
  go_wp2
  try simp only [Exit.inBlock,Exit.then]
  refine M9 rfl _ 3 Tryz.underlying205 rfl (by kernel_rfl) w.heap.size [.int .i64 ((18:Nat):Int),.int .i64 ((7:Nat):Int),.int .i64 ((min r 138-11:Nat):Int)] 205 _ rfl rfl rfl l.out.obj rfl ?_
  rw [f.out]
  exact ⟨rfl,((m.out.setCell (.inl (T00 _)) _).setCell (.inl (T00 _)) _).setCell (.inl (T00 _)) _⟩
 have b2:decide ((11:Int)≤(r:Int))=false:=by simp;omega
 by_cases h3:3≤r
 ·have b3:decide ((3:Int)≤(r:Int))=true:=by simp;omega
  have HX:=A5 (Z9t 17 3 3 10 r (.inr (.inl ⟨rfl,rfl,rfl,rfl⟩)) h3 (by omega) w1)
  have f:Hid (U7 all a=((17,3,min r 10-3),min r 10)):=by
   unfold Hid;rw [hE.out,if_neg (fun h=>a0 h.2),if_pos ⟨d,h3⟩]
  go_wp2_with fail
  refine HX.out.mono ?_
  rintro e w2 ⟨rfl,hm⟩
  have b:=q.out.same hm
  have f0:=b.obj.frozen 0
  have f1:=b.obj.frozen 1
  have f2:=b.obj.frozen 2
  have k0:=b.obj.cell (i:=0) rfl
  have k1:=b.obj.cell (i:=1) rfl
  have k2:=b.obj.cell (i:=2) rfl
  have l:=A5 (((b.setObj 0 (.int .i64 ((17:Nat):Int))).setObj 1 (.int .i64 ((3:Nat):Int))).setObj 2 (.int .i64 ((min r 10-3:Nat):Int)))
  have m:=A5 b.mod
  clear b hm HX
  go_wp2
  try simp only [Exit.inBlock,Exit.then]
  refine M9 rfl _ 3 Tryz.underlying205 rfl (by kernel_rfl) w.heap.size [.int .i64 ((17:Nat):Int),.int .i64 ((3:Nat):Int),.int .i64 ((min r 10-3:Nat):Int)] 205 _ rfl rfl rfl l.out.obj rfl ?_
  rw [f.out]
  exact ⟨rfl,((m.out.setCell (.inl (T00 _)) _).setCell (.inl (T00 _)) _).setCell (.inl (T00 _)) _⟩
 have b3:decide ((3:Int)≤(r:Int))=false:=by simp;omega
 by_cases a3:0 < a
 rotate_left
 ·have b4:decide ((0:Int) < (a:Int))=false:=by simp;omega
  have f:Hid (U7 all a=((z.toNat,0,0),1)):=by
   unfold Hid;rw [hE.out,if_neg (fun h=>a0 h.2),if_neg (fun h=>h3 h.2),if_neg (fun h=>h3 h.2.2)]
  have o:Hid (((z.toNat:Nat):Int)=z):=A5 (by have:=y.1;omega)
  have b:=q.out
  have f0:=b.obj.frozen 0
  have f1:=b.obj.frozen 1
  have f2:=b.obj.frozen 2
  have k0:=b.obj.cell (i:=0) rfl
  have k1:=b.obj.cell (i:=1) rfl
  have k2:=b.obj.cell (i:=2) rfl
  have l:=A5 (((b.setObj 0 (.int .i64 z)).setObj 1 (.int .i64 0)).setObj 2 (.int .i64 0))
  have m:=A5 b.mod
  clear b q
  go_wp2
  try simp only [Exit.inBlock,Exit.then]
  rw [d] at l
  refine M9 rfl _ 3 Tryz.underlying205 rfl (by kernel_rfl) w.heap.size [.int .i64 0,.int .i64 0,.int .i64 0] 205 _ rfl rfl rfl l.out.obj rfl ?_
  rw [f.out]
  unfold itV
  simp only [d]
  exact ⟨rfl,((m.out.setCell (.inl (T00 _)) _).setCell (.inl (T00 _)) _).setCell (.inl (T00 _)) _⟩
 have b4:decide ((0:Int) < (a:Int))=true:=by simp;omega
 have d6:(a:Int)-1=((a-1:Nat):Int):=by omega
 have d7:((a-1:Nat):Int) < (n:Int):=by omega
 have kp:=d0.out a3
 by_cases s:p=z
 ·have b5:(p==z)=true:=by simp [s]
  have f:Hid (U7 all a=((z.toNat,0,0),1)):=by
   unfold Hid;rw [hE.out,if_neg (fun h=>a0 h.2),if_neg (fun h=>h3 h.2),if_neg (fun h=>h3 h.2.2)]
  have o:Hid (((z.toNat:Nat):Int)=z):=A5 (by have:=y.1;omega)
  have b:=q.out
  have f0:=b.obj.frozen 0
  have f1:=b.obj.frozen 1
  have f2:=b.obj.frozen 2
  have k0:=b.obj.cell (i:=0) rfl
  have k1:=b.obj.cell (i:=1) rfl
  have k2:=b.obj.cell (i:=2) rfl
  have l:=A5 (((b.setObj 0 (.int .i64 z)).setObj 1 (.int .i64 0)).setObj 2 (.int .i64 0))
  have m:=A5 b.mod
  clear b q
  go_wp2
  try simp only [Exit.inBlock,Exit.then]
  rw [d] at l
  refine M9 rfl _ 3 Tryz.underlying205 rfl (by kernel_rfl) w.heap.size [.int .i64 0,.int .i64 0,.int .i64 0] 205 _ rfl rfl rfl l.out.obj rfl ?_
  rw [f.out]
  unfold itV
  simp only [d]
  exact ⟨rfl,((m.out.setCell (.inl (T00 _)) _).setCell (.inl (T00 _)) _).setCell (.inl (T00 _)) _⟩
 have b5:(p==z)=false:=by simp [s]
 have f:Hid (U7 all a=((z.toNat,0,0),1)):=by
  unfold Hid;rw [hE.out,if_neg (fun h=>a0 h.2),if_neg (fun h=>h3 h.2),if_neg (fun h=>h3 h.2.2)]
 have o:Hid (((z.toNat:Nat):Int)=z):=A5 (by have:=y.1;omega)
 have b:=q.out
 have f0:=b.obj.frozen 0
 have f1:=b.obj.frozen 1
 have f2:=b.obj.frozen 2
 have k0:=b.obj.cell (i:=0) rfl
 have k1:=b.obj.cell (i:=1) rfl
 have k2:=b.obj.cell (i:=2) rfl
 have l:=A5 (((b.setObj 0 (.int .i64 z)).setObj 1 (.int .i64 0)).setObj 2 (.int .i64 0))
 have m:=A5 b.mod
 clear b q
 go_wp2
 try simp only [Exit.inBlock,Exit.then]
 rw [d] at l
 refine M9 rfl _ 3 Tryz.underlying205 rfl (by kernel_rfl) w.heap.size [.int .i64 0,.int .i64 0,.int .i64 0] 205 _ rfl rfl rfl l.out.obj rfl ?_
 rw [f.out]
 unfold itV
 simp only [d]
 exact ⟨rfl,((m.out.setCell (.inl (T00 _)) _).setCell (.inl (T00 _)) _).setCell (.inl (T00 _)) _⟩
end Go.Proofs.YtbkbkmgogbgofaaGreatDoor
