/- The claim's texts, put together and shortened by a program (names, spaces). -/
import Derived.Test.YtbkbkmgogbgofaaGreatDoorZk05
import Derived.Deep.RegionHeld3
import Derived.Test.YtbkbkmgogbgofaaGreatDoorZk03
open List renaming length_append→T01,length_drop→T02,perm_middle→T03,length_cons→T04,length_nil→T05,replicate→T06
open Int renaming natCast_nonneg→T00
namespace Go.Proofs.YtbkbkmgogbgofaaGreatDoor
set_option maxRecDepth 100000
set_option maxHeartbeats 6400000
open Go.RowKit
section
variable {w0 w:World} {Rs:List A6}
theorem A4.fifth {R1 R2 R3 R4 R5:A6} (h:A4 w0 w (R1::R2::R3::R4::R5::Rs)):A4 w0 w (R5::R1::R2::R3::R4::Rs):=h.perm (T03 (l₁:=[R1,R2,R3,R4]))
theorem A4.seventh {R1 R2 R3 R4 R5 R6 R7:A6} (h:A4 w0 w (R1::R2::R3::R4::R5::R6::R7::Rs)):A4 w0 w (R7::R1::R2::R3::R4::R5::R6::Rs):=h.perm (T03 (l₁:=[R1,R2,R3,R4,R5,R6]))
theorem A4.back5 {R1 R2 R3 R4 R5:A6} (h:A4 w0 w (R5::R1::R2::R3::R4::Rs)):A4 w0 w (R1::R2::R3::R4::R5::Rs):=h.perm (T03 (l₁:=[R1,R2,R3,R4])).symm
theorem A4.back7 {R1 R2 R3 R4 R5 R6 R7:A6} (h:A4 w0 w (R7::R1::R2::R3::R4::R5::R6::Rs)):A4 w0 w (R1::R2::R3::R4::R5::R6::R7::Rs):=h.perm (T03 (l₁:=[R1,R2,R3,R4,R5,R6])).symm
theorem Y3j (h:A4 w0 w Rs) (v:Value) (l:List Int) (n:Nat) (hv:Rd w 1 v n (D3 l)) (hn:n=l.length) (hn2:n≤288):
  Calls Tryz.prog 59 #[v] w fun e w'=>∃v',e= .returned v'∧A4 w0 w' (B0 44 1 v' n (D5 .u32 (G1 l))::Rs):=by
 subst hn
 exact (X2y v l w hv hn2).mono fun _ _ ⟨v',h1,h2,h3,h4⟩=>⟨v',h1,h.pushOwn h2 h4 h3⟩
theorem W66:(Tryz.prog.info? 112).map (fun i=>(i.zero,i.size,i.bytes))=some (some (.agg #[.int .u8 0,.int .i64 0,.int .i64 0]),3,24):=by kernel_rfl
def V1u (w0 w':World) (Rs:List A6) (S:Nat×Nat×List Nat×List E3) (B:Nat) (r kk s:Value) (bo:Option Addr) (bc m M nl nd:Nat) (li di:Value) (lit dist:List Int) (all:List Nat):Prop:=
 ∃ (oo':Option Addr) (oc' k' a':Nat) (to':Option Addr) (tc' nt':Nat) (lcv dcv:Value),k'=S.2.2.1.length∧nt'=S.2.2.2.length∧(S.1=0→a'=S.2.1)∧
  A4 w0 w' (S2 B (.slice oo' k' oc') S.1 r kk s (.slice bo m bc) a' (M:Int) li di lcv dcv (.slice to' nt' tc')::rdT 1 (.slice bo m bc) m (D9 all)::rdT 1 lcv nl (D5 .u32 (G1 lit))::rdT 1 dcv nd (D5 .u32 (G1 dist))::B0 5 1 (.slice oo' k' oc') k' (D9 S.2.2.1)::Y8l 1 li nl (D3 lit) di nd (D3 dist)::B0 112 3 (.slice to' nt' tc') nt' (I6 S.2.2.2)::Rs)
theorem P7 {l:List Int} {r:List Nat} {k n:Nat} (h:I7 l r=(k,n,0)):k < l.length∧1≤n∧n≤r.length:=by
 have a:=X44 (l:=l) (r:=r) (by rw [h])
 rw [h] at a
 exact ⟨(List.getElem?_eq_some_iff.1 a.1).1,a.2.1,a.2.2.1⟩
theorem Y55:∀c,c < 29→lB c+2^lX c≤259:=by decide+kernel
theorem X1h:∀c,c < 30→dB c+2^dX c≤32769:=by decide+kernel
theorem Y6f (B:Nat) (oo:Option Addr) (oc k:Nat) (r kk s:Value) (bo:Option Addr) (bc m a M:Nat) (li di lc0 dc0:Value) (to:Option Addr) (ntk tc nl nd:Nat) (lit dist:List Int) (all out:List Nat) (tk:List E3)
  (h:A4 w0 w (S2 B (.slice oo k oc) 0 r kk s (.slice bo m bc) a (M:Int) li di lc0 dc0 (.slice to ntk tc)::rdT 1 (.slice bo m bc) m (D9 all)::B0 5 1 (.slice oo k oc) k (D9 out)::Y8l 1 li nl (D3 lit) di nd (D3 dist)::B0 112 3 (.slice to ntk tc) ntk (I6 tk)::Rs))
  (hb:isBits all) (ha:a≤m) (hm2:m < 1000000000) (hkM:k≤M) (hk:k+258*(m-a)≤1000000000) (hnt:ntk+(m-a)≤1000000000) (hll:nl=lit.length) (hdl:nd=dist.length) (hl2:nl≤288) (hd2:nd≤288) (hl:∀y∈lit,0≤y∧y≤15) (hd:∀y∈dist,0≤y∧y≤15):
  Calls Tryz.prog 38 #[S4 B] w fun e' w'=>e'= .returned (.bool (decide ((Z1u lit dist all M (m+1) a out tk).1=0)))∧V1u w0 w' Rs (Z1u lit dist all M (m+1) a out tk) B r kk s bo bc m M nl nd li di lit dist all:=by
 obtain ⟨i1,i5,i6,i7,i8⟩:=info_parts W66
 have hm:m=all.length:=by have:=h.drop.rdv.1;rw [E6] at this;omega
 have f7:k=out.length:=by have:=h.drop.drop.own.rd.1;rw [E6] at this;omega
 have g5:ntk=tk.length:=by have:=h.drop.drop.drop.drop.own.rd.1;rw [Z6f] at this;omega
 have d2:=A5 (And.intro hm (And.intro f7 g5))
 have b7:=A5 (And.intro hll (And.intro hdl (And.intro hl hd)))
 have d3:=A5 hb
 have H:=A5 h
 generalize hS:Z1u lit dist all M (m+1) a out tk=S at*
 have HS:=A5 hS
 have d:=h.obj
 have c8:=d.cell (i:=8) rfl
 have c9:=d.cell (i:=9) rfl
 have e3:=d.cell (i:=10) rfl
 have n4:=d.frozen 10
 have j8:=A5 (Y3j h li lit nl h.drop.drop.drop.rdv2.1 hll hl2)
 unfold S4
 clear h hb hm f7 g5 hS hll hdl hl hd d
 go_enter Tryz.func38,Tryz.ntmps38
 go_wp2_with fail
 refine j8.out.mono ?_
 rintro e' w1 ⟨v4,rfl,n⟩
 obtain ⟨lo,z,rfl,_,_⟩:=n.own.form
 have d:=n.swap.obj
 have e4:=d.cell (i:=10) rfl
 have s3:=d.frozen 10
 have h1:=n.swap.setObj 10 (.slice lo nl z)
 have g6:=h1.obj
 have d9:=g6.cell (i:=9) rfl
 have b8:=A5 (Y3j h1 di dist nd h1.drop.drop.drop.drop.rdv2.2 b7.out.2.1 hd2)
 clear n d g6 h1 j8 c8 c9 e3 n4 H
 go_wp2_with fail
 refine b8.out.mono ?_
 rintro e' w2 ⟨v5,rfl,n⟩
 obtain ⟨dd,a0,rfl,_,_⟩:=n.own.form
 have d:=n.swap.obj
 have s4:=d.cell (i:=11) rfl
 have s5:=d.frozen 11
 have h3:=(n.swap.setObj 11 (.slice dd nd a0)).swap.toRd.third.toRd.third.fourth.swap
 have H3:=A5 h3
 clear d n b8 h3
 go_wp2
 go_loopg [] (m+3) (fun g wr=>∃ (p t nt f:Nat) (O:List Nat) (T:List E3) (o1:Option Addr) (c1:Nat) (t1:Option Addr) (a4:Nat),p≤m∧m-p < f∧f < g∧t≤M∧t+258*(m-p)≤1000000000∧nt+(m-p)≤1000000000∧Hid (t=O.length∧nt=T.length∧S=Z1u lit dist all M f p O T)∧
  Hid (A4 w0 wr (S2 B (.slice o1 t c1) 0 r kk s (.slice bo m bc) p (M:Int) li di (.slice lo nl z) (.slice dd nd a0) (.slice t1 nt a4)::rdT 1 (.slice bo m bc) m (D9 all)::rdT 1 (.slice lo nl z) nl (D5 .u32 (G1 lit))::rdT 1 (.slice dd nd a0) nd (D5 .u32 (G1 dist))::B0 5 1 (.slice o1 t c1) t (D9 O)::Y8l 1 li nl (D3 lit) di nd (D3 dist)::B0 112 3 (.slice t1 nt a4) nt (I6 T)::Rs)))
 case atStart=>exact ⟨a,k,ntk,m+1,out,tk,oo,oc,to,tc,by omega,by omega,by omega,by omega,by omega,by omega,A5 ⟨d2.out.2.1,d2.out.2.2,HS.out.symm⟩,H3⟩
 case round=>
  obtain ⟨p,t,nt,f,O,T,o1,c1,t1,a4,hp,x0,x1,r7,x3,r8,o,HH⟩:=hrel
  obtain ⟨gx,rfl⟩:∃g,g=gk:=⟨gk,rfl⟩
  have d:=HH.out.obj
  have c8:=d.cell (i:=8) rfl
  have e3:=d.cell (i:=10) rfl
  obtain ⟨f,rfl⟩:∃f',f=f'+1:=⟨f-1,by omega⟩
  obtain ⟨⟨ks,ns,es⟩,d7⟩:∃sy,I7 lit (all.drop p)=sy:=⟨_,rfl⟩
  have HC:=Y00 B _ 0 r kk s bo bc m p (M:Int) li di _ _ _ all li _ lit nl HH.out.drew HH.out.drew.drop.drop.drop.drop.drop.rdv2.1 HH.out.drew.drop.drop.rdv b7.out.1 b7.out.2.2.1 hl2 d3.out hp hm2
  rw [d7] at HC
  simp only at HC
  unfold S4 at HC
  clear d
  by_cases f1:es=0
  rotate_left
  ·have f8:=A5 (HC.mono fun _ _ h=>(h.resolve_left fun h=>f1 h.1).2)
   have l:Hid (S=(es,p,O,T)∧es≠0):=A5 ⟨by rw [o.out.2.2,J6 (X76 d7 f1)],f1⟩
   clear d7 HC f1
   go_wp2
   go_region_held3 (fun w'=>w'.cell? ⟨B,8,none⟩=some li∧w'.cell? ⟨B,10,none⟩=some (.slice lo nl z)) (first | exact ⟨d8,e4⟩ | exact ⟨c8,e3⟩ | go_keep)
    ((go_at_call 60;go_must (refine f8.out.mono ?_);rintro e' w4 ⟨rfl,n⟩;have d:=n.obj;have d8:=d.cell (i:=8) rfl;have e4:=d.cell (i:=10) rfl;have H5:=A5 n;clear n d))
   all_goals
    go_wp2
    go_ret
    refine ⟨by rw [l.out.1];simp [l.out.2],⟨o1,c1,t,p,t1,a4,nt,.slice lo nl z,.slice dd nd a0, ?_, ?_, ?_, ?_⟩⟩
    ·rw [l.out.1];exact o.out.1
    ·rw [l.out.1];exact o.out.2.1
    ·rw [l.out.1];exact fun _=>rfl
    rw [l.out.1];exact H5.out
  subst f1
  obtain ⟨f7,p6,l9⟩:=P7 d7
  rw [←b7.out.1] at f7
  rw [T02,←d2.out.1] at l9
  have f8:=A5 (HC.mono fun _ _ h=>(h.resolve_right fun h=>h.1 rfl).2)
  have e5:=A5 d7
  obtain ⟨p1,i9⟩:∃p1,p1=p+ns:=⟨_,rfl⟩
  rw [←i9] at f8
  have k0:p1≤m:=by omega
  have e6:=A5 i9
  have q2:(0:Int)≤(ks:Int):=T00 _
  have s7:p+1≤p1:=by omega
  clear d7 HC l9 p6 i9
  go_wp2
  go_region_held3 (fun w'=>w'.cell? ⟨B,8,none⟩=some li∧w'.cell? ⟨B,10,none⟩=some (.slice lo nl z)) (first | exact ⟨d8,e4⟩ | exact ⟨c8,e3⟩ | go_keep)
   ((go_at_call 60;go_must (refine f8.out.mono ?_);rintro e' w4 ⟨rfl,n⟩;have d:=n.obj;have d8:=d.cell (i:=8) rfl;have e4:=d.cell (i:=10) rfl;have H5:=A5 n;clear n d))
  all_goals
   rcases (by omega:ks=256∨ks < 256∨(256 < ks∧ks≤285)∨285 < ks) with hk4 | hk4 | ⟨hk4,hk5⟩ | hk4
   ·subst hk4
    have l:Hid (S=(0,p1,O,T)):=A5 (by rw [o.out.2.2,J6 (Y77 e5.out),e6.out])
    go_wp2
    go_ret
    refine ⟨by rw [l.out];rfl,⟨o1,c1,t,p1,t1,a4,nt,.slice lo nl z,.slice dd nd a0, ?_, ?_, ?_, ?_⟩⟩
    ·rw [l.out];exact o.out.1
    ·rw [l.out];exact o.out.2.1
    ·rw [l.out];first | (intro h;cases h;done) | exact fun _=>rfl
    rw [l.out];exact H5.out
   ·have k3:(ks:Int) < 256:=by omega
    have g7:((ks:Int)==256)=false:=by simp;omega
    have s8:(ks:Int)%256=(ks:Int):=by omega
    have d:=H5.out.obj
    have s9:=d.cell (i:=12) rfl
    clear d
    by_cases hM:M≤t
    ·have l:Hid (S=(6,p1,O,T++[((ks:Int),0,0)])):=A5 (by rw [o.out.2.2,J6 (Y44 e5.out hk4 (by rw [←o.out.1];exact hM)),e6.out])
     go_wp2_with ((with_reducible show wpList _ _ _ (⟨some 55,_,_,_,_,_⟩::_) _ _);go_must (refine D6 rfl (.tmp 50) (.tmp 54) 54 rfl 112 i1 (.agg #[.int .u8 0,.int .i64 0,.int .i64 0]) 3 24 Tryz.underlying54 i5 i6 i7 i8 rfl (by decide) _ nt (I6 T) rfl (H5.out.seventh.alloc _) _ 1 (I6 [((ks:Int),0,0)]) rfl (Rd.lit _ [_,_,_] _ 3 1 (by decide) rfl) (Y3i _) (nt+1) rfl (by unfold maxLen;omega) (by omega) ?_);intro t2 a7 w5 h5;rw [←Z5s] at h5;have d:=h5.swap.obj;have k4:=d.cell (i:=12) rfl;have k5:=d.frozen 12;have H6:=A5 ((h5.swap.setObj 12 (.slice t2 (nt+1) a7)).swap.back7);clear h5 d)
     have hE:=X2u B o1 c1 t 0 r kk s (.slice bo m bc) p1 (M:Int) (ks:Int) li di _ _ _ O H6.out.fifth.swap (by omega)
     unfold S4 at hE
     have HE:=A5 hE
     clear hE H5
     refine HE.out.mono ?_
     rintro e' w6 ⟨rfl,n⟩
     have H7:=A5 n.swap.back5
     clear n HE H6
     go_wp2
     go_ret
     refine ⟨by rw [l.out];rfl,⟨o1,c1,t,p1,t2,a7,nt+1,.slice lo nl z,.slice dd nd a0, ?_, ?_, ?_, ?_⟩⟩
     ·rw [l.out];exact o.out.1
     ·rw [l.out];exact (by rw [T01,←o.out.2.1];rfl)
     ·rw [l.out];first | (intro h;cases h;done) | exact fun _=>rfl
     rw [l.out];exact H7.out
    have l:Hid (S=Z1u lit dist all M f p1 (O++[ks]) (T++[((ks:Int),0,0)])):=A5 (by rw [o.out.2.2,Z8q (Y6m e5.out hk4 (by rw [←o.out.1];exact hM)),e6.out])
    go_wp2_with ((with_reducible show wpList _ _ _ (⟨some 55,_,_,_,_,_⟩::_) _ _);go_must (refine D6 rfl (.tmp 50) (.tmp 54) 54 rfl 112 i1 (.agg #[.int .u8 0,.int .i64 0,.int .i64 0]) 3 24 Tryz.underlying54 i5 i6 i7 i8 rfl (by decide) _ nt (I6 T) rfl (H5.out.seventh.alloc _) _ 1 (I6 [((ks:Int),0,0)]) rfl (Rd.lit _ [_,_,_] _ 3 1 (by decide) rfl) (Y3i _) (nt+1) rfl (by unfold maxLen;omega) (by omega) ?_);intro t2 a7 w5 h5;rw [←Z5s] at h5;have d:=h5.swap.obj;have k4:=d.cell (i:=12) rfl;have k5:=d.frozen 12;have H6:=A5 ((h5.swap.setObj 12 (.slice t2 (nt+1) a7)).swap.back7);clear h5 d)
    have hE:=Y7n B o1 c1 t 0 r kk s (.slice bo m bc) p1 (M:Int) ks li di _ _ _ O H6.out.fifth.swap (by omega) (by omega)
    unfold S4 at hE
    have HE:=A5 hE
    clear hE H5
    refine HE.out.mono ?_
    rintro e' w6 ⟨rfl,o2,c2,n⟩
    have H7:=A5 n.swap.back5
    clear n HE H6
    go_wp2
    go_roundg (gx-1)
    case measure=>omega
    case rel=>exact ⟨p1,t+1,nt+1,f,O++[ks],T++[((ks:Int),0,0)],o2,c2,_,_,k0,by omega,by omega,by omega,by omega,by omega,A5 ⟨by rw [T01,←o.out.1];rfl,by rw [T01,←o.out.2.1];rfl,l.out⟩,H7⟩
   ·have k3:¬(ks:Int) < 256:=by omega
    have g7:((ks:Int)==256)=false:=by simp;omega
    obtain ⟨c,hc⟩:∃c,c=ks-257:=⟨_,rfl⟩
    have e7:c < 29:=by omega
    have hL:=Y3w (ks:Int)
    rw [W81 ks c (by omega) e7] at hL
    have h2:=Y55 c e7
    have h4:Hid (J4 lit dist all M p O T=J4.matchF dist all M p1 c O T):=A5 (by rw [Y8d e5.out hk4 hk5,e6.out,hc])
    have k7:=X0u c e7
    generalize f2:lB c=y at hL h2
    generalize f3:lX c=x at hL h2 k7
    have h6:=A5 (And.intro f2 f3)
    have HL:=A5 hL
    have q3:(0:Int)≤(y:Int):=T00 _
    clear hc hL f2 f3
    cases ht:I8 all p1 x with
    | none=>
     have hT:=Z51 B _ 0 r kk s bo bc m p1 x (M:Int) li di _ _ _ all H5.out ht (by omega) (by omega)
     unfold S4 at hT
     have HT:=A5 hT
     have l:Hid (S=(5,p1,O,T)):=A5 (by rw [o.out.2.2,J6 (by rw [h4.out];exact Y9o (by rw [h6.out.2];exact ht))])
     clear hT ht
     go_wp2_with fail
     refine (HL.out _).mono ?_
     rintro e' w5 ⟨rfl,rfl⟩
     go_wp2_with fail
     refine HT.out.mono ?_
     rintro e' w5 ⟨rfl,n⟩
     have H6:=A5 n
     clear n HT H5
     go_wp2
     go_ret
     refine ⟨by rw [l.out];rfl,⟨o1,c1,t,p1,t1,a4,nt,.slice lo nl z,.slice dd nd a0, ?_, ?_, ?_, ?_⟩⟩
     ·rw [l.out];exact o.out.1
     ·rw [l.out];exact o.out.2.1
     ·rw [l.out];first | (intro h;cases h;done) | exact fun _=>rfl
     rw [l.out];exact H6.out
    | some more=>
     obtain ⟨c4,f5⟩:=M2 ht
     have h7:more < 2^x:=by rw [f5];exact L8 d3.out p1 x
     have hT:=X9 B _ 0 r kk s bo bc m p1 x more (M:Int) li di _ _ _ all H5.out ht d3.out (by omega) (by omega)
     unfold S4 at hT
     obtain ⟨p2,j0⟩:∃p2,p2=p1+x:=⟨_,rfl⟩
     rw [←j0] at hT c4
     have l2:p2≤m:=by rw [d2.out.1];exact c4
     have HT:=A5 hT
     obtain ⟨L,hL⟩:∃L,L=y+more:=⟨_,rfl⟩
     have t0:(y:Int)+(more:Int)=(L:Int):=by omega
     have n5:L≤258:=by omega
     have t3:(0:Int)≤(L:Int):=T00 _
     have m6:(0:Int)≤(more:Int):=T00 _
     have t4:more≤258:=by omega
     have q4:p1≤p2:=by omega
     have c0:Hid (I8 all p1 (lX c)=some more∧p1+lX c=p2∧lB c+more=L):=A5 (by rw [h6.out.1,h6.out.2];exact ⟨ht,j0.symm,hL.symm⟩)
     clear hT ht f5 c4 j0 hL h7 h2
     obtain ⟨⟨k2,n2,e2⟩,a6⟩:∃sy,I7 dist (all.drop p2)=sy:=⟨_,rfl⟩
     have e9:=A5 (fun w1 (n:A4 w0 w1 (S2 B (.slice o1 t c1) 0 r kk s (.slice bo m bc) p2 (M:Int) li di (.slice lo nl z) (.slice dd nd a0) (.slice t1 nt a4)::rdT 1 (.slice bo m bc) m (D9 all)::rdT 1 (.slice lo nl z) nl (D5 .u32 (G1 lit))::rdT 1 (.slice dd nd a0) nd (D5 .u32 (G1 dist))::B0 5 1 (.slice o1 t c1) t (D9 O)::Y8l 1 li nl (D3 lit) di nd (D3 dist)::B0 112 3 (.slice t1 nt a4) nt (I6 T)::Rs))=>Y00 B _ 0 r kk s bo bc m p2 (M:Int) li di _ _ _ all di _ dist nd n.drew n.drew.drop.drop.drop.drop.drop.rdv2.2 n.drew.drop.drop.drop.rdv b7.out.2.1 b7.out.2.2.2 hd2 d3.out l2 hm2)
     rw [a6] at e9
     simp only at e9
     unfold S4 at e9
     go_wp2_with fail
     refine (HL.out _).mono ?_
     rintro e' w5 ⟨rfl,rfl⟩
     go_wp2_with fail
     refine HT.out.mono ?_
     rintro e' w5 ⟨rfl,n⟩
     have d:=n.obj
     have j9:=d.cell (i:=9) rfl
     have h8:=d.cell (i:=11) rfl
     have f9:=e9.out w5 n
     clear n HT H5 e9 d c8 e3 d8 e4
     by_cases f4:e2=0
     rotate_left
     ·have b8:=A5 (f9.mono fun _ _ h=>(h.resolve_left fun h=>f4 h.1).2)
      have l:Hid (S=(e2,p2,O,T)∧e2≠0):=A5 ⟨by rw [o.out.2.2,J6 (by rw [h4.out,X0q c0.out.1 (by rw [c0.out.2.1];exact a6) f4,c0.out.2.1])],f4⟩
      clear a6 f9 f4
      go_wp2
      go_region_held3 (fun w'=>w'.cell? ⟨B,9,none⟩=some di∧w'.cell? ⟨B,11,none⟩=some (.slice dd nd a0)) (first | exact ⟨k9,c7⟩ | exact ⟨j9,h8⟩ | go_keep)
       ((go_at_call 60;go_must (refine b8.out.mono ?_);rintro e' w6 ⟨rfl,n⟩;have d:=n.obj;have k9:=d.cell (i:=9) rfl;have c7:=d.cell (i:=11) rfl;have H6:=A5 n;clear n d))
      all_goals
       go_wp2
       go_ret
       refine ⟨by rw [l.out.1];simp [l.out.2],⟨o1,c1,t,p2,t1,a4,nt,.slice lo nl z,.slice dd nd a0, ?_, ?_, ?_, ?_⟩⟩
       ·rw [l.out.1];exact o.out.1
       ·rw [l.out.1];exact o.out.2.1
       ·rw [l.out.1];exact fun _=>rfl
       rw [l.out.1];exact H6.out
     subst f4
     obtain ⟨m0,m2,g8⟩:=P7 a6
     rw [←b7.out.2.1] at m0
     rw [T02,←d2.out.1] at g8
     have b8:=A5 (f9.mono fun _ _ h=>(h.resolve_right fun h=>h.1 rfl).2)
     obtain ⟨p3,j1⟩:∃p3,p3=p2+n2:=⟨_,rfl⟩
     rw [←j1] at b8
     have q5:p3≤m:=by omega
     have q6:p2≤p3:=by omega
     have q7:(0:Int)≤(k2:Int):=T00 _
     have f0:Hid (J4 lit dist all M p O T=J4.farF all M p3 k2 L O T):=A5 (by rw [h4.out,Y2s c0.out.1 (by rw [c0.out.2.1];exact a6),c0.out.2.1,c0.out.2.2,j1])
     clear a6 f9 g8 m2 j1
     go_wp2
     go_region_held3 (fun w'=>w'.cell? ⟨B,9,none⟩=some di∧w'.cell? ⟨B,11,none⟩=some (.slice dd nd a0)) (first | exact ⟨k9,c7⟩ | exact ⟨j9,h8⟩ | go_keep)
      ((go_at_call 60;go_must (refine b8.out.mono ?_);rintro e' w6 ⟨rfl,n⟩;have d:=n.obj;have k9:=d.cell (i:=9) rfl;have c7:=d.cell (i:=11) rfl;have H6:=A5 n;clear n d))
     all_goals
      by_cases b1:29 < k2
      ·have hD:=Y17 (k2:Int)
       rw [show Z0j (k2:Int)= .tuple #[.int .i64 0,.int .i64 0,.bool false] from if_pos (by omega)] at hD
       have HD:=A5 hD
       have l:Hid (S=(3,p3,O,T)):=A5 (by rw [o.out.2.2,J6 (by rw [f0.out];exact W17 b1)])
       have d:=H6.out.obj
       have l1:=d.cell (i:=1) rfl
       have m1:=d.frozen 1
       clear d hD
       go_wp2_with fail
       refine (HD.out _).mono ?_
       rintro e' w7 ⟨rfl,rfl⟩
       go_wp2
       go_ret
       refine ⟨by rw [l.out];rfl,⟨o1,c1,t,p3,t1,a4,nt,.slice lo nl z,.slice dd nd a0, ?_, ?_, ?_, ?_⟩⟩
       ·rw [l.out];exact o.out.1
       ·rw [l.out];exact o.out.2.1
       ·rw [l.out];first | (intro h;cases h;done) | exact fun _=>rfl
       rw [l.out];exact H6.out.setObj 1 _
      have hD:=Y17 (k2:Int)
      rw [W5r k2 k2 (by omega) (by omega)] at hD
      have h9:=X1h k2 (by omega)
      have i0:=Y9l k2 (by omega)
      generalize f2:dB k2=y2 at hD h9
      generalize f3:dX k2=x2 at hD h9 i0
      have d0:=A5 (And.intro f2 f3)
      have HD:=A5 hD
      have n7:(0:Int)≤(y2:Int):=T00 _
      clear hD f2 f3
      cases ht:I8 all p3 x2 with
      | none=>
       have hT:=Z51 B _ 0 r kk s bo bc m p3 x2 (M:Int) li di _ _ _ all H6.out ht (by omega) (by omega)
       unfold S4 at hT
       have HT:=A5 hT
       have l:Hid (S=(5,p3,O,T)):=A5 (by rw [o.out.2.2,J6 (by rw [f0.out];exact W2s b1 (by rw [d0.out.2];exact ht))])
       clear hT ht
       go_wp2_with fail
       refine (HD.out _).mono ?_
       rintro e' w7 ⟨rfl,rfl⟩
       go_wp2_with fail
       refine HT.out.mono ?_
       rintro e' w7 ⟨rfl,n⟩
       have H7:=A5 n
       clear n HT H6
       go_wp2
       go_ret
       refine ⟨by rw [l.out];rfl,⟨o1,c1,t,p3,t1,a4,nt,.slice lo nl z,.slice dd nd a0, ?_, ?_, ?_, ?_⟩⟩
       ·rw [l.out];exact o.out.1
       ·rw [l.out];exact o.out.2.1
       ·rw [l.out];first | (intro h;cases h;done) | exact fun _=>rfl
       rw [l.out];exact H7.out
      | some far=>
       obtain ⟨c4,f5⟩:=M2 ht
       have l4:far < 2^x2:=by rw [f5];exact L8 d3.out p3 x2
       have hT:=X9 B _ 0 r kk s bo bc m p3 x2 far (M:Int) li di _ _ _ all H6.out ht d3.out (by omega) (by omega)
       unfold S4 at hT
       obtain ⟨p4,j2⟩:∃p4,p4=p3+x2:=⟨_,rfl⟩
       rw [←j2] at hT c4
       have l5:p4≤m:=by rw [d2.out.1];exact c4
       have q8:p3≤p4:=by omega
       have HT:=A5 hT
       obtain ⟨D,m3⟩:∃D,D=y2+far:=⟨_,rfl⟩
       have t7:(y2:Int)+(far:Int)=(D:Int):=by omega
       have t8:(0:Int)≤(D:Int):=T00 _
       have n8:(0:Int)≤(far:Int):=T00 _
       have q9:D≤40000:=by omega
       have t9:1≤D:=by
        have h1:=(X62 k2 (by omega)).1
        rw [d0.out.1] at h1
        omega
       have u0:far≤40000:=by omega
       have a1:Hid (I8 all p3 (dX k2)=some far∧p3+dX k2=p4∧dB k2+far=D):=A5 (by rw [d0.out.1,d0.out.2];exact ⟨ht,j2.symm,m3.symm⟩)
       clear hT ht f5 c4 j2 m3 l4 h9
       go_wp2_with fail
       refine (HD.out _).mono ?_
       rintro e' w7 ⟨rfl,rfl⟩
       go_wp2_with fail
       refine HT.out.mono ?_
       rintro e' w7 ⟨rfl,n⟩
       have d:=n.obj
       have l0:=d.cell (i:=0) rfl
       have l1:=d.cell (i:=1) rfl
       have m1:=d.frozen 1
       have u1:=d.cell (i:=12) rfl
       have H8:=A5 n
       clear n d HT H6 k9 c7 j9 h8 HL HD
       have r1:(0:Int)≤(t:Int):=T00 _
       by_cases hd:t < D
       ·have l:Hid (S=(3,p4,O,T)):=A5 (by rw [o.out.2.2,J6 (by rw [f0.out,W2b b1 a1.out.1 (by rw [a1.out.2.2,←o.out.1];exact hd),a1.out.2.1])])
        have l6:(t:Int) < (D:Int):=by omega
        go_wp2
        go_ret
        refine ⟨by rw [l.out];rfl,⟨o1,c1,t,p4,t1,a4,nt,.slice lo nl z,.slice dd nd a0, ?_, ?_, ?_, ?_⟩⟩
        ·rw [l.out];exact o.out.1
        ·rw [l.out];exact o.out.2.1
        ·rw [l.out];first | (intro h;cases h;done) | exact fun _=>rfl
        rw [l.out];exact H8.out.setObj 1 _
       have l6:¬(t:Int) < (D:Int):=by omega
       have r2:decide (t < D)=false:=decide_eq_false hd
       have r3:decide ((t:Int) < (D:Int))=false:=decide_eq_false l6
       have l7:Hid (M < t+L→S=(6,p4,ext O D (M-t),T++[(0,(L:Int),(D:Int))])):=A5 (fun hM=>by
        have h1:=W2q (L:=L) (tk:=T) b1 a1.out.1 (by rw [a1.out.2.2,←o.out.1];exact hd) (by rw [←o.out.1];exact hM)
        rw [a1.out.2.1,a1.out.2.2,←o.out.1] at h1
        rw [o.out.2.2,J6 (by rw [f0.out];exact h1)])
       have n9:Hid (¬M < t+L→S=Z1u lit dist all M f p4 (ext O D L) (T++[(0,(L:Int),(D:Int))])):=A5 (fun hM=>by
        have h1:=W0w (L:=L) (tk:=T) b1 a1.out.1 (by rw [a1.out.2.2,←o.out.1];exact hd) (by rw [←o.out.1];exact hM)
        rw [a1.out.2.1,a1.out.2.2] at h1
        rw [o.out.2.2,Z8q (by rw [f0.out];exact h1)])
       have u2:D≤t:=by omega
       clear hd
       go_wp2_with ((with_reducible show wpList _ _ _ (⟨some 141,_,_,_,_,_⟩::_) _ _);go_must (refine D6 rfl (.tmp 136) (.tmp 140) 54 rfl 112 i1 (.agg #[.int .u8 0,.int .i64 0,.int .i64 0]) 3 24 Tryz.underlying54 i5 i6 i7 i8 rfl (by decide) _ nt (I6 T) rfl (H8.out.seventh.alloc _) _ 1 (I6 [(0,(L:Int),(D:Int))]) rfl (Rd.lit _ [_,_,_] _ 3 1 (by decide) rfl) (Y3i _) (nt+1) rfl (by unfold maxLen;omega) (by omega) ?_);intro t2 a7 w8 h5;rw [←Z5s] at h5;have d:=h5.swap.obj;have k4:=d.cell (i:=12) rfl;have k5:=d.frozen 12;have H9:=A5 ((h5.swap.setObj 12 (.slice t2 (nt+1) a7)).swap.back7);clear h5 d)
       go_loopg [10] (L+2) (fun g2 t10 wq=>∃ (j:Nat) (o2:Option Addr) (c2:Nat),j≤L∧L-j < g2∧t10= .int .i64 (j:Int)∧t+j≤M∧Hid (A4 w0 wq (S2 B (.slice o2 (t+j) c2) 0 r kk s (.slice bo m bc) p4 (M:Int) li di (.slice lo nl z) (.slice dd nd a0) (.slice t2 (nt+1) a7)::rdT 1 (.slice bo m bc) m (D9 all)::rdT 1 (.slice lo nl z) nl (D5 .u32 (G1 lit))::rdT 1 (.slice dd nd a0) nd (D5 .u32 (G1 dist))::B0 5 1 (.slice o2 (t+j) c2) (t+j) (D9 (ext O D j))::Y8l 1 li nl (D3 lit) di nd (D3 dist)::B0 112 3 (.slice t2 (nt+1) a7) (nt+1) (I6 (T++[(0,(L:Int),(D:Int))]))::Rs)))
       case atStart=>exact ⟨0,o1,c1,by omega,by omega,rfl,by omega,H9⟩
       case round=>
        obtain ⟨j,o2,c2,hj,x6,rfl,m4,HQ⟩:=hrel
        have u4:(0:Int)≤(j:Int):=T00 _
        by_cases v2:j < L
        rotate_left
        ·obtain rfl:j=L:=by omega
         have o0:¬(j:Int) < (j:Int):=by omega
         have l:=A5 (n9.out (by omega))
         go_wp2
         go_roundg (gx-1)
         case measure=>omega
         case rel=>exact ⟨p4,t+j,nt+1,f,ext O D j,T++[(0,(j:Int),(D:Int))],o2,c2,_,_,l5,by omega,by omega,m4,by omega,by omega,A5 ⟨by rw [G3,←o.out.1],by rw [T01,←o.out.2.1];rfl,l.out⟩,HQ⟩
        have o0:(j:Int) < (L:Int):=by omega
        obtain ⟨N,hN⟩:∃N,N=t+j:=⟨_,rfl⟩
        rw [←hN] at HQ m4
        obtain ⟨q,hq⟩:∃q,q=N-D:=⟨_,rfl⟩
        have o4:(ext O D j).length=N:=by rw [G3,←o.out.1,hN]
        obtain ⟨b,j3⟩:∃b,(ext O D j)[q]?=some b:=⟨(ext O D j)[q]'(by omega),List.getElem?_eq_getElem _⟩
        have l8:ext O D j++[b]=ext O D (j+1):=by
         rw [ext,←o.out.1,show t+j-D=q by omega,j3];rfl
        obtain ⟨g3,j4,p9,f6,_,_⟩:=HQ.out.drop.drop.drop.drop.own.site (by omega)
        subst p9
        have n1:=f6 q (.int .u8 (b:Int)) (by rw [Z3,j3];rfl)
        have d:=HQ.out.obj
        have n0:=d.cell (i:=0) rfl
        have u5:(N:Int)- (D:Int)=(q:Int):=by omega
        have u6:(0:Int)≤(q:Int):=T00 _
        have u7:(0:Int)≤(N:Int):=T00 _
        have u9:(q:Int) < (N:Int):=by omega
        have r4:q < N:=by omega
        have o5:=A5 l8
        have HN:=A5 hN
        have o7:N≤1000000000:=by omega
        clear d f6 j3 l8 o4 hq hN
        by_cases v3:M≤N
        ·have hE:=X2u B (some ⟨g3,j4,none⟩) c2 N 0 r kk s (.slice bo m bc) p4 (M:Int) (b:Int) li di _ _ _ (ext O D j) HQ.out.drew.fifth.swap (by omega)
         unfold S4 at hE
         have HE:=A5 hE
         have l:Hid (S=(6,p4,ext O D j,T++[(0,(L:Int),(D:Int))])):=A5 (by
          have h1:=HN.out
          rw [l7.out (by omega),show M-t=j by omega])
         have i2:IntKind.i64.wrap (q:Int)=(q:Int):=IntWalk.i64_in _ (by omega)
         clear hE
         go_wp2
         go_still_tail 14,(by kernel_rfl)
         change wpList _ _ _ _ _ wr.drew
         generalize wr.drew=wz at HE⊢
         go_wp2_with fail
         refine HE.out.mono ?_
         rintro e' w9 ⟨rfl,n⟩
         have i3:=A5 n.swap.back5
         clear n HE HQ i2
         go_wp2
         go_ret
         refine ⟨by rw [l.out];rfl,⟨some ⟨g3,j4,none⟩,c2,N,p4,t2,a7,nt+1,.slice lo nl z,.slice dd nd a0, ?_, ?_, ?_, ?_⟩⟩
         ·rw [l.out];exact (by rw [G3,←o.out.1];exact HN.out)
         ·rw [l.out];exact (by rw [T01,←o.out.2.1];rfl)
         ·rw [l.out];first | (intro h;cases h;done) | exact fun _=>rfl
         rw [l.out];exact i3.out
        have hE:=Y7n B (some ⟨g3,j4,none⟩) c2 N 0 r kk s (.slice bo m bc) p4 (M:Int) b li di _ _ _ (ext O D j) HQ.out.drew.fifth.swap (by omega) o7
        unfold S4 at hE
        have HE:=A5 hE
        have i2:IntKind.i64.wrap (q:Int)=(q:Int):=IntWalk.i64_in _ (by omega)
        clear hE
        go_wp2
        go_still_tail 14,(by kernel_rfl)
        change wpList _ _ _ _ _ wr.drew
        generalize wr.drew=wz at HE⊢
        go_wp2_with fail
        refine HE.out.mono ?_
        rintro e' w9 ⟨rfl,o3,c3,n⟩
        rw [o5.out] at n
        have i3:=A5 n.swap.back5
        clear n HE HQ i2
        go_wp2
        go_roundg (gk-1)
        case measure=>omega
        case rel=>
         have o8:N+1=t+(j+1):=by have:=HN.out;omega
         refine ⟨j+1,o3,c3,by omega,by omega,by go_num,by omega,A5 ?_⟩
         rw [←o8]
         exact i3.out
   have k3:¬(ks:Int) < 256:=by omega
   have g7:((ks:Int)==256)=false:=by simp;omega
   have l:Hid (S=(3,p1,O,T)):=A5 (by rw [o.out.2.2,J6 (Y4a e5.out hk4),e6.out])
   have hL:=Y3w (ks:Int)
   rw [show Z1c (ks:Int)= .tuple #[.int .i64 0,.int .i64 0,.bool false] from if_pos (by omega)] at hL
   have HL:=A5 hL
   have d:=H5.out.obj
   have v0:=d.cell (i:=1) rfl
   have v1:=d.frozen 1
   clear d hL
   go_wp2_with fail
   refine (HL.out _).mono ?_
   rintro e' w5 ⟨rfl,rfl⟩
   go_wp2
   go_ret
   refine ⟨by rw [l.out];rfl,⟨o1,c1,t,p1,t1,a4,nt,.slice lo nl z,.slice dd nd a0, ?_, ?_, ?_, ?_⟩⟩
   ·rw [l.out];exact o.out.1
   ·rw [l.out];exact o.out.2.1
   ·rw [l.out];first | (intro h;cases h;done) | exact fun _=>rfl
   rw [l.out];exact H5.out.setObj 1 _
end
def M5:List Nat:=[16,17,18,0,8,7,9,6,10,5,11,4,12,3,13,2,14,1,15]
def F6 (bs:List Nat) (a:Nat):Nat→List Int
 | 0=>T06 19 0
 | i+1=>(F6 bs a i).set (M5[i]?.getD 0) (E4 ((bs.drop (a+3*i)).take 3):Int)
def Z1g (bs:List Nat) (a:Nat):Nat→Bool
 | 0=>false
 | i+1=>Z1g bs a i || decide (0 < E4 ((bs.drop (a+3*i)).take 3))
noncomputable def E7 (head:List Int) (bs:List Nat) (N a:Nat) (l:List Int):Bool×Nat×Nat×List Int:=
 if (I7 head (bs.drop a)).2.2≠0 then (true,(I7 head (bs.drop a)).2.2,a,l)
 else lenRun bs N (a+(I7 head (bs.drop a)).2.1) (I7 head (bs.drop a)).1 l
where
 lenRun (bs:List Nat) (N a1 k:Nat) (l:List Int):Bool×Nat×Nat×List Int:=
  if k < 16 then (false,0,a1,l++[(k:Int)])
  else if k=16∧l=[] then (true,2,a1,l)
  else match I8 bs a1 (if k=17 then 3 else if k=18 then 7 else 2) with
   | none=>(true,5,a1,l)
   | some more=>
    if N < l.length+((if k=18 then 11 else 3)+more) then (true,2,a1+(if k=17 then 3 else if k=18 then 7 else 2),l)
    else (false,0,a1+(if k=17 then 3 else if k=18 then 7 else 2),l++T06 ((if k=18 then 11 else 3)+more) (if k=16 then l.getLast?.getD 0 else 0))
noncomputable def Z1m (head:List Int) (bs:List Nat) (N:Nat):Nat→Nat→List Int→Nat×Nat×List Int
 | 0,a,l=>(5,a,l)
 | f+1,a,l=>
  if N≤l.length then (0,a,l)
  else if (E7 head bs N a l).1=true then (E7 head bs N a l).2
  else Z1m head bs N f (E7 head bs N a l).2.2.1 (E7 head bs N a l).2.2.2
theorem Z8f {head:List Int} {bs:List Nat} {N f a:Nat} {l:List Int} (h:N≤l.length):Z1m head bs N (f+1) a l=(0,a,l):=by
 rw [Z1m,if_pos h]
theorem Z0b {head:List Int} {bs:List Nat} {N f a e a':Nat} {l l':List Int} (hn:¬N≤l.length) (h:E7 head bs N a l=(true,e,a',l')):Z1m head bs N (f+1) a l=(e,a',l'):=by
 rw [Z1m,if_neg hn,h];rfl
theorem Z2x {head:List Int} {bs:List Nat} {N f a e a':Nat} {l l':List Int} (hn:¬N≤l.length) (h:E7 head bs N a l=(false,e,a',l')):Z1m head bs N (f+1) a l=Z1m head bs N f a' l':=by
 rw [Z1m,if_neg hn,h];rfl
noncomputable def Q5 (bs:List Nat) (a:Nat):Nat×Nat×List Int×List Int:=
 if bs.length < a+14 then (5,a,[],[])
 else dynRun bs (a+14) (E4 ((bs.drop a).take 5)+257) (E4 ((bs.drop (a+5)).take 5)+1) (E4 ((bs.drop (a+10)).take 4)+4)
where
 dynRun (bs:List Nat) (a1 A B C:Nat):Nat×Nat×List Int×List Int:=
  if 286 < A∨30 < B then (2,a1,[],[])
  else if bs.length < a1+3*C then (5,a1,[],[])
  else if D0 (F6 bs a1 C) 7≠0∨Z1g bs a1 C=false then (3,a1+3*C,[],[])
  else dynEnd A (Z1m (F6 bs a1 C) bs (A+B) (bs.length+1) (a1+3*C) [])
 dynEnd (A:Nat) (q:Nat×Nat×List Int):Nat×Nat×List Int×List Int:=
  if q.1≠0 then (q.1,q.2.1,[],[])
  else if D0 (q.2.2.take A) 15≠0∨D0 (q.2.2.drop A) 15≠0∨q.2.2[256]?.getD 0=0 then (3,q.2.1,q.2.2.take A,q.2.2.drop A)
  else (0,q.2.1,q.2.2.take A,q.2.2.drop A)
section
variable {head:List Int} {bs:List Nat} {N a k n e a1 more:Nat} {l:List Int}
theorem Z8o (h:I7 head (bs.drop a)=(k,n,e)) (he:e≠0):E7 head bs N a l=(true,e,a,l):=by
 unfold E7;rw [h];exact if_pos he
theorem Z54 (h:I7 head (bs.drop a)=(k,n,0)):E7 head bs N a l=E7.lenRun bs N (a+n) k l:=by
 unfold E7;rw [h];exact if_neg (fun h=>h rfl)
theorem X1n (h:k < 16):E7.lenRun bs N a1 k l=(false,0,a1,l++[(k:Int)]):=by
 unfold E7.lenRun;exact if_pos h
theorem X6n (h:k=16) (hl:l=[]):E7.lenRun bs N a1 k l=(true,2,a1,l):=by
 unfold E7.lenRun;rw [if_neg (by omega)];exact if_pos ⟨h,hl⟩
variable {wd ba:Nat}
theorem Y5c (h:¬k < 16) (hl:¬(k=16∧l=[])) (hw:wd=if k=17 then 3 else if k=18 then 7 else 2) (ht:I8 bs a1 wd=none):E7.lenRun bs N a1 k l=(true,5,a1,l):=by
 subst hw
 unfold E7.lenRun;rw [if_neg h,if_neg hl,ht]
theorem Y1o (h:¬k < 16) (hl:¬(k=16∧l=[])) (hw:wd=if k=17 then 3 else if k=18 then 7 else 2) (hb:ba=if k=18 then 11 else 3) (ht:I8 bs a1 wd=some more) (hN:N < l.length+(ba+more)):E7.lenRun bs N a1 k l=(true,2,a1+wd,l):=by
 subst hw;subst hb
 unfold E7.lenRun;rw [if_neg h,if_neg hl,ht];exact if_pos hN
theorem Z87 (h:¬k < 16) (hl:¬(k=16∧l=[])) (hw:wd=if k=17 then 3 else if k=18 then 7 else 2) (hb:ba=if k=18 then 11 else 3) (ht:I8 bs a1 wd=some more) (hN:¬N < l.length+(ba+more)):E7.lenRun bs N a1 k l=(false,0,a1+wd,l++T06 (ba+more) (if k=16 then l.getLast?.getD 0 else 0)):=by
 subst hw;subst hb
 unfold E7.lenRun;rw [if_neg h,if_neg hl,ht];exact if_neg hN
end
theorem V3 (bs:List Nat) (a:Nat):∀i,(F6 bs a i).length=19
 | 0=>by simp [F6]
 | i+1=>by rw [F6,List.length_set];exact V3 bs a i
theorem V32 {bs:List Nat} {M a q n:Nat} {out:List Nat} {tk:List E3} {b:Bool} {X:Nat×Nat×List Nat×List E3} (h:J4.farF bs M a q n out tk=(b,X)) (hb:b=false):X.1=0:=by
 subst hb
 unfold J4.farF at h
 split at h
 ·cases h
 split at h
 ·cases h
 split at h
 ·cases h
 split at h
 ·cases h
 cases h;rfl
theorem W40 {dist:List Int} {bs:List Nat} {M a c:Nat} {out:List Nat} {tk:List E3} {b:Bool} {X:Nat×Nat×List Nat×List E3} (h:J4.matchF dist bs M a c out tk=(b,X)) (hb:b=false):X.1=0:=by
 unfold J4.matchF at h
 split at h
 ·cases h;cases hb
 split at h
 ·cases h;cases hb
 exact V32 h hb
theorem W74 {lit dist:List Int} {bs:List Nat} {M a:Nat} {out:List Nat} {tk:List E3} {X:Nat×Nat×List Nat×List E3} (h:J4 lit dist bs M a out tk=(false,X)):X.1=0:=by
 unfold J4 at h
 split at h
 ·cases h
 split at h
 ·cases h
 split at h
 ·split at h
  ·cases h
  cases h;rfl
 split at h
 ·cases h
 exact W40 h rfl
theorem Y5s {lit dist:List Int} {bs:List Nat} {M a e a':Nat} {out out':List Nat} {tk tk':List E3} {b:Bool}
  (hb:isBits bs) (ha:a≤bs.length) (hM:out.length≤M) (h:J4 lit dist bs M a out tk=(b,e,a',out',tk')) (he:e=0):
  a < a'∧a'≤bs.length∧out'.length≤out.length+258*(a'-a)∧tk'.length≤tk.length+(a'-a)∧out'.length≤M:=by
 subst he
 unfold J4 at h
 split at h
 ·simp only [Prod.mk.injEq] at h
  omega
 rename_i i
 obtain ⟨k,n,m,o⟩:∃k n m,I7 lit (bs.drop a)=(k,n,m):=⟨_,_,_,rfl⟩
 rw [o] at h i
 simp only [Decidable.not_not] at h i
 subst i
 obtain ⟨_,h1,h2⟩:=P7 o
 rw [T02] at h2
 split at h
 ·simp only [Prod.mk.injEq] at h
  obtain ⟨_,_,rfl,rfl,rfl⟩:=h
  omega
 split at h
 ·split at h
  ·simp only [Prod.mk.injEq] at h
   omega
  simp only [Prod.mk.injEq] at h
  obtain ⟨_,_,rfl,rfl,rfl⟩:=h
  simp only [T01,T04,T05]
  omega
 split at h
 ·simp only [Prod.mk.injEq] at h
  omega
 rename_i t x y
 unfold J4.matchF at h
 split at h
 ·simp only [Prod.mk.injEq] at h
  omega
 rename_i d z
 obtain ⟨h3,h4⟩:=M2 z
 have g:d < 2^lX (k-257):=by rw [h4];exact L8 hb _ _
 have s:=Y55 (k-257) (by omega)
 split at h
 ·simp only [Prod.mk.injEq] at h
  omega
 rename_i j
 obtain ⟨q,p,r,f⟩:∃q p r,I7 dist (bs.drop (a+n+lX (k-257)))=(q,p,r):=⟨_,_,_,rfl⟩
 rw [f] at h j
 simp only [Decidable.not_not] at h j
 subst j
 obtain ⟨_,h6,h7⟩:=P7 f
 rw [T02] at h7
 unfold J4.farF at h
 split at h
 ·simp only [Prod.mk.injEq] at h
  omega
 split at h
 ·simp only [Prod.mk.injEq] at h
  omega
 rename_i far l
 obtain ⟨h8,h9⟩:=M2 l
 split at h
 ·simp only [Prod.mk.injEq] at h
  omega
 split at h
 ·simp only [Prod.mk.injEq] at h
  omega
 simp only [Prod.mk.injEq] at h
 obtain ⟨_,_,rfl,rfl,rfl⟩:=h
 rw [G3]
 simp only [T01,T04,T05]
 omega
theorem Y2k {lit dist:List Int} {bs:List Nat} {M:Nat} (hb:isBits bs):∀ (f a:Nat) (out:List Nat) (tk:List E3),a≤bs.length→out.length≤M→(Z1u lit dist bs M f a out tk).1=0→
  a≤(Z1u lit dist bs M f a out tk).2.1∧(Z1u lit dist bs M f a out tk).2.1≤bs.length∧(Z1u lit dist bs M f a out tk).2.2.1.length≤out.length+258*((Z1u lit dist bs M f a out tk).2.1-a)∧(Z1u lit dist bs M f a out tk).2.2.2.length≤tk.length+((Z1u lit dist bs M f a out tk).2.1-a)∧(Z1u lit dist bs M f a out tk).2.2.1.length≤M
 | 0,a,out,tk,ha,hM,h=>by
  rw [Z1u] at h
  cases h
 | f+1,a,out,tk,ha,hM,h=>by
  obtain ⟨b,e,a',out',tk',hs⟩:∃b e a' out' tk',J4 lit dist bs M a out tk=(b,e,a',out',tk'):=⟨_,_,_,_,_,rfl⟩
  cases b with
  | true=>
   rw [J6 hs] at h⊢
   simp only at h⊢
   obtain ⟨h1,h2,h3,h4,h5⟩:=Y5s hb ha hM hs h
   exact ⟨by omega,h2,h3,h4,h5⟩
  | false=>
   have he:e=0:=W74 hs
   obtain ⟨h1,h2,h3,h4,h5⟩:=Y5s hb ha hM hs he
   rw [Z8q hs] at h⊢
   obtain ⟨k1,k2,k3,k4,k5⟩:=Y2k hb f a' out' tk' h2 h5 h
   exact ⟨by omega,k2,by omega,by omega,k5⟩
theorem Y7u {bs:List Nat} {M:Nat}:∀ (n a:Nat) (out:List Nat),out.length≤M→a≤bs.length→(T5 bs M n a out).1=0→
  (T5 bs M n a out).2.1=a+8*n∧(T5 bs M n a out).2.1≤bs.length∧(T5 bs M n a out).2.2.length=out.length+n∧(T5 bs M n a out).2.2.length≤M
 | 0,a,out,hM,ha,h=>⟨by rw [T5];simp,by rw [T5];exact ha,by rw [T5];simp,by rw [T5];exact hM⟩
 | n+1,a,out,hM,ha,h=>by
  cases ht:I8 bs a 8 with
  | none=>rw [T5,ht] at h;simp at h
  | some c=>
   have h1:=(M2 ht).1
   by_cases hm:M≤out.length
   ·rw [T5,ht] at h
    simp only [if_pos hm] at h
    cases h
   have hx:T5 bs M (n+1) a out=T5 bs M n (a+8) (out++[c]):=by
    rw [T5,ht]
    simp only [if_neg hm]
   rw [hx] at h⊢
   obtain ⟨g,b,d,f⟩:=Y7u n (a+8) (out++[c]) (by simp;omega) h1 h
   simp only [T01,T04,T05] at d
   exact ⟨by omega,b,by omega,f⟩
theorem X2f {bs:List Nat} {M a:Nat} {out:List Nat} (hM:out.length≤M) (h:(N9 bs M a out).1=0):
  a≤(N9 bs M a out).2.1∧(N9 bs M a out).2.1≤bs.length∧(N9 bs M a out).2.2.length≤out.length+258*((N9 bs M a out).2.1-a)∧(N9 bs M a out).2.2.length≤M:=by
 unfold N9 at h⊢
 simp only at h⊢
 split at h
 ·cases h
 rename_i b
 split at h
 ·cases h
 rename_i d
 rw [if_neg b,if_neg d]
 obtain ⟨j,f,k,g⟩:=Y7u _ _ _ hM (by omega) h
 have i:a≤V9 a:=by unfold V9;omega
 exact ⟨by omega,f,by omega,g⟩
theorem Z2e {head:List Int} {bs:List Nat} {N a a':Nat} {l l':List Int} {b:Bool} (h:E7 head bs N a l=(b,0,a',l')) (hn:¬N≤l.length) (ha:a≤bs.length):a < a'∧a'≤bs.length∧l'.length≤N:=by
 unfold E7 at h
 split at h
 ·rename_i d
  simp only [Prod.mk.injEq] at h
  exact absurd h.2.1 d
 rename_i d
 obtain ⟨k,n,g,i⟩:∃k n g,I7 head (bs.drop a)=(k,n,g):=⟨_,_,_,rfl⟩
 rw [i] at h d
 simp only [Decidable.not_not] at h d
 subst d
 obtain ⟨_,q,o⟩:=P7 i
 rw [T02] at o
 unfold E7.lenRun at h
 generalize (if k=17 then 3 else if k=18 then 7 else 2)=wd at h
 generalize (if k=18 then 11 else 3)=ba at h
 generalize (if k=16 then l.getLast?.getD 0 else 0)=y at h
 split at h
 ·simp only [Prod.mk.injEq] at h
  obtain ⟨_,_,rfl,rfl⟩:=h
  simp only [T01,T04,T05]
  omega
 split at h
 ·simp only [Prod.mk.injEq] at h
  omega
 split at h
 ·simp only [Prod.mk.injEq] at h
  omega
 rename_i f m
 have j:=(M2 m).1
 split at h
 ·simp only [Prod.mk.injEq] at h
  omega
 rename_i p
 simp only [Prod.mk.injEq] at h
 obtain ⟨_,_,rfl,rfl⟩:=h
 rw [T01,List.length_replicate]
 exact ⟨by omega,j,by omega⟩
theorem Z41 {head:List Int} {bs:List Nat} {N a:Nat} {l:List Int} {X:Nat×Nat×List Int} (h:E7 head bs N a l=(false,X)):X.1=0:=by
 unfold E7 at h
 split at h
 ·cases h
 unfold E7.lenRun at h
 generalize (I7 head (bs.drop a)).1=k at h
 generalize (if k=17 then 3 else if k=18 then 7 else 2)=wd at h
 generalize (if k=18 then 11 else 3)=ba at h
 generalize (if k=16 then l.getLast?.getD 0 else 0)=y at h
 split at h
 ·cases h;rfl
 split at h
 ·cases h
 split at h
 ·cases h
 split at h
 ·cases h
 cases h;rfl
theorem X0m {head:List Int} {bs:List Nat} {N:Nat}:∀ (f a:Nat) (l:List Int),a≤bs.length→l.length≤N→(Z1m head bs N f a l).1=0→
  a≤(Z1m head bs N f a l).2.1∧(Z1m head bs N f a l).2.1≤bs.length∧(Z1m head bs N f a l).2.2.length≤N
 | 0,a,l,ha,hl,h=>by
  rw [Z1m] at h
  cases h
 | f+1,a,l,ha,hl,h=>by
  by_cases hn:N≤l.length
  ·rw [Z8f hn]
   exact ⟨Nat.le_refl _,ha,hl⟩
  obtain ⟨b,e,a',l',hs⟩:∃b e a' l',E7 head bs N a l=(b,e,a',l'):=⟨_,_,_,_,rfl⟩
  cases b with
  | true=>
   rw [Z0b hn hs] at h⊢
   simp only at h⊢
   subst h
   obtain ⟨h1,h2,h3⟩:=Z2e hs hn ha
   exact ⟨by omega,h2,h3⟩
  | false=>
   have he:e=0:=Z41 hs
   subst he
   obtain ⟨h1,h2,h3⟩:=Z2e hs hn ha
   rw [Z2x hn hs] at h⊢
   obtain ⟨k1,k2,k3⟩:=X0m f a' l' h2 h3 h
   exact ⟨by omega,k2,k3⟩
theorem Z4l {l:List Int} {mm:Int} (h:D0 l mm=0):∀y∈l,0≤y∧y≤mm:=by
 unfold D0 at h
 split at h
 ·cases h
 rename_i a
 simp only [U4,Bool.or_eq_true,decide_eq_true_eq,Bool.not_eq_true',not_or,Bool.not_eq_false] at a
 exact (Z1p l mm).1 a.2
theorem Y2p {bs:List Nat} {a:Nat} (h:(Q5 bs a).1=0):
  a≤(Q5 bs a).2.1∧(Q5 bs a).2.1≤bs.length∧(Q5 bs a).2.2.1.length≤288∧(Q5 bs a).2.2.2.length≤288∧(∀y∈(Q5 bs a).2.2.1,0≤y∧y≤15)∧(∀y∈(Q5 bs a).2.2.2,0≤y∧y≤15):=by
 unfold Q5 at h⊢
 split at h
 ·cases h
 rename_i i
 rw [if_neg i]
 generalize E4 ((bs.drop a).take 5)+257=A at*
 generalize E4 ((bs.drop (a+5)).take 5)+1=B at*
 generalize E4 ((bs.drop (a+10)).take 4)+4=C at*
 unfold Q5.dynRun at h⊢
 split at h
 ·cases h
 rename_i j
 rw [if_neg j]
 split at h
 ·cases h
 rename_i k
 rw [if_neg k]
 split at h
 ·cases h
 rename_i l
 rw [if_neg l]
 unfold Q5.dynEnd at h⊢
 split at h
 ·rename_i b
  exact absurd h b
 rename_i b
 rw [if_neg b]
 split at h
 ·cases h
 rename_i d
 rw [if_neg d]
 obtain ⟨n,m,o⟩:=X0m (head:=F6 bs (a+14) C) (bs:=bs) (N:=A+B) (bs.length+1) (a+14+3*C) [] (by omega) (by simp) (by omega)
 have f:∀y∈(Z1m (F6 bs (a+14) C) bs (A+B) (bs.length+1) (a+14+3*C) []).2.2.take A,0≤y∧y≤15:=Z4l (Decidable.not_not.1 (not_or.1 d).1)
 have g:∀y∈(Z1m (F6 bs (a+14) C) bs (A+B) (bs.length+1) (a+14+3*C) []).2.2.drop A,0≤y∧y≤15:=Z4l (Decidable.not_not.1 (not_or.1 (not_or.1 d).2).1)
 refine ⟨by simp only;omega,m, ?_, ?_,f,g⟩
 ·simp only [List.length_take]
  omega
 simp only [T02]
 omega
noncomputable def I9 (all:List Nat) (M kind a:Nat) (out:List Nat) (tk:List E3):Nat×Nat×List Nat×List E3:=
 if kind=0 then ((N9 all M a out).1,(N9 all M a out).2.1,(N9 all M a out).2.2,tk)
 else if kind=1 then Z1u I5 G7 all M (all.length+1) a out tk
 else if kind=2 then
  if (Q5 all a).1≠0 then ((Q5 all a).1,(Q5 all a).2.1,out,tk)
  else Z1u (Q5 all a).2.2.1 (Q5 all a).2.2.2 all M (all.length+1) (Q5 all a).2.1 out tk
 else (2,a,out,tk)
theorem Y3u {all:List Nat} {M kind a:Nat} {out:List Nat} {tk:List E3} (hb:isBits all) (ha:a≤all.length) (hM:out.length≤M) (h:(I9 all M kind a out tk).1=0):
  a≤(I9 all M kind a out tk).2.1∧(I9 all M kind a out tk).2.1≤all.length∧(I9 all M kind a out tk).2.2.1.length≤out.length+258*((I9 all M kind a out tk).2.1-a)∧(I9 all M kind a out tk).2.2.2.length≤tk.length+((I9 all M kind a out tk).2.1-a)∧(I9 all M kind a out tk).2.2.1.length≤M:=by
 unfold I9 at h⊢
 split at h
 ·rename_i d
  rw [if_pos d]
  obtain ⟨i,g,j,k⟩:=X2f hM h
  exact ⟨i,g,j,by simp only;omega,k⟩
 rename_i d
 rw [if_neg d]
 split at h
 ·rename_i f
  rw [if_pos f]
  exact Y2k hb _ _ _ _ ha hM h
 rename_i f
 rw [if_neg f]
 split at h
 ·rename_i l
  rw [if_pos l]
  split at h
  ·rename_i b
   exact absurd h b
  rename_i b
  rw [if_neg b]
  obtain ⟨o,m,_⟩:=Y2p (Decidable.not_not.1 b)
  obtain ⟨i,g,j,k,n⟩:=Y2k hb _ _ _ _ m hM h
  exact ⟨by omega,g,by omega,by omega,n⟩
 cases h
structure W3w where
 e:Nat
 a:Nat
 out:List Nat
 tk:List E3
 kinds:List Nat
 stops:List Nat
 rest:Nat
noncomputable def Z01 (all:List Nat) (M a:Nat) (out:List Nat) (tk:List E3) (ks ss:List Nat):Bool×W3w:=
 match I8 all a 3 with
 | none=>(true,⟨5,a,out,tk,ks,ss,0⟩)
 | some v=>afterF v (I9 all M (v / 2) (a+3) out tk) ks ss
where
 afterF (v:Nat) (q:Nat×Nat×List Nat×List E3) (ks ss:List Nat):Bool×W3w:=
  if q.1≠0 then (true,⟨q.1,q.2.1,q.2.2.1,q.2.2.2,ks++[v / 2],ss,0⟩)
  else if v%2=1 then (true,⟨0,q.2.1,q.2.2.1,q.2.2.2,ks++[v / 2],ss++[q.2.2.1.length],(q.2.1+7) / 8⟩)
  else (false,⟨0,q.2.1,q.2.2.1,q.2.2.2,ks++[v / 2],ss++[q.2.2.1.length],0⟩)
noncomputable def T6 (all:List Nat) (M:Nat):Nat→Nat→List Nat→List E3→List Nat→List Nat→W3w
 | 0,a,out,tk,ks,ss=>⟨5,a,out,tk,ks,ss,0⟩
 | f+1,a,out,tk,ks,ss=>
  if (Z01 all M a out tk ks ss).1=true then (Z01 all M a out tk ks ss).2
  else T6 all M f (Z01 all M a out tk ks ss).2.a (Z01 all M a out tk ks ss).2.out (Z01 all M a out tk ks ss).2.tk (Z01 all M a out tk ks ss).2.kinds (Z01 all M a out tk ks ss).2.stops
theorem Z0p {all:List Nat} {M f a:Nat} {out:List Nat} {tk:List E3} {ks ss:List Nat} {S:W3w} (h:Z01 all M a out tk ks ss=(true,S)):T6 all M (f+1) a out tk ks ss=S:=by
 rw [T6,h];rfl
theorem Y7c {all:List Nat} {M f a:Nat} {out:List Nat} {tk:List E3} {ks ss:List Nat} {S:W3w} (h:Z01 all M a out tk ks ss=(false,S)):T6 all M (f+1) a out tk ks ss=T6 all M f S.a S.out S.tk S.kinds S.stops:=by
 rw [T6,h];rfl
theorem Y9c {all:List Nat} {M a:Nat} {out:List Nat} {tk:List E3} {ks ss:List Nat} (h:I8 all a 3=none):Z01 all M a out tk ks ss=(true,⟨5,a,out,tk,ks,ss,0⟩):=by
 unfold Z01;rw [h]
theorem Y3d {all:List Nat} {M a v e a':Nat} {out out':List Nat} {tk tk':List E3} {ks ss:List Nat} (h:I8 all a 3=some v) (hq:I9 all M (v / 2) (a+3) out tk=(e,a',out',tk')) (he:e≠0):Z01 all M a out tk ks ss=(true,⟨e,a',out',tk',ks++[v / 2],ss,0⟩):=by
 unfold Z01;rw [h];simp only;rw [hq];exact if_pos he
theorem Y0d {all:List Nat} {M a v a':Nat} {out out':List Nat} {tk tk':List E3} {ks ss:List Nat} (h:I8 all a 3=some v) (hq:I9 all M (v / 2) (a+3) out tk=(0,a',out',tk')) (hv:v%2=1):Z01 all M a out tk ks ss=(true,⟨0,a',out',tk',ks++[v / 2],ss++[out'.length],(a'+7) / 8⟩):=by
 unfold Z01;rw [h];simp only;rw [hq];unfold Z01.afterF;rw [if_neg (fun h=>h rfl),if_pos hv]
theorem Z9z {all:List Nat} {M a v a':Nat} {out out':List Nat} {tk tk':List E3} {ks ss:List Nat} (h:I8 all a 3=some v) (hq:I9 all M (v / 2) (a+3) out tk=(0,a',out',tk')) (hv:v%2≠1):Z01 all M a out tk ks ss=(false,⟨0,a',out',tk',ks++[v / 2],ss++[out'.length],0⟩):=by
 unfold Z01;rw [h];simp only;rw [hq];unfold Z01.afterF;rw [if_neg (fun h=>h rfl),if_neg hv]
end Go.Proofs.YtbkbkmgogbgofaaGreatDoor
