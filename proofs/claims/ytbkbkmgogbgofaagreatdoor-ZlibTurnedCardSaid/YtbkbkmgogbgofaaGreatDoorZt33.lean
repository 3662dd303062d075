/- The claim's texts, put together and shortened by a program (names, spaces). -/
import Derived.Test.YtbkbkmgogbgofaaGreatDoorZt06
import Derived.Test.YtbkbkmgogbgofaaGreatDoorZt08
open List renaming replicate→T01,length_append→T03,length_drop→T04,getElem?_eq_getElem→T06,replicate_zero→T07,append_nil→T08,replicate_succ'→T09,append_assoc→T0a,length_replicate→T0b,getElem?_eq_none→T0c
open Nat renaming mul_one→T02,zero_add→T05
open Int renaming natCast_nonneg→T00
namespace Go.Proofs.YtbkbkmgogbgofaaGreatDoor
set_option maxRecDepth 100000
set_option maxHeartbeats 6400000
open Go.RowKit
section
variable {w0 w:World} {Rs:List A6}
def V65 (w0 w':World) (Rs:List A6) (S:Nat×Nat×List Int×List Int) (B:Nat) (o r kk s:Value) (bo:Option Addr) (bc m M:Nat) (lc dc tk:Value) (all:List Nat):Prop:=
 (S.1=0∧∃ (li di:Value),A4 w0 w' (S0 B o 0 r kk s (.slice bo m bc) S.2.1 (M:Int) li di lc dc tk::rdT 1 (.slice bo m bc) m (D7 all)::Y8m 1 li S.2.2.1.length (D2 S.2.2.1) di S.2.2.2.length (D2 S.2.2.2)::Rs))∨
 (S.1≠0∧∃ (a':Nat) (li di:Value),A4 w0 w' (S0 B o S.1 r kk s (.slice bo m bc) a' (M:Int) li di lc dc tk::rdT 1 (.slice bo m bc) m (D7 all)::Rs))
theorem W8g {l:List Int} {mm:Int} (h:D1 l mm=0):∀y∈l,0≤y∧y≤mm:=by
 unfold D1 at h
 split at h
 ·cases h
 rename_i a
 simp only [U3,Bool.or_eq_true,decide_eq_true_eq,Bool.not_eq_true',not_or,Bool.not_eq_false] at a
 exact (Z1v l mm).1 a.2
theorem X3i (z:Value) (n:Nat) (hz:z.cells=#[z]):(madeCells z.cells (n*1)).toList=T01 n z:=by
 rw [T02,hz]
 refine List.ext_getElem? fun j=> ?_
 by_cases a:j < n
 ·simp [madeCells,a,Nat.mod_one]
 rw [T0c (by simp [madeCells];omega),T0c (by simp;omega)]
theorem X3c (w:World) (o:Obj):(w.alloc o).heap.size=w.heap.size+1:=by
 show (w.heap.push o).size=_
 simp
theorem A4.cut2 {w0 w:World} {Rs:List A6} {e:TypeId} {lo:Option Addr} {n lcap:Nat} {xs:List Value} (h:A4 w0 w (B0 e 1 (.slice lo n lcap) n xs::Rs)) (A:Nat) (hA:A≤n):A4 w0 w (Y8m 1 (.slice lo A lcap) A (xs.take A) (sliced lo A n lcap 1) (n-A) (xs.drop A)::Rs):=by
 have i:=h.own.rd.1
 have a:=h.own.rd.front hA
 have b:=h.own.rd.cut (L:=A) (H:=n) hA (Nat.le_refl _)
 rw [T02] at a
 rw [T02,T02,List.take_of_length_le (by rw [T04];omega)] at b
 obtain ⟨F,f,g⟩:=h
 have d:∀k,Value.ownBlock (.slice lo A lcap)=some k→Value.ownBlock (.slice lo n lcap)=some k:=fun k hk=>by
  clear a b f g
  cases lo <;> exact hk
 refine ⟨F,⟨⟨a,fun k hk=>(f.2 k).2 (d k hk)⟩,⟨b,fun k hk=>(f.2 k).2 ?_⟩⟩,g⟩
 rw [←Z42 lo A n lcap 1 n];exact hk
theorem W6p:∀i,i < 19→M2[i]?.getD 0 < 19:=by decide
theorem W7i:∀i,i < 19→([16,17,18,0,8,7,9,6,10,5,11,4,12,3,13,2,14,1,15]:List Int)[i]?=some ((M2[i]?.getD 0:Nat):Int):=by decide
theorem W7y (i ov:Nat) (h:i < 19) (ho:ov=M2[i]?.getD 0):(D2 [16,17,18,0,8,7,9,6,10,5,11,4,12,3,13,2,14,1,15])[i]?=some (.int .i64 (ov:Int)):=by
 rw [G5,W7i i h,ho];rfl
theorem X8y (l:List Int) (i:Nat) (b:Int):D2 (l.set i b)=(D2 l).set i (.int .i64 b):=by simp [D2,List.map_set]
theorem X4o (B:Nat) (o r kk s:Value) (bo:Option Addr) (bc m a M:Nat) (li di lc dc tk:Value) (all:List Nat)
  (h:A4 w0 w (S0 B o 0 r kk s (.slice bo m bc) a (M:Int) li di lc dc tk::rdT 1 (.slice bo m bc) m (D7 all)::Rs)) (hb:isBits all) (ha:a≤m) (hm2:m < 1000000000):
  Calls Tryz.prog 39 #[S3 B] w fun e' w'=>e'= .returned (.bool (decide ((Q2 all a).1=0)))∧V65 w0 w' Rs (Q2 all a) B o r kk s bo bc m M lc dc tk all:=by
 obtain ⟨i0,e5,i7,e6,i8⟩:=info_parts Y2w
 have hm:m=all.length:=by have:=h.drop.rdv.1;rw [E5] at this;omega
 have HM:=A5 hm
 have d3:=A5 hb
 have H:=A5 h
 generalize hS:Q2 all a=S at*
 have HS:=A5 hS
 have q:=h.obj
 have c1:=q.cell (i:=1) rfl
 have c5:=q.cell (i:=5) rfl
 have c6:=q.cell (i:=6) rfl
 have f1:=q.frozen 1
 have z0:(0:Int)≤(a:Int):=T00 _
 obtain ⟨z,hz⟩:∃z,z=a+14:=⟨_,rfl⟩
 have m8:(a:Int)+14=(z:Int):=by omega
 have u9:(0:Int)≤(z:Int):=T00 _
 have HZ:=A5 hz
 unfold S3
 by_cases a2:m < z
 ·have b1:decide (m < z)=true:=decide_eq_true a2
  have b2:decide ((m:Int) < (z:Int))=true:=decide_eq_true (by omega)
  have b:Hid (S=(5,a,[],[])):=A5 (by rw [←hS];unfold Q2;exact if_pos (by rw [←hm,←hz];exact a2))
  have m9:IntKind.i64.wrap ((a:Int)+14)=(z:Int):=by rw [m8];exact IntWalk.i64_in _ (by omega)
  clear h hb hm hS q hz a2
  go_enter Tryz.func39,Tryz.ntmps39
  go_wp2
  go_quiet (fail)
  go_wp2
  go_ret
  exact ⟨by rw [b.out];rfl,.inr ⟨by rw [b.out];exact fun h=>(by cases h),a,li,di,by rw [b.out];exact (H.out.drewN _).setObj 1 _⟩⟩
 have b1:decide (m < z)=false:=decide_eq_false a2
 have b2:decide ((m:Int) < (z:Int))=false:=decide_eq_false (by omega)
 obtain ⟨v1,e3⟩:∃v,v=E3 ((all.drop a).take 5):=⟨_,rfl⟩
 obtain ⟨v2,f7⟩:∃v,v=E3 ((all.drop (a+5)).take 5):=⟨_,rfl⟩
 obtain ⟨v3,j8⟩:∃v,v=E3 ((all.drop (a+10)).take 4):=⟨_,rfl⟩
 have n0:v1 < 32:=by rw [e3];exact L6 hb a 5
 have n1:v2 < 32:=by rw [f7];exact L6 hb _ 5
 have n2:v3 < 16:=by rw [j8];exact L6 hb _ 4
 have j2:=A5 (fun w1 (d:A4 w0 w1 (S0 B o 0 r kk s (.slice bo m bc) a (M:Int) li di lc dc tk::rdT 1 (.slice bo m bc) m (D7 all)::Rs))=>X9 B o 0 r kk s bo bc m a 5 v1 (M:Int) li di lc dc tk all d (by rw [e3];exact Y0n (by rw [←hm];omega)) hb (by omega) (by decide))
 have t:=A5 (fun w1 (d:A4 w0 w1 (S0 B o 0 r kk s (.slice bo m bc) (a+5) (M:Int) li di lc dc tk::rdT 1 (.slice bo m bc) m (D7 all)::Rs))=>X9 B o 0 r kk s bo bc m (a+5) 5 v2 (M:Int) li di lc dc tk all d (by rw [f7];exact Y0n (by rw [←hm];omega)) hb (by omega) (by decide))
 have j3:=A5 (fun w1 (d:A4 w0 w1 (S0 B o 0 r kk s (.slice bo m bc) (a+5+5) (M:Int) li di lc dc tk::rdT 1 (.slice bo m bc) m (D7 all)::Rs))=>X9 B o 0 r kk s bo bc m (a+5+5) 4 v3 (M:Int) li di lc dc tk all d (by rw [show a+5+5=a+10 by omega,j8];exact Y0n (by rw [←hm];omega)) hb (by omega) (by decide))
 have h5:((5:Nat):Int)=5:=rfl
 have h4:((4:Nat):Int)=4:=rfl
 have k6:a+5+5+4=z:=by omega
 rw [h5] at j2 t
 rw [h4,k6] at j3
 unfold S3 at j2 t j3
 obtain ⟨A,hA⟩:∃A,A=v1+257:=⟨_,rfl⟩
 obtain ⟨Bn,r0⟩:∃Bn,Bn=v2+1:=⟨_,rfl⟩
 obtain ⟨C,hC⟩:∃C,C=v3+4:=⟨_,rfl⟩
 have z4:(v1:Int)+257=(A:Int):=by omega
 have z5:(v2:Int)+1=(Bn:Int):=by omega
 have z6:(v3:Int)+4=(C:Int):=by omega
 have z7:(0:Int)≤(A:Int):=T00 _
 have z8:(0:Int)≤(Bn:Int):=T00 _
 have z9:(0:Int)≤(C:Int):=T00 _
 have d7:Hid (S=Q2.dynRun all z A Bn C):=A5 (by rw [←hS];unfold Q2;rw [if_neg (by rw [←hm,←hz];exact a2),←e3,←f7,←j8,←hz,hA,r0,hC])
 have A0:A≤300:=by omega
 have A1:Bn≤40:=by omega
 have A2:C≤19:=by omega
 have s9:z≤m:=by omega
 have m9:IntKind.i64.wrap ((a:Int)+14)=(z:Int):=by rw [m8];exact IntWalk.i64_in _ (by omega)
 have t0:257≤A:=by omega
 have A3:1≤Bn:=by omega
 clear h hb hm hS q hz a2 e3 f7 j8 hA r0 hC h5 h4 k6 HZ n0 n1 n2
 go_enter Tryz.func39,Tryz.ntmps39
 go_wp2
 go_quiet (fail)
 have n3:=A5 (j2.out _ (H.out.drewN nq))
 clear m9 c1 c5 c6 f1 j2 H
 go_wp2_with fail
 refine n3.out.mono ?_
 rintro e' w2 ⟨rfl,d⟩
 have n4:=A5 (t.out _ d)
 clear d n3 t
 go_wp2_with fail
 refine n4.out.mono ?_
 rintro e' w3 ⟨rfl,d⟩
 have n5:=A5 (j3.out _ d)
 clear d n4 j3
 go_wp2_with fail
 refine n5.out.mono ?_
 rintro e' w4 ⟨rfl,d⟩
 have H4:=A5 d
 have q:=d.obj
 have d1:=q.cell (i:=1) rfl
 have g1:=q.frozen 1
 clear d n5 q
 by_cases b9:286 < A∨30 < Bn
 ·have b:Hid (S=(2,z,[],[])):=A5 (by rw [d7.out];unfold Q2.dynRun;exact if_pos b9)
  have hc:(decide ((286:Int) < (A:Int))=true∧decide (286 < A)=true)∨(decide ((286:Int) < (A:Int))=false∧decide (286 < A)=false∧decide ((30:Int) < (Bn:Int))=true∧decide (30 < Bn)=true):=by
   by_cases h:286 < A
   ·exact .inl ⟨decide_eq_true (by omega),decide_eq_true h⟩
   exact .inr ⟨decide_eq_false (by omega),decide_eq_false h,decide_eq_true (by omega),decide_eq_true (by omega)⟩
  clear b9
  rcases hc with ⟨q1,q2⟩ | ⟨q1,q2,q3,q4⟩
  all_goals
   go_wp2
   go_ret
   exact ⟨by rw [b.out];rfl,.inr ⟨by rw [b.out];exact fun h=>(by cases h),z,li,di,by rw [b.out];exact H4.out.setObj 1 _⟩⟩
 have q1:decide ((286:Int) < (A:Int))=false:=decide_eq_false (by omega)
 have q2:decide (286 < A)=false:=decide_eq_false (by omega)
 have q3:decide ((30:Int) < (Bn:Int))=false:=decide_eq_false (by omega)
 have q4:decide (30 < Bn)=false:=decide_eq_false (by omega)
 have t2:A≤286:=by omega
 have v7:Bn≤30:=by omega
 have j4:Hid (S=if all.length < z+3*C then (5,z,[],[]) else if D1 (F5 all z C) 7≠0∨Z1i all z C=false then (3,z+3*C,[],[]) else Q2.dynEnd A (Z1o (F5 all z C) all (A+Bn) (all.length+1) (z+3*C) [])):=A5 (by rw [d7.out];unfold Q2.dynRun;exact if_neg b9)
 have H5:=A5 ((H4.out.lit 3 1 (D2 [16,17,18,0,8,7,9,6,10,5,11,4,12,3,13,2,14,1,15]) 19 (by decide) rfl).toRd)
 clear b9 d7
 go_wp2_with (refine wpList_make_own rfl 52 (.const (.int .i64 19)) (.const (.int .i64 19)) rfl 3 i0 (.int .i64 0) 1 Tryz.underlying52 e5 i7 e6 .i64 19 rfl rfl (by rw [i8];decide) (by decide) ?_;intro hv w5 zs q0 q5 q6 e3 q7;have H6:=A5 (H5.out.pushOwn q0 q5 q6))
 have H7:Hid (A4 w0 w5 (S0 B o 0 r kk s (.slice bo m bc) z (M:Int) li di lc dc tk::rdT 1 (.slice bo m bc) m (D7 all)::B0 3 1 hv 19 (D2 (F5 all z 0))::rdT 1 (.slice (some ⟨w4.heap.size,0,none⟩) 19 19) 19 (D2 [16,17,18,0,8,7,9,6,10,5,11,4,12,3,13,2,14,1,15])::Rs)):=A5 (by
  have h:=H6.out
  rw [q7,X3i _ _ rfl] at h
  exact h.third.fourth.swap)
 have f7:hv= .slice (some ⟨w4.heap.size+1,0,none⟩) 19 19:=by rw [e3,X3c]
 clear e3
 subst f7
 obtain ⟨OB,r1⟩:∃OB,OB=w4.heap.size:=⟨_,rfl⟩
 rw [←r1] at H7⊢
 clear r1 H6 H5 q5 q6 q0 q7 H4 d1 g1
 go_loopg [11,12] (C+2) (fun g t11 t12 wr=>∃i p:Nat,i≤C∧C-i < g∧t12= .int .i64 (i:Int)∧t11= .bool (Z1i all z i)∧p=z+3*i∧p≤m∧Hid (A4 w0 wr (S0 B o 0 r kk s (.slice bo m bc) p (M:Int) li di lc dc tk::rdT 1 (.slice bo m bc) m (D7 all)::B0 3 1 (.slice (some ⟨OB+1,0,none⟩) 19 19) 19 (D2 (F5 all z i))::rdT 1 (.slice (some ⟨OB,0,none⟩) 19 19) 19 (D2 [16,17,18,0,8,7,9,6,10,5,11,4,12,3,13,2,14,1,15])::Rs)))
 case atStart=>exact ⟨0,z,by omega,by omega,rfl,rfl,by omega,s9,H7⟩
 case round=>
  obtain ⟨i,p,hi,hg,rfl,rfl,hp,r2,HH⟩:=hrel
  have x1:(0:Int)≤(i:Int):=T00 _
  by_cases B9:i < C
  ·have t3:(i:Int) < (C:Int):=by omega
   have h3:((3:Nat):Int)=3:=rfl
   cases ht:I7 all p 3 with
   | none=>
    have hT:=Z52 B o 0 r kk s bo bc m p 3 (M:Int) li di lc dc tk all HH.out ht (by omega) (by decide)
    rw [h3] at hT
    unfold S3 at hT
    have HT:=A5 hT
    have b:Hid (S=(5,z,[],[])):=A5 (by rw [j4.out,if_pos (by have:=X0b ht;omega)])
    clear hT ht
    go_wp2_with fail
    refine HT.out.mono ?_
    rintro e' w6 ⟨rfl,d⟩
    have H8:=A5 d.drop.drop.drop
    have H9:=A5 (d.fourth.drop.third.drop)
    clear d HT HH
    go_wp2
    go_ret
    exact ⟨by rw [b.out];rfl,.inr ⟨by rw [b.out];exact fun h=>(by cases h),p,li,di,by rw [b.out];exact H9.out⟩⟩
   | some v=>
    obtain ⟨a7,b4⟩:=M1 ht
    have A7:v < 8:=by rw [b4];exact L6 d3.out p 3
    have hT:=X9 B o 0 r kk s bo bc m p 3 v (M:Int) li di lc dc tk all HH.out ht d3.out (by omega) (by decide)
    rw [h3] at hT
    unfold S3 at hT
    have HT:=A5 hT
    have k7:p+3≤m:=by rw [HM.out];exact a7
    obtain ⟨ov,j9⟩:∃ov,ov=M2[i]?.getD 0:=⟨_,rfl⟩
    have l5:ov < 19:=by rw [j9];exact W6p i (by omega)
    have t4:Hid (F5 all z (i+1)=(F5 all z i).set ov (v:Int)):=A5 (by rw [F5,←j9,←hp,←b4])
    have n6:Hid (Z1i all z (i+1)=(Z1i all z i || decide (0 < v))):=A5 (by rw [Z1i,←hp,←b4])
    have n7:=W7y i ov (by omega) j9
    have A8:(0:Int)≤(v:Int):=T00 _
    have x3:(0:Int)≤(ov:Int):=T00 _
    have s0:(ov:Int) < 19:=by omega
    clear hT ht a7 b4 j9
    go_wp2_with fail
    refine HT.out.mono ?_
    rintro e' w6 ⟨rfl,d⟩
    obtain ⟨gh,oh,r3,j0,r4,l0⟩:=d.drop.drop.own.site (by omega)
    simp only [Option.some.injEq,Addr.mk.injEq,and_true] at r3
    obtain ⟨rfl,rfl⟩:=r3
    obtain ⟨C5,C6,r5,f3⟩:=d.drop.drop.drop.rdv.spot (by omega)
    simp only [Option.some.injEq,Addr.mk.injEq,and_true] at r5
    obtain ⟨rfl,rfl⟩:=r5
    have k1:=f3 i _ n7
    rw [T05] at k1
    have t5:(F5 all z i).length=19:=V4 all z i
    obtain ⟨y,hy⟩:∃y,(F5 all z i)[ov]?=some y:=⟨(F5 all z i)[ov]'(by omega),T06 _⟩
    have k2:=j0 ov (.int .i64 y) (by rw [G5,hy];rfl)
    have k3:=r4 ov
    rw [T05] at k2 k3
    have h9:=d.third.putOwn (l0 ov (.int .i64 (v:Int)) l5) (E2.set w6 (OB+1) (0+ov) _)
    rw [←X8y,←t4.out,T05] at h9
    have H9:=A5 h9.swap.third.swap
    clear d HT HH j0 r4 l0 f3 hy h9 n7 t5
    have c4:Z1i all z i=true∨Z1i all z i=false:=by cases Z1i all z i <;> simp
    rcases c4 with c4 | c4
    ·rw [c4]
     have g6:Hid (Z1i all z (i+1)=true):=A5 (by rw [n6.out,c4];rfl)
     go_wp2
     go_roundg (gk-1)
     case measure=>omega
     case rel=>exact ⟨i+1,p+3,by omega,by omega,by go_num,by rw [g6.out],by omega,k7,H9⟩
    rw [c4]
    have g6:Hid (Z1i all z (i+1)=decide (0 < v)):=A5 (by rw [n6.out,c4];rfl)
    go_wp2
    go_roundg (gk-1)
    case measure=>omega
    case rel=>exact ⟨i+1,p+3,by omega,by omega,by go_num,by rw [g6.out],by omega,k7,H9⟩
  have t3:¬(i:Int) < (C:Int):=by omega
  obtain rfl:i=C:=by omega
  have e2:Hid (¬(D1 (F5 all z i) 7=0∧Z1i all z i=true)→S=(3,p,[],[])):=A5 (fun h=>by
   rw [j4.out,if_neg (by rw [←HM.out];omega),if_pos,hp]
   by_cases h1:D1 (F5 all z i) 7=0
   ·right
    cases h2:Z1i all z i with
    | false=>rfl
    | true=>exact absurd ⟨h1,h2⟩ h
   exact .inl h1)
  have g7:Hid (D1 (F5 all z i) 7=0→Z1i all z i=true→S=Q2.dynEnd A (Z1o (F5 all z i) all (A+Bn) (m+1) p [])):=A5 (fun h1 h2=>by
   rw [j4.out,if_neg (by rw [←HM.out];omega),if_neg (by rw [h1,h2];simp),←HM.out,hp])
  have l6:(F5 all z i).length=19:=V4 all z i
  have l7:=A5 (fun w1 (hv:Rd w1 1 (.slice (some ⟨OB+1,0,none⟩) 19 19) (F5 all z i).length (D2 (F5 all z i)))=>Z6g (.slice (some ⟨OB+1,0,none⟩) 19 19) (F5 all z i) 7 w1 hv (by omega))
  rw [l6] at l7
  have l8:=A5 l6
  have k8:Hid (D1 (F5 all z i) 7=0→∀y∈F5 all z i,0≤y∧y≤15):=A5 (fun h y hy=>by have:=W8g h y hy;omega)
  generalize F5 all z i=HD at*
  generalize Z1i all z i=any at*
  clear l6 j4
  have n8:=HH.out.drop.drop.own.rd
  have d5:=A5 (l7.out wr n8)
  have q:=HH.out.obj
  have d1:=q.cell (i:=1) rfl
  have g1:=q.frozen 1
  clear n8 l7 q
  generalize C0:D1 HD 7=ck at*
  by_cases b9:ck=0∧any=true
  rotate_left
  ·have b:=A5 (e2.out b9)
   have c4:(ck≠0)∨(ck=0∧any=false):=by
    by_cases h:ck=0
    ·exact .inr ⟨h,by cases any with | false=>rfl | true=>exact absurd ⟨h,rfl⟩ b9⟩
    exact .inl h
   clear e2 g7 b9
   rcases c4 with c4 | ⟨rfl,rfl⟩
   ·have b7:((ck:Int) != 0)=true:=by simp;exact c4
    clear c4
    go_wp2_with fail
    refine d5.out.mono ?_
    rintro e' w6 ⟨rfl,rfl⟩
    have H9:=A5 ((HH.out.setObj 1 (.int .i64 3)).fourth.drop.third.drop)
    go_wp2
    go_ret
    exact ⟨by rw [b.out];rfl,.inr ⟨by rw [b.out];exact fun h=>(by cases h),p,li,di,by rw [b.out];exact H9.out⟩⟩
   go_wp2_with fail
   refine d5.out.mono ?_
   rintro e' w6 ⟨rfl,rfl⟩
   have H9:=A5 ((HH.out.setObj 1 (.int .i64 3)).fourth.drop.third.drop)
   go_wp2
   go_ret
   exact ⟨by rw [b.out];rfl,.inr ⟨by rw [b.out];exact fun h=>(by cases h),p,li,di,by rw [b.out];exact H9.out⟩⟩
  obtain ⟨rfl,rfl⟩:=b9
  have n9:=A5 (k8.out rfl)
  have o0:=A5 (g7.out rfl rfl)
  have o1:=A5 (Y34 HH.out (.slice (some ⟨OB+1,0,none⟩) 19 19) HD 19 HH.out.drop.drop.own.rd l8.out.symm (by decide))
  obtain ⟨N0,m4⟩:∃N0,N0=A+Bn:=⟨_,rfl⟩
  have x5:(A:Int)+(Bn:Int)=(N0:Int):=by omega
  have x6:(0:Int)≤(N0:Int):=T00 _
  have x7:N0≤316:=by omega
  rw [←m4] at o0
  have t6:=A5 m4
  clear e2 g7 k8 m4
  go_wp2_with fail
  refine d5.out.mono ?_
  rintro e' w6 ⟨rfl,rfl⟩
  go_wp2_with fail
  refine o1.out.mono ?_
  rintro e' w7 ⟨cv,rfl,d⟩
  obtain ⟨co,cc,rfl,_,_⟩:=d.own.form
  have H8:=A5 ((d.swap.third.swap.nil 3 1).swap.third.swap)
  clear d d5 o1 HH d1 g1
  go_wp2
  go_loopg [16] (m+3) (fun g t16 wr=>∃ (p n f:Nat) (L:List Int) (lo:Option Addr) (l:Nat),p≤m∧m-p < f∧f < g∧n≤N0∧t16= .slice lo n l∧Hid (n=L.length∧S=Q2.dynEnd A (Z1o HD all N0 f p L))∧Hid (A4 w0 wr (S0 B o 0 r kk s (.slice bo m bc) p (M:Int) li di lc dc tk::rdT 1 (.slice bo m bc) m (D7 all)::B0 3 1 (.slice lo n l) n (D2 L)::B0 44 1 (.slice co 19 cc) 19 (D3 .u32 (G0 HD))::B0 3 1 (.slice (some ⟨OB+1,0,none⟩) 19 19) 19 (D2 HD)::rdT 1 (.slice (some ⟨OB,0,none⟩) 19 19) 19 (D2 [16,17,18,0,8,7,9,6,10,5,11,4,12,3,13,2,14,1,15])::Rs)))
  case atStart=>exact ⟨p,0,m+1,[],none,0,by omega,by omega,by omega,by omega,rfl,A5 ⟨rfl,o0.out⟩,H8⟩
  case round=>
   obtain ⟨p,n,f,L,lo,l,r2,C7,C8,C9,rfl,HO,HQ⟩:=hrel
   obtain ⟨gx,rfl⟩:∃g,g=gk:=⟨gk,rfl⟩
   have B1:(0:Int)≤(n:Int):=T00 _
   obtain ⟨f,rfl⟩:∃f',f=f'+1:=⟨f-1,by omega⟩
   by_cases C1:n < N0
   rotate_left
   ·have t7:¬(n:Int) < (N0:Int):=by omega
    obtain rfl:n=N0:=by omega
    have o7:S=Q2.dynEnd A (0,p,L):=by rw [HO.out.2,Z8g (by rw [←HO.out.1];exact Nat.le_refl _)]
    have u2:=HQ.out.third.own.le
    have o8:A≤n:=by have:=t6.out;omega
    have o9:256 < A:=by omega
    have B6:∀wg,(Instr.sliceAt 52 (.slice lo n l) none (some (.int .i64 (A:Int))) none).run Tryz.prog wg= .ok (.slice lo A l) wg:=fun wg=>by
     rw [←Z17 lo A l 1 HQ.out.third.own.spotless]
     exact N8 52 3 i0 1 Tryz.underlying52 e5 e6 lo n l 0 A _ _ rfl ⟨_,rfl⟩ (by omega) (by omega)
    have p0:∀wg,(Instr.sliceAt 52 (.slice lo n l) (some (.int .i64 (A:Int))) none none).run Tryz.prog wg= .ok (sliced lo A n l 1) wg:=fun wg=>
     N8 52 3 i0 1 Tryz.underlying52 e5 e6 lo n l A n _ _ ⟨_,rfl⟩ rfl o8 u2
    have h2:=HQ.out.third.cut2 A o8
    have p2:(D2 L).take A=D2 (L.take A):=by simp [D2,List.map_take]
    have p3:(D2 L).drop A=D2 (L.drop A):=by simp [D2,List.map_drop]
    rw [p2,p3] at h2
    have a7:(L.take A).length=A:=by rw [List.length_take,←HO.out.1];omega
    have i5:(L.drop A).length=n-A:=by rw [T04,←HO.out.1]
    unfold sliced at p0 h2
    generalize (if l=A then lo else lo.map fun (x:Addr)=>x.add (A*1))=lb at p0 h2
    have h3:=((h2.swap.setObj 8 (.slice lo A l)).setObj 9 (.slice lb (n-A) (l-A)))
    have q:=HQ.out.obj
    have c8:=q.cell (i:=8) rfl
    have c9:=q.cell (i:=9) rfl
    have f8:=q.frozen 8
    have f9:=q.frozen 9
    have H3:=A5 h3
    obtain ⟨y,hy⟩:∃y,L[256]?=some y:=⟨L[256]'(by have:=HO.out.1;omega),T06 _⟩
    obtain ⟨gl,ol,rfl,f6⟩:=h3.swap.rdv2.1.spot (by omega)
    have B7:=f6 256 (.int .i64 y) (by rw [G5,List.getElem?_take_of_lt o9,hy];rfl)
    have d5:=A5 (Z6g (.slice (some ⟨gl,ol,none⟩) A l) (L.take A) 15 _ (by rw [a7];exact h3.swap.rdv2.1) (by omega))
    have m1:=A5 (Z6g (.slice lb (n-A) (l-A)) (L.drop A) 15 _ (by rw [i5];exact h3.swap.rdv2.2) (by omega))
    have p4:S=if D1 (L.take A) 15≠0∨D1 (L.drop A) 15≠0∨y=0 then (3,p,L.take A,L.drop A) else (0,p,L.take A,L.drop A):=by
     rw [o7];unfold Q2.dynEnd
     dsimp only
     rw [if_neg (fun h=>h rfl),hy,Option.getD_some]
    have p5:=A5 (And.intro a7 i5)
    have d7:=A5 p4
    have i6:=h3.obj
    have e1:=i6.cell (i:=1) rfl
    have e8:=i6.cell (i:=8) rfl
    have e9:=i6.cell (i:=9) rfl
    have k1:=i6.frozen 1
    generalize C2:D1 (L.take A) 15=q1' at*
    generalize C3:D1 (L.drop A) 15=q2' at*
    have s2:(256:Int) < (A:Int):=by omega
    clear o7 h2 p2 p3 a7 i5 h3 q i6 hy f6 p4 HQ
    by_cases f0:q1'=0
    rotate_left
    ·have b7:((q1':Int) != 0)=true:=by simp;exact f0
     have b:Hid (S=(3,p,L.take A,L.drop A)):=A5 (by rw [d7.out,if_pos (.inl f0)])
     clear f0
     go_wp2_with fail
     refine d5.out.mono ?_
     rintro e' w8 ⟨rfl,rfl⟩
     go_wp2
     go_ret
     exact ⟨by rw [b.out];rfl,.inr ⟨by rw [b.out];exact fun h=>(by cases h),p,_,_,by rw [b.out];exact (H3.out.setObj 1 (.int .i64 3)).swap.drop.third.drop.third.drop.third.drop⟩⟩
    subst f0
    by_cases f2:q2'=0
    ·subst f2
     by_cases j7:y=0
     ·subst j7
      have b:Hid (S=(3,p,L.take A,L.drop A)):=A5 (by rw [d7.out,if_pos (by simp)])
      go_wp2_with fail
      refine d5.out.mono ?_
      rintro e' w8 ⟨rfl,rfl⟩
      go_wp2_with fail
      refine m1.out.mono ?_
      rintro e' w8 ⟨rfl,rfl⟩
      go_wp2
      go_ret
      exact ⟨by rw [b.out];rfl,.inr ⟨by rw [b.out];exact fun h=>(by cases h),p,_,_,by rw [b.out];exact (H3.out.setObj 1 (.int .i64 3)).swap.drop.third.drop.third.drop.third.drop⟩⟩
     have B8:(y==0)=false:=by simp;exact j7
     have b:Hid (S=(0,p,L.take A,L.drop A)):=A5 (by rw [d7.out,if_neg (by simp;exact j7)])
     clear j7
     go_wp2_with fail
     refine d5.out.mono ?_
     rintro e' w8 ⟨rfl,rfl⟩
     go_wp2_with fail
     refine m1.out.mono ?_
     rintro e' w8 ⟨rfl,rfl⟩
     go_wp2
     go_ret
     exact ⟨by rw [b.out];rfl,.inl ⟨by rw [b.out],_,_,by rw [b.out];simp only [p5.out.1,p5.out.2];exact (H3.out.third.swap.fourth.drop.fourth.drop.fourth.drop.swap.third.swap.third)⟩⟩
    have b7:((q2':Int) != 0)=true:=by simp;exact f2
    have b:Hid (S=(3,p,L.take A,L.drop A)):=A5 (by rw [d7.out,if_pos (.inr (.inl f2))])
    clear f2
    go_wp2_with fail
    refine d5.out.mono ?_
    rintro e' w8 ⟨rfl,rfl⟩
    go_wp2_with fail
    refine m1.out.mono ?_
    rintro e' w8 ⟨rfl,rfl⟩
    go_wp2
    go_ret
    exact ⟨by rw [b.out];rfl,.inr ⟨by rw [b.out];exact fun h=>(by cases h),p,_,_,by rw [b.out];exact (H3.out.setObj 1 (.int .i64 3)).swap.drop.third.drop.third.drop.third.drop⟩⟩
   have t7:(n:Int) < (N0:Int):=by omega
   have a6:Hid (¬N0≤L.length):=A5 (by rw [←HO.out.1];omega)
   obtain ⟨⟨ks,ns,es⟩,g4⟩:∃sy,I6 HD (all.drop p)=sy:=⟨_,rfl⟩
   have HC:=Z9z B o 0 r kk s bo bc m p (M:Int) li di lc dc tk all (.slice (some ⟨OB+1,0,none⟩) 19 19) (.slice co 19 cc) HD 19 HQ.out HQ.out.drop.drop.drop.drop.own.rd HQ.out.drop.drop.drop.own.rd l8.out.symm n9.out (by decide) d3.out r2 hm2
   rw [g4] at HC
   simp only at HC
   unfold S3 at HC
   by_cases g0:es=0
   rotate_left
   ·have a1:=A5 (HC.mono fun _ _ h=>(h.resolve_left fun h=>g0 h.1).2)
    have b:Hid (S=(es,p,[],[])∧es≠0):=A5 ⟨by rw [HO.out.2,Z0a a6.out (Z8e g4 g0)];unfold Q2.dynEnd;exact if_pos g0,g0⟩
    clear g4 HC g0
    go_wp2_with fail
    refine a1.out.mono ?_
    rintro e' w8 ⟨rfl,d⟩
    have g8:=A5 d
    clear d a1 HQ
    go_wp2
    go_ret
    exact ⟨by rw [b.out.1];simp [b.out.2],.inr ⟨by rw [b.out.1];exact b.out.2,p,li,di,by rw [b.out.1];exact g8.out.third.drop.third.drop.third.drop.third.drop⟩⟩
   subst g0
   obtain ⟨u5,u6,r6⟩:=O8 g4
   rw [l8.out] at u5
   rw [T04,←HM.out] at r6
   have a1:=A5 (HC.mono fun _ _ h=>(h.resolve_right fun h=>h.1 rfl).2)
   obtain ⟨p1,m5⟩:∃p1,p1=p+ns:=⟨_,rfl⟩
   rw [←m5] at a1
   have o2:p1≤m:=by omega
   have B2:p+1≤p1:=by omega
   have x8:(0:Int)≤(ks:Int):=T00 _
   have a8:Hid (E6 HD all N0 p L=E6.lenRun all N0 p1 ks L):=A5 (by rw [Z4z g4,m5])
   clear g4 HC r6 u6 m5
   by_cases p7:ks < 16
   ·have t8:(ks:Int) < 16:=by omega
    have b:Hid (S=Q2.dynEnd A (Z1o HD all N0 f p1 (L++[(ks:Int)]))):=A5 (by rw [HO.out.2,Z2z a6.out (by rw [a8.out];exact X2p p7)])
    go_wp2_with fail
    refine a1.out.mono ?_
    rintro e' w8 ⟨rfl,d⟩
    have g8:=A5 d
    clear d a1 HQ
    go_wp2_with (refine D4 rfl (.tmp 124) (.tmp 126) 52 rfl 3 i0 (.int .i64 0) 1 8 Tryz.underlying52 e5 i7 e6 i8 rfl (by decide) _ n _ rfl (g8.out.third.alloc _) _ 1 (D2 [(ks:Int)]) rfl (Rd.lit _ [_] _ 1 1 (by decide) rfl) (S6 _) (n+1) rfl (by unfold maxLen;omega) (by omega) ?_;intro m2 e4 w9 h9;rw [←T4] at h9;have H9:=A5 (h9.swap.third.swap);clear h9)
    go_roundg (gx-1)
    case measure=>omega
    case rel=>exact ⟨p1,n+1,f,L++[(ks:Int)],_,_,o2,by omega,by omega,by omega,rfl,A5 ⟨by rw [T03,←HO.out.1];rfl,b.out⟩,H9⟩
   have t8:¬(ks:Int) < 16:=by omega
   rcases (by omega:ks=16∨ks=17∨ks=18) with rfl | rfl | rfl
   ·by_cases p8:n=0
    ·subst p8
     have t9:Hid (L=[]):=A5 (List.eq_nil_of_length_eq_zero HO.out.1.symm)
     have b:Hid (S=(2,p1,[],[])):=A5 (by rw [HO.out.2,Z0a a6.out (by rw [a8.out];exact X51 rfl t9.out)];rfl)
     go_wp2_with fail
     refine a1.out.mono ?_
     rintro e' w8 ⟨rfl,d⟩
     have q:=d.obj
     have d1:=q.cell (i:=1) rfl
     have g1:=q.frozen 1
     have g8:=A5 d
     clear d a1 HQ q
     go_wp2
     go_ret
     exact ⟨by rw [b.out];rfl,.inr ⟨by rw [b.out];exact fun h=>(by cases h),p1,li,di,by rw [b.out];exact (g8.out.setObj 1 (.int .i64 2)).third.drop.third.drop.third.drop.third.drop⟩⟩
    have u0:1≤n:=by omega
    have o3:((16:Int)==16)=true:=by decide
    have B3:((n:Int)==0)=false:=by simp;omega
    have B4:decide (n=0)=false:=decide_eq_false (by omega)
    have a3:Hid (¬((16:Nat)=16∧L=[])):=A5 (fun h=>by have h1:=HO.out.1;rw [h.2] at h1;simp at h1;omega)
    obtain ⟨y,hy⟩:∃y,L[n-1]?=some y:=⟨L[n-1]'(by have:=HO.out.1;omega),T06 _⟩
    obtain ⟨qn,m6⟩:∃qn,qn=n-1:=⟨_,rfl⟩
    have x9:(n:Int)-1=(qn:Int):=by omega
    have y0:(0:Int)≤(qn:Int):=T00 _
    have y1:(qn:Int) < (n:Int):=by omega
    rw [←m6] at hy
    obtain ⟨gl,ol,rfl,_,_,_⟩:=HQ.out.drop.drop.own.site (by omega)
    have HY:Hid (L[qn]?=some y∧L.getLast?.getD 0=y∧qn < n):=A5 ⟨hy,by rw [List.getLast?_eq_getElem?,←HO.out.1,←m6,hy];rfl,by omega⟩
    clear m6 hy
    cases ht:I7 all p1 2 with
    | none=>
     have hT:=fun w1 (d:A4 w0 w1 (S0 B o 0 r kk s (.slice bo m bc) p1 (M:Int) li di lc dc tk::rdT 1 (.slice bo m bc) m (D7 all)::B0 3 1 (.slice (some ⟨gl,ol,none⟩) n l) n (D2 L)::B0 44 1 (.slice co 19 cc) 19 (D3 .u32 (G0 HD))::B0 3 1 (.slice (some ⟨OB+1,0,none⟩) 19 19) 19 (D2 HD)::rdT 1 (.slice (some ⟨OB,0,none⟩) 19 19) 19 (D2 [16,17,18,0,8,7,9,6,10,5,11,4,12,3,13,2,14,1,15])::Rs))=>Z52 B o 0 r kk s bo bc m p1 2 (M:Int) li di lc dc tk all d ht (by omega) (by decide)
     rw [show ((2:Nat):Int)=2 from rfl] at hT
     unfold S3 at hT
     have HT:=A5 hT
     have b:Hid (S=(5,p1,[],[])):=A5 (by rw [HO.out.2,Z0a a6.out (by rw [a8.out];exact Y50 (wd:=2) (by decide) a3.out (by decide) ht)];rfl)
     clear hT ht
     go_wp2_with fail
     refine a1.out.mono ?_
     rintro e' w8 ⟨rfl,d⟩
     have t:=A5 (HT.out w8 d)
     clear d a1 HQ HT
     go_wp2_with fail
     refine t.out.mono ?_
     rintro e' w9 ⟨rfl,d⟩
     have H9:=A5 d
     clear d t
     go_wp2
     go_ret
     exact ⟨by rw [b.out];rfl,.inr ⟨by rw [b.out];exact fun h=>(by cases h),p1,li,di,by rw [b.out];exact H9.out.third.drop.third.drop.third.drop.third.drop⟩⟩
    | some more=>
     obtain ⟨a7,b4⟩:=M1 ht
     have a9:more < 2^2:=by rw [b4];exact L6 d3.out p1 2
     have hT:=fun w1 (d:A4 w0 w1 (S0 B o 0 r kk s (.slice bo m bc) p1 (M:Int) li di lc dc tk::rdT 1 (.slice bo m bc) m (D7 all)::B0 3 1 (.slice (some ⟨gl,ol,none⟩) n l) n (D2 L)::B0 44 1 (.slice co 19 cc) 19 (D3 .u32 (G0 HD))::B0 3 1 (.slice (some ⟨OB+1,0,none⟩) 19 19) 19 (D2 HD)::rdT 1 (.slice (some ⟨OB,0,none⟩) 19 19) 19 (D2 [16,17,18,0,8,7,9,6,10,5,11,4,12,3,13,2,14,1,15])::Rs))=>X9 B o 0 r kk s bo bc m p1 2 more (M:Int) li di lc dc tk all d ht d3.out (by omega) (by decide)
     rw [show ((2:Nat):Int)=2 from rfl] at hT
     unfold S3 at hT
     have HT:=A5 hT
     have o4:more≤128:=by omega
     have e7:(0:Int)≤(more:Int):=T00 _
     obtain ⟨k,b3⟩:∃k,k=3+more:=⟨_,rfl⟩
     have g9:(3:Int)+(more:Int)=(k:Int):=by omega
     have h0:(0:Int)≤(k:Int):=T00 _
     obtain ⟨tot,c3⟩:∃tot,tot=n+k:=⟨_,rfl⟩
     have h6:(n:Int)+(k:Int)=(tot:Int):=by omega
     have h7:(0:Int)≤(tot:Int):=T00 _
     have d8:p1+2≤m:=by rw [HM.out];exact a7
     have h8:k≤140:=by omega
     by_cases a2:N0 < tot
     ·have i1:(N0:Int) < (tot:Int):=by omega
      have b:Hid (S=(2,p1+2,[],[])):=A5 (by rw [HO.out.2,Z0a a6.out (by rw [a8.out];exact Y1e (wd:=2) (ba:=3) (by decide) a3.out (by decide) (by decide) ht (by rw [←HO.out.1];omega))];rfl)
      clear hT ht b3 c3 a7 b4 a9
      go_wp2_with fail
      refine a1.out.mono ?_
      rintro e' w8 ⟨rfl,d⟩
      have t:=A5 (HT.out w8 d)
      clear d a1 HQ HT
      go_wp2_with fail
      refine t.out.mono ?_
      rintro e' w9 ⟨rfl,d⟩
      have q:=d.obj
      have d1:=q.cell (i:=1) rfl
      have g1:=q.frozen 1
      obtain ⟨u7,u8,d9,e0,_,_⟩:=d.drop.drop.own.site (by omega)
      simp only [Option.some.injEq,Addr.mk.injEq,and_true] at d9
      obtain ⟨rfl,rfl⟩:=d9
      have l1:=e0 qn _ (by rw [G5,HY.out.1];rfl)
      clear e0
      have H9:=A5 d
      clear d t q
      go_wp2
      go_ret
      exact ⟨by rw [b.out];rfl,.inr ⟨by rw [b.out];exact fun h=>(by cases h),p1+2,li,di,by rw [b.out];exact (H9.out.setObj 1 (.int .i64 2)).third.drop.third.drop.third.drop.third.drop⟩⟩
     have i1:decide ((N0:Int) < (tot:Int))=false:=decide_eq_false (by omega)
     have k9:decide (N0 < tot)=false:=decide_eq_false (by omega)
     have b:Hid (S=Q2.dynEnd A (Z1o HD all N0 f (p1+2) (L++T01 k y))):=A5 (by rw [HO.out.2,Z2z a6.out (by rw [a8.out];exact Z76 (wd:=2) (ba:=3) (by decide) a3.out (by decide) (by decide) ht (by rw [←HO.out.1];omega)),b3];rw [if_pos rfl,HY.out.2.1])
     have c7:n+k≤N0:=by omega
     have i2:=A5 HO.out.1
     clear hT ht b3 c3 a7 b4 a9 a2
     go_wp2_with fail
     refine a1.out.mono ?_
     rintro e' w8 ⟨rfl,d⟩
     have t:=A5 (HT.out w8 d)
     clear d a1 HQ HT
     go_wp2_with fail
     refine t.out.mono ?_
     rintro e' w9 ⟨rfl,d⟩
     obtain ⟨u7,u8,d9,e0,_,_⟩:=d.drop.drop.own.site (by omega)
     simp only [Option.some.injEq,Addr.mk.injEq,and_true] at d9
     obtain ⟨rfl,rfl⟩:=d9
     have l1:=e0 qn _ (by rw [G5,HY.out.1];rfl)
     clear e0
     have H9:Hid (A4 w0 w9 (S0 B o 0 r kk s (.slice bo m bc) (p1+2) (M:Int) li di lc dc tk::rdT 1 (.slice bo m bc) m (D7 all)::B0 3 1 (.slice (some ⟨gl,ol,none⟩) (n+0) l) (n+0) (D2 (L++T01 0 y))::B0 44 1 (.slice co 19 cc) 19 (D3 .u32 (G0 HD))::B0 3 1 (.slice (some ⟨OB+1,0,none⟩) 19 19) 19 (D2 HD)::rdT 1 (.slice (some ⟨OB,0,none⟩) 19 19) 19 (D2 [16,17,18,0,8,7,9,6,10,5,11,4,12,3,13,2,14,1,15])::Rs)):=A5 (by rw [T07,T08];exact d)
     clear d t
     go_wp2
     go_loopg [16,24] (k+2) (fun g t16 t24 wr=>∃ (j:Nat) (d0:Option Addr) (a4:Nat),j≤k∧k-j < g∧t24= .int .i64 (j:Int)∧t16= .slice d0 (n+j) a4∧Hid (A4 w0 wr (S0 B o 0 r kk s (.slice bo m bc) (p1+2) (M:Int) li di lc dc tk::rdT 1 (.slice bo m bc) m (D7 all)::B0 3 1 (.slice d0 (n+j) a4) (n+j) (D2 (L++T01 j y))::B0 44 1 (.slice co 19 cc) 19 (D3 .u32 (G0 HD))::B0 3 1 (.slice (some ⟨OB+1,0,none⟩) 19 19) 19 (D2 HD)::rdT 1 (.slice (some ⟨OB,0,none⟩) 19 19) 19 (D2 [16,17,18,0,8,7,9,6,10,5,11,4,12,3,13,2,14,1,15])::Rs)))
     case atStart=>exact ⟨0,_,_,by omega,by omega,rfl,rfl,H9⟩
     case round=>
      obtain ⟨j,d0,a4,hj,r9,rfl,rfl,HJ⟩:=hrel
      have o5:(0:Int)≤(j:Int):=T00 _
      by_cases p9:j < k
      ·have i3:(j:Int) < (k:Int):=by omega
       have HX:Hid (L++T01 (j+1) y=L++T01 j y++[y]):=A5 (by rw [T09,T0a])
       go_wp2_with (refine D4 rfl (.tmp 177) (.tmp 179) 52 rfl 3 i0 (.int .i64 0) 1 8 Tryz.underlying52 e5 i7 e6 i8 rfl (by decide) _ (n+j) _ rfl (HJ.out.third.alloc _) _ 1 (D2 [y]) rfl (Rd.lit _ [_] _ 1 1 (by decide) rfl) (S6 _) (n+j+1) rfl (by unfold maxLen;omega) (by omega) ?_;intro m2 e4 q9 h9;rw [←T4,←HX.out] at h9;have i4:=A5 (h9.swap.third.swap);clear h9)
       go_roundg (gk-1)
       case measure=>omega
       case rel=>exact ⟨j+1,_,_,by omega,by omega,by go_num,rfl,i4⟩
      have i3:¬(j:Int) < (k:Int):=by omega
      obtain rfl:j=k:=by omega
      go_wp2
      go_roundg (gx-1)
      case measure=>omega
      case rel=>exact ⟨p1+2,n+j,f,_,_,_,d8,by omega,by omega,c7,rfl,A5 ⟨by rw [T03,T0b,←i2.out],b.out⟩,HJ⟩
   ·have o3:((17:Int)==16)=false:=by decide
    have a3:Hid (¬((17:Nat)=16∧L=[])):=A5 (fun h=>absurd h.1 (by decide))
    cases ht:I7 all p1 3 with
    | none=>
     have hT:=fun w1 (d:A4 w0 w1 (S0 B o 0 r kk s (.slice bo m bc) p1 (M:Int) li di lc dc tk::rdT 1 (.slice bo m bc) m (D7 all)::B0 3 1 (.slice lo n l) n (D2 L)::B0 44 1 (.slice co 19 cc) 19 (D3 .u32 (G0 HD))::B0 3 1 (.slice (some ⟨OB+1,0,none⟩) 19 19) 19 (D2 HD)::rdT 1 (.slice (some ⟨OB,0,none⟩) 19 19) 19 (D2 [16,17,18,0,8,7,9,6,10,5,11,4,12,3,13,2,14,1,15])::Rs))=>Z52 B o 0 r kk s bo bc m p1 3 (M:Int) li di lc dc tk all d ht (by omega) (by decide)
     rw [show ((3:Nat):Int)=3 from rfl] at hT
     unfold S3 at hT
     have HT:=A5 hT
     have b:Hid (S=(5,p1,[],[])):=A5 (by rw [HO.out.2,Z0a a6.out (by rw [a8.out];exact Y50 (wd:=3) (by decide) a3.out (by decide) ht)];rfl)
     clear hT ht
     go_wp2_with fail
     refine a1.out.mono ?_
     rintro e' w8 ⟨rfl,d⟩
     have t:=A5 (HT.out w8 d)
     clear d a1 HQ HT
     go_wp2_with fail
     refine t.out.mono ?_
     rintro e' w9 ⟨rfl,d⟩
     have H9:=A5 d
     clear d t
     go_wp2
     go_ret
     exact ⟨by rw [b.out];rfl,.inr ⟨by rw [b.out];exact fun h=>(by cases h),p1,li,di,by rw [b.out];exact H9.out.third.drop.third.drop.third.drop.third.drop⟩⟩
    | some more=>
     obtain ⟨a7,b4⟩:=M1 ht
     have a9:more < 2^3:=by rw [b4];exact L6 d3.out p1 3
     have hT:=fun w1 (d:A4 w0 w1 (S0 B o 0 r kk s (.slice bo m bc) p1 (M:Int) li di lc dc tk::rdT 1 (.slice bo m bc) m (D7 all)::B0 3 1 (.slice lo n l) n (D2 L)::B0 44 1 (.slice co 19 cc) 19 (D3 .u32 (G0 HD))::B0 3 1 (.slice (some ⟨OB+1,0,none⟩) 19 19) 19 (D2 HD)::rdT 1 (.slice (some ⟨OB,0,none⟩) 19 19) 19 (D2 [16,17,18,0,8,7,9,6,10,5,11,4,12,3,13,2,14,1,15])::Rs))=>X9 B o 0 r kk s bo bc m p1 3 more (M:Int) li di lc dc tk all d ht d3.out (by omega) (by decide)
     rw [show ((3:Nat):Int)=3 from rfl] at hT
     unfold S3 at hT
     have HT:=A5 hT
     have o4:more≤128:=by omega
     have e7:(0:Int)≤(more:Int):=T00 _
     obtain ⟨k,b3⟩:∃k,k=3+more:=⟨_,rfl⟩
     have g9:(3:Int)+(more:Int)=(k:Int):=by omega
     have h0:(0:Int)≤(k:Int):=T00 _
     obtain ⟨tot,c3⟩:∃tot,tot=n+k:=⟨_,rfl⟩
     have h6:(n:Int)+(k:Int)=(tot:Int):=by omega
     have h7:(0:Int)≤(tot:Int):=T00 _
     have d8:p1+3≤m:=by rw [HM.out];exact a7
     have h8:k≤140:=by omega
     by_cases a2:N0 < tot
     ·have i1:(N0:Int) < (tot:Int):=by omega
      have b:Hid (S=(2,p1+3,[],[])):=A5 (by rw [HO.out.2,Z0a a6.out (by rw [a8.out];exact Y1e (wd:=3) (ba:=3) (by decide) a3.out (by decide) (by decide) ht (by rw [←HO.out.1];omega))];rfl)
      clear hT ht b3 c3 a7 b4 a9
      go_wp2_with fail
      refine a1.out.mono ?_
      rintro e' w8 ⟨rfl,d⟩
      have t:=A5 (HT.out w8 d)
      clear d a1 HQ HT
      go_wp2_with fail
      refine t.out.mono ?_
      rintro e' w9 ⟨rfl,d⟩
      have q:=d.obj
      have d1:=q.cell (i:=1) rfl
      have g1:=q.frozen 1
      have H9:=A5 d
      clear d t q
      go_wp2
      go_ret
      exact ⟨by rw [b.out];rfl,.inr ⟨by rw [b.out];exact fun h=>(by cases h),p1+3,li,di,by rw [b.out];exact (H9.out.setObj 1 (.int .i64 2)).third.drop.third.drop.third.drop.third.drop⟩⟩
     have i1:decide ((N0:Int) < (tot:Int))=false:=decide_eq_false (by omega)
     have k9:decide (N0 < tot)=false:=decide_eq_false (by omega)
     have b:Hid (S=Q2.dynEnd A (Z1o HD all N0 f (p1+3) (L++T01 k 0))):=A5 (by rw [HO.out.2,Z2z a6.out (by rw [a8.out];exact Z76 (wd:=3) (ba:=3) (by decide) a3.out (by decide) (by decide) ht (by rw [←HO.out.1];omega)),b3];rfl)
     have c7:n+k≤N0:=by omega
     have i2:=A5 HO.out.1
     clear hT ht b3 c3 a7 b4 a9 a2
     go_wp2_with fail
     refine a1.out.mono ?_
     rintro e' w8 ⟨rfl,d⟩
     have t:=A5 (HT.out w8 d)
     clear d a1 HQ HT
     go_wp2_with fail
     refine t.out.mono ?_
     rintro e' w9 ⟨rfl,d⟩
     have H9:Hid (A4 w0 w9 (S0 B o 0 r kk s (.slice bo m bc) (p1+3) (M:Int) li di lc dc tk::rdT 1 (.slice bo m bc) m (D7 all)::B0 3 1 (.slice lo (n+0) l) (n+0) (D2 (L++T01 0 0))::B0 44 1 (.slice co 19 cc) 19 (D3 .u32 (G0 HD))::B0 3 1 (.slice (some ⟨OB+1,0,none⟩) 19 19) 19 (D2 HD)::rdT 1 (.slice (some ⟨OB,0,none⟩) 19 19) 19 (D2 [16,17,18,0,8,7,9,6,10,5,11,4,12,3,13,2,14,1,15])::Rs)):=A5 (by rw [T07,T08];exact d)
     clear d t
     go_wp2
     go_loopg [16,24] (k+2) (fun g t16 t24 wr=>∃ (j:Nat) (d0:Option Addr) (a4:Nat),j≤k∧k-j < g∧t24= .int .i64 (j:Int)∧t16= .slice d0 (n+j) a4∧Hid (A4 w0 wr (S0 B o 0 r kk s (.slice bo m bc) (p1+3) (M:Int) li di lc dc tk::rdT 1 (.slice bo m bc) m (D7 all)::B0 3 1 (.slice d0 (n+j) a4) (n+j) (D2 (L++T01 j 0))::B0 44 1 (.slice co 19 cc) 19 (D3 .u32 (G0 HD))::B0 3 1 (.slice (some ⟨OB+1,0,none⟩) 19 19) 19 (D2 HD)::rdT 1 (.slice (some ⟨OB,0,none⟩) 19 19) 19 (D2 [16,17,18,0,8,7,9,6,10,5,11,4,12,3,13,2,14,1,15])::Rs)))
     case atStart=>exact ⟨0,_,_,by omega,by omega,rfl,rfl,H9⟩
     case round=>
      obtain ⟨j,d0,a4,hj,r9,rfl,rfl,HJ⟩:=hrel
      have o5:(0:Int)≤(j:Int):=T00 _
      by_cases p9:j < k
      ·have i3:(j:Int) < (k:Int):=by omega
       have HX:Hid (L++T01 (j+1) 0=L++T01 j 0++[0]):=A5 (by rw [T09,T0a])
       go_wp2_with (refine D4 rfl (.tmp 177) (.tmp 179) 52 rfl 3 i0 (.int .i64 0) 1 8 Tryz.underlying52 e5 i7 e6 i8 rfl (by decide) _ (n+j) _ rfl (HJ.out.third.alloc _) _ 1 (D2 [0]) rfl (Rd.lit _ [_] _ 1 1 (by decide) rfl) (S6 _) (n+j+1) rfl (by unfold maxLen;omega) (by omega) ?_;intro m2 e4 q9 h9;rw [←T4,←HX.out] at h9;have i4:=A5 (h9.swap.third.swap);clear h9)
       go_roundg (gk-1)
       case measure=>omega
       case rel=>exact ⟨j+1,_,_,by omega,by omega,by go_num,rfl,i4⟩
      have i3:¬(j:Int) < (k:Int):=by omega
      obtain rfl:j=k:=by omega
      go_wp2
      go_roundg (gx-1)
      case measure=>omega
      case rel=>exact ⟨p1+3,n+j,f,_,_,_,d8,by omega,by omega,c7,rfl,A5 ⟨by rw [T03,T0b,←i2.out],b.out⟩,HJ⟩
   have o3:((18:Int)==16)=false:=by decide
   have a3:Hid (¬((18:Nat)=16∧L=[])):=A5 (fun h=>absurd h.1 (by decide))
   cases ht:I7 all p1 7 with
   | none=>
    have hT:=fun w1 (d:A4 w0 w1 (S0 B o 0 r kk s (.slice bo m bc) p1 (M:Int) li di lc dc tk::rdT 1 (.slice bo m bc) m (D7 all)::B0 3 1 (.slice lo n l) n (D2 L)::B0 44 1 (.slice co 19 cc) 19 (D3 .u32 (G0 HD))::B0 3 1 (.slice (some ⟨OB+1,0,none⟩) 19 19) 19 (D2 HD)::rdT 1 (.slice (some ⟨OB,0,none⟩) 19 19) 19 (D2 [16,17,18,0,8,7,9,6,10,5,11,4,12,3,13,2,14,1,15])::Rs))=>Z52 B o 0 r kk s bo bc m p1 7 (M:Int) li di lc dc tk all d ht (by omega) (by decide)
    rw [show ((7:Nat):Int)=7 from rfl] at hT
    unfold S3 at hT
    have HT:=A5 hT
    have b:Hid (S=(5,p1,[],[])):=A5 (by rw [HO.out.2,Z0a a6.out (by rw [a8.out];exact Y50 (wd:=7) (by decide) a3.out (by decide) ht)];rfl)
    clear hT ht
    go_wp2_with fail
    refine a1.out.mono ?_
    rintro e' w8 ⟨rfl,d⟩
    have t:=A5 (HT.out w8 d)
    clear d a1 HQ HT
    go_wp2_with fail
    refine t.out.mono ?_
    rintro e' w9 ⟨rfl,d⟩
    have H9:=A5 d
    clear d t
    go_wp2
    go_ret
    exact ⟨by rw [b.out];rfl,.inr ⟨by rw [b.out];exact fun h=>(by cases h),p1,li,di,by rw [b.out];exact H9.out.third.drop.third.drop.third.drop.third.drop⟩⟩
   | some more=>
    obtain ⟨a7,b4⟩:=M1 ht
    have a9:more < 2^7:=by rw [b4];exact L6 d3.out p1 7
    have hT:=fun w1 (d:A4 w0 w1 (S0 B o 0 r kk s (.slice bo m bc) p1 (M:Int) li di lc dc tk::rdT 1 (.slice bo m bc) m (D7 all)::B0 3 1 (.slice lo n l) n (D2 L)::B0 44 1 (.slice co 19 cc) 19 (D3 .u32 (G0 HD))::B0 3 1 (.slice (some ⟨OB+1,0,none⟩) 19 19) 19 (D2 HD)::rdT 1 (.slice (some ⟨OB,0,none⟩) 19 19) 19 (D2 [16,17,18,0,8,7,9,6,10,5,11,4,12,3,13,2,14,1,15])::Rs))=>X9 B o 0 r kk s bo bc m p1 7 more (M:Int) li di lc dc tk all d ht d3.out (by omega) (by decide)
    rw [show ((7:Nat):Int)=7 from rfl] at hT
    unfold S3 at hT
    have HT:=A5 hT
    have o4:more≤128:=by omega
    have e7:(0:Int)≤(more:Int):=T00 _
    obtain ⟨k,b3⟩:∃k,k=11+more:=⟨_,rfl⟩
    have g9:(11:Int)+(more:Int)=(k:Int):=by omega
    have h0:(0:Int)≤(k:Int):=T00 _
    obtain ⟨tot,c3⟩:∃tot,tot=n+k:=⟨_,rfl⟩
    have h6:(n:Int)+(k:Int)=(tot:Int):=by omega
    have h7:(0:Int)≤(tot:Int):=T00 _
    have d8:p1+7≤m:=by rw [HM.out];exact a7
    have h8:k≤140:=by omega
    by_cases a2:N0 < tot
    ·have i1:(N0:Int) < (tot:Int):=by omega
     have b:Hid (S=(2,p1+7,[],[])):=A5 (by rw [HO.out.2,Z0a a6.out (by rw [a8.out];exact Y1e (wd:=7) (ba:=11) (by decide) a3.out (by decide) (by decide) ht (by rw [←HO.out.1];omega))];rfl)
     clear hT ht b3 c3 a7 b4 a9
     go_wp2_with fail
     refine a1.out.mono ?_
     rintro e' w8 ⟨rfl,d⟩
     have t:=A5 (HT.out w8 d)
     clear d a1 HQ HT
     go_wp2_with fail
     refine t.out.mono ?_
     rintro e' w9 ⟨rfl,d⟩
     have q:=d.obj
     have d1:=q.cell (i:=1) rfl
     have g1:=q.frozen 1
     have H9:=A5 d
     clear d t q
     go_wp2
     go_ret
     exact ⟨by rw [b.out];rfl,.inr ⟨by rw [b.out];exact fun h=>(by cases h),p1+7,li,di,by rw [b.out];exact (H9.out.setObj 1 (.int .i64 2)).third.drop.third.drop.third.drop.third.drop⟩⟩
    have i1:decide ((N0:Int) < (tot:Int))=false:=decide_eq_false (by omega)
    have k9:decide (N0 < tot)=false:=decide_eq_false (by omega)
    have b:Hid (S=Q2.dynEnd A (Z1o HD all N0 f (p1+7) (L++T01 k 0))):=A5 (by rw [HO.out.2,Z2z a6.out (by rw [a8.out];exact Z76 (wd:=7) (ba:=11) (by decide) a3.out (by decide) (by decide) ht (by rw [←HO.out.1];omega)),b3];rfl)
    have c7:n+k≤N0:=by omega
    have i2:=A5 HO.out.1
    clear hT ht b3 c3 a7 b4 a9 a2
    go_wp2_with fail
    refine a1.out.mono ?_
    rintro e' w8 ⟨rfl,d⟩
    have t:=A5 (HT.out w8 d)
    clear d a1 HQ HT
    go_wp2_with fail
    refine t.out.mono ?_
    rintro e' w9 ⟨rfl,d⟩
    have H9:Hid (A4 w0 w9 (S0 B o 0 r kk s (.slice bo m bc) (p1+7) (M:Int) li di lc dc tk::rdT 1 (.slice bo m bc) m (D7 all)::B0 3 1 (.slice lo (n+0) l) (n+0) (D2 (L++T01 0 0))::B0 44 1 (.slice co 19 cc) 19 (D3 .u32 (G0 HD))::B0 3 1 (.slice (some ⟨OB+1,0,none⟩) 19 19) 19 (D2 HD)::rdT 1 (.slice (some ⟨OB,0,none⟩) 19 19) 19 (D2 [16,17,18,0,8,7,9,6,10,5,11,4,12,3,13,2,14,1,15])::Rs)):=A5 (by rw [T07,T08];exact d)
    clear d t
    go_wp2
    go_loopg [16,24] (k+2) (fun g t16 t24 wr=>∃ (j:Nat) (d0:Option Addr) (a4:Nat),j≤k∧k-j < g∧t24= .int .i64 (j:Int)∧t16= .slice d0 (n+j) a4∧Hid (A4 w0 wr (S0 B o 0 r kk s (.slice bo m bc) (p1+7) (M:Int) li di lc dc tk::rdT 1 (.slice bo m bc) m (D7 all)::B0 3 1 (.slice d0 (n+j) a4) (n+j) (D2 (L++T01 j 0))::B0 44 1 (.slice co 19 cc) 19 (D3 .u32 (G0 HD))::B0 3 1 (.slice (some ⟨OB+1,0,none⟩) 19 19) 19 (D2 HD)::rdT 1 (.slice (some ⟨OB,0,none⟩) 19 19) 19 (D2 [16,17,18,0,8,7,9,6,10,5,11,4,12,3,13,2,14,1,15])::Rs)))
    case atStart=>exact ⟨0,_,_,by omega,by omega,rfl,rfl,H9⟩
    case round=>
     obtain ⟨j,d0,a4,hj,r9,rfl,rfl,HJ⟩:=hrel
     have o5:(0:Int)≤(j:Int):=T00 _
     by_cases p9:j < k
     ·have i3:(j:Int) < (k:Int):=by omega
      have HX:Hid (L++T01 (j+1) 0=L++T01 j 0++[0]):=A5 (by rw [T09,T0a])
      go_wp2_with (refine D4 rfl (.tmp 177) (.tmp 179) 52 rfl 3 i0 (.int .i64 0) 1 8 Tryz.underlying52 e5 i7 e6 i8 rfl (by decide) _ (n+j) _ rfl (HJ.out.third.alloc _) _ 1 (D2 [0]) rfl (Rd.lit _ [_] _ 1 1 (by decide) rfl) (S6 _) (n+j+1) rfl (by unfold maxLen;omega) (by omega) ?_;intro m2 e4 q9 h9;rw [←T4,←HX.out] at h9;have i4:=A5 (h9.swap.third.swap);clear h9)
      go_roundg (gk-1)
      case measure=>omega
      case rel=>exact ⟨j+1,_,_,by omega,by omega,by go_num,rfl,i4⟩
     have i3:¬(j:Int) < (k:Int):=by omega
     obtain rfl:j=k:=by omega
     go_wp2
     go_roundg (gx-1)
     case measure=>omega
     case rel=>exact ⟨p1+7,n+j,f,_,_,_,d8,by omega,by omega,c7,rfl,A5 ⟨by rw [T03,T0b,←i2.out],b.out⟩,HJ⟩
end
end Go.Proofs.YtbkbkmgogbgofaaGreatDoor
