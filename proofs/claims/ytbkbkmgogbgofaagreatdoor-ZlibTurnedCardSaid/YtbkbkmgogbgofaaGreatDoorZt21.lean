/- The claim's texts, put together and shortened by a program (names, spaces). -/
import Derived.Test.YtbkbkmgogbgofaaGreatDoorZt20
import Derived.Test.YtbkbkmgogbgofaaGreatDoorZt03
import Derived.WalkSpells
import Derived.Test.YtbkbkmgogbgofaaGreatDoorZt18
open List renaming length_drop→T01,take_of_length_le→T03,map_drop→T05,getElem?_eq_getElem→T06,drop_drop→T07,eq_nil_of_length_eq_zero→T08
open Nat renaming mul_one→T02,le_refl→T04
open Int renaming natCast_nonneg→T00
namespace Go.Proofs.YtbkbkmgogbgofaaGreatDoor
set_option maxRecDepth 100000
set_option maxHeartbeats 6400000
open Go.RowKit
section
variable {w0 w:World} {Rs:List A6} {tr en la at' cut a P:Nat} {B:D0} {x:List Nat}
def Z58 (f:Nat×Nat):List Value:=[.int .u8 0,.int .i64 (f.1:Int),.int .i64 (f.2:Int)]
theorem V6t {L i E:Nat} {x:List Nat} (hL:L=(x.drop cut).length) (hE:E=min (i+258) L):((D7 (x.drop cut)).drop (i*1)).take ((E-i)*1)=D7 (S8 258 x (cut+i))∧E-i=(S8 258 x (cut+i)).length:=by
 have a:E-i=(S8 258 x (cut+i)).length:=by rw [Z15,hE,hL,T01];omega
 refine ⟨?_,a⟩
 rw [T02,T02,a]
 simp only [D7,←T05,←List.map_take,T07]
 congr 1
 unfold S8
 rw [List.length_take]
 by_cases c:258≤(x.drop (cut+i)).length
 ·rw [Nat.min_eq_left c]
 rw [T03 (by omega),T03 (by omega)]
theorem X4n (H:A4 w0 w (inF tr en la at' x cut P a B::Rs)) (HI:Z18 x cut P a) (I:Nat) (hPI:P≤I) (hIx:I≤x.length) (hcw:cut=0∨cut+32768≤I) (hlen:x.length < 1000000000) (hb:∀b∈x,b < 256) (htr:tr < 1000000000):
  Calls Tryz.prog 96 #[.pointer (some ⟨B.b,B.o,none⟩),.int .i64 ((I-cut:Nat):Int)] w fun e w'=>e= .returned (.agg (Z58 (best 32768 258 x tr en I)).toArray)∧∃P' a',P'≤I∧Z18 x cut P' a'∧A4 w0 w' (inF tr en la at' x cut P' a' B::Rs):=by
 obtain ⟨i0,h4,u6,h5,u7⟩:=info_parts Z2t
 obtain ⟨i,hi⟩:∃i,i=I-cut:=⟨_,rfl⟩
 rw [←hi]
 have j1:=HI.cut_le
 have b9:cut+i=I:=by omega
 obtain ⟨lv,H⟩:=V4s H
 obtain ⟨bv,m1,m2,HF⟩:=unV H
 obtain ⟨hB,hO,_,_,_⟩:=W8 HF
 obtain ⟨L,hL⟩:∃L,L=(x.drop cut).length:=⟨_,rfl⟩
 have j2:L=x.length-cut:=by rw [hL,T01]
 have r0:i≤L:=by omega
 obtain ⟨q,hq⟩:∃q,q=i+258:=⟨_,rfl⟩
 obtain ⟨E,hE⟩:∃E,E=min (i+258) L:=⟨_,rfl⟩
 have j3:E≤L:=by omega
 have e5:i≤E:=by omega
 have r1:(i:Int)+258=(q:Int):=by omega
 have j4:(if L < q then (L:Int) else (q:Int))=(E:Int):=by split <;> omega
 obtain ⟨d9,b4⟩:=V6t (cut:=cut) (x:=x) hL hE
 rw [b9] at d9 b4
 rw [←hL] at hO
 obtain ⟨l,f,rfl,n3,v0⟩:=hO.form
 have c3:=hB.cell (i:=3) rfl
 obtain ⟨K,hK⟩:∃K,K=E-i:=⟨_,rfl⟩
 have p:∀wg,(Instr.sliceAt 26 (.slice l L f) (some (.int .i64 (i:Int))) (some (.int .i64 (E:Int))) none).run Tryz.prog wg= .ok (.slice (if f=i then l else l.map fun (x:Addr)=>x.add (i*1)) (E-i) (f-i)) wg:=fun wg=>
  N8 (P:=Tryz.prog) 26 5 i0 1 Tryz.underlying26 h4 h5 l L f i E (some (.int .i64 (i:Int))) (some (.int .i64 (E:Int))) ⟨_,rfl⟩ ⟨_,rfl⟩ e5 (by omega)
 have z:∀w',Own w' 5 1 (.slice l L f) L (D7 (x.drop cut))→Rd w' 1 (.slice (if f=i then l else l.map fun (x:Addr)=>x.add (i*1)) (E-i) (f-i)) (E-i) (((D7 (x.drop cut)).drop (i*1)).take ((E-i)*1)):=fun w' h=>by
  have z:=h.rd.cut (L:=i) (H:=E) e5 j3
  unfold sliced at z
  exact z
 generalize (if f=i then l else l.map fun (x:Addr)=>x.add (i*1))=ro at p z
 rw [d9,←hK] at z
 rw [←hK] at p b4
 have o1:K+i≤L:=by omega
 have r2:L < 1000000000:=by omega
 generalize f-i=rcap at p z
 have j6:=A5 z
 have e6:=A5 hB
 have HK:=A5 b4
 have HH:=A5 H
 have e7:=A5 HI
 have r:=A5 b9
 have e8:=A5 hPI
 have r3:q < 1000001000:=by omega
 have r4:E < 1000000000:=by omega
 have r5:(0:Int)≤(K:Int):=T00 _
 have e9:=A5 hL
 clear hi z d9 b4 H HI hB hO HF hL j2 hq hE hK b9 hPI j1
 have a9:A4 w0 ((w.alloc (.cells #[.int .u8 0,.int .i64 0,.int .i64 0] 112)).alloc (.cells #[.int .u8 0,.int .i64 0,.int .i64 0] 112)) (E7 (w.heap.size+1) (Z58 (0,0)) 112::E7 w.heap.size (Z58 (0,0)) 112::inV tr en la at' x cut P a B (.slice l L f)::Rs):=by
  have h:=(HH.out.newObj (Z58 (0,0)) 112).newObj (Z58 (0,0)) 112
  rw [show (w.alloc (.cells (Z58 (0,0)).toArray 112)).heap.size=w.heap.size+1 by simp] at h
  exact h
 have j7:((w.alloc (.cells #[.int .u8 0,.int .i64 0,.int .i64 0] 112)).alloc (.cells #[.int .u8 0,.int .i64 0,.int .i64 0] 112)).cell? ⟨B.b,B.o+3,none⟩=some (.slice l L f):=((e6.out.alloc _).alloc _).cell (i:=3) rfl
 go_enter Tryz.func96,Tryz.ntmps96
 go_upto_region 2 with (fail)
 generalize (w.alloc (.cells #[.int .u8 0,.int .i64 0,.int .i64 0] 112)).alloc (.cells #[.int .u8 0,.int .i64 0,.int .i64 0] 112)=wA at a9 j7⊢
 generalize w.heap.size=N at a9⊢
 have j:=A5 a9
 clear a9 e6 HH c3
 by_cases g9:K < 3
 ·have f0:(K:Int) < 3:=by omega
  have c4:Hid (best 32768 258 x tr en I=(0,0)):=A5 (by unfold best;rw [if_pos (by rw [←HK.out];exact g9)])
  have q0:=j.out.obj.cell0 rfl
  have q1:=j.out.obj.cell (i:=1) rfl
  have q2:=j.out.obj.cell (i:=2) rfl
  have e0:=j.out.drop.obj.frozen0
  have e1:=j.out.drop.obj.frozen 1
  have e2:=j.out.drop.obj.frozen 2
  have k0:=j.out.drop.obj.cell0 rfl
  have k1:=j.out.drop.obj.cell (i:=1) rfl
  have k2:=j.out.drop.obj.cell (i:=2) rfl
  go_quiet (fail)
  go_wp2
  have H9:=(((j.out.drewN nq).swap.setObj 0 (.int .u8 0)).setObj 1 (.int .i64 0)).setObj 2 (.int .i64 0)
  refine Z2x rfl _ 3 Tryz.underlying112 rfl Z65 N (Z58 (0,0)) 112 rfl rfl H9.obj rfl ⟨by rw [c4.out],P,e8.out,a,e7.out,W2k H9.drop.drop⟩
 have f0:¬(K:Int) < 3:=by omega
 have k4:I+3≤x.length:=by have:=HK.out;rw [Z15] at this;omega
 have c5:=A5 (fun wz (h:A4 w0 wz (inV tr en la at' x cut P a B (.slice l L f)::E7 (N+1) (Z58 (0,0)) 112::E7 N (Z58 (0,0)) 112::Rs))=>Y9i h e7.out I (by have:=r.out;omega) (.inr (by omega)) hlen hb)
 rw [show I-cut=i by have:=r.out;omega,Nat.max_eq_right e8.out] at c5
 go_quiet (fail)
 go_wp2_with fail
 refine (c5.out _ (j.out.drewN nq).third).mono ?_
 rintro e w3 ⟨rfl,a1,d5,h3⟩
 have k6:=A5 d5
 have H3:=A5 h3
 have HN:=A5 (Y3t (n:=I) (W2k h3) (by have:=r.out;omega) k4 hlen d5.a_le hb)
 rw [show I-cut=i by have:=r.out;omega] at HN
 clear d5 h3 c5
 go_wp2_with fail
 refine HN.out.mono ?_
 rintro e w4 ⟨rfl,m4⟩
 have H4:=A5 (H3.out.same m4)
 clear m4 HN H3 j
 have c4:Hid (Y08 32768 x I (S8 258 x I) en tr (Z2e 32768 x I) (0,0)=best 32768 258 x tr en I):=A5 (by unfold best;rw [if_neg (by rw [←HK.out];exact g9)])
 obtain ⟨m,hm⟩:∃m,m=min en K:=⟨_,rfl⟩
 have o4:(if K < en then (K:Int) else (en:Int))=(m:Int):=by split <;> omega
 have r9:m≤K:=by omega
 have HM:=A5 hm
 have k8:=A5 hcw
 have s0:I < 1000000000:=by omega
 clear hm j4 hcw p
 go_wp2
 go_loopg [7,8,9] (tr+2) (fun gg t7 t8 t9 wr=>∃ (d t g f2:Nat),t≤tr∧tr+1-t < gg∧t7= .int .i64 (d:Int)∧t8= .int .i64 (t:Int)∧g≤K∧Hid (Y08 32768 x I (S8 258 x I) en (tr-t) d (g,f2)=best 32768 258 x tr en I)∧
  Hid (0 < d→d≤32768∧d≤I∧at3 x (I-d)=at3 x I)∧Hid (A4 w0 wr (inV tr en la at' x cut I a1 B (.slice l L f)::E7 (N+1) (Z58 (g,f2)) 112::E7 N (Z58 (0,0)) 112::Rs)))
 case atStart=>exact ⟨Z2e 32768 x I,0,0,0,by omega,by omega,rfl,rfl,by omega,c4,A5 (fun h=>⟨(Z8l _ _ _).1,(Z8l _ _ _).2,Y3c h⟩),H4⟩
 case round=>
  obtain ⟨d,t,g,f2,ht,hg,rfl,rfl,h7,HS,HD,HR⟩:=hrel
  have s1:(0:Int)≤(d:Int):=T00 _
  have s2:(0:Int)≤(t:Int):=T00 _
  have s3:(0:Int)≤(g:Int):=T00 _
  obtain ⟨v2,n1,n2,h8⟩:=unV HR.out
  obtain ⟨hB,hO,_,_,_⟩:=W8 h8
  rw [←e9.out] at hO
  have HB:=A5 hB
  have HO:=A5 hO
  have c0:=hB.cell0 rfl
  have c1:=hB.cell (i:=1) rfl
  have g1:=HR.out.drop.obj.cell (i:=1) rfl
  clear hB hO h8
  go_upto_region 8 with (fail)
  go_cut [63] (fun s63 wx=>∃bq:Bool,s63= .bool bq∧Hid (bq=decide (t < tr∧0 < d∧g < m))∧∃n,wx=wr.drewN n)
  case first=>
   by_cases h1:t < tr
   rotate_left
   ·obtain rfl:t=tr:=by omega
    have c6:¬(t:Int) < (t:Int):=by omega
    have b1:decide ((t:Int) < (t:Int))=false:=decide_eq_false c6
    have k9:decide (t < t)=false:=decide_eq_false h1
    go_quiet (fail)
    go_wp2
    go_meet
    case rel=>exact ⟨false,rfl,A5 (by simp),_,rfl⟩
   have c6:(t:Int) < (tr:Int):=by omega
   have b1:decide ((t:Int) < (tr:Int))=true:=decide_eq_true c6
   have k9:decide (t < tr)=true:=decide_eq_true h1
   by_cases h2:0 < d
   ·have c7:(0:Int) < (d:Int):=by omega
    have b2:decide ((0:Int) < (d:Int))=true:=decide_eq_true c7
    have s9:decide (0 < d)=true:=decide_eq_true h2
    by_cases h3:g < m
    ·have c8:(g:Int) < (m:Int):=by omega
     have b3:decide ((g:Int) < (m:Int))=true:=decide_eq_true c8
     have l0:decide (g < m)=true:=decide_eq_true h3
     go_quiet (fail)
     go_wp2
     go_meet
     case rel=>exact ⟨true,rfl,A5 (by simp [h1,h2,h3]),_,rfl⟩
    have c8:¬(g:Int) < (m:Int):=by omega
    have b3:decide ((g:Int) < (m:Int))=false:=decide_eq_false c8
    have l0:decide (g < m)=false:=decide_eq_false h3
    go_quiet (fail)
    go_wp2
    go_meet
    case rel=>exact ⟨false,rfl,A5 (by simp [h3]),_,rfl⟩
   obtain rfl:d=0:=by omega
   have c7:¬(0:Int) < ((0:Nat):Int):=by omega
   have b2:decide ((0:Int) < ((0:Nat):Int))=false:=decide_eq_false c7
   go_quiet (fail)
   go_wp2
   go_meet
   case rel=>exact ⟨false,rfl,A5 (by simp),_,rfl⟩
  case rest=>
   obtain ⟨bq,rfl,i1,nn,i2⟩:=hcut
   have H5:=A5 (HR.out.drewN nn)
   have f6:=A5 (HB.out.kept ((E2.refl wr (fun _=>False)).drewN nn) (fun h=>h))
   have c9:=A5 (HO.out.kept ((E2.refl wr (fun _=>False)).drewN nn) (fun _ _ h=>h))
   rw [←i2] at H5 f6 c9
   clear i2 HB HO HR c0 c1 g1
   obtain ⟨wq,n6⟩:∃wq,wq=wc:=⟨_,rfl⟩
   subst n6
   by_cases hc:t < tr∧0 < d∧g < m
   rotate_left
   ·obtain rfl:bq=false:=by rw [i1.out];exact decide_eq_false hc
    have g8:Hid ((g,f2)=best 32768 258 x tr en I):=A5 (by
     have h:=HS.out
     by_cases c:t < tr
     ·rw [show tr-t=tr- (t+1)+1 by omega,Y08,if_neg (fun h2=>hc ⟨c,h2.1,by have:=h2.2;rw [←HK.out,←HM.out] at this;exact this⟩)] at h
      exact h
     rw [show tr-t=0 by omega] at h
     exact h)
    have H6:=A5 H5.out.swap
    have g0:=H6.out.obj.cell0 rfl
    have g1:=H6.out.obj.cell (i:=1) rfl
    have g2:=H6.out.obj.cell (i:=2) rfl
    have H7:=A5 H5.out.third
    have e0:=H7.out.obj.frozen0
    have e1:=H7.out.obj.frozen 1
    have e2:=H7.out.obj.frozen 2
    have k0:=H7.out.obj.cell0 rfl
    have k1:=H7.out.obj.cell (i:=1) rfl
    have k2:=H7.out.obj.cell (i:=2) rfl
    clear hc
    go_wp2
    have H9:=((H7.out.setObj 0 (.int .u8 0)).setObj 1 (.int .i64 (g:Int))).setObj 2 (.int .i64 (f2:Int))
    refine Z2x rfl _ 3 Tryz.underlying112 rfl Z65 N (Z58 (g,f2)) 112 (by with_unfolding_all rfl) rfl H9.obj rfl ⟨by rw [←g8.out],I,T04 _,a1,k6.out,W2k H9.drop.swap.drop⟩
   obtain rfl:bq=true:=by rw [i1.out];exact decide_eq_true hc
   obtain ⟨v3,i4,n7⟩:=hc
   obtain ⟨v4,n8,i5⟩:=HD.out i4
   have l1:d≤i:=by have:=r.out;have:=k8.out;omega
   obtain ⟨s,hs⟩:∃s,s=i-d:=⟨_,rfl⟩
   have t1:(i:Int)- (d:Int)=(s:Int):=by omega
   have f7:s≤L:=by omega
   have t2:(0:Int)≤(s:Int):=T00 _
   have d0:cut+s=I-d:=by have:=r.out;omega
   have a2:∀wg,(Instr.sliceAt 26 (.slice l L f) (some (.int .i64 (s:Int))) none none).run Tryz.prog wg= .ok (.slice (if f=s then l else l.map fun (x:Addr)=>x.add (s*1)) (L-s) (f-s)) wg:=fun wg=>
    N8 (P:=Tryz.prog) 26 5 i0 1 Tryz.underlying26 h4 h5 l L f s L (some (.int .i64 (s:Int))) none ⟨_,rfl⟩ rfl f7 n3
   have y:=c9.out.rd.cut (L:=s) (H:=L) f7 (T04 _)
   have d1:=j6.out _ c9.out
   unfold sliced at y
   generalize (if f=s then l else l.map fun (x:Addr)=>x.add (s*1))=fo at a2 y
   have e2:((D7 (x.drop cut)).drop (s*1)).take ((L-s)*1)=D7 (x.drop (I-d)):=by
    rw [T02,T02,T03 (by rw [T01,E5,←e9.out];omega)]
    simp only [D7,←T05,T07]
    rw [d0]
   rw [e2] at y
   obtain ⟨F,hF⟩:∃F,F=L-s:=⟨_,rfl⟩
   rw [←hF] at y a2
   generalize f-s=fcap at a2 y
   have l2:K≤F:=by omega
   have l3:F=(x.drop (I-d)).length:=by have:=y.1;rw [E5] at this;omega
   obtain ⟨va,d6⟩:∃va,(x.drop (I-d))[g]?=some va:=⟨(x.drop (I-d))[g]'(by omega),T06 _⟩
   obtain ⟨vb,d7⟩:∃vb,(S8 258 x I)[g]?=some vb:=⟨(S8 258 x I)[g]'(by have:=HK.out;omega),T06 _⟩
   have c3:=f6.out.cell (i:=3) rfl
   have g1:=H5.out.drop.obj.cell (i:=1) rfl
   have l4:=A5 (fun (wz:World) (h1:Rd wz 1 (.slice fo F fcap) F (D7 (x.drop (I-d)))) (h2:Rd wz 1 (.slice ro K rcap) K (D7 (S8 258 x I)))=>W33 _ _ F K _ _ wz h1 h2 l2 (by omega))
   have l5:=A5 y
   have l6:=A5 d1
   obtain ⟨gf,of,rfl,cf⟩:=y.spot (by omega)
   obtain ⟨gr,n9,rfl,cr⟩:=d1.spot (by omega)
   have l7:=cf g (.int .u8 (va:Int)) (by rw [Z4,d6];rfl)
   have l8:=cr g (.int .u8 (vb:Int)) (by rw [Z4,d7];rfl)
   have o8:(g:Int) < (F:Int):=by omega
   have o9:(g:Int) < (K:Int):=by omega
   have t3:F < 1000000000:=by omega
   have HV:=A5 (And.intro d6 d7)
   have l9:=A5 i5
   have t4:=A5 d0
   have t5:=A5 hs
   clear cf cr d6 d7 y d1 e2 hF l3 hs d0 i5
   go_upto_region 11 with (fail)
   go_cut [85] (fun s85 wx=>s85= .bool (decide (va=vb))∧∃n,wx=wq.drewN n)
   case first=>
    by_cases hv:va=vb
    ·subst hv
     go_quiet (fail)
     go_wp2
     go_meet
     case rel=>exact ⟨by simp,_,rfl⟩
    have t6:((va:Int)==(vb:Int))=false:=by simp;omega
    have u0:decide ((va:Int)=(vb:Int))=false:=by simp;omega
    have m0:decide (va=vb)=false:=by simpa using hv
    have u1:(va==vb)=false:=by simpa using hv
    go_quiet (fail)
    go_wp2
    go_meet
    case rel=>exact ⟨by rw [m0],_,rfl⟩
   case rest=>
    obtain ⟨rfl,n2,i6⟩:=hcut
    have H6:=A5 (H5.out.drewN n2)
    have b5:=A5 (l5.out.kept ((E2.refl wq (fun _=>False)).drewN n2) (fun _ _ h=>h))
    have b6:=A5 (l6.out.kept ((E2.refl wq (fun _=>False)).drewN n2) (fun _ _ h=>h))
    rw [←i6] at H6 b5 b6
    clear i6 c3 g1 l7 l8
    obtain ⟨wp,o0⟩:∃wp,wp=wc:=⟨_,rfl⟩
    subst o0
    go_upto_if 85 with (fail)
    go_cut [7] (fun s7 wx=>s7= .int .i64 (d:Int)∧∃ (e1 e2:Nat),e1≤K∧Hid ((e1,e2)=Z4y x I (S8 258 x I) d (g,f2))∧Hid (A4 w0 wx (E7 (N+1) (Z58 (e1,e2)) 112::inV tr en la at' x cut I a1 B (.slice l L f)::E7 N (Z58 (0,0)) 112::Rs)))
    case first=>
     by_cases hv:va=vb
     rotate_left
     ·have m3:decide (va=vb)=false:=by simpa using hv
      go_wp2
      go_meet
      case rel=>
       refine ⟨rfl,g,f2,h7,A5 ?_,A5 H6.out.swap⟩
       unfold Z4y
       rw [if_neg (by rw [HV.out.1,HV.out.2];simpa using hv)]
     subst hv
     have m3:decide (va=va)=true:=by simp
     have g0:=H6.out.drop.obj.cell0 rfl
     have g1:=H6.out.drop.obj.cell (i:=1) rfl
     have g2:=H6.out.drop.obj.cell (i:=2) rfl
     obtain ⟨S,hS⟩:∃S,S=same (x.drop (I-d)) (S8 258 x I):=⟨_,rfl⟩
     have m5:S≤K:=by rw [hS,HK.out];exact (Z43 _ _).2.1
     obtain ⟨e1,e2,he,e4,i7⟩:∃e1 e2:Nat,(e1,e2)=Z4y x I (S8 258 x I) d (g,f2)∧e1≤K∧∀wz,Calls Tryz.prog 119 #[.agg #[.int .u8 0,.int .i64 (g:Int),.int .i64 (f2:Int)],.agg #[.int .u8 0,.int .i64 (S:Int),.int .i64 (d:Int)]] wz fun e w'=>e= .returned (.agg #[.int .u8 0,.int .i64 (e1:Int),.int .i64 (e2:Int)])∧E2 wz w' (fun _=>False):=by
      have f8:Z4y x I (S8 258 x I) d (g,f2)=if g < S then (S,d) else (g,f2):=by
       unfold Z4y;rw [if_pos (by rw [HV.out.1,HV.out.2]),←hS]
      by_cases c:g < S
      ·exact ⟨S,d,by rw [f8,if_pos c],m5,fun wz=>by have h:=Y65 0 g f2 0 S d wz;rw [if_pos c] at h;exact h⟩
      exact ⟨g,f2,by rw [f8,if_neg c],h7,fun wz=>by have h:=Y65 0 g f2 0 S d wz;rw [if_neg c] at h;exact h⟩
     have m7:=A5 i7
     have f9:Hid (∀k,Calls Tryz.prog 120 #[.slice (some ⟨gf,of,none⟩) F fcap,.slice (some ⟨gr,n9,none⟩) K rcap] (wp.drewN k) fun e w'=>e= .returned (.int .i64 (S:Int))∧∃k,w'=wp.drewN k):=A5 fun k=>by
      have h:=l4.out (wp.drewN k) (b5.out.kept ((E2.refl wp (fun _=>False)).drewN k) (fun _ _ h=>h)) (b6.out.kept ((E2.refl wp (fun _=>False)).drewN k) (fun _ _ h=>h))
      rw [←hS] at h
      exact h.mono fun e w' ⟨h1,n,h2⟩=>⟨h1,k+n,by rw [h2,World.drewN_drewN]⟩
     have HE:=A5 he
     clear i7 he hS
     go_wp2
     go_region_law ((first
      | (go_simp;go_at_call 120;refine (f9.out 1).mono ?_;rintro e w5 ⟨rfl,k5,rfl⟩)
      | (go_simp;go_at_call 119;refine (m7.out _).mono ?_;rintro e w6 ⟨rfl,m6⟩;have H7:=A5 ((H6.out.drewN k5).swap.same m6);have n0:=H7.out.obj.cell0 rfl;have n1:=H7.out.obj.cell (i:=1) rfl;have n2:=H7.out.obj.cell (i:=2) rfl;have p0:=H7.out.obj.frozen0;have p1:=H7.out.obj.frozen 1;have p2:=H7.out.obj.frozen 2;clear m6)))
     all_goals
      go_wp2
      go_meet
      case rel=>exact ⟨rfl,e1,e2,e4,HE,A5 (((H7.out.setObj 0 _).setObj 1 _).setObj 2 _)⟩
    case rest=>
     obtain ⟨rfl,e1,e2,e4,HE,H8⟩:=hcut
     have g4:=X5v (W2k H8.out.swap) i d (Z2e 32768 x (I-d)) l1 (by have:=r.out;omega) (by rw [Y32 x cut I (i-d) (by have:=r.out;omega),show cut+(i-d)=I-d by have:=r.out;omega]) (Z8l _ _ _).1
     have g5:Hid (Calls Tryz.prog 121 #[.pointer (some ⟨B.b,B.o+3,none⟩),.int .i64 (i:Int),.int .i64 (d:Int)] wc fun e w'=>e= .returned (.int .i64 ((far 32768 x I d:Nat):Int))∧w'=wc):=g4
     have g6:Hid (Y08 32768 x I (S8 258 x I) en (tr- (t+1)) (far 32768 x I d) (e1,e2)=best 32768 258 x tr en I):=A5 (by
      have h:=HS.out
      rw [show tr-t=tr- (t+1)+1 by omega,Y08,if_pos ⟨i4,by rw [←HK.out,←HM.out];exact n7⟩,←HE.out] at h
      exact h)
     have g7:Hid (0 < far 32768 x I d→far 32768 x I d≤32768∧far 32768 x I d≤I∧at3 x (I-far 32768 x I d)=at3 x I):=A5 fun h=>by
      obtain ⟨k1,k2,k3⟩:=X4i n8 l9.out h
      exact ⟨k2,k1,k3⟩
     generalize far 32768 x I d=d3 at g5 g6 g7
     clear g4
     go_wp2_with fail
     refine g5.out.mono ?_
     rintro e w9 ⟨rfl,rfl⟩
     go_wp2
     go_roundg (gk-1)
     case measure=>omega
     case rel=>exact ⟨d3,t+1,e1,e2,by omega,by omega,rfl,by go_num,e4,g6,g7,A5 H8.out.swap⟩
end
theorem W3m (a l d:Int) (w:World):(Instr.field 112 (.agg #[.int .u8 a,.int .i64 l,.int .i64 d]) 1).run Tryz.prog w= .ok (.int .i64 l) w:=by kernel_rfl
section
variable {w0 w:World} {Rs:List A6} {tr en la cut a P:Nat} {B:D0} {x:List Nat}
theorem W61 (A:Nat) (H:A4 w0 w (inF tr en la (A-cut) x cut P a B::Rs)) (HI:Z18 x cut P a) (hPA:P≤A) (hAx:A < x.length) (hcw:cut=0∨cut+32768≤A) (hlen:x.length < 1000000000) (hb:∀b∈x,b < 256) (htr:tr < 1000000000):
  Calls Tryz.prog 84 #[.pointer (some ⟨B.b,B.o,none⟩)] w fun e w'=>e= .returned (Y6k (K5 32768 258 x tr en la A))∧∃P' a',P'≤A+1∧Z18 x cut P' a'∧A4 w0 w' (inF tr en la (A-cut) x cut P' a' B::Rs):=by
 obtain ⟨i,hi⟩:∃i,i=A-cut:=⟨_,rfl⟩
 have e4:=HI.cut_le
 have b9:A=cut+i:=by omega
 have c0:A+1-cut=i+1:=by omega
 have t:=fun (wz:World) (Rz:List A6) (h:A4 w0 wz (inF tr en la (A-cut) x cut P a B::Rz))=>X4n h HI A hPA (by omega) hcw hlen hb htr
 have m:=fun (wz:World) (Rz:List A6) (l s:Nat) (h:A4 w0 wz (inF tr en la (A-cut) x cut l s B::Rz)) (h1:Z18 x cut l s) (h2:l≤A)=>X4n h h1 (A+1) (by omega) (by omega) (by omega) hlen hb htr
 rw [←hi] at H t m⊢
 obtain ⟨j,hj⟩:∃j,j=i+1:=⟨_,rfl⟩
 have h6:(i:Int)+1=(j:Int):=by omega
 have h7:j < 1000000000:=by omega
 rw [c0,←hj] at m
 obtain ⟨lv,bv,m1,m2,HF⟩:=Z3q H
 obtain ⟨hB,_,_,_,_⟩:=W8 HF
 obtain ⟨d,q,hf⟩:∃d q,best 32768 258 x tr en A=(d,q):=⟨_,_,rfl⟩
 obtain ⟨f,s2,hs⟩:∃f s2,best 32768 258 x tr en (A+1)=(f,s2):=⟨_,_,rfl⟩
 have h8:d≤258:=by have:=X3h (W:=32768) (L:=258) (tr:=tr) (en:=en) x A (by omega);rw [hf] at this;omega
 have h9:f≤258:=by have:=X3h (W:=32768) (L:=258) (tr:=tr) (en:=en) x (A+1) (by omega);rw [hs] at this;omega
 rw [hf] at t
 rw [hs] at m
 have c1:Hid (K5 32768 258 x tr en la A=if d=0∨(d < la∧d < f) then Y77 x A else (0,(d:Int),(q:Int))):=A5 (by unfold K5;rw [hf,hs])
 have c4:Hid (∀ (wz:World) (Rz:List A6),A4 w0 wz (inF tr en la i x cut P a B::Rz)→Calls Tryz.prog 96 #[.pointer (some ⟨B.b,B.o,none⟩),.int .i64 (i:Int)] wz fun e w'=>e= .returned (.agg #[.int .u8 0,.int .i64 (d:Int),.int .i64 (q:Int)])∧∃P' a',P'≤A∧Z18 x cut P' a'∧A4 w0 w' (inF tr en la i x cut P' a' B::Rz)):=t
 have e5:Hid (∀ (wz:World) (Rz:List A6) (l s:Nat),A4 w0 wz (inF tr en la i x cut l s B::Rz)→Z18 x cut l s→l≤A→Calls Tryz.prog 96 #[.pointer (some ⟨B.b,B.o,none⟩),.int .i64 (j:Int)] wz fun e w'=>e= .returned (.agg #[.int .u8 0,.int .i64 (f:Int),.int .i64 (s2:Int)])∧∃P' a',P'≤A+1∧Z18 x cut P' a'∧A4 w0 w' (inF tr en la i x cut P' a' B::Rz)):=m
 have HH:=A5 H
 have i1:=A5 hB
 have c5:=A5 b9
 have i2:i < 1000000000:=by omega
 have i3:(0:Int)≤(i:Int):=T00 _
 have f6:=A5 hPA
 have a0:=A5 hAx
 have h0:A4 w0 (w.alloc (.cells #[.int .u8 0,.int .i64 0,.int .i64 0] 112)) (inF tr en la i x cut P a B::E7 w.heap.size (Z58 (0,0)) 112::Rs):=(HH.out.newObj (Z58 (0,0)) 112).swap
 have c8:(w.alloc (.cells #[.int .u8 0,.int .i64 0,.int .i64 0] 112)).cell? ⟨B.b,B.o+8,none⟩=some (.int .i64 (i:Int)):=(hB.alloc _).cell (i:=8) rfl
 have H0:=A5 h0
 clear hj hf hs hi e4 b9 c0 t m HF hB hPA hAx h0 HI hcw
 go_enter Tryz.func84,Tryz.ntmps84
 go_wp2_with fail
 generalize w.alloc (.cells #[.int .u8 0,.int .i64 0,.int .i64 0] 112)=wA at c8 H0⊢
 generalize w.heap.size=N at H0⊢
 refine (c4.out _ _ H0.out).mono ?_
 rintro e w1 ⟨rfl,l,s,f0,c7,h1⟩
 have a6:=A5 c7
 have h2:A4 w0 (w1.alloc (.cells #[.int .u8 0,.int .i64 (d:Int),.int .i64 (q:Int)] 112)) (E7 w1.heap.size (Z58 (d,q)) 112::inF tr en la i x cut l s B::E7 N (Z58 (0,0)) 112::Rs):=h1.newObj _ _
 have H2:=A5 h2
 clear h1 h2 c7 c8 H0 c4
 go_upto_region 2 with (fail)
 generalize w1.alloc (.cells #[.int .u8 0,.int .i64 (d:Int),.int .i64 (q:Int)] 112)=wB at H2⊢
 generalize w1.heap.size=M at H2⊢
 have i4:(0:Int)≤(d:Int):=T00 _
 have g1:=H2.out.obj.cell (i:=1) rfl
 obtain ⟨j3,j4,n1,n2,d0⟩:=Z3q H2.out.swap
 have a8:=(W8 d0).1
 have c2:=a8.cell (i:=2) rfl
 have c8:=a8.cell (i:=8) rfl
 clear d0 a8
 go_cut [35] (fun s35 wx=>∃bq:Bool,s35= .bool bq∧Hid (bq=decide (d=0∨(d < la∧d < f)))∧∃y a2,y≤A+1∧Hid (Z18 x cut y a2)∧Hid (A4 w0 wx (E7 M (Z58 (d,q)) 112::inF tr en la i x cut y a2 B::E7 N (Z58 (0,0)) 112::Rs)))
 case first=>
  by_cases hf:d=0
  ·subst hf
   have b0:(((0:Nat):Int)==0)=true:=rfl
   go_quiet (fail)
   go_wp2
   go_meet
   case rel=>exact ⟨true,rfl,A5 (by simp),l,s,by omega,a6,A5 (H2.out.drewN _)⟩
  have b0:((d:Int)==0)=false:=by simp;omega
  have i6:decide ((d:Int)=0)=false:=by simp;omega
  by_cases hl:d < la
  ·have b1:decide ((d:Int) < (la:Int))=true:=decide_eq_true (by omega)
   have e8:decide (d < la)=true:=decide_eq_true hl
   obtain ⟨k,g⟩:∃k,k=decide (d < f):=⟨_,rfl⟩
   have b2:decide ((d:Int) < (f:Int))=k:=by
    rw [g]
    by_cases c:d < f
    ·rw [decide_eq_true c,decide_eq_true (by omega)]
    rw [decide_eq_false c,decide_eq_false (by omega)]
   have i8:decide (d < f)=k:=g.symm
   have HQ:Hid (k=decide (d=0∨(d < la∧d < f))):=A5 (by rw [g];simp [hf,hl])
   clear g
   have f9:=fun wg=>W3m 0 (f:Int) (s2:Int) wg
   have j0:IntKind.i64.wrap (j:Int)=(j:Int):=IntWalk.i64_in _ (by omega)
   go_region_held3 (fun w'=>w'.cell? ⟨M,1,none⟩=some (.int .i64 (d:Int))∧w'.cell? ⟨B.b,B.o+8,none⟩=some (.int .i64 (i:Int))∧w'.cell? ⟨B.b,B.o+2,none⟩=some (.int .i64 (la:Int))) (first | exact ⟨k1,k8,k2⟩ | exact ⟨g1,c8,c2⟩) ((first
    | (go_at_call 96;refine (e5.out _ _ l s H2.out.drew.swap a6.out f0).mono ?_;rintro e w5 ⟨rfl,y,a2,p,c9,h5⟩;have n:=A5 c9;have H5:=A5 h5.swap;have k1:=H5.out.obj.cell (i:=1) rfl;obtain ⟨j5,j6,q1,q2,b3⟩:=Z3q h5;have k8:=(W8 b3).1.cell (i:=8) rfl;have k2:=(W8 b3).1.cell (i:=2) rfl;clear c9 h5 b3)))
   go_wp2
   go_meet
   case rel=>exact ⟨k,rfl,HQ,y,a2,p,n,H5⟩
  have b1:decide ((d:Int) < (la:Int))=false:=decide_eq_false (by omega)
  have e8:decide (d < la)=false:=decide_eq_false hl
  go_quiet (fail)
  go_wp2
  go_meet
  case rel=>exact ⟨false,rfl,A5 (by simp [hf,hl]),l,s,by omega,a6,A5 (H2.out.drewN _)⟩
 case rest=>
  obtain ⟨bq,rfl,d1,y,a2,p,n,H6⟩:=hcut
  have H7:=A5 H6.out.third
  have e0:=H7.out.obj.frozen0
  have e1:=H7.out.obj.frozen 1
  have e2:=H7.out.obj.frozen 2
  have k0:=H7.out.obj.cell0 rfl
  have k1:=H7.out.obj.cell (i:=1) rfl
  have k2:=H7.out.obj.cell (i:=2) rfl
  clear g1 c2 c8
  cases bq with
  | true=>
   have hc:d=0∨(d < la∧d < f):=of_decide_eq_true d1.out.symm
   have a9:Hid (K5 32768 258 x tr en la A=Y77 x A):=A5 (by rw [c1.out,if_pos hc])
   obtain ⟨j9,k3,q1,q2,d3⟩:=Z3q H6.out.swap
   obtain ⟨b4,z,_,_,_⟩:=W8 d3
   obtain ⟨L,hL⟩:∃L,L=(x.drop cut).length:=⟨_,rfl⟩
   rw [←hL] at z
   have j2:i < L:=by have:=c5.out;have:=a0.out;rw [hL,T01];omega
   obtain ⟨lo,h4,rfl,k4,k5⟩:=z.form
   have c3:=b4.cell (i:=3) rfl
   have c8:=b4.cell (i:=8) rfl
   obtain ⟨gl,k6,rfl,r,_,_⟩:=z.site (by omega)
   obtain ⟨va,b6⟩:∃va,x[A]?=some va:=⟨x[A]'a0.out,T06 _⟩
   have hd:(x.drop cut)[i]?=some va:=by rw [List.getElem?_drop,←c5.out];exact b6
   have cl:=r i (.int .u8 (va:Int)) (by rw [Z4,hd];rfl)
   have g7:(i:Int) < (L:Int):=by omega
   have e9:=A5 (show Y77 x A=((va:Int),0,0) by unfold Y77;rw [b6];rfl)
   clear r hd b6 z b4 d3 hL hc
   go_wp2
   go_region
   all_goals
    go_wp2
    have H9:=((H7.out.drew.setObj 0 (.int .u8 (va:Int))).setObj 1 (.int .i64 0)).setObj 2 (.int .i64 0)
    refine Z2x rfl _ 3 Tryz.underlying112 rfl Z65 N [.int .u8 (va:Int),.int .i64 0,.int .i64 0] 112 rfl rfl H9.obj rfl ⟨by rw [a9.out,e9.out];rfl,y,a2,p,n.out,H9.drop.drop⟩
  | false=>
   have hc:¬(d=0∨(d < la∧d < f)):=of_decide_eq_false d1.out.symm
   have a9:Hid (K5 32768 258 x tr en la A=(0,(d:Int),(q:Int))):=A5 (by rw [c1.out,if_neg hc])
   have g0:=H6.out.obj.cell0 rfl
   have g1:=H6.out.obj.cell (i:=1) rfl
   have g2:=H6.out.obj.cell (i:=2) rfl
   clear hc
   go_wp2
   have H9:=((H7.out.setObj 0 (.int .u8 0)).setObj 1 (.int .i64 (d:Int))).setObj 2 (.int .i64 (q:Int))
   refine Z2x rfl _ 3 Tryz.underlying112 rfl Z65 N (Z58 (d,q)) 112 rfl rfl H9.obj rfl ⟨by rw [a9.out];rfl, ?_⟩
   first | exact ⟨y,a2,p,n.out,H9.drop.drop⟩ | exact ⟨y,p,a2,n.out,H9.drop.drop⟩
end
section
variable {w0 w:World} {Rs:List A6} {tr en la at' cut gone n a P:Nat} {B:D0} {x bs bk:List Nat} {g h:List Nat→Option Nat}
theorem X4m (v:Value) (n:Nat) (l:List Nat) (h:A4 w0 w Rs) (hv:Rd w 1 v n (D7 l)) (hn:n≤1000000000):
  Calls Tryz.prog 122 #[v] w fun e w'=>∃v',e= .returned v'∧A4 w0 w' (B0 5 1 v' n (D7 l)::Rs):=by
 obtain ⟨i0,d,f,g,i⟩:=info_parts Z2t
 have s:∀ (w:World) (a:Option Addr) (n c n' c':Nat),(binOp .eql 26 (.slice a n c) (.slice none n' c')).run Tryz.prog w= .ok (.bool a.isNone) w:=fun w a n c n' c'=>Lib.run_eql_slice_nil w _ _ a n c n' c' Tryz.underlying26
 obtain ⟨j,ao,k,rfl,m,o,b,p⟩:=hv
 cases ao with
 | none=>
  obtain rfl:=b rfl
  obtain rfl:n=0:=by omega
  have t:D7 l=[]:=T08 (by omega)
  rw [t]
  have x:=A5 (h.nil 5 1)
  clear h j b p
  go_enter Tryz.func122,Tryz.ntmps122
  go_wp2
  go_ret
  exact ⟨_,rfl,x.out⟩
 | some a=>
  have hv:Rd w 1 (.slice (some a) n k) n (D7 l):=⟨j,_,_,rfl,m,o,b,p⟩
  have y:=A5 (h.lit 5 1 [] 0 (by decide) rfl)
  have z:=A5 (hv.kept ((E2.refl w (fun _=>False)).alloc (.cells #[] 5)) (fun _ _ h=>h))
  clear h j b p hv
  go_enter Tryz.func122,Tryz.ntmps122
  go_wp2_with (refine D4 rfl (.tmp 5) (.tmp 6) 26 rfl 5 i0 (.int .u8 0) 1 1 Tryz.underlying26 d f g i rfl (by decide) _ 0 [] rfl y.out _ n (D7 l) rfl z.out (T3 l) n (by omega) (by unfold maxLen;omega) (by omega) ?_;intro a1 q w1 r;have H2:=A5 r;clear r)
  go_ret
  exact ⟨_,rfl,H2.out⟩
theorem X2q (v:Value) (n:Nat) (l:List Nat) (h:A4 w0 w Rs) (hv:Rd w 1 v n (D3 .u16 l)) (hn:n≤1000000000):
  Calls Tryz.prog 123 #[v] w fun e w'=>∃v',e= .returned v'∧A4 w0 w' (B0 39 1 v' n (D3 .u16 l)::Rs):=by
 obtain ⟨i0,d,f,g,i⟩:=info_parts Y8c
 have s:∀ (w:World) (a:Option Addr) (n c n' c':Nat),(binOp .eql 66 (.slice a n c) (.slice none n' c')).run Tryz.prog w= .ok (.bool a.isNone) w:=fun w a n c n' c'=>Lib.run_eql_slice_nil w _ _ a n c n' c' Tryz.underlying66
 obtain ⟨j,ao,k,rfl,m,o,b,p⟩:=hv
 cases ao with
 | none=>
  obtain rfl:=b rfl
  obtain rfl:n=0:=by omega
  have t:D3 .u16 l=[]:=T08 (by omega)
  rw [t]
  have x:=A5 (h.nil 39 1)
  clear h j b p
  go_enter Tryz.func123,Tryz.ntmps123
  go_wp2
  go_ret
  exact ⟨_,rfl,x.out⟩
 | some a=>
  have hv:Rd w 1 (.slice (some a) n k) n (D3 .u16 l):=⟨j,_,_,rfl,m,o,b,p⟩
  have y:=A5 (h.lit 39 1 [] 0 (by decide) rfl)
  have z:=A5 (hv.kept ((E2.refl w (fun _=>False)).alloc (.cells #[] 39)) (fun _ _ h=>h))
  clear h j b p hv
  go_enter Tryz.func123,Tryz.ntmps123
  go_wp2_with (refine D4 rfl (.tmp 5) (.tmp 6) 66 rfl 39 i0 (.int .u16 0) 1 2 Tryz.underlying66 d f g i rfl (by decide) _ 0 [] rfl y.out _ n (D3 .u16 l) rfl z.out (Y0s _ l) n (by omega) (by unfold maxLen;omega) (by omega) ?_;intro a1 q w1 r;have H2:=A5 r;clear r)
  go_ret
  exact ⟨_,rfl,H2.out⟩
theorem V79 (lo:Option Addr) (L lcap n:Nat) (T E:TypeId) (i0:TypeInfo) (hT:Tryz.prog.underlying T=some (.slice E)) (hi0:Tryz.prog.info? E=some i0) (hz1:i0.size=1) (hn:n≤L) (hlc:L≤lcap) (wg:World):
  (Instr.sliceAt T (.slice lo L lcap) (some (.int .i64 (n:Int))) none none).run Tryz.prog wg= .ok (.slice (if lcap=n then lo else lo.map fun (x:Addr)=>x.add (n*1)) (L-n) (lcap-n)) wg:=
 N8 (P:=Tryz.prog) T E i0 1 hT hi0 hz1 lo L lcap n L (some (.int .i64 (n:Int))) none ⟨_,rfl⟩ rfl hn hlc
theorem W04 (H:A4 w0 w (inF tr en la at' x cut P a B::Rs)) (HI:Z18 x cut P a) (n:Nat) (hn:cut+n+2≤x.length) (hlen:x.length < 1000000000) (hb:∀b∈x,b < 256):
  Calls Tryz.prog 97 #[.pointer (some ⟨B.b,B.o+3,none⟩),.int .i64 (n:Int)] w fun e w'=>e= .returned (.tuple #[])∧∃a',Z18 x (cut+n) (max P (cut+n)) a'∧A4 w0 w' (inF tr en la at' x (cut+n) (max P (cut+n)) a' B::Rs):=by
 obtain ⟨i0,d1,i4,d2,i5⟩:=info_parts Z2t
 obtain ⟨i1,d3,i7,d4,i8⟩:=info_parts Y8c
 obtain ⟨lv,H⟩:=V4s H
 have p:=Y9i H HI (cut+n) (by omega) (.inr hn) hlen hb
 rw [show cut+n-cut=n by omega] at p
 have HL:=A5 p
 have f8:=A5 HI.cut_le
 obtain ⟨Q,hQ⟩:∃Q,Q=max P (cut+n):=⟨_,rfl⟩
 rw [←hQ] at HL⊢
 have HQ:=A5 hQ
 have f9:(0:Int)≤(n:Int):=T00 _
 clear p H HI hQ
 go_enter Tryz.func97,Tryz.ntmps97
 go_wp2_with fail
 refine HL.out.mono ?_
 rintro e w1 ⟨rfl,a1,a8,h1⟩
 have j:=A5 a8
 obtain ⟨bv,m1,m2,HF⟩:=unV h1
 obtain ⟨hB,m,z,_,_⟩:=W8 HF
 have H1:Hid (A4 w0 w1 (P5 B (Z6j tr en la lv cut (.map (some m1)) (.map (some m2)) bv at')::B0 5 1 lv (x.drop cut).length (D7 (x.drop cut))::B0 39 1 bv (M5 x cut Q).length (D3 .u16 (M5 x cut Q))::Z3n (.map (some m1)) (P3 x a1 Q) Q::Z3n (.map (some m2)) (O6 32768 x a1) Q::Rs)):=HF
 obtain ⟨L,p⟩:∃L,L=(x.drop cut).length:=⟨_,rfl⟩
 obtain ⟨M,hM⟩:∃M,M=(M5 x cut Q).length:=⟨_,rfl⟩
 have b6:L=x.length-cut:=by rw [p,T01]
 have b7:M=Q-cut:=by rw [hM,Z3]
 rw [←p] at m
 rw [←hM] at z
 obtain ⟨lo,k,rfl,e0,i9⟩:=m.form
 obtain ⟨bo,g,rfl,e3,j0⟩:=z.form
 have a0:n≤L:=by omega
 have a2:n≤M:=by have:=HQ.out;omega
 have q:=fun wg=>V79 lo L k n 26 5 i0 Tryz.underlying26 d1 d2 a0 e0 wg
 have r:=fun wg=>V79 bo M g n 66 39 i1 Tryz.underlying66 d3 d4 a2 e3 wg
 have d:=m.rd.cut (L:=n) (H:=L) a0 (T04 _)
 have f:=fun (wz:World) (h:Rd wz 1 (.slice bo M g) M (D3 .u16 (M5 x cut Q)))=>h.cut (L:=n) (H:=M) a2 (T04 _)
 unfold sliced at d f
 generalize (if k=n then lo else lo.map fun (x:Addr)=>x.add (n*1))=lo2 at q d
 generalize (if g=n then bo else bo.map fun (x:Addr)=>x.add (n*1))=bo2 at r f
 have e1:((D7 (x.drop cut)).drop (n*1)).take ((L-n)*1)=D7 (x.drop (cut+n)):=by
  rw [T02,T02,T03 (by rw [T01,E5,←p];omega)]
  simp only [D7,←T05,T07]
 have e2:((D3 .u16 (M5 x cut Q)).drop (n*1)).take ((M-n)*1)=D3 .u16 (M5 x (cut+n) Q):=by
  rw [T02,T02,T03 (by rw [T01,Z86,←hM];omega),←W01]
  simp only [D3,←T05]
 rw [e1] at d
 rw [e2] at f
 obtain ⟨K,hK⟩:∃K,K=L-n:=⟨_,rfl⟩
 obtain ⟨J,hJ⟩:∃J,J=M-n:=⟨_,rfl⟩
 rw [←hK] at q d
 rw [←hJ] at r f
 generalize k-n=lcap2 at q d
 generalize g-n=bcap2 at r f
 have HK:Hid (K=(x.drop (cut+n)).length∧J=(M5 x (cut+n) Q).length):=A5 ⟨by rw [T01];omega,by rw [Z3];omega⟩
 have a3:=A5 (X4m _ K _ H1.out d (by omega))
 have b8:=A5 f
 have b9:=A5 hM
 have HJ:Hid (J≤1000000000):=A5 (by have:=j.out.room;omega)
 have c3:=hB.cell (i:=3) rfl
 have g4:cut < 1000000000:=by omega
 have g5:n < 1000000000:=by omega
 have c0:(0:Int)≤(cut:Int):=T00 _
 clear a8 h1 HF hB m z p hM b6 b7 d f e1 e2 hK hJ HL
 go_wp2_with fail
 refine a3.out.mono ?_
 rintro e w2 ⟨v1,rfl,h2⟩
 obtain ⟨b0,b1,rfl,_,_⟩:=h2.own.form
 have h3:=h2.swap
 have s:=h3.objp
 have f3:=s.frozen 3
 have g6:=s.cell (i:=3) rfl
 have h4:=h3.setObjP 3 (.slice b0 K b1)
 have H4:=A5 h4
 have a5:=h4.objp
 have c7:=a5.cell (i:=7) rfl
 have t:=h4.drop.drop.drop.own
 rw [←b9.out] at t
 have a6:=X2q _ J _ h4 (b8.out _ t.rd) HJ.out
 have a7:=A5 a6
 clear h2 h3 h4 s a5 t a6 a3 c3
 go_wp2_with fail
 refine a7.out.mono ?_
 rintro e w3 ⟨v2,rfl,h5⟩
 obtain ⟨b2,b3,rfl,_,_⟩:=h5.own.form
 have h6:=h5.swap
 have l:=h6.objp
 have f7:=l.frozen 7
 have f4:=l.frozen 4
 have g7:=l.cell (i:=7) rfl
 have h7:=h6.setObjP 7 (.slice b2 J b3)
 have y:=h7.objp
 have c4:=y.cell (i:=4) rfl
 have g8:=y.frozen 4
 obtain ⟨C,hC⟩:∃C,C=cut+n:=⟨_,rfl⟩
 have H7:=A5 (h7.setObjP 4 (.int .i64 (C:Int)))
 have h0:(cut:Int)+(n:Int)=(C:Int):=by omega
 have HC:=A5 hC
 clear h5 h6 h7 l y a7 hC
 go_wp2
 go_end0
 refine ⟨rfl,a1,⟨by have:=HQ.out;omega,j.out.room,j.out.a_le,j.out.le_a,j.out.mod,j.out.some⟩, ?_⟩
 have h8:=W8i H7.out.fourth.drop.fourth.drop
 have hk:=HK.out
 rw [←HC.out] at h8 hk⊢
 refine Z79 (.slice b0 K b1) (.slice b2 J b3) m1 m2 ?_
 unfold Y3n
 rw [←hk.1,←hk.2]
 exact h8
theorem W7n (A:Nat) (H:A4 w0 w (inF tr en la (A-cut) x cut P a B::Rs)) (HI:Z18 x cut P a) (hPA:P≤A) (hAx:A≤x.length) (hcA:cut≤A) (hcw:cut=0∨cut+32768≤A) (hlen:x.length < 1000000000) (hb:∀b∈x,b < 256):
  Calls Tryz.prog 85 #[.pointer (some ⟨B.b,B.o,none⟩)] w fun e w'=>e= .returned (.tuple #[])∧∃cut' P' a',cut'≤A∧P'≤A∧(cut'=0∨cut'+32768≤A)∧Z18 x cut' P' a'∧A4 w0 w' (inF tr en la (A-cut') x cut' P' a' B::Rs):=by
 obtain ⟨t,p⟩:∃t,t=A-cut:=⟨_,rfl⟩
 have l:A=cut+t:=by omega
 obtain ⟨lv,bv,m1,m2,s⟩:=Z3q H
 have q:=(W8 s).1
 have c8:=q.cell (i:=8) rfl
 rw [←p] at c8
 have a8:(0:Int)≤(t:Int):=T00 _
 have a9:t < 1000000000:=by omega
 by_cases f:65536≤t
 ·obtain ⟨o,ho⟩:∃o,o=t-32768:=⟨_,rfl⟩
  have b0:(t:Int)-32768=(o:Int):=by omega
  have b1:(32768:Int)≤(o:Int):=by omega
  have b2:(0:Int)≤(o:Int):=T00 _
  have g:=A5 (W04 H HI o (by omega) hlen hb)
  have n:Hid (cut+o≤A∧max P (cut+o)≤A∧cut+o+32768≤A∧A- (cut+o)=32768):=A5 (by omega)
  have a2:(t:Int)- (o:Int)=32768:=by omega
  rw [←p] at g
  have b3:o < 1000000000:=by omega
  clear s q H HI ho l p hPA hAx hcA hcw f
  go_enter Tryz.func85,Tryz.ntmps85
  go_wp2_with fail
  refine g.out.mono ?_
  rintro e w1 ⟨rfl,a1,m,h1⟩
  have r:=A5 m
  obtain ⟨y,a0,q1,q2,k⟩:=Z3q h1
  have j:=(W8 k).1
  have d8:=j.cell (i:=8) rfl
  have f8:=j.frozen 8
  have h2:A4 w0 w1 (P5 B (Z6j tr en la y (cut+o) (.map (some q1)) (.map (some q2)) a0 t)::_):=k
  have H2:=A5 (h2.setObjP 8 (.int .i64 32768))
  clear m h1 k j h2 g
  go_wp2
  go_end0
  refine ⟨rfl,cut+o,max P (cut+o),a1,n.out.1,n.out.2.1,.inr n.out.2.2.1,r.out, ?_⟩
  rw [n.out.2.2.2]
  exact Z79 _ _ _ _ H2.out
 have HH:=A5 H
 have d:=A5 (And.intro HI (And.intro hPA (And.intro hcA hcw)))
 obtain ⟨z,hz⟩:∃z:Int,z=(t:Int)-32768:=⟨_,rfl⟩
 have b5:(t:Int)-32768=z:=hz.symm
 have b6:¬(32768:Int)≤z:=by omega
 have b7: -9223372036854775808≤z:=by omega
 have b8:z≤9223372036854775807:=by omega
 clear s q H HI l p hPA hAx hcA hcw f hz
 go_enter Tryz.func85,Tryz.ntmps85
 go_wp2
 go_end0
 first | exact ⟨rfl,cut,P,a,d.out.2.2.1,d.out.2.1,d.out.2.2.2,d.out.1,HH.out⟩ | exact ⟨rfl,cut,d.out.2.2.1,P,d.out.2.1,d.out.2.2.2,a,d.out.1,HH.out⟩
end
theorem X00:(Tryz.prog.info? 112).map (fun i=>(i.zero,i.size,i.bytes))=some (some (.agg #[.int .u8 0,.int .i64 0,.int .i64 0]),3,24):=by kernel_rfl
section
variable {w0 w:World} {Rs:List A6} {tr en la at' cut gone n a P:Nat} {B:D0} {x bs bk:List Nat} {g h:List Nat→Option Nat}
theorem X8x (H:A4 w0 w (Z81 tr en la at' gone bs bk g h n B::Rs)) (v:Value) (m:Nat) (b:List Nat) (hv:Rd w 1 v m (D7 b)) (hlen:bs.length+m < 1000000000):
  Calls Tryz.prog 73 #[.pointer (some ⟨B.b,B.o,none⟩),v] w fun e w'=>e= .returned (.tuple #[])∧A4 w0 w' (Z81 tr en la at' gone (bs++b) bk g h n B::Rs):=by
 obtain ⟨i0,p,q,r,s⟩:=info_parts Z2t
 have d:m=b.length:=by have:=hv.1;rw [E5] at this;omega
 obtain ⟨so,a2,rfl,b1,b2⟩:=hv.form
 obtain ⟨lv,t,x,y,HF⟩:=Z3q H
 obtain ⟨L,l⟩:∃L,L=bs.length:=⟨_,rfl⟩
 have f:A4 w0 w (P5 B (Z6j tr en la lv gone (.map (some x)) (.map (some y)) t at')::B0 5 1 lv bs.length (D7 bs)::B0 39 1 t bk.length (D3 .u16 bk)::Z3n (.map (some x)) g n::Z3n (.map (some y)) h n::Rs):=HF
 rw [←l] at f hlen
 obtain ⟨lo,a5,rfl,_,_⟩:=f.swap.own.form
 have z:=f.objp
 have c3:=z.cell (i:=3) rfl
 have H1:=A5 f.swap
 have HV:=A5 hv
 have HN:=A5 (And.intro l d)
 clear H HF f hv z l d
 go_enter Tryz.func73,Tryz.ntmps73
 go_wp2_with (refine D4 rfl (.tmp 11) (.tmp 12) 26 rfl 5 i0 (.int .u8 0) 1 1 Tryz.underlying26 p q r s rfl (by decide) _ L (D7 bs) rfl H1.out _ m (D7 b) rfl HV.out (T3 b) (L+m) rfl (by unfold maxLen;omega) (by omega) ?_;intro j a w2 h2;have k:=A5 h2.swap;have f3:=k.out.objp.frozen 3;have a8:=k.out.objp.cell (i:=3) rfl;clear h2)
 go_end0
 refine ⟨rfl,Z79 (.slice j (L+m) a) t x y ?_⟩
 have h3:=k.out.setObjP 3 (.slice j (L+m) a)
 unfold Y3n
 rw [List.length_append,←HN.out.1,←HN.out.2,K4]
 exact h3
theorem V5m {R1 R2 R3 R4 R5 T:A6} (H:A4 w0 w (R1::R2::T::R3::R4::R5::Rs)):A4 w0 w (R1::R2::R3::R4::R5::T::Rs):=
 H.perm (List.Perm.cons _ (List.Perm.cons _ (List.perm_middle (l₁:=[R3,R4,R5])).symm))
theorem X3z (H:A4 w0 w (Z81 tr en la at' gone bs bk g h n B::Rs)) (hat:at'≤bs.length) (hlen:bs.length < 1000000000):
  Calls Tryz.prog 83 #[.pointer (some ⟨B.b,B.o,none⟩)] w fun e w'=>e= .returned (.int .i64 ((bs.length-at':Nat):Int))∧∃k,w'=w.drewN k:=by
 obtain ⟨y,z,m1,m2,j⟩:=Z3q H
 obtain ⟨a,f,_,_,_⟩:=W8 j
 obtain ⟨L,l⟩:∃L,L=bs.length:=⟨_,rfl⟩
 rw [←l] at f hat hlen⊢
 obtain ⟨lo,m,rfl,_,_⟩:=f.form
 have t:=a.cell (i:=3) rfl
 have x:=a.cell (i:=8) rfl
 obtain ⟨d,p⟩:∃d,d=L-at':=⟨_,rfl⟩
 have q:(L:Int)- (at':Int)=(d:Int):=by omega
 have r:(0:Int)≤(d:Int):=T00 _
 have s:d < 1000000000:=by omega
 rw [←p]
 clear p H j a f l hat
 go_enter Tryz.func83,Tryz.ntmps83
 go_wp2
 go_quiet (fail)
 go_wp2
 go_ret
 exact ⟨rfl,_,rfl⟩
def W0 (bs:List Nat):List E1:=bs.map fun (b:Nat)=>((b:Int),0,0)
theorem X2d (H:A4 w0 w (Z81 tr en la at' gone bs bk g h n B::Rs)) (hlen:bs.length < 1000000000):
  Calls Tryz.prog 82 #[.pointer (some ⟨B.b,B.o,none⟩)] w fun e w'=>∃v,e= .returned v∧A4 w0 w' (Y4r v (W0 bs)::Z81 tr en la at' gone [] bk g h n B::Rs):=by
 obtain ⟨i3,a5,a6,a7,a8⟩:=info_parts X00
 obtain ⟨lv,s,t,x,HF⟩:=Z3q H
 obtain ⟨hB,hO,_,_,_⟩:=W8 HF
 obtain ⟨L,hL⟩:∃L,L=bs.length:=⟨_,rfl⟩
 rw [←hL] at hO hlen
 obtain ⟨z,a,rfl,_,_⟩:=hO.form
 have HB:=A5 hB
 have c3:=hB.cell (i:=3) rfl
 have b6:(0:Int)≤(L:Int):=T00 _
 have y:=A5 hL
 have H1:Hid (A4 w0 w (P5 B (Z6j tr en la (.slice z L a) gone (.map (some t)) (.map (some x)) s at')::B0 5 1 (.slice z L a) bs.length (D7 bs)::B0 39 1 s bk.length (D3 .u16 bk)::Z3n (.map (some t)) g n::Z3n (.map (some x)) h n::Rs)):=HF
 clear H HF hB hO hL
 go_enter Tryz.func82,Tryz.ntmps82
 go_wp2
 go_loopg [3,5,12] (L+2) (fun gg t3 t5 t12 wr=>∃ (k:Nat) (ao:Option Addr) (f:Nat),k≤L∧L+1-k < gg∧t12= .int .i64 (k:Int)∧t3= .slice ao k f∧
  Hid (A4 w0 wr (B0 112 3 (.slice ao k f) k (I5 (W0 (bs.take k)))::P5 B (Z6j tr en la (.slice z L a) gone (.map (some t)) (.map (some x)) s at')::B0 5 1 (.slice z L a) bs.length (D7 bs)::B0 39 1 s bk.length (D3 .u16 bk)::Z3n (.map (some t)) g n::Z3n (.map (some x)) h n::Rs)))
 case atStart=>exact ⟨0,none,0,by omega,by omega,rfl,rfl,A5 (H1.out.nil 112 3)⟩
 case round=>
  obtain ⟨k,ao,f,hk,hg,rfl,rfl,HR⟩:=hrel
  have b8:(0:Int)≤(k:Int):=T00 _
  by_cases a3:k < L
  ·have a1:(k:Int) < (L:Int):=by omega
   obtain ⟨p,m⟩:∃p,bs[k]?=some p:=⟨bs[k]'(by rw [←y.out];exact a3),T06 _⟩
   have j:=HR.out.drop.drop.own
   rw [←y.out] at j
   obtain ⟨gl,c4,rfl,d,_,_⟩:=j.site (by omega)
   have cb:=d k (.int .u8 (p:Int)) (by rw [Z4,m];rfl)
   have HC:Hid (I5 (W0 (bs.take k))++[.int .u8 (p:Int),.int .i64 0,.int .i64 0]=I5 (W0 (bs.take (k+1)))):=A5 (by
    rw [List.take_add_one,m]
    simp [W0,I5])
   clear m j d
   go_wp2_with (refine D4 rfl (.tmp 16) (.tmp 19) 54 rfl 112 i3 (.agg #[.int .u8 0,.int .i64 0,.int .i64 0]) 3 24 Tryz.underlying54 a5 a6 a7 a8 rfl (by decide) _ k (I5 (W0 (bs.take k))) rfl (HR.out.alloc _) _ 1 [.int .u8 (p:Int),.int .i64 0,.int .i64 0] rfl (Rd.lit _ [.int .u8 (p:Int),.int .i64 0,.int .i64 0] _ 3 1 (by decide) rfl) (by intro u hu;simp at hu;rcases hu with rfl | rfl <;> rfl) (k+1) rfl (by unfold maxLen;omega) (by omega) ?_;intro a4 r w4 q;rw [HC.out] at q;have H4:=A5 q;clear q)
   go_roundg (gk-1)
   case measure=>omega
   case rel=>exact ⟨k+1,a4,r,by omega,by omega,by go_num,rfl,H4⟩
  obtain rfl:k=L:=by omega
  have a1:¬(k:Int) < (k:Int):=by omega
  have h2:=HR.out.swap
  have l:=h2.objp
  have d3:=l.cell (i:=3) rfl
  have f3:=l.frozen 3
  have H3:=A5 (h2.setObjP 3 (.slice none 0 0))
  clear h2 l
  go_wp2
  go_ret
  refine ⟨.slice ao k f,rfl, ?_⟩
  have q:=(V5m (H3.out.third.drop.nil 5 1).swap)
  have h5:=(Z79 (bs:=[]) (.slice none 0 0) s t x q).swap
  rw [T03 (by rw [y.out];exact T04 _)] at h5
  have e:(W0 bs).length=k:=by rw [y.out];simp [W0]
  unfold Y4r
  rw [e]
  exact h5
end
end Go.Proofs.YtbkbkmgogbgofaaGreatDoor
