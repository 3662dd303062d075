/- The claim's texts, put together and shortened by a program (names, spaces). -/
import Derived.Test.YtbkbkmgogbgofaaGreatDoorZt26
import Derived.Deep.DeepCutAuto
import Derived.Test.YtbkbkmgogbgofaaGreatDoorZt04
import Derived.Lib.AppendZerosOnto
open List renaming length_append→T00,append_assoc→T02,eq_nil_of_length_eq_zero→T03,getElem?_append_right→T05,mem_cons_of_mem→T07,append_nil→T08,getElem?_eq_getElem→T0a,getElem?_append_left→T0b,take_append_drop→T0c,flatten_append→T0d,flatten_cons→T0e
open Nat renaming zero_add→T04,lt_or_ge→T06,mul_add→T09
open Int renaming natCast_nonneg→T01
namespace Go.Proofs.YtbkbkmgogbgofaaGreatDoor
set_option maxRecDepth 100000
set_option maxHeartbeats 6400000
open Go.RowKit
def W2l (D:Nat):Prop:=
 ∀ (a m b N:Nat) (P X Y S:List G9) (v:Value) (w0 w:World) (Rs:List A6),A4 w0 w (J4 v (P++(X++(Y++S)))::Rs)→(P++(X++(Y++S))).length=N→N≤100000→P.length=a→a+X.length=m→m+Y.length=b→
  a < m→m < b→Asc X→Asc Y→b-a≤D→
  Calls Tryz.prog 200 #[v,.int .i64 (a:Int),.int .i64 (m:Int),.int .i64 (b:Int),Y1b] w fun e w'=>e= .returned (.tuple #[])∧A4 w0 w' (J4 v (P++(mrg X Y++S))::Rs)
theorem X8q (D:Nat) (IH:W2l D) (a m b N:Nat) (P X Y S:List G9) (v:Value) (w0 w:World) (Rs:List A6) (h:A4 w0 w (J4 v (P++(X++(Y++S)))::Rs)) (hN:(P++(X++(Y++S))).length=N) (hN2:N≤100000)
  (ha:P.length=a) (hm:a+X.length=m) (hb:m+Y.length=b) (hX1:a+1 < m) (hY1:m+1 < b) (hX:Asc X) (hY:Asc Y) (hD:b-a≤D+1):
  Calls Tryz.prog 200 #[v,.int .i64 (a:Int),.int .i64 (m:Int),.int .i64 (b:Int),Y1b] w fun e w'=>e= .returned (.tuple #[])∧A4 w0 w' (J4 v (P++(mrg X Y++S))::Rs):=by
 unfold Y1b
 have h0:(0:Int)≤(a:Int):=T01 _
 have h1:(0:Int)≤(b:Int):=T01 _
 have h2:(0:Int)≤(m:Int):=T01 _
 have j8:b≤N:=by simp at hN;omega
 obtain ⟨ao,a7,rfl,h6,m5⟩:=U1 h
 rw [hN] at h6 h⊢
 obtain ⟨d,d0⟩:∃d,d=(a+b) / 2:=⟨_,rfl⟩
 obtain ⟨s0,r0,b6⟩:∃s0 r0,(d < m∧s0+b=d+m∧r0=d)∨(m≤d∧s0=a∧r0=m):=by
  by_cases h:d < m
  ·exact ⟨d+m-b,d,.inl ⟨h,by omega,rfl⟩⟩
  exact ⟨a,m,.inr ⟨by omega,rfl,rfl⟩⟩
 have HL:Hid (P.length=a∧(P++(X++(Y++S))).length=N∧Asc X∧Asc Y∧a+X.length=m∧m+Y.length=b):=A5 ⟨ha,hN,hX,hY,hm,hb⟩
 have HM:=A5 d0
 have HC:=A5 b6
 have H:=A5 h
 have j9:((m:Int)- (a:Int)==1)=false:=by simp;omega
 have k0:((b:Int)- (m:Int)==1)=false:=by simp;omega
 have e0:¬(m:Int)- (a:Int)=1:=by omega
 have e1:¬(b:Int)- (m:Int)=1:=by omega
 have i3:((a:Int)+(b:Int)) / 2=(d:Int):=by omega
 obtain ⟨n,hn⟩:∃n,n=d+m:=⟨_,rfl⟩
 have en:(d:Int)+(m:Int)=(n:Int):=by omega
 obtain ⟨p,hp⟩:∃p,n=p+1:=⟨n-1,by omega⟩
 have ep:(n:Int)-1=(p:Int):=by omega
 have b9:Hid (n=d+m∧n=p+1):=A5 ⟨hn,hp⟩
 have f4:(0:Int)≤(d:Int):=T01 _
 have k4:(0:Int)≤(n:Int):=T01 _
 have k5:(0:Int)≤(p:Int):=T01 _
 have k6:d≤N:=by omega
 have k7:n≤2*N:=by omega
 have k8:s0≤r0:=by omega
 have k9:r0≤N:=by omega
 clear h hN ha hb hX hY hm d0 b6 hn hp
 go_enter Tryz.func200,Tryz.ntmps200
 go_upto_if 140 with (fail)
 go_cut [20,21] (fun s20 s21 wx=>s20= .int .i64 (s0:Int)∧s21= .int .i64 (r0:Int)∧w=wx)
 case first=>
  as_aux_lemma=>
   rcases HC.out with ⟨k1,k2,k3⟩ | ⟨k1,k2,k3⟩
   ·have f5:(d:Int) < (m:Int):=by omega
    have l0:(n:Int)- (b:Int)=(s0:Int):=by have:=b9.out;omega
    have d7:=A5 k2
    have d2:=A5 k3
    clear k2 k3
    go_wp2
    go_meet
    exact ⟨rfl,by rw [d2.out],rfl⟩
   have f5:¬(d:Int) < (m:Int):=by omega
   have d7:=A5 k2
   have d2:=A5 k3
   clear k2 k3
   go_wp2
   go_meet
   exact ⟨by rw [d7.out],by rw [d2.out],rfl⟩
 case rest=>
  as_aux_lemma=>
   obtain ⟨rfl,rfl,rfl⟩:=hcut
   go_wp2
   go_loopg [20,21] (r0-s0+1) (fun k t10 t11 wr=>∃ (i j:Nat),s0≤i∧i≤j∧j≤r0∧j-i < k∧t10= .int .i64 (i:Int)∧t11= .int .i64 (j:Int)∧
    Hid ((i=s0∨∃x y,X[i-1-a]?=some x∧Y[d+m-i-m]?=some y∧x.1≤y.1∧s0 < i)∧(j=r0∨∃x y,X[j-a]?=some x∧Y[d+m-1-j-m]?=some y∧y.1 < x.1∧j < r0))∧
    Hid (A4 w0 wr (J4 (.slice ao N a7) (P++(X++(Y++S)))::Rs)))
   case atStart=>exact ⟨s0,r0,by omega,by omega,by omega,by omega,rfl,rfl,A5 ⟨.inl rfl,.inl rfl⟩,H⟩
   case round=>
    as_aux_lemma=>
     obtain ⟨i,j,h7,m6,h8,hk,rfl,rfl,HE,HH⟩:=hrel
     have h3:(0:Int)≤(i:Int):=T01 _
     have h4:(0:Int)≤(j:Int):=T01 _
     by_cases m4:i < j
     ·have d8:(i:Int) < (j:Int):=by omega
      obtain ⟨q,hq⟩:∃q,q=(i+j) / 2:=⟨_,rfl⟩
      have l2:((i:Int)+(j:Int)) / 2=(q:Int):=by omega
      have l3:i≤q:=by omega
      have l4:q < j:=by omega
      have l7:(0:Int)≤(q:Int):=T01 _
      clear hq
      have f:a≤q∧q < m∧q≤p∧m≤p-q∧p-q < b:=by
       have g1:=HC.out
       have g2:=HM.out
       have g3:=b9.out
       clear HE
       omega
      obtain ⟨n1,n2,n3,n4,n5⟩:=f
      obtain ⟨o,d1⟩:∃o,o=p-q:=⟨_,rfl⟩
      have i4:(p:Int)- (q:Int)=(o:Int):=by omega
      have i5:(0:Int)≤(o:Int):=T01 _
      have l8:m≤o:=by omega
      have l9:o < b:=by omega
      have m0:q < N:=by omega
      have i6:o < N:=by omega
      have m1:IntKind.i64.wrap (o:Int)=(o:Int):=Z2b o (by omega)
      have f9:=A5 d1
      clear d1 n3 n4 n5
      obtain ⟨x,hx⟩:∃x,X[q-a]?=some x:=⟨X[q-a]'(by have:=HL.out;omega),T0a _⟩
      obtain ⟨y,hy⟩:∃y,Y[o-m]?=some y:=⟨Y[o-m]'(by have:=HL.out;omega),T0a _⟩
      have HX:=A5 hx
      have HY:=A5 hy
      obtain ⟨l1,_,_,_,l5,l6⟩:=HL.out
      have d9:(P++(X++(Y++S)))[q]?=some x:=by
       rw [T05 (by omega),l1,T0b (by omega)];exact hx
      have e3:(P++(X++(Y++S)))[o]?=some y:=by
       rw [T05 (by omega),l1,T05 (by omega),T0b (by omega),show o-a-X.length=o-m by omega];exact hy
      obtain ⟨g,n8,rfl,c1,c2,c3,c4,hf,_⟩:=HH.out.swap2 d9 e3
      have c8:decide (Y4q (y.1:Int) (x.1:Int) < 0)=decide (y.1 < x.1):=Y52 _ _
      clear hx hy d9 e3 l1 l5 l6
      go_wp2
      go_still_tail 11,(by kernel_rfl)
      change wpList _ _ _ _ _ wr.drew
      have d3:=A5 HH.out.drew
      clear c1 c2 c3 c4 hf HH
      generalize wr.drew=w2 at d3⊢
      go_wp2_with fail
      refine (Y5c y x _).mono ?_
      rintro e w3 ⟨rfl,hm⟩
      have e4:=A5 (d3.out.same hm)
      clear hm d3
      have c9:d+m- (q+1)-m=o-m∧d+m-1-q-m=o-m:=by
       have:=b9.out;have:=f9.out;clear HE;omega
      have e5:=A5 c9
      clear c9
      by_cases d4:y.1 < x.1
      ·have hd:decide (y.1 < x.1)=true:=by simp [d4]
       rw [hd] at c8
       go_wp2
       go_roundg (gk-1)
       case measure=>omega
       case rel=>
        refine ⟨i,q,by omega,by omega,by omega,by omega,rfl,rfl,A5 ⟨HE.out.1,.inr ⟨x,y,HX.out, ?_,d4,by omega⟩⟩,e4⟩
        rw [e5.out.2];exact HY.out
      have hd:decide (y.1 < x.1)=false:=by simp [d4]
      rw [hd] at c8
      go_wp2
      go_roundg (gk-1)
      case measure=>omega
      case rel=>
       refine ⟨q+1,j,by omega,by omega,by omega,by omega,by go_num,rfl,A5 ⟨.inr ⟨x,y, ?_, ?_,by omega,by omega⟩,HE.out.2⟩,e4⟩
       ·rw [show q+1-1-a=q-a by omega];exact HX.out
       rw [e5.out.1];exact HY.out
     have d8:¬(i:Int) < (j:Int):=by omega
     obtain rfl:j=i:=by omega
     obtain ⟨e,he⟩:∃e,e+j=d+m:=⟨d+m-j,by have:=HC.out;clear HE;omega⟩
     have m2:(n:Int)- (j:Int)=(e:Int):=by have:=b9.out;clear HE;omega
     have m3:(0:Int)≤(e:Int):=T01 _
     obtain ⟨t,X2,z,Y2,g1,g2,g3,g4,g5,g6⟩:=W55 a m b d s0 r0 j e X Y HL.out.2.2.2.2.1 HL.out.2.2.2.2.2 HM.out HL.out.2.2.1 HL.out.2.2.2.1 h7 h8 HC.out he HE.out.1 HE.out.2
     have l:Hid (X=t++X2∧Y=z++Y2∧a+t.length=j∧m+z.length=e∧(∀x∈t,∀y∈Y2,x.1≤y.1)∧(∀y∈z,∀x∈X2,y.1 < x.1)):=A5 ⟨g1,g2,g3,g4,g5,g6⟩
     have c0:=A5 he
     clear g1 g2 g3 g4 g5 g6 HE he
     have HV:Hid (P++(X++(Y++S))=(P++t)++(X2++(z++(Y2++S)))):=by rw [l.out.1,l.out.2.1];exact A5 (by simp)
     have hh:=HH.out
     rw [HV.out] at hh
     have H1:=A5 hh
     clear hh HH
     go_upto_region 39 with (fail)
     go_cut [185] (fun s wx=>s= .bool (decide (j < m∧m < e))∧wr=wx)
     case first=>
      as_aux_lemma=>
       by_cases c1:j < m
       ·have b2:(j:Int) < (m:Int):=by omega
        by_cases c2:m < e
        ·have b3:(m:Int) < (e:Int):=by omega
         go_wp2
         go_meet
         exact ⟨by simp [c1,c2],rfl⟩
        have b3:¬(m:Int) < (e:Int):=by omega
        go_wp2
        go_meet
        exact ⟨by simp [c2],rfl⟩
       have b2:¬(j:Int) < (m:Int):=by omega
       go_wp2
       go_meet
       exact ⟨by simp [c1],rfl⟩
     case rest=>
      as_aux_lemma=>
       obtain ⟨rfl,rfl⟩:=hcut
       go_step
       go_cut [] (fun wx=>Hid (A4 w0 wx (J4 (.slice ao N a7) ((P++t)++(z++(X2++(Y2++S))))::Rs)))
       case first=>
        as_aux_lemma=>
         by_cases hc:j < m∧m < e
         ·have hd:decide (j < m∧m < e)=true:=by simp [hc]
          have f:(P++t).length=j∧(P++t++X2).length=m∧(P++t++(X2++z)).length=e∧0 < X2.length∧0 < z.length∧(P++t++(X2++(z++(Y2++S)))).length=N:=by
           have q1:=l.out.1
           have o:=l.out.2.1
           have q3:=l.out.2.2.1
           have q4:=l.out.2.2.2.1
           obtain ⟨q5,q6,_,_,q7,q8⟩:=HL.out
           rw [HV.out] at q6
           rw [q1,T00] at q7
           rw [o,T00] at q8
           simp only [T00] at q6⊢
           omega
          have HR:=A5 (X89 j m e N (P++t) X2 z (Y2++S) (.slice ao N a7) (.func (.func 187) #[] #[]) w0 wr Rs H1.out f.2.2.2.2.2 hN2 f.1 f.2.1 f.2.2.1 f.2.2.2.1 f.2.2.2.2.1)
          clear f
          rw [hd]
          clear hd
          go_wp2_with fail
          refine HR.out.mono ?_
          rintro e2 w5 ⟨rfl,hh⟩
          have b4:=A5 hh
          clear hh
          go_wp2
          go_meet
          exact b4
         have hd:decide (j < m∧m < e)=false:=by simp only [decide_eq_false_iff_not];exact hc
         have b5:Hid ((P++t)++(X2++(z++(Y2++S)))=(P++t)++(z++(X2++(Y2++S)))):=by
          have q1:=l.out.1
          have o:=l.out.2.1
          have q3:=l.out.2.2.1
          have q4:=l.out.2.2.2.1
          obtain ⟨q5,q6,_,_,q7,q8⟩:=HL.out
          rw [q1,T00] at q7
          rw [o,T00] at q8
          rcases T06 j m with c1 | c1
          ·have:z=[]:=T03 (by omega)
           rw [this];exact A5 rfl
          have:X2=[]:=T03 (by omega)
          rw [this];exact A5 rfl
         rw [hd]
         clear hd
         go_wp2
         go_meet
         rw [←b5.out]
         exact H1
       case rest=>
        as_aux_lemma=>
         have H2:=A5 hcut.out
         clear hcut H1
         go_upto_region 41 with (fail)
         go_cut [199] (fun s wx=>s= .bool (decide (a < j∧j < d))∧wc=wx)
         case first=>
          as_aux_lemma=>
           by_cases c1:a < j
           ·have b2:(a:Int) < (j:Int):=by omega
            by_cases c2:j < d
            ·have b3:(j:Int) < (d:Int):=by omega
             go_wp2
             go_meet
             exact ⟨by simp [c1,c2],rfl⟩
            have b3:¬(j:Int) < (d:Int):=by omega
            go_wp2
            go_meet
            exact ⟨by simp [c2],rfl⟩
           have b2:¬(a:Int) < (j:Int):=by omega
           go_wp2
           go_meet
           exact ⟨by simp [c1],rfl⟩
         case rest=>
          as_aux_lemma=>
           obtain ⟨rfl,rfl⟩:=hcut
           go_step
           go_cut [] (fun wx=>Hid (A4 w0 wx (J4 (.slice ao N a7) ((P++mrg t z)++(X2++(Y2++S)))::Rs)))
           case first=>
            as_aux_lemma=>
             by_cases hc:a < j∧j < d
             ·have hd:decide (a < j∧j < d)=true:=by simp [hc]
              have f:a+t.length=j∧j+z.length=d∧(P++(t++(z++(X2++(Y2++S))))).length=N∧d-a≤D:=by
               have q1:=l.out.1
               have o:=l.out.2.1
               have q3:=l.out.2.2.1
               have q4:=l.out.2.2.2.1
               have q9:=c0.out
               have g9:=HM.out
               obtain ⟨q5,q6,_,_,q7,q8⟩:=HL.out
               rw [HV.out] at q6
               rw [q1,T00] at q7
               rw [o,T00] at q8
               simp only [T00] at q6⊢
               omega
              have r:=HL.out.2.2.1
              have a5:=HL.out.2.2.2.1
              rw [l.out.1] at r
              rw [l.out.2.1] at a5
              have HR:=A5 (IH a j d N P t z (X2++(Y2++S)) (.slice ao N a7) w0 wc Rs (by have h:=H2.out;rw [T02] at h;exact h) f.2.2.1 hN2 HL.out.1 f.1 f.2.1 hc.1 hc.2 ((Z1m _ _).1 r).1 ((Z1m _ _).1 a5).1 f.2.2.2)
              clear f r a5
              rw [hd]
              clear hd
              go_wp2_with fail
              refine HR.out.mono ?_
              rintro e2 w5 ⟨rfl,hh⟩
              rw [←T02] at hh
              have b4:=A5 hh
              clear hh
              go_wp2
              go_meet
              exact b4
             have hd:decide (a < j∧j < d)=false:=by simp only [decide_eq_false_iff_not];exact hc
             have b5:Hid ((P++t)++(z++(X2++(Y2++S)))=(P++mrg t z)++(X2++(Y2++S))):=by
              have q1:=l.out.1
              have o:=l.out.2.1
              have q3:=l.out.2.2.1
              have q4:=l.out.2.2.2.1
              have q9:=c0.out
              have h5:=HC.out
              have r:=HL.out.2.2.1
              rw [q1] at r
              rcases T06 a j with c1 | c1
              ·have:z=[]:=T03 (by omega)
               rw [this,Z09 t ((Z1m _ _).1 r).1];exact A5 rfl
              have:t=[]:=T03 (by omega)
              rw [this,Y1z];exact A5 (by simp)
             rw [hd]
             clear hd
             go_wp2
             go_meet
             rw [←b5.out]
             exact H2
           case rest=>
            as_aux_lemma=>
             have H3:=A5 hcut.out
             clear hcut H2
             go_upto_region 43 with (fail)
             go_cut [213] (fun s wx=>s= .bool (decide (d < e∧e < b))∧wc=wx)
             case first=>
              as_aux_lemma=>
               by_cases c1:d < e
               ·have b2:(d:Int) < (e:Int):=by omega
                by_cases c2:e < b
                ·have b3:(e:Int) < (b:Int):=by omega
                 go_wp2
                 go_meet
                 exact ⟨by simp [c1,c2],rfl⟩
                have b3:¬(e:Int) < (b:Int):=by omega
                go_wp2
                go_meet
                exact ⟨by simp [c2],rfl⟩
               have b2:¬(d:Int) < (e:Int):=by omega
               go_wp2
               go_meet
               exact ⟨by simp [c1],rfl⟩
             case rest=>
              as_aux_lemma=>
               obtain ⟨rfl,rfl⟩:=hcut
               go_step
               have HZ:Hid (mrg t z++mrg X2 Y2=mrg X Y):=by
                have r:=HL.out.2.2.1
                rw [l.out.1] at r
                rw [l.out.1,l.out.2.1]
                exact A5 (Y9n t X2 z Y2 r l.out.2.2.2.2.1 l.out.2.2.2.2.2).symm
               by_cases hc:d < e∧e < b
               ·have hd:decide (d < e∧e < b)=true:=by simp [hc]
                have f:(P++mrg t z).length=d∧d+X2.length=e∧e+Y2.length=b∧((P++mrg t z)++(X2++(Y2++S))).length=N∧b-d≤D:=by
                 have q1:=l.out.1
                 have o:=l.out.2.1
                 have q3:=l.out.2.2.1
                 have q4:=l.out.2.2.2.1
                 have q9:=c0.out
                 have g9:=HM.out
                 obtain ⟨q5,q6,_,_,q7,q8⟩:=HL.out
                 rw [HV.out] at q6
                 rw [q1,T00] at q7
                 rw [o,T00] at q8
                 simp only [T00,W03] at q6⊢
                 omega
                have r:=HL.out.2.2.1
                have a5:=HL.out.2.2.2.1
                rw [l.out.1] at r
                rw [l.out.2.1] at a5
                have HR:=A5 (IH d e b N (P++mrg t z) X2 Y2 S (.slice ao N a7) w0 wc Rs H3.out f.2.2.2.1 hN2 f.1 f.2.1 f.2.2.1 hc.1 hc.2 ((Z1m _ _).1 r).2.1 ((Z1m _ _).1 a5).2.1 f.2.2.2.2)
                clear f r a5
                rw [hd]
                clear hd
                go_wp2_with fail
                refine HR.out.mono ?_
                rintro e2 w5 ⟨rfl,hh⟩
                rw [T02,←T02 (mrg t z),HZ.out] at hh
                have b4:=A5 hh
                clear hh
                go_wp2
                go_end0
                exact ⟨rfl,b4⟩
               have hd:decide (d < e∧e < b)=false:=by simp only [decide_eq_false_iff_not];exact hc
               have b5:Hid ((P++mrg t z)++(X2++(Y2++S))=P++(mrg X Y++S)):=by
                rw [←HZ.out]
                have q1:=l.out.1
                have o:=l.out.2.1
                have q3:=l.out.2.2.1
                have q4:=l.out.2.2.2.1
                have q9:=c0.out
                have h5:=HC.out
                obtain ⟨q5,q6,f0,_,q7,q8⟩:=HL.out
                rw [q1] at f0
                rw [q1,T00] at q7
                rw [o,T00] at q8
                rcases T06 d e with c1 | c1
                ·have:Y2=[]:=T03 (by omega)
                 rw [this,Z09 X2 ((Z1m _ _).1 f0).2.1];exact A5 (by simp)
                have:X2=[]:=T03 (by omega)
                rw [this,Y1z];exact A5 (by simp)
               rw [hd]
               clear hd
               go_wp2
               go_end0
               have h:=H3.out
               rw [b5.out] at h
               exact ⟨rfl,h⟩
theorem Y5o:∀D,W2l D
 | 0=>by
  intro a m b N P X Y S v w0 w Rs h hN hN2 ha hm hb h1 h2 hX hY hD
  exfalso;omega
 | D+1=>by
  intro a m b N P X Y S v w0 w Rs h hN hN2 ha hm hb h1 h2 hX hY hD
  by_cases e1:a+1=m
  ·obtain ⟨x,rfl⟩:∃x,X=[x]:=List.length_eq_one_iff.1 (by omega)
   exact X7z a m b N P Y S x v w0 w Rs h hN hN2 ha e1 hb hY
  by_cases e2:m+1=b
  ·obtain ⟨y,rfl⟩:∃y,Y=[y]:=List.length_eq_one_iff.1 (by omega)
   exact X5y a m b N P X S y v w0 w Rs h hN hN2 ha hm e2 hX (by omega)
  exact X8q D (Y5o D) a m b N P X Y S v w0 w Rs h hN hN2 ha hm hb (by omega) (by omega) hX hY hD
def Z46 (Bs:List (List G9)):List G9:=(Bs.map I4).flatten
theorem R9:∀Bs:List (List G9),(Z46 Bs).length=Bs.flatten.length
 | []=>rfl
 | B::Bs=>by
  show (I4 B++Z46 Bs).length=(B++Bs.flatten).length
  rw [T00,T00,J1,R9 Bs]
theorem Z5j (k:Nat):∀Bs:List (List G9),(∀B∈Bs,B.length=k)→Bs.flatten.length=k*Bs.length
 | [],_=>by simp
 | B::Bs,h=>by
  show (B++Bs.flatten).length=_
  rw [T00,Z5j k Bs fun C hC=>h C (T07 _ hC),h B List.mem_cons_self,List.length_cons,Nat.mul_succ];omega
theorem Y93 (Bs:List (List G9)) (B:List G9):Z46 (Bs++[B])=Z46 Bs++I4 B:=by simp [Z46]
theorem Z8m (Bs:List (List G9)) (B:List G9):Z46 (B::Bs)=I4 B++Z46 Bs:=by simp [Z46]
theorem X85 (n:Nat) (Z:List G9) (v:Value) (w0 w:World) (Rs:List A6) (h:A4 w0 w (J4 v Z::Rs)) (hn:Z.length=n) (hN2:n≤100000):
  Calls Tryz.prog 196 #[v,.int .i64 (n:Int),Y1b] w fun e w'=>e= .returned (.tuple #[])∧A4 w0 w' (J4 v (I4 Z)::Rs):=by
 unfold Y1b
 have h0:(0:Int)≤(n:Int):=T01 _
 have x:=A5 hn
 have H:=A5 h
 clear h hn
 go_enter Tryz.func196,Tryz.ntmps196
 go_wp2
 go_loopg [7,8] (n+2) (fun k t7 t8 wr=>∃ (a:Nat) (Bs:List (List G9)) (R:List G9),a≤n∧n-a < k∧t7= .int .i64 (a:Int)∧t8= .int .i64 ((a:Int)+20)∧
  Hid ((∀B∈Bs,B.length=20)∧Z=Bs.flatten++R∧Bs.flatten.length=a)∧Hid (A4 w0 wr (J4 v (Z46 Bs++R)::Rs)))
 case atStart=>exact ⟨0,[],Z,by omega,by omega,rfl,rfl,A5 ⟨by simp,by simp,rfl⟩,H⟩
 case round=>
  obtain ⟨a,Bs,R,d0,hk,rfl,rfl,HE,HH⟩:=hrel
  have r:(0:Int)≤(a:Int):=T01 _
  by_cases hb:a+20≤n
  ·have b4:(a:Int)+20≤(n:Int):=by omega
   obtain ⟨i,d,f⟩:=HE.out
   have b5:a+R.length=n:=by have:=x.out;rw [d,T00] at this;omega
   have m:(R.take 20).length=20:=by simp;omega
   have b:=HH.out
   rw [←T0c 20 R] at b
   have o:=A5 (Z94 a (a+20) n (Z46 Bs) (R.take 20) (R.drop 20) v w0 wr Rs b (by rw [T0c,T00,R9];omega) hN2 (by rw [R9];exact f) (by rw [T00,R9,m];omega))
   have HG:Hid ((∀B∈Bs++[R.take 20],B.length=20)∧Z=(Bs++[R.take 20]).flatten++R.drop 20∧(Bs++[R.take 20]).flatten.length=a+20):=by
    refine A5 ⟨fun B hB2=> ?_, ?_, ?_⟩
    ·rcases List.mem_append.1 hB2 with h | h
     ·exact i B h
     rw [List.mem_singleton.1 h];exact m
    ·rw [d];simp
    rw [T0d,T00,f];simp;omega
   have a7:((a+20:Nat):Int)=(a:Int)+20:=by omega
   rw [a7] at o
   clear b i d f b5 m a7
   go_wp2_with fail
   refine o.out.mono ?_
   rintro e w1 ⟨rfl,b⟩
   rw [←T02,←Y93] at b
   have y:=A5 b
   clear b
   go_wp2
   go_roundg (gk-1)
   case measure=>omega
   case rel=>exact ⟨a+20,Bs++[R.take 20],R.drop 20,by omega,by omega,by go_num,by go_num,HG,y⟩
  have b4:¬(a:Int)+20≤(n:Int):=by omega
  have hs:∃ (k:Nat) (Bs2:List (List G9)) (T:List G9),k=20∧Bs2=Bs∧T=R:=⟨20,Bs,R,rfl,rfl,rfl⟩
  have o:=A5 (Z94 a n n (Z46 Bs) R [] v w0 wr Rs (by have h:=HH.out;simpa using h) (by
   obtain ⟨i,d,f⟩:=HE.out
   have h:=x.out
   rw [d] at h;simp [R9] at h⊢;omega) hN2 (by rw [R9];exact HE.out.2.2) (by
   obtain ⟨i,d,f⟩:=HE.out
   have h:=x.out
   rw [d,T00] at h
   rw [T00,R9];exact h))
  go_wp2_with fail
  refine o.out.mono ?_
  rintro e w1 ⟨rfl,b⟩
  rw [T08] at b
  have y:=A5 b
  clear b hs o
  have HT:Hid (R.length < 20):=by
   obtain ⟨i,d,f⟩:=HE.out
   have h:=x.out
   rw [d,T00] at h
   exact A5 (by omega)
  go_wp2
  go_loopg [6] (n+1) (fun k t6 wq=>∃ (z:Nat) (Bs:List (List G9)) (T:List G9),20≤z∧z≤2*n+20∧n-z < k∧t6= .int .i64 (z:Int)∧
   Hid ((∀B∈Bs,B.length=z)∧Z=Bs.flatten++T∧T.length < z)∧Hid (A4 w0 wq (J4 v (Z46 Bs++I4 T)::Rs)))
  case atStart=>exact ⟨20,Bs,R,by omega,by omega,by omega,rfl,A5 ⟨HE.out.1,HE.out.2.1,HT.out⟩,y⟩
  case round=>
   obtain ⟨z,Cs,T,c1,d1,d2,rfl,HF,HJ⟩:=hrel
   obtain ⟨gx,rfl⟩:∃g,g=gk:=⟨gk,rfl⟩
   have h2:(0:Int)≤(z:Int):=T01 _
   by_cases c6:z < n
   rotate_left
   ·have a8:¬(z:Int) < (n:Int):=by omega
    go_wp2
    go_end0
    refine ⟨rfl, ?_⟩
    have h:=HJ.out
    have e:Z46 Cs++I4 T=I4 Z:=by
     obtain ⟨i,d,f⟩:=HF.out
     have h2:=x.out
     rw [d,T00,Z5j z Cs i] at h2
     rw [d]
     match Cs with
     | []=>simp [Z46]
     | [B]=>
      obtain rfl:T=[]:=T03 (by simp at h2;omega)
      simp [Z46,I4,mrg]
     | j::l::Fs=>exfalso;simp [T09] at h2;omega
    rw [e] at h
    exact h
   have a8:(z:Int) < (n:Int):=by omega
   go_wp2
   go_loopg [7,8] (n+1) (fun k t7 t8 wq=>∃ (a:Nat) (Ds Es:List (List G9)),a≤n∧n-a < k∧t7= .int .i64 (a:Int)∧t8= .int .i64 ((a:Int)+2*(z:Int))∧
    Hid ((∀B∈Ds,B.length=2*z)∧(∀B∈Es,B.length=z)∧Z=Ds.flatten++(Es.flatten++T)∧Ds.flatten.length=a)∧Hid (A4 w0 wq (J4 v (Z46 Ds++(Z46 Es++I4 T))::Rs)))
   case atStart=>
    refine ⟨0,[],Cs,by omega,by omega,rfl,by go_num,A5 ⟨by simp,HF.out.1,by simpa using HF.out.2.1,rfl⟩, ?_⟩
    exact HJ
   case round=>
    obtain ⟨c,Ds,Es,d3,d4,rfl,rfl,HG,HK⟩:=hrel
    obtain ⟨gy,rfl⟩:∃g,g=gk:=⟨gk,rfl⟩
    have h3:(0:Int)≤(c:Int):=T01 _
    have s:Hid (c+(z*Es.length+T.length)=n):=by
     obtain ⟨i,d,f,t⟩:=HG.out
     have h:=x.out
     rw [f,T00,T00,t,Z5j z Es d] at h
     exact A5 h
    by_cases hc:c+2*z≤n
    ·have b6:(c:Int)+2*(z:Int)≤(n:Int):=by omega
     obtain ⟨j,l,Fs,rfl⟩:∃j l Fs,Es=j::l::Fs:=by
      have r:=s.out
      have h2:=HF.out.2.2
      match Es with
      | []=>exfalso;simp at r;omega
      | [B]=>exfalso;simp at r;omega
      | j::l::Fs=>exact ⟨j,l,Fs,rfl⟩
     obtain ⟨i,d,f,t⟩:=HG.out
     have b1:=d j (by simp)
     have b2:=d l (by simp)
     have b:=HK.out
     rw [Z8m,Z8m,T02,T02] at b
     have o:=A5 (Y5o (2*z) c (c+z) (c+2*z) n (Z46 Ds) (I4 j) (I4 l) (Z46 Fs++I4 T) v w0 wr Rs b (by
      have h:=x.out
      rw [f] at h
      simp only [T00,R9,J1,T0e] at h⊢;omega) hN2 (by rw [R9];exact t) (by rw [J1,b1]) (by rw [J1,b2];omega) (by omega) (by omega) (Z0z j) (Z0z l) (by omega))
     have p:Hid ((∀B∈Ds++[j++l],B.length=2*z)∧(∀B∈Fs,B.length=z)∧Z=(Ds++[j++l]).flatten++(Fs.flatten++T)∧(Ds++[j++l]).flatten.length=c+2*z):=by
      refine A5 ⟨fun B m=> ?_,fun B m=>d B (T07 _ (T07 _ m)),by rw [f];simp, ?_⟩
      ·rcases List.mem_append.1 m with h | h
       ·exact i B h
       rw [List.mem_singleton.1 h,T00];omega
      rw [T0d,T00,t];simp;omega
     have e1:((c+z:Nat):Int)=(c:Int)+(z:Int):=by omega
     have e2:((c+2*z:Nat):Int)=(c:Int)+2*(z:Int):=by omega
     rw [e1,e2] at o
     clear b i d f t b1 b2 e1 e2
     go_wp2_with fail
     refine o.out.mono ?_
     rintro e w3 ⟨rfl,b⟩
     rw [←Y2e,←T02,←Y93] at b
     have q:=A5 b
     clear b
     go_wp2
     go_roundg (gy-1)
     case measure=>omega
     case rel=>exact ⟨c+2*z,Ds++[j++l],Fs,by omega,by omega,by go_num,by go_num,p,q⟩
    have b6:¬(c:Int)+2*(z:Int)≤(n:Int):=by omega
    obtain ⟨i,d,f,t⟩:=HG.out
    by_cases c7:c+z < n
    ·have b0:(c:Int)+(z:Int) < (n:Int):=by omega
     obtain ⟨B,rfl⟩:∃B,Es=[B]:=by
      have r:=s.out
      have h2:=HF.out.2.2
      match Es with
      | []=>exfalso;simp at r;omega
      | [B]=>exact ⟨B,rfl⟩
      | j::l::Fs=>exfalso;simp [T09] at r;omega
     have b1:=d B (by simp)
     have b3:=s.out
     simp at b3
     have b:=HK.out
     rw [Z8m,T02] at b
     have o:=A5 (Y5o n c (c+z) n n (Z46 Ds) (I4 B) (I4 T) [] v w0 wr Rs (by rw [T08];exact b) (by
      have h:=x.out
      rw [f] at h
      simp only [T00,R9,J1,T0e,List.length_nil,List.flatten_nil] at h⊢;omega) hN2 (by rw [R9];exact t) (by rw [J1,b1]) (by rw [J1];omega) (by omega) (by omega) (Z0z B) (Z0z T) (by omega))
     have p:Hid ((∀B∈Ds,B.length=z*2)∧Z=Ds.flatten++(B++T)∧(B++T).length < z*2):=by
      refine A5 ⟨fun B m=>by rw [i B m];omega,by rw [f];simp, ?_⟩
      have:=HF.out.2.2
      rw [T00];omega
     have e1:((c+z:Nat):Int)=(c:Int)+(z:Int):=by omega
     rw [e1] at o
     clear b i d f t b1 e1 b3
     go_wp2_with fail
     refine o.out.mono ?_
     rintro e w3 ⟨rfl,b⟩
     rw [←Y2e,T08] at b
     have q:=A5 b
     clear b
     go_wp2
     go_roundg (gx-1)
     case measure=>omega
     case rel=>exact ⟨z*2,Ds,B++T,by omega,by omega,by omega,by go_num,p,q⟩
    have b0:¬(c:Int)+(z:Int) < (n:Int):=by omega
    obtain ⟨T2,a4⟩:∃T2,Hid (Es.flatten++T=T2∧Z46 Es++I4 T=I4 T2∧T2.length < z*2):=by
     have r:=s.out
     have h2:=HF.out.2.2
     match Es with
     | []=>exact ⟨T,A5 ⟨by simp,by simp [Z46],by omega⟩⟩
     | [B]=>
      have b1:=d B (by simp)
      simp at r
      obtain rfl:T=[]:=T03 (by omega)
      exact ⟨B,A5 ⟨by simp,by rw [Z8m];simp [Z46,I4,mrg],by omega⟩⟩
     | j::l::Fs=>exfalso;simp [T09] at r;omega
    have p:Hid ((∀B∈Ds,B.length=z*2)∧Z=Ds.flatten++T2∧T2.length < z*2):=by
     refine A5 ⟨fun B m=>by rw [i B m];omega,by rw [f,a4.out.1],a4.out.2.2⟩
    have b:=HK.out
    rw [a4.out.2.1] at b
    have q:=A5 b
    clear b i d f t
    go_wp2
    go_roundg (gx-1)
    case measure=>omega
    case rel=>exact ⟨z*2,Ds,T2,by omega,by omega,by omega,by go_num,p,q⟩
theorem Y16:(Tryz.prog.info? 193).map (fun i=>(i.zero,i.size,i.bytes))=some (some (.agg #[.int .i64 0,.int .i64 0]),2,16):=by kernel_rfl
theorem X27 (n:Nat) (Z:List G9) (v:Value) (w0 w:World) (Rs:List A6) (h:A4 w0 w (J4 v Z::Rs)) (hn:Z.length=n) (hN2:n≤100000):
  Calls Tryz.prog 186 #[v,Y1b] w fun e w'=>e= .returned (.tuple #[])∧A4 w0 w' (J4 v (I4 Z)::Rs):=by
 have a:=A5 (X85 n Z v w0 w Rs h hn hN2)
 obtain ⟨k,g,rfl,b,i⟩:=U1 h
 unfold Y1b at*
 rw [hn] at a b⊢
 clear h hn
 go_enter Tryz.func186,Tryz.ntmps186
 go_wp2_with fail
 refine a.out.mono ?_
 rintro e j ⟨rfl,d⟩
 have f:=A5 d
 clear d a
 go_wp2
 go_end0
 exact ⟨rfl,f⟩
theorem X5m (n:Nat) (Z:List G9) (v:Value) (w0 w:World) (Rs:List A6) (h:A4 w0 w (J4 v Z::Rs)) (hn:Z.length=n) (hN2:n≤100000):
  Calls Tryz.prog 166 #[v] w fun e w'=>e= .returned (.tuple #[])∧A4 w0 w' (J4 v (I4 Z)::Rs):=by
 have a:=A5 (X27 n Z v w0 w Rs h hn hN2)
 clear h hn
 unfold Y1b at*
 go_enter Tryz.func166,Tryz.ntmps166
 go_wp2_with fail
 refine a.out.mono ?_
 rintro e f ⟨rfl,b⟩
 have d:=A5 b
 clear b a
 go_wp2
 go_end0
 exact ⟨rfl,d⟩
theorem W76 (n:Nat) (w0 w:World) (Rs:List A6) (h:A4 w0 w Rs) (hn:0 < n) (hN2:n≤100000):
  Calls Tryz.prog 185 #[.slice none 0 0,.int .i64 (n:Int)] w fun e w'=>∃v,e= .returned v∧A4 w0 w' (J4 v []::Rs):=by
 obtain ⟨i,p,l,m,b⟩:=info_parts Y16
 obtain ⟨G,d⟩:∃G,G=grownCap w (0+n) 0 193:=⟨_,rfl⟩
 have f:∀ty,(Builtin.append_ #[190,3] ty #[.slice none 0 0,.int .i64 (n:Int)]).run Tryz.prog w=
   .ok (.slice (some ⟨w.heap.size,0,none⟩) n G) (w.drew.alloc (.cells (#[]++Builtin.zeroCells (#[.int .i64 0,.int .i64 0]) n++Builtin.zeroCells (#[.int .i64 0,.int .i64 0]) (G-n)) 193)):=fun ty=>by
  have h:=Lib.run_append_grow_zeros w 190 3 ty 193 i (.agg #[.int .i64 0,.int .i64 0]) .i64 .i64 Tryz.underlying190 Tryz.underlying3 p l none 0 0 [] (by simp [Builtin.firstCells]) n hn (by rw [m];decide) (by omega) (by omega) (by rw [b];omega) (growslice_fits (by omega) (by rw [b];omega))
  rw [←d,T04] at h
  exact h
 have o:n≤G:=by rw [d];have:=grownCap_ge w (0+n) 0 193;omega
 have g:G≤maxLen:=by rw [d];exact grownCap_le_maxLen w (0+n) 0 _ (by unfold maxLen;omega)
 have H:=A5 h
 have q:(0:Int)≤(n:Int):=T01 _
 have r:¬(n:Int) < 0:=by omega
 have s:(0:Int) < (n:Int):=by omega
 clear h d
 go_enter Tryz.func185,Tryz.ntmps185
 go_wp2_with (at_builtin;refine Lib.wpList_append_run _ rfl _ _ _ _ rfl _ _ rfl rfl _ _ (f _) ?_)
 go_ret
 refine ⟨_,rfl, ?_⟩
 have a:Own ((w.alloc (.cells (Builtin.zeroCells #[.int .i64 0,.int .i64 0] n++Builtin.zeroCells #[.int .i64 0,.int .i64 0] (G-n)) 193)).drew) 193 2 (.slice (some ⟨w.heap.size,0,none⟩) 0 G) 0 []:=
  ⟨rfl,.inr ⟨w.heap.size,0,G,_,rfl,heap_alloc_new w _,Nat.zero_le _,g,by simp [size_zeroCells];omega,fun j u hu=>by simp at hu⟩⟩
 exact H.out.pushOwn a (((E2.refl w _).alloc _).drew) (fun k hk=>by simp [Value.ownBlock] at hk;omega)
theorem X8k (n m B:Nat) (X Y:List G9) (x y:Value) (w0 w:World) (Rs:List A6) (h:A4 w0 w (B0 190 1 (.slice (some ⟨B,0,none⟩) 2 2) 2 [x,y]::J4 x X::J4 y Y::Rs)) (hn:X.length=n) (hm:Y.length=m) (hn0:0 < n) (hN2:n+m≤100000):
  Calls Tryz.prog 165 #[.slice (some ⟨B,0,none⟩) 2 2] w fun e w'=>∃v,e= .returned v∧A4 w0 w' (J4 v (X++Y)::B0 190 1 (.slice (some ⟨B,0,none⟩) 2 2) 2 [x,y]::J4 x X::J4 y Y::Rs):=by
 obtain ⟨i0,hi,a3,a4,a5⟩:=info_parts Y16
 obtain ⟨xo,xc,rfl,b4,c7⟩:=U1 h.swap
 obtain ⟨yo,yc,rfl,b5,c8⟩:=U1 h.third
 rw [hn] at h b4⊢
 rw [hm] at h b5⊢
 have HL:Hid (X.length=n∧Y.length=m):=A5 ⟨hn,hm⟩
 have H:=A5 h
 have h0:(0:Int)≤(n:Int):=T01 _
 have p:(0:Int)≤(m:Int):=T01 _
 clear h hn hm
 go_enter Tryz.func165,Tryz.ntmps165
 go_wp2
 go_loopg [3,11] 3 (fun k t3 t11 wr=>∃ (i s:Nat),i≤2∧2-i < k∧t11= .int .i64 (i:Int)∧t3= .int .i64 (s:Int)∧Hid ((i=0∧0=s)∨(i=1∧n=s)∨(i=2∧n+m=s))∧wr=w)
 case atStart=>exact ⟨0,0,by omega,by omega,rfl,rfl,A5 (.inl ⟨rfl,rfl⟩),rfl⟩
 case round=>
  obtain ⟨i,s,b6,hk,rfl,rfl,HS,rfl⟩:=hrel
  obtain ⟨g,b7,hg,a,z,_⟩:=H.out.own.site (by omega)
  simp only [Option.some.injEq,Addr.mk.injEq,and_true] at hg
  obtain ⟨rfl,rfl⟩:=hg
  have c0:=a 0 _ rfl
  have c1:=a 1 _ rfl
  simp only [T04] at c0 c1
  clear a z
  rcases HS.out with ⟨rfl,rfl⟩ | ⟨rfl,rfl⟩ | ⟨rfl,rfl⟩
  ·go_wp2
   go_roundg (gk-1)
   case measure=>omega
   case rel=>exact ⟨1,n,by omega,by omega,by go_num,by go_num,A5 (.inr (.inl ⟨rfl,rfl⟩)),rfl⟩
  ·go_wp2
   go_roundg (gk-1)
   case measure=>omega
   case rel=>exact ⟨2,n+m,by omega,by omega,by go_num,by go_num,A5 (.inr (.inr ⟨rfl,rfl⟩)),rfl⟩
  have HG:=A5 (W76 (n+m) w0 wr _ H.out (by omega) hN2)
  go_wp2_with fail
  refine HG.out.mono ?_
  rintro e w1 ⟨v,rfl,hh⟩
  have HH:=A5 hh
  clear hh HG c0 c1
  go_wp2
  go_loopg [6,27] 3 (fun k t6 t27 wq=>∃ (i L:Nat) (ao:Option Addr) (d:Nat) (Z:List G9),i≤2∧2-i < k∧t27= .int .i64 (i:Int)∧t6= .slice ao L d∧Hid (L=Z.length∧((i=0∧Z=[])∨(i=1∧Z=X)∨(i=2∧Z=X++Y)))∧
   Hid (A4 w0 wq (B0 193 2 (.slice ao L d) L (J3 Z)::B0 190 1 (.slice (some ⟨B,0,none⟩) 2 2) 2 [.slice xo n xc,.slice yo m yc]::J4 (.slice xo n xc) X::J4 (.slice yo m yc) Y::Rs)))
  case atStart=>
   obtain ⟨ao,d,rfl,_,_⟩:=U1 HH.out
   exact ⟨0,0,ao,d,[],by omega,by omega,rfl,rfl,A5 ⟨rfl,.inl ⟨rfl,rfl⟩⟩,HH⟩
  case round=>
   obtain ⟨i,L,ao,d,Z,b6,d0,rfl,rfl,HZ,HJ⟩:=hrel
   obtain ⟨g,b7,hg,a,z,_⟩:=HJ.out.swap.own.site (by omega)
   simp only [Option.some.injEq,Addr.mk.injEq,and_true] at hg
   obtain ⟨rfl,rfl⟩:=hg
   have c0:=a 0 _ rfl
   have c1:=a 1 _ rfl
   simp only [T04] at c0 c1
   clear a z
   obtain ⟨o,f⟩:=HZ.out
   have c6:L≤n+m:=by
    have:=HL.out
    rcases f with ⟨_,rfl⟩ | ⟨_,rfl⟩ | ⟨_,rfl⟩
    ·rw [o];simp
    ·omega
    rw [o];simp;omega
   rcases f with ⟨rfl,f⟩ | ⟨rfl,f⟩ | ⟨rfl,f⟩
   ·have q:Hid (Rd wr 2 (.slice xo n xc) n (J3 X)):=by
     have h:=HJ.out.third.own.rd
     rw [HL.out.1] at h
     exact A5 h
    have b:Hid (J3 Z++J3 X=J3 (X)∧0+n=(X).length):=by
     rw [f]
     have:=HL.out
     refine A5 ⟨by simp [J3], ?_⟩
     simp;omega
    have r:L=0:=by rw [o,f];rfl
    clear f o HZ
    subst r
    go_wp2_with ((with_reducible show wpList _ _ _ (⟨some 33,_,_,_,_,_⟩::_) _ _);refine D4 rfl (.tmp 31) (.tmp 32) 190 rfl 193 i0 (.agg #[.int .i64 0,.int .i64 0]) 2 16 Tryz.underlying190 hi a3 a4 a5 rfl (by decide) _ _ (J3 Z) rfl HJ.out _ n (J3 X) rfl q.out (Y03 X) (0+n) rfl (by unfold maxLen;omega) (by omega) ?_;intro t j w1 p;rw [b.out.1] at p;have l:=A5 p;clear p)
    go_roundg (gk-1)
    case measure=>omega
    case rel=>exact ⟨1,n,t,j,X,by omega,by omega,by go_num,rfl,A5 ⟨by have:=b.out.2;omega,.inr (.inl ⟨rfl,rfl⟩)⟩,by rw [T04] at l;exact l⟩
   ·have q:Hid (Rd wr 2 (.slice yo m yc) m (J3 Y)):=by
     have h:=HJ.out.fourth.own.rd
     rw [HL.out.2] at h
     exact A5 h
    have b:Hid (J3 Z++J3 Y=J3 (X++Y)∧n+m=(X++Y).length):=by
     rw [f]
     have:=HL.out
     refine A5 ⟨by simp [J3], ?_⟩
     simp;omega
    have r:n=L:=by rw [o,f];exact HL.out.1.symm
    clear f o HZ
    subst r
    go_wp2_with ((with_reducible show wpList _ _ _ (⟨some 33,_,_,_,_,_⟩::_) _ _);refine D4 rfl (.tmp 31) (.tmp 32) 190 rfl 193 i0 (.agg #[.int .i64 0,.int .i64 0]) 2 16 Tryz.underlying190 hi a3 a4 a5 rfl (by decide) _ _ (J3 Z) rfl HJ.out _ m (J3 Y) rfl q.out (Y03 Y) (n+m) rfl (by unfold maxLen;omega) (by omega) ?_;intro t j w1 p;rw [b.out.1] at p;have l:=A5 p;clear p)
    go_roundg (gk-1)
    case measure=>omega
    case rel=>exact ⟨2,n+m,t,j,X++Y,by omega,by omega,by go_num,rfl,A5 ⟨b.out.2,.inr (.inr ⟨rfl,rfl⟩)⟩,l⟩
   have b:Hid (A4 w0 wr (J4 (.slice ao L d) (X++Y)::B0 190 1 (.slice (some ⟨B,0,none⟩) 2 2) 2 [.slice xo n xc,.slice yo m yc]::J4 (.slice xo n xc) X::J4 (.slice yo m yc) Y::Rs)):=by
    have h:=HJ.out
    rw [f] at h o
    unfold J4
    rw [←o]
    exact A5 h
   clear f o HZ HJ
   go_wp2
   go_ret
   exact ⟨_,rfl,b⟩
end Go.Proofs.YtbkbkmgogbgofaaGreatDoor
