/- The claim's texts, put together and shortened by a program (names, spaces). -/
import Derived.Test.YtbkbkmgogbgofaaGreatDoorZt06
import Derived.Test.YtbkbkmgogbgofaaGreatDoorZt33
import Derived.Test.YtbkbkmgogbgofaaGreatDoorZt05
import Derived.Test.YtbkbkmgogbgofaaGreatDoorZt04
import Derived.Deep.DeepCutAuto
import Derived.Deep.CutBlock
import Derived.Test.YtbkbkmgogbgofaaGreatDoorZt17
import Derived.Test.YtbkbkmgogbgofaaGreatDoorZt16
import Derived.Test.YtbkbkmgogbgofaaGreatDoorZt03
import Derived.Test.YtbkbkmgogbgofaaGreatDoorZt18
import Derived.Test.YtbkbkmgogbgofaaGreatDoorZt32
open List renaming length_append→T01,mem_cons_of_mem→T02,perm_middle→T03,mem_cons_self→T04,length_singleton→T05,length_drop→T06,getElem?_eq_getElem→T07,getElem?_map→T08,eq_nil_of_length_eq_zero→T09,set_cons_succ→T0a,getElem?_cons_succ→T0c,mem_or_eq_of_mem_set→T0d,cons_append→T0e
open Nat renaming add_sub_cancel_left→T0b
open Int renaming natCast_nonneg→T00
namespace Go.Proofs.YtbkbkmgogbgofaaGreatDoor
set_option maxRecDepth 100000
set_option maxHeartbeats 6400000
open Go.RowKit
section
variable {w0 w:World} {Rs:List A6}
theorem A4.builtR {w0 w w':World} {v:Value} {l:List Nat} {Rs:List A6} (h:A4 w0 w Rs) (hb:Z6t w w' v l):A4 w0 w' (B0 5 1 v l.length (D7 l)::Rs):=h.pushOwn hb.1 hb.2.1 hb.2.2
theorem A4.nilN (h:A4 w0 w Rs) (e:TypeId) (size:Nat):A4 w0 w (B0 e size (.slice none 0 0) 0 []::Rs):=h.nil e size
theorem A4.nth5 {R1 R2 R3 R4 R5:A6} (h:A4 w0 w (R1::R2::R3::R4::R5::Rs)):A4 w0 w (R5::R1::R2::R3::R4::Rs):=h.perm (T03 (l₁:=[R1,R2,R3,R4]))
theorem A4.nth6 {R1 R2 R3 R4 R5 R6:A6} (h:A4 w0 w (R1::R2::R3::R4::R5::R6::Rs)):A4 w0 w (R6::R1::R2::R3::R4::R5::Rs):=h.perm (T03 (l₁:=[R1,R2,R3,R4,R5]))
theorem A4.nth7 {R1 R2 R3 R4 R5 R6 R7:A6} (h:A4 w0 w (R1::R2::R3::R4::R5::R6::R7::Rs)):A4 w0 w (R7::R1::R2::R3::R4::R5::R6::Rs):=h.perm (T03 (l₁:=[R1,R2,R3,R4,R5,R6]))
def Y3z (l:List Nat):List Value:=D2 (l.map fun (x:Nat)=>(x:Int))
theorem X0g (a:List Nat) (b:Nat):Y3z (a++[b])=Y3z a++D2 [(b:Int)]:=by unfold Y3z;rw [List.map_append,T4];rfl
def Y70 (w0 w:World) (Rs:List A6) (B:Nat) (bo:Option Addr) (bc m M:Nat) (all:List Nat) (e a rest:Nat) (O:List Nat) (T:List E1) (ks ss:List Nat):Prop:=
 ∃ (oo:Option Addr) (oc k:Nat) (ko:Option Addr) (kc nk:Nat) (so:Option Addr) (sc ns:Nat) (tt:Option Addr) (tc nt:Nat) (li di lc dc:Value),k=O.length∧nk=ks.length∧ns=ss.length∧nt=T.length∧
  A4 w0 w (S0 B (.slice oo k oc) e (.int .i64 (rest:Int)) (.slice ko nk kc) (.slice so ns sc) (.slice bo m bc) a (M:Int) li di lc dc (.slice tt nt tc)::rdT 1 (.slice bo m bc) m (D7 all)::
   B0 5 1 (.slice oo k oc) k (D7 O)::B0 3 1 (.slice ko nk kc) nk (Y3z ks)::B0 3 1 (.slice so ns sc) ns (Y3z ss)::B0 112 3 (.slice tt nt tc) nt (I5 T)::Rs)
theorem W7p {w':World} {Rz:List A6} {S:Nat×Nat×List Nat×List E1} {B:Nat} {ko so bo:Option Addr} {nk kc ns sc bc m M nl nd:Nat} {li di:Value} {lit dist:List Int} {all ks ss:List Nat}
  (h:V1w w0 w' (B0 3 1 (.slice ko nk kc) nk (Y3z ks)::B0 3 1 (.slice so ns sc) ns (Y3z ss)::Rz) S B (.int .i64 ((0:Nat):Int)) (.slice ko nk kc) (.slice so ns sc) bo bc m M nl nd li di lit dist all) (hk:nk=ks.length) (hs:ns=ss.length):
  ∃a',(S.1=0→a'=S.2.1)∧Y70 w0 w' Rz B bo bc m M all S.1 a' 0 S.2.2.1 S.2.2.2 ks ss:=by
 obtain ⟨a,b,k,a',d,f,g,i,j,l,n,o,p⟩:=h
 exact ⟨a',o,a,b,k,ko,kc,nk,so,sc,ns,d,f,g,li,di,i,j,l,hk,hs,n,p.third.drop.third.drop.fourth.drop.fourth.nth6.nth6.nth6.nth6.nth6⟩
theorem Y1o:(∀y∈I0,0≤y∧y≤15)∧(∀y∈G7,0≤y∧y≤15)∧I0.length=288∧G7.length=32:=by decide+kernel
theorem A4.k4 {R1 R2 R3 R4:A6} (h:A4 w0 w (R1::R2::R3::R4::Rs)):A4 w0 w (R1::R3::R4::R2::Rs):=h.perm (List.Perm.cons _ (T03 (l₁:=[R3,R4])).symm)
theorem A4.s5 {R1 R2 R3 R4 R5:A6} (h:A4 w0 w (R1::R2::R3::R4::R5::Rs)):A4 w0 w (R1::R3::R4::R5::R2::Rs):=h.perm (List.Perm.cons _ (T03 (l₁:=[R3,R4,R5])).symm)
def V5o (w0 w':World) (Rs:List A6) (S:W34) (B:Nat) (bits:List Nat) (M:Nat):Prop:=∃ (bo:Option Addr) (bc m a':Nat),m=bits.length∧Y70 w0 w' Rs B bo bc m M bits S.e a' S.rest S.out S.tk S.kinds S.stops
theorem X7y {Rz:List A6} (v:Value) (l:List Nat) (mo:Int)
  (h:A4 w0 w Rz) (hrd:Rd w 1 v l.length (D7 l)) (hb:∀b∈l,b < 256) (hl:l.length < 480000) (hmo:mo < 1000000000) (hmo2: -1000000000 < mo):
  Calls Tryz.prog 22 #[v,.int .i64 mo] w fun e' w'=>∃B,e'= .returned (S3 B)∧V5o w0 w' Rz (S7 (D6 l) mo.toNat ((D6 l).length+1) 0 [] [] [] []) B (D6 l) mo.toNat:=by
 obtain ⟨i0,l0,l1,l2,l3⟩:=info_parts Y2w
 have H:=A5 h
 have j2:=A5 (W83 v l w hrd hb (by omega))
 obtain ⟨M,hM⟩:∃M,M=mo.toNat:=⟨_,rfl⟩
 rw [←hM]
 obtain ⟨m,hm⟩:∃m,m=(D6 l).length:=⟨_,rfl⟩
 have t6:m≤3840000:=by rw [hm,E4];omega
 rw [←hm]
 have n:Hid (isBits (D6 l)):=A5 (M7 l)
 have f2:(D6 l).length=m:=hm.symm
 generalize D6 l=all at*
 generalize hS:S7 all M (m+1) 0 [] [] [] []=S
 have HS:=A5 hS
 have s:=A5 hm
 have j3:Hid ((mo < 0→(0:Int)=(M:Int))∧(¬mo < 0→mo=(M:Int))∧M < 1000000000):=A5 ⟨fun h=>by omega,fun h=>by omega,by omega⟩
 have t8:M < 1000000000:=by omega
 clear h hrd hS hm hb hl hmo hmo2 hM
 go_enter Tryz.func22,Tryz.ntmps22
 go_wp2_with fail
 refine j2.out.mono ?_
 rintro e' w1 ⟨v1,rfl,g5⟩
 have h1:=H.out.builtR g5
 rw [f2] at h1
 obtain ⟨bo,bc,g9,_,_⟩:=g5.1.form
 subst g9
 rw [f2] at h1⊢
 have H1:=A5 h1
 clear j2 g5 h1
 have b8:∀wl (mv:Int),A4 w0 wl (E7 w1.heap.size [.slice none 0 0,.int .i64 0,.int .i64 0,.slice none 0 0,.slice none 0 0,.slice bo m bc,.int .i64 0,.int .i64 mv,.slice none 0 0,.slice none 0 0,.slice none 0 0,.slice none 0 0,.slice none 0 0] 56::B0 5 1 (.slice bo m bc) m (D7 all)::Rz)→mv=(M:Int)→
   Y70 w0 wl Rz w1.heap.size bo bc m M all 0 0 0 [] [] [] []:=fun wl mv p hmv=>by
  subst hmv
  have h2:=((((p.swap.toRd.swap.nilN 112 3).third.third.nilN 3 1).third.third.nilN 3 1).third.third.nilN 5 1).third.third
  exact ⟨none,0,0,none,0,0,none,0,0,none,0,0,.slice none 0 0,.slice none 0 0,.slice none 0 0,.slice none 0 0,rfl,rfl,rfl,rfl,h2⟩
 have t:=A5 b8
 have d8:=A5 (H1.out.newObj [.slice none 0 0,.int .i64 0,.int .i64 0,.slice none 0 0,.slice none 0 0,.slice bo m bc,.int .i64 0,.int .i64 mo,.slice none 0 0,.slice none 0 0,.slice none 0 0,.slice none 0 0,.slice none 0 0] 56)
 have f7:=d8.out.obj.frozen 7
 have c7:=d8.out.obj.cell (i:=7) rfl
 clear b8
 go_upto_if 15 with (fail)
 go_cut [5] (fun s5 wx=>s5= .pointer (some ⟨w1.heap.size,0,none⟩)∧Hid (Y70 w0 wx Rz w1.heap.size bo bc m M all 0 0 0 [] [] [] []))
 case first=>
  by_cases f3:mo < 0
  ·go_wp2
   go_meet
   case rel=>exact ⟨rfl,A5 (t.out _ 0 (H1.out.newObj [.slice none 0 0,.int .i64 0,.int .i64 0,.slice none 0 0,.slice none 0 0,.slice bo m bc,.int .i64 0,.int .i64 0,.slice none 0 0,.slice none 0 0,.slice none 0 0,.slice none 0 0,.slice none 0 0] 56) (j3.out.1 f3))⟩
  go_wp2
  go_meet
  case rel=>exact ⟨rfl,A5 (t.out _ mo d8.out (j3.out.2.1 f3))⟩
 case rest=>
  obtain ⟨rfl,HI⟩:=hcut
  clear d8 t f7 c7 H1 H
  generalize w1.heap.size=B at*
  go_wp2
  go_loopg [] (m+2) (fun g wr=>∃ (a f:Nat) (O:List Nat) (T:List E1) (ks ss:List Nat),a≤m∧m-a < f∧f < g∧Hid (O.length≤M∧O.length≤258*a∧T.length≤a∧ks.length≤a∧ss.length=ks.length∧S=S7 all M f a O T ks ss)∧Hid (Y70 w0 wr Rz B bo bc m M all 0 a 0 O T ks ss))
  case atStart=>exact ⟨0,m+1,[],[],[],[],by omega,by omega,by omega,A5 ⟨by simp,by simp,by simp,by simp,rfl,HS.out.symm⟩,HI⟩
  case round=>
   obtain ⟨a,f,O,T,ks,ss,v8,hf,hg,HO,HQ⟩:=hrel
   obtain ⟨f',rfl⟩:∃f',f=f'+1:=⟨f-1,by omega⟩
   obtain ⟨oo,oc,k,ko,kc,nk,so,sc,ns,tt,tc,nt,li,di,lc,dc,z,e5,e6,e7,hq⟩:=HQ.out
   cases ht:I7 all a 3 with
   | none=>
    have hT:=Z52 B (.slice oo k oc) 0 (.int .i64 ((0:Nat):Int)) (.slice ko nk kc) (.slice so ns sc) bo bc m a 3 (M:Int) li di lc dc (.slice tt nt tc) all hq ht (by omega) (by decide)
    rw [show ((3:Nat):Int)=3 from rfl] at hT
    unfold S3 at hT
    have HT:=A5 hT
    have b9:Hid (S=⟨5,a,O,T,ks,ss,0⟩):=A5 (by rw [HO.out.2.2.2.2.2,Z0q (X15 ht)])
    have x:=A5 (And.intro z (And.intro e5 (And.intro e6 e7)))
    clear hT ht hq z e5 e6 e7
    go_wp2_with fail
    refine HT.out.mono ?_
    rintro e' w6 ⟨rfl,p⟩
    have H6:=A5 p
    clear p HT HQ
    go_wp2
    go_ret
    refine ⟨B,rfl,bo,bc,m,a,s.out, ?_⟩
    rw [b9.out]
    exact ⟨oo,oc,k,ko,kc,nk,so,sc,ns,tt,tc,nt,li,di,lc,dc,x.out.1,x.out.2.1,x.out.2.2.1,x.out.2.2.2,H6.out⟩
   | some v3=>
    obtain ⟨l5,l6⟩:=M1 ht
    have u1:v3 < 8:=by rw [l6];exact L6 n.out a 3
    have hT:=X9 B (.slice oo k oc) 0 (.int .i64 ((0:Nat):Int)) (.slice ko nk kc) (.slice so ns sc) bo bc m a 3 v3 (M:Int) li di lc dc (.slice tt nt tc) all hq ht n.out (by omega) (by decide)
    rw [show ((3:Nat):Int)=3 from rfl] at hT
    unfold S3 at hT
    have HT:=A5 hT
    have f9:=A5 ht
    have j6:a+3≤m:=by rw [s.out];exact l5
    obtain ⟨d,g6⟩:∃d,d=v3 / 2:=⟨_,rfl⟩
    obtain ⟨fl,g7⟩:∃fl,fl=v3%2:=⟨_,rfl⟩
    have q4:(v3:Int) / 2=(d:Int):=by omega
    have q5:(v3:Int)%2=(fl:Int):=by omega
    have q6:(v3:Int).tdiv 2=(d:Int):=by rw [g6];rfl
    have q8:(v3:Int).tmod 2=(fl:Int):=by rw [g7];rfl
    have q9:d < 4:=by omega
    have r0:fl < 2:=by omega
    have r1:(0:Int)≤(d:Int):=T00 _
    have r2:(0:Int)≤(v3:Int):=T00 _
    have a4:=A5 (And.intro g6 g7)
    have r3:nk≤3840000:=by have:=HO.out.2.2.2.1;omega
    have x:=A5 (And.intro z (And.intro e5 (And.intro e6 e7)))
    clear hT ht l5 l6 g6 g7 hq z e5 e6 e7
    go_wp2_with fail
    refine HT.out.mono ?_
    rintro e' w6 ⟨rfl,p⟩
    have b1:=p.obj
    have d3:=b1.cell (i:=3) rfl
    have H6:=A5 p
    clear p HT HQ b1
    go_upto_block 2 with (refine D4 rfl (.tmp 33) (.tmp 35) 52 rfl 3 i0 (.int .i64 0) 1 8 Tryz.underlying52 l0 l1 l2 l3 rfl (by decide) _ nk _ rfl (H6.out.fourth.alloc _) _ 1 (D2 [(d:Int)]) rfl (Rd.lit _ [_] _ 1 1 (by decide) rfl) (S6 _) (nk+1) rfl (by unfold maxLen;omega) (by omega) ?_;intro e8 y w7 h7;rw [←X0g] at h7;have b1:=h7.swap.obj;have e3:=b1.cell (i:=3) rfl;have g3:=b1.frozen 3;have H7:=A5 ((h7.swap).setObj 3 (.slice e8 (nk+1) y));clear h7 b1)
    go_cut [7] (fun s7 wx=>∃ (bq:Bool) (e a2 a3:Nat) (O2:List Nat) (T2:List E1),s7= .bool bq∧Hid (bq=decide (e=0))∧Hid (I8 all M d (a+3) O T=(e,a3,O2,T2)∧(e=0→a2=a3))∧Hid (Y70 w0 wx Rz B bo bc m M all e a2 0 O2 T2 (ks++[d]) ss))
    case first=>
     have H8:=A5 H7.out.k4
     have u2:k≤258*a:=by have:=HO.out;have:=x.out;omega
     have r7:nt≤a:=by have:=HO.out;have:=x.out;omega
     have j7:k≤M:=by have:=HO.out;have:=x.out;omega
     have c0:Hid (nk+1=(ks++[d]).length):=A5 (by rw [T01,←x.out.2.1];rfl)
     clear H7 H6 d3 e3 g3
     have n6:d=0∨d=1∨d=2∨d=3:=by omega
     rcases n6 with z | z | z | z
     ·have q0:((d:Int)==0)=true:=by rw [z];rfl
      have hs:=X84 B oo oc k _ _ _ bo bc m (a+3) M li di lc dc (.slice tt nt tc) all O H8.out n.out (by omega) (by omega) (by omega)
      unfold S3 at hs
      obtain ⟨qe,qa,qo,hq⟩:∃qe qa qo,N7 all M (a+3) O=(qe,qa,qo):=⟨_,_,_,rfl⟩
      rw [hq] at hs
      have a5:=A5 hs
      have q:Hid (I8 all M d (a+3) O T=(qe,qa,qo,T)):=A5 (by unfold I8;rw [if_pos z,hq])
      clear hs hq z H8
      go_wp2_with fail
      refine a5.out.mono ?_
      rintro e' w8 ⟨rfl,o7,o8,k',a',h1,h2,p⟩
      have HX:=A5 (And.intro h1 (And.intro h2 p))
      clear h1 h2 p a5
      go_wp2
      go_meet
      case rel=>exact ⟨_,qe,a',qa,qo,T,rfl,A5 rfl,A5 ⟨q.out,HX.out.2.1⟩,A5 ⟨o7,o8,k',e8,y,nk+1,so,sc,ns,tt,tc,nt,li,di,lc,dc,HX.out.1,c0.out,x.out.2.2.1,x.out.2.2.2,HX.out.2.2⟩⟩
     ·have q0:((d:Int)==0)=false:=by simp;omega
      have q1:((d:Int)==1)=true:=by rw [z];rfl
      have HF:=A5 (W5o B _ _ _ _ _ _ _ _ _ _ _ _ _ H8.out)
      unfold S3 at HF
      have q:Hid (I8 all M d (a+3) O T=Z1x I0 G7 all M (m+1) (a+3) O T):=A5 (by unfold I8;rw [if_neg (by omega),if_pos z,s.out])
      clear z H8
      go_wp2_with fail
      refine HF.out.mono ?_
      rintro e' w8 ⟨rfl,c4,c5,p⟩
      have hs:=Y7q B oo oc k _ _ _ bo bc m (a+3) M c4 c5 lc dc tt nt tc 288 32 I0 G7 all O T p.nth6.nth6.nth7.nth5.nth7.nth7.nth7 n.out (by omega) (by omega) j7 (by omega) (by omega) Y1o.2.2.1.symm Y1o.2.2.2.symm (by omega) (by omega) Y1o.1 Y1o.2.1
      unfold S3 at hs
      rw [←q.out] at hs
      have a5:=A5 hs
      clear hs p HF
      go_wp2_with fail
      refine a5.out.mono ?_
      rintro e' w9 ⟨rfl,c6⟩
      obtain ⟨a',h3,hi⟩:=W7p c6 c0.out x.out.2.2.1
      have HX:=A5 (And.intro h3 hi)
      clear c6 h3 hi a5
      go_wp2
      go_meet
      case rel=>exact ⟨_,(I8 all M d (a+3) O T).1,a',(I8 all M d (a+3) O T).2.1,(I8 all M d (a+3) O T).2.2.1,(I8 all M d (a+3) O T).2.2.2,rfl,A5 rfl,A5 ⟨rfl,HX.out.1⟩,A5 HX.out.2⟩
     ·have q0:((d:Int)==0)=false:=by simp;omega
      have q1:((d:Int)==1)=false:=by simp;omega
      have q2:((d:Int)==2)=true:=by rw [z];rfl
      have hd:=X4o B (.slice oo k oc) _ _ _ bo bc m (a+3) M li di lc dc (.slice tt nt tc) all H8.out n.out (by omega) (by omega)
      unfold S3 at hd
      have q:Hid (I8 all M d (a+3) O T=if (Q2 all (a+3)).1≠0 then ((Q2 all (a+3)).1,(Q2 all (a+3)).2.1,O,T) else Z1x (Q2 all (a+3)).2.2.1 (Q2 all (a+3)).2.2.2 all M (m+1) (Q2 all (a+3)).2.1 O T):=A5 (by unfold I8;rw [if_neg (by omega),if_neg (by omega),if_pos z,s.out])
      have j:(Q2 all (a+3)).1=0→_:=fun h=>Y3a h
      obtain ⟨de,da,dl,dd,l9⟩:∃de da dl dd,Q2 all (a+3)=(de,da,dl,dd):=⟨_,_,_,_,rfl⟩
      rw [l9] at hd q j
      have HD:=A5 hd
      have HG:=A5 j
      clear z H8 hd l9 j
      by_cases a7:de=0
      ·subst a7
       have j:=HG.out rfl
       have c3:Hid (I8 all M d (a+3) O T=Z1x dl dd all M (m+1) da O T):=A5 (by rw [q.out,if_neg (fun h=>h rfl)])
       have b2:Hid (Calls Tryz.prog 39 #[.pointer (some ⟨B,0,none⟩)] _ fun e' w'=>e'= .returned (.bool true)∧_):=HD
       clear q HD
       go_wp2_with fail
       refine b2.out.mono ?_
       rintro e' w8 ⟨rfl,a7⟩
       rcases a7 with ⟨_,c4,c5,p⟩ | ⟨hne,_⟩
       rotate_left
       ·exact absurd rfl hne
       have hs:=Y7q B oo oc k _ _ _ bo bc m da M c4 c5 lc dc tt nt tc dl.length dd.length dl dd all O T p.nth6.nth6.nth7.nth6.nth7.nth7.nth7 n.out (by have:=j.2.1;have:=s.out;omega) (by omega) j7 (by have:=j.1;omega) (by have:=j.1;omega) rfl rfl j.2.2.1 j.2.2.2.1 j.2.2.2.2.1 j.2.2.2.2.2
       unfold S3 at hs
       rw [←c3.out] at hs
       have a5:=A5 hs
       clear hs p j b2 HG
       go_wp2_with fail
       refine a5.out.mono ?_
       rintro e' w9 ⟨rfl,c6⟩
       obtain ⟨a',h3,hi⟩:=W7p c6 c0.out x.out.2.2.1
       have HX:=A5 (And.intro h3 hi)
       clear c6 h3 hi a5
       go_wp2
       go_meet
       case rel=>exact ⟨_,(I8 all M d (a+3) O T).1,a',(I8 all M d (a+3) O T).2.1,(I8 all M d (a+3) O T).2.2.1,(I8 all M d (a+3) O T).2.2.2,rfl,A5 rfl,A5 ⟨rfl,HX.out.1⟩,A5 HX.out.2⟩
      have c3:Hid (I8 all M d (a+3) O T=(de,da,O,T)):=A5 (by rw [q.out,if_pos a7])
      have j8:decide (de=0)=false:=decide_eq_false a7
      have g0:=A5 a7
      have b2:=A5 HD.out
      simp only [j8] at b2
      clear q HD HG j8 a7
      go_wp2_with fail
      refine b2.out.mono ?_
      rintro e' w8 ⟨rfl,o9⟩
      rcases o9 with ⟨h0,_⟩ | ⟨_,a',c4,c5,p⟩
      ·exact absurd h0 g0.out
      have HX:=A5 p
      clear p b2
      go_wp2
      go_meet
      case rel=>exact ⟨false,de,a',da,O,T,rfl,A5 (decide_eq_false g0.out).symm,A5 ⟨c3.out,fun h=>absurd h g0.out⟩,A5 ⟨oo,oc,k,e8,y,nk+1,so,sc,ns,tt,tc,nt,c4,c5,lc,dc,x.out.1,c0.out,x.out.2.2.1,x.out.2.2.2,HX.out⟩⟩
     have q0:((d:Int)==0)=false:=by simp;omega
     have q1:((d:Int)==1)=false:=by simp;omega
     have q2:((d:Int)==2)=false:=by simp;omega
     have q:Hid (I8 all M d (a+3) O T=(2,a+3,O,T)):=A5 (by unfold I8;rw [if_neg (by omega),if_neg (by omega),if_neg (by omega)])
     have g1:=H8.out.obj.frozen 1
     have e1:=H8.out.obj.cell (i:=1) rfl
     clear z
     go_wp2
     go_meet
     case rel=>exact ⟨false,2,a+3,a+3,O,T,rfl,A5 rfl,A5 ⟨q.out,fun h=>rfl⟩,A5 ⟨oo,oc,k,e8,y,nk+1,so,sc,ns,tt,tc,nt,li,di,lc,dc,x.out.1,c0.out,x.out.2.2.1,x.out.2.2.2,H8.out.setObj 1 (.int .i64 2)⟩⟩
    case rest=>
     obtain ⟨bq,e,a2,a3,O2,T2,rfl,m1,b3,h8⟩:=hcut
     clear H7 H6 d3 e3 g3
     have u4:=A5 HO.out
     cases bq with
     | false=>
      have he:e≠0:=of_decide_eq_false m1.out.symm
      have b9:Hid (S=⟨e,a3,O2,T2,ks++[d],ss,0⟩):=A5 (by
       rw [HO.out.2.2.2.2.2,a4.out.1]
       exact Z0q (Y2t f9.out (by rw [←a4.out.1];exact b3.out.1) he))
      clear he
      go_wp2
      go_ret
      refine ⟨B,rfl,bo,bc,m,a2,s.out, ?_⟩
      rw [b9.out]
      exact h8.out
     | true=>
      have he:e=0:=of_decide_eq_true m1.out.symm
      subst he
      have j9:a2=a3:=b3.out.2 rfl
      subst j9
      have j:=Y4g (kind:=d) (out:=O) (tk:=T) (M:=M) (a:=a+3) n.out (by rw [←s.out];exact j6) HO.out.1 (by rw [b3.out.1])
      rw [b3.out.1] at j
      have k0:Hid (a+3≤a2∧a2≤m∧O2.length≤O.length+258*(a2- (a+3))∧T2.length≤T.length+(a2- (a+3))∧O2.length≤M):=A5 (by rw [s.out];exact j)
      obtain ⟨po,pc,pk,ro,rc,rn,uo,uc,un,xo,xc,xn,h9,i1,i2,i3,h1,h2,h3,h4,p⟩:=h8.out
      have r:=A5 (And.intro h1 (And.intro h2 (And.intro h3 h4)))
      have r9:un≤3840000:=by have:=HO.out.2.2.2.1;have:=HO.out.2.2.2.2.1;omega
      have s1:(0:Int)≤(pk:Int):=T00 _
      have H9:=A5 p
      have e2:=p.obj
      have s0:=e2.cell (i:=0) rfl
      have s4:=e2.cell (i:=4) rfl
      have e4:=A5 e2
      have k1:=A5 p.nth5.swap.apart
      clear j h1 h2 h3 h4 p e2
      have o1:∀o,(wc.alloc o).cell? ⟨B,0,none⟩=some (.slice po pk pc):=fun o=>(e4.out.alloc o).cell (i:=0) rfl
      have o2:∀o,(wc.alloc o).cell? ⟨B,4,none⟩=some (.slice uo un uc):=fun o=>(e4.out.alloc o).cell (i:=4) rfl
      go_upto_region 21 with (fail)
      go_cut [6] (fun s6 wx=>s6= .int .i64 (v3:Int)∧Hid (Y70 w0 wx Rz B bo bc m M all 0 a2 0 O2 T2 (ks++[d]) (ss++[O2.length])))
      case first=>
       go_region_law ((refine Z3f _ (by rfl) (.tmp 68) (.tmp 74) 52 (by rfl) 3 i0 (.int .i64 0) 1 8 Tryz.underlying52 l0 l1 l2 l3 (by rfl) (by decide) (.slice uo un uc) un (Y3z ss) (by rfl) (by exact (H9.out.nth5.own.alloc _).drew) (.slice (some ⟨wc.heap.size,0,none⟩) 1 1) 1 (D2 [(pk:Int)]) (by rfl) (by exact (Rd.lit wc [_] _ 1 1 (by decide) rfl).drew) (S6 _) (by unfold maxLen;omega) (by omega) ?_;intro k8 f4 w2 c9 a8 k9;have k2:=A5 ((e4.out.alloc _).drew.grown a8 k1.out);have f1:=k2.out.frozen 4;have c1:=k2.out.cell (i:=4) rfl;have o3:=A5 ((((H9.out.nth5.alloc _).drew.app c9 a8 k9).swap.setObj 4 (.slice k8 (un+1) f4)).s5);clear c9 a8 k9))
       all_goals
        go_wp2
        go_meet
        case rel=>
         refine ⟨rfl,A5 ⟨po,pc,pk,ro,rc,rn,k8,f4,un+1,xo,xc,xn,h9,i1,i2,i3,r.out.1,r.out.2.1,by rw [T01,←r.out.2.2.1];rfl,r.out.2.2.2, ?_⟩⟩
         rw [X0g ss,←r.out.1]
         exact o3.out
      case rest=>
       obtain ⟨rfl,i4⟩:=hcut
       clear H9 e4 k1 s0 s4 o1 o2 h8 r
       by_cases g4:fl=1
       ·subst g4
        obtain ⟨po,pc,pk,ro,rc,rn,uo,uc,un,xo,xc,xn,h9,i1,i2,i3,h1,h2,h3,h4,p⟩:=i4.out
        have r:=A5 (And.intro h1 (And.intro h2 (And.intro h3 h4)))
        have s6:=p.obj.cell (i:=6) rfl
        have s2:=p.obj.cell (i:=2) rfl
        have g2:=p.obj.frozen 2
        obtain ⟨q7,q3⟩:∃q7,q7=a2+7:=⟨_,rfl⟩
        obtain ⟨R,hR⟩:∃R,R=(a2+7) / 8:=⟨_,rfl⟩
        have u7:(a2:Int)+7=(q7:Int):=by omega
        have u8:(q7:Int) / 8=(R:Int):=by omega
        have u9:(q7:Int).tdiv 8=(R:Int):=by rw [Int.tdiv_eq_ediv_of_nonneg (by omega)];omega
        have s8:(0:Int)≤(q7:Int):=T00 _
        have s9:a2 < 1000000000:=by have:=k0.out.2.1;omega
        have t0:q7 < 1000001000:=by omega
        have b9:Hid (S=⟨0,a2,O2,T2,ks++[d],ss++[O2.length],R⟩):=A5 (by
         rw [HO.out.2.2.2.2.2,hR,a4.out.1]
         exact Z0q (Z9l f9.out (by rw [←a4.out.1];exact b3.out.1) a4.out.2.symm))
        have o4:=A5 (p.setObj 2 (.int .i64 (R:Int)))
        clear q3 hR h1 h2 h3 h4 p i4
        go_wp2
        go_ret
        refine ⟨B,rfl,bo,bc,m,a2,s.out, ?_⟩
        rw [b9.out]
        exact ⟨po,pc,pk,ro,rc,rn,uo,uc,un,xo,xc,xn,h9,i1,i2,i3,r.out.1,r.out.2.1,r.out.2.2.1,r.out.2.2.2,o4.out⟩
       have v0:((fl:Int)==1)=false:=by simp;omega
       have o5:=A5 g4
       have t1:¬(fl:Int)=1:=by omega
       clear g4
       go_wp2
       go_roundg (gk-1)
       case measure=>omega
       case rel=>
        have k3:=k0.out
        have ho:=HO.out
        refine ⟨a2,f',O2,T2,ks++[d],ss++[O2.length],k3.2.1,by omega,by omega,A5 ⟨k3.2.2.2.2,by omega,by omega, ?_, ?_, ?_⟩,i4⟩
        ·rw [T01];simp only [T05];omega
        ·rw [T01,T01];simp only [T05];omega
        rw [ho.2.2.2.2.2,a4.out.1]
        exact Y7m (Y04 f9.out (by rw [←a4.out.1];exact b3.out.1) (by rw [←a4.out.2];exact o5.out))
end
def W2m (B:Nat) (x:Value) (e R:Nat):A6:=exT fun r:List Value=>E7 B (x:: .int .i64 (e:Int):: .int .i64 (R:Int)::r) 56
def Y0h (l:List Nat):Nat:=l.foldl (fun v b=>v*256+b) 0
theorem W4i (l:List Nat) (b:Nat):Y0h (l++[b])=Y0h l*256+b:=by unfold Y0h;rw [List.foldl_append];rfl
theorem V3p:∀ (l:List Nat),(∀b∈l,b < 256)→∀k,l.length≤k→k≤3→Y0h l < 16777216:=by
 have d:∀ (l:List Nat) (v m:Nat),(∀b∈l,b < 256)→v < m→l.foldl (fun v b=>v*256+b) v < m*256^l.length:=fun l=>by
  induction l with
  | nil=>intro v m _ h;simpa using h
  | cons b r ih=>
   intro v m a h
   have f:=ih (v*256+b) (m*256) (fun c hc=>a c (T02 _ hc)) (by have:=a b (T04 ..);omega)
   rw [List.foldl_cons,List.length_cons,Nat.pow_succ,Nat.mul_comm (256^r.length) 256,←Nat.mul_assoc]
   exact f
 intro l a k j n
 have f:=d l 0 1 a (by decide)
 have g:256^l.length≤256^3:=Nat.pow_le_pow_right (by decide) (by omega)
 have i:(256:Nat)^3=16777216:=by decide
 unfold Y0h
 omega
theorem V2m {r:List Nat} (hb:∀b∈r,b < 256) (hl:4≤r.length) {q:Nat} (hq:q < 4294967296):Y0h (r.take 4)=q↔r.take 4=beB q:=by
 match r,hl with
 | a::b::c::d::r,_=>
  have f:=hb a (by simp)
  have g:=hb b (by simp)
  have i:=hb c (by simp)
  have j:=hb d (by simp)
  show ((((0*256+a)*256+b)*256+c)*256+d=q)↔[a,b,c,d]=[q / 16777216%256,q / 65536%256,q / 256%256,q%256]
  simp only [List.cons.injEq,and_true]
  omega
section
variable {w0 w:World} {Rs Rz:List A6}
theorem X8u {B e R:Nat} {x:Value} (h:A4 w0 w (W2m B x e R::Rs)):w.cell? ⟨B,0,none⟩=some x∧w.cell? ⟨B,1,none⟩=some (.int .i64 (e:Int))∧w.cell? ⟨B,2,none⟩=some (.int .i64 (R:Int)):=by
 obtain ⟨r,a⟩:=A4.ex h
 exact ⟨a.obj.cell (i:=0) rfl,a.obj.cell (i:=1) rfl,a.obj.cell (i:=2) rfl⟩
theorem V6c (v:Value) (n:Nat) (l:List Nat) (mo:Int) (M:Nat) (hn:n=l.length) (hM:mo=(M:Int)) (h:A4 w0 w Rz) (hrd:Rd w 1 v n (D7 l)) (hb:∀b∈l,b < 256) (hl:l.length < 480000) (hmo:M < 1000000000):
  Calls Tryz.prog 22 #[v,.int .i64 mo] w fun e' w'=>∃ (B:Nat) (oo:Option Addr) (oc e R:Nat) (O:List Nat),e'= .returned (.pointer (some ⟨B,0,none⟩))∧V6z M l e R O∧
   A4 w0 w' (W2m B (.slice oo O.length oc) e R::B0 5 1 (.slice oo O.length oc) O.length (D7 O)::Rz):=by
 subst hn
 subst hM
 refine (X7y v l (M:Int) h hrd hb hl (by omega) (by omega)).mono ?_
 rw [show ((M:Int)).toNat=M from rfl]
 rintro e' w' ⟨B,rfl,sb,t,x,y,i,oo,oc,k,z,kc,nk,so,j,ns,tt,tc,nt,li,di,lc,dc,m,o,p,q,s⟩
 have d:=s.swap.drop
 have f:=d.third.drop
 have g:=f.third.drop
 have a:=g.third.drop
 rw [m] at a
 exact ⟨B,oo,oc,_,_,_,rfl,V3h hb,A4.mk (R:=fun r:List Value=>E7 B (_:: .int .i64 (_:Int):: .int .i64 (_:Int)::r) 56) _ a⟩
def X8s (w0 w':World) (Rs:List A6) (M:Nat) (L:List Nat) (en:Ending):Prop:=
 ∃ (y:Value) (O:List Nat) (e:Nat),en= .returned (.tuple #[y,.int .i64 (e:Int)])∧Z1r true M L O e∧A4 w0 w' (B0 5 1 y O.length (D7 O)::Rs)
theorem Y23 {M k e B er R:Nat} {L O:List Nat} {y x:Value} (hk:k=O.length) (h:Z1r true M L O e) (hh:A4 w0 w (W2m B x er R::B0 5 1 y k (D7 O)::Rs)):X8s w0 w Rs M L (.returned (.tuple #[y,.int .i64 (e:Int)])):=by
 subst hk
 exact ⟨y,O,e,rfl,h,hh.drop⟩
theorem Y0u {M e:Nat} {L:List Nat} (hz:zhd L=e) (he:e≠0) (h:A4 w0 w Rs):X8s w0 w Rs M L (.returned (.tuple #[.slice none 0 0,.int .i64 (e:Int)])):=
 ⟨_,[],e,rfl,.inl ⟨by omega,hz.symm,rfl⟩,h.nil _ 1⟩
theorem X87 (v:Value) (n:Nat) (L:List Nat) (M:Nat) (Mi:Int) (hMi:Mi=(M:Int)) (hn:n=L.length) (h:A4 w0 w Rs) (hv:∀w',A4 w0 w' Rs→Rd w' 1 v n (D7 L)) (hb:∀b∈L,b < 256) (hl:L.length < 480000) (hM:M < 100000000):
  Calls Tryz.prog 10 #[v,.int .i64 Mi] w fun en w'=>X8s w0 w' Rs M L en:=by
 obtain ⟨vo,vc,rfl,f7,_⟩:=(hv w h).form
 cases L with
 | nil=>
  subst hn
  have H:=A5 (Y0u (M:=M) (L:=[]) (e:=5) rfl (by decide) h)
  clear h hv hb
  go_enter Tryz.func10,Tryz.ntmps10
  go_wp2
  go_ret2
  exact H.out
 | cons a r=>
  obtain ⟨g,c3,rfl,b8⟩:=(hv w h).spot (by rw [hn];exact Nat.succ_pos _)
  have e0:w.cell? ⟨g,c3,none⟩=some (.int .u8 (a:Int)):=b8 0 _ rfl
  have ha:a < 256:=hb a (T04 ..)
  have p:n=r.length+1:=hn
  have k0:(0:Int) < (n:Int):=by omega
  have a7:(a:Int).tmod 16=((a%16:Nat):Int):=rfl
  have y:(a:Int).tdiv 16=((a / 16:Nat):Int):=rfl
  have z:((a / 16:Nat):Int)%256=((a / 16:Nat):Int):=by omega
  by_cases o:Z5d a=true
  rotate_left
  ·have f:¬(a%16=8∧a / 16≤7):=fun hh=>o (decide_eq_true hh)
   have H:=A5 (Y0u (M:=M) (L:=a::r) (e:=2) (by cases r with | nil=>(show (if Z5d a=true then 5 else 2)=2;rw [Bool.eq_false_iff.2 o];rfl) | cons b r=>(show (if (Z5d a && Z8v a b)=true then 0 else 2)=2;rw [Bool.eq_false_iff.2 o];rfl)) (by decide) h)
   clear h hv hb o hn p
   by_cases d4:a%16=8
   ·rw [d4] at a7
    have h7:(7:Int) < ((a / 16:Nat):Int):=by omega
    clear d4 f
    generalize ((a / 16:Nat):Int)=q at y h7 z
    go_enter Tryz.func10,Tryz.ntmps10
    go_wp2
    go_ret2
    exact H.out
   have f4:¬((a%16:Nat):Int)=8:=by omega
   have f5:(((a%16:Nat):Int) != 8)=true:=by simp;omega
   clear d4 f
   have f6:((a%16:Nat):Int)%256=((a%16:Nat):Int):=by omega
   generalize ((a%16:Nat):Int)=q at a7 f4 f5 f6
   go_enter Tryz.func10,Tryz.ntmps10
   go_wp2
   go_ret2
   exact H.out
  have f:=of_decide_eq_true o
  rw [f.1] at a7
  have h7:¬(7:Int) < ((a / 16:Nat):Int):=by omega
  cases r with
  | nil=>
   have g7:(n:Int) < 2:=by have:n=1:=p;omega
   have H:=A5 (Y0u (M:=M) (L:=[a]) (e:=5) (by show (if Z5d a=true then 5 else 2)=5;rw [o];rfl) (by decide) h)
   clear h hv hb o f hn p
   generalize ((a / 16:Nat):Int)=q at y h7 z
   go_enter Tryz.func10,Tryz.ntmps10
   go_wp2
   go_ret2
   exact H.out
  | cons b r=>
   have e1:w.cell? ⟨g,c3+1,none⟩=some (.int .u8 (b:Int)):=b8 1 _ rfl
   have k2:b < 256:=hb b (T02 _ (T04 ..))
   replace p:n=r.length+1+1:=p
   have g7:¬(n:Int) < 2:=by omega
   have k3:(1:Int) < (n:Int):=by omega
   have g8:IntKind.i64.wrap (a:Int)=(a:Int):=IntWalk.i64_in _ (by omega)
   have g9:IntKind.i64.wrap (b:Int)=(b:Int):=IntWalk.i64_in _ (by omega)
   have h1:IntKind.i64.wrap ((a:Int)*256)=(a:Int)*256:=IntWalk.i64_in _ (by omega)
   have h2:IntKind.i64.wrap ((a:Int)*256+(b:Int))=(a:Int)*256+(b:Int):=IntWalk.i64_in _ (by omega)
   have c8:((a:Int)*256+(b:Int)).tmod 31=(((256*a+b)%31:Nat):Int):=by
    rw [show (a:Int)*256+(b:Int)=((256*a+b:Nat):Int) by push_cast;omega]
    rfl
   have a8:(b:Int).tdiv 32=((b / 32:Nat):Int):=rfl
   have a9:((b / 32:Nat):Int)%256=((b / 32:Nat):Int):=by omega
   have b3:((b / 32:Nat):Int).tmod 2=((b / 32%2:Nat):Int):=rfl
   by_cases a6:Z8v a b=true
   rotate_left
   ·have H:=A5 (fun k=>Y0u (M:=M) (L:=a::b::r) (e:=2) (by show (if (Z5d a && Z8v a b)=true then 0 else 2)=2;rw [o,Bool.eq_false_iff.2 a6];rfl) (by decide) (h.drewN k))
    have f0:¬((256*a+b)%31=0∧b / 32%2=0):=fun hh=>a6 (decide_eq_true hh)
    clear h hv hb o a6 f hn p
    generalize ((a / 16:Nat):Int)=q at y h7 z
    by_cases d3:(256*a+b)%31=0
    ·have f1:b / 32%2=1:=by omega
     rw [d3] at c8
     rw [f1] at b3
     clear d3 f1 f0
     generalize ((b / 32:Nat):Int)=q2 at a8 b3 a9
     go_enter Tryz.func10,Tryz.ntmps10
     go_wp2
     go_quiet (fail)
     go_wp2
     go_ret2
     exact H.out _
    have f2:¬(((256*a+b)%31:Nat):Int)=0:=by omega
    have f3:((((256*a+b)%31:Nat):Int) != 0)=true:=by simp;omega
    clear d3 f0
    generalize (((256*a+b)%31:Nat):Int)=q3 at c8 f2 f3
    generalize ((b / 32:Nat):Int)=q2 at a8 b3 a9
    go_enter Tryz.func10,Tryz.ntmps10
    go_wp2
    go_quiet (fail)
    go_wp2
    go_ret2
    exact H.out _
   have b4:=of_decide_eq_true a6
   rw [b4.1] at c8
   rw [b4.2] at b3
   have hz:zhd (a::b::r)=0:=by show (if (Z5d a && Z8v a b)=true then 0 else 2)=0;rw [o,a6];rfl
   obtain ⟨m,hm⟩:∃m,m+2=n:=⟨n-2,by omega⟩
   obtain ⟨a1,c1,g0,d5,c5⟩:=Y37 (Rs:=Rs) (some ⟨g,c3,none⟩) n vc 2 m 2 rfl (a::b::r) hn f7 hm hv
   have HI:=A5 (fun k=>V6c (.slice a1 m c1) m r Mi M (by omega) hMi (h.drewN k) (c5 _ (h.drewN k)) (fun x hx=>hb x (T02 _ (T02 _ hx))) (by have:(a::b::r).length=r.length+1+1:=rfl;omega) (by omega))
   have HZ:=A5 (And.intro hz (And.intro hn (And.intro hv (And.intro hb (And.intro f7 (And.intro hM p))))))
   have k4:n < 480000:=by omega
   clear h hv hb o a6 f b4 c5 hz hn hl p hMi
   generalize ((a / 16:Nat):Int)=q at y h7 z
   generalize ((b / 32:Nat):Int)=q2 at a8 b3 a9
   go_enter Tryz.func10,Tryz.ntmps10
   go_wp2
   go_quiet (fail)
   have e2:=A5 (HI.out nq)
   clear HI
   go_wp2_with fail
   with_reducible refine e2.out.mono ?_
   rintro en w3 ⟨B,po,pc,er,R,O,rfl,hG,h4⟩
   clear e2 d5 g0
   obtain ⟨b0,b1,b2⟩:=X8u h4
   obtain ⟨k,hk⟩:∃k,k=O.length:=⟨_,rfl⟩
   rw [←hk] at h4 b0
   have a0:=h4.swap.own.rd
   have h5:A4 w0 w3 (W2m B (.slice po k pc) er R::B0 5 1 (.slice po k pc) k (D7 O)::Rs):=h4
   have HK:=A5 hk
   have HG:=A5 hG
   have H5:=A5 h5
   have d0:=hG.le
   clear h4 hk hG
   by_cases he:er=0
   rotate_left
   ·have l2:((er:Int) != 0)=true:=by simp;omega
    have l3:¬(er:Int)=0:=by omega
    have HE:=A5 (show Z1r true M (a::b::r) O er by
     rcases HG.out.ends with ⟨_,h8,l',h6⟩ | ⟨h0,_⟩
     ·exact .inr ⟨HZ.out.1,er,l',h6,.inl ⟨h8,rfl⟩⟩
     exact absurd h0 he)
    have s:=A5 (fun j=>Y23 HK.out HE.out (H5.out.drewN j))
    clear a0 d0 he
    go_wp2
    go_quiet (fail)
    go_wp2
    go_ret2
    exact s.out _
   subst he
   have i9:(((0:Nat):Int) != 0)=false:=rfl
   obtain ⟨l',hE,hR,i5⟩:∃l',Z01 M .hd (D6 r) [] 8 l' O∧R0 l'=r.drop R∧R≤r.length:=by
    rcases HG.out.ends with ⟨h0,_⟩ | ⟨_,l',h6⟩
    ·exact absurd rfl h0
    exact ⟨l',h6⟩
   have p:=HZ.out.2.2.2.2.2.2
   obtain ⟨P,hP⟩:∃P,P=2+R:=⟨_,rfl⟩
   have k6:(2:Int)+(R:Int)=(P:Int):=by omega
   have k7:IntKind.i64.wrap (P:Int)=(P:Int):=IntWalk.i64_in _ (by omega)
   obtain ⟨m2,c7⟩:∃m2,m2+P=n:=⟨n-P,by omega⟩
   obtain ⟨a2,c2,j9,i6,t⟩:=Y37 (Rs:=Rs) (some ⟨g,c3,none⟩) n vc P m2 (P:Int) rfl (a::b::r) HZ.out.2.1 HZ.out.2.2.2.2.1 c7 HZ.out.2.2.1
   have e3:(a::b::r).drop P=r.drop R:=by rw [hP,Nat.add_comm];rfl
   rw [e3] at t
   have a3:m2=(r.drop R).length:=by rw [T06];omega
   have b5:∀x∈r.drop R,x < 256:=fun x hx=>HZ.out.2.2.2.1 x (T02 _ (T02 _ (List.mem_of_mem_drop hx)))
   have HE:Hid (Z1r true M (a::b::r) O (Z3o true O (r.drop R))):=A5 (.inr ⟨HZ.out.1,8,l',hE,.inr ⟨rfl,by rw [hR];rfl⟩⟩)
   have j0:m2≤n:=by omega
   generalize r.drop R=r2 at t a3 b5 HE
   clear hE hR i5 hP c7 p e3
   by_cases b7:m2 < 4
   ·have e4:(m2:Int) < 4:=by omega
    have s:=A5 (Y23 HK.out (show Z1r true M (a::b::r) O 5 by have h6:=HE.out;unfold Z3o at h6;rw [if_pos (by omega)] at h6;exact h6) H5.out)
    clear t a3 b5 HE b7 d0 a0
    go_wp2
    go_ret2
    exact s.out
   have e4:¬(m2:Int) < 4:=by omega
   obtain ⟨g2,g1,rfl,a4⟩:=(t w3 H5.out.drop.drop).spot (by omega)
   have HA:=A5 (show Calls Tryz.prog 23 #[.int .u32 1,.slice po k pc] w3 _ from X1p 1 (.slice po k pc) O w3 (by decide) (by rw [←HK.out];exact a0) HG.out.byt (by omega))
   have e6:(adl (1%65536%65521,1 / 65536%65521) O).2*65536+(adl (1%65536%65521,1 / 65536%65521) O).1=K6 1 O:=rfl
   rw [e6] at HA
   have e7:=Y59 O
   have b6:=V2m b5 (by omega) e7
   have c4:Z3o true O r2=if r2.take 4=beB (K6 1 O) then Z2k true (r2.drop 4) else 4:=by unfold Z3o;rw [if_neg (by omega)];rfl
   rw [c4] at HE
   generalize K6 1 O=q at HA e7 b6 HE
   have HC:=A5 (And.intro a4 (And.intro b5 a3))
   have HQ:=A5 b6
   have j2:4≤m2:=by omega
   clear a4 b5 a3 t c4 b6 a0 d0 b7 e6
   go_wp2
   go_loopg [7,8] 5 (fun gg t7 t8 wr=>wr=w3∧∃i:Nat,i≤4∧gg=5-i∧t8= .int .i64 (i:Int)∧t7= .int .u32 ((Y0h (r2.take i):Nat):Int))
   case atStart=>exact ⟨rfl,0,by omega,rfl,rfl,rfl⟩
   case round=>
    obtain ⟨rfl,i,l9,rfl,rfl,rfl⟩:=hrel
    by_cases hi:i < 4
    ·have k8:(i:Int) < 4:=by omega
     have k9:(i:Int) < (m2:Int):=by omega
     have l0:(0:Int)≤(i:Int):=by omega
     obtain ⟨c,hc⟩:∃c,r2[i]?=some c:=⟨_,T07 (by have:=HC.out.2.2;omega)⟩
     have l1:c < 256:=HC.out.2.1 c (List.mem_of_getElem? hc)
     have k1:wr.cell? ⟨g2,g1+i,none⟩=some (.int .u8 (c:Int)):=HC.out.1 i _ (by unfold D7;rw [T08,hc];rfl)
     have e9:=V3p (r2.take i) (fun x hx=>HC.out.2.1 x (List.mem_of_mem_take hx)) i (by rw [List.length_take];omega) (by omega)
     have HN:=A5 (show Y0h (r2.take (i+1))=Y0h (r2.take i)*256+c by rw [Z7i r2 i c hc,W4i])
     generalize Y0h (r2.take i)=V at e9 HN⊢
     have g8:((V:Int)*256)%4294967296=(V:Int)*256:=by omega
     have g9:IntKind.u32.wrap ((V:Int)*256)=(V:Int)*256:=IntWalk.u32_in _ (by omega)
     have h1:((V:Int)*256+(c:Int))%4294967296=(V:Int)*256+(c:Int):=by omega
     have h2:(c:Int)%4294967296=(c:Int):=by omega
     clear hc e9 hi
     go_wp2
     go_roundg (5- (i+1))
     case measure=>omega
     case rel=>exact ⟨rfl,i+1,by omega,rfl,by push_cast;rfl,by rw [HN.out];push_cast;rfl⟩
    obtain rfl:i=4:=by omega
    by_cases hq:Y0h (r2.take 4)=q
    ·have d:=HE.out
     rw [if_pos (HQ.out.1 hq)] at d
     have c0:(r2.drop 4).length+4=m2:=by rw [T06];have:=HC.out.2.2;omega
     by_cases b7:m2=4
     ·have h9:¬(4:Int) < (m2:Int):=by omega
      have s:=A5 (Y23 HK.out (show Z1r true M (a::b::r) O 8 by rw [T09 (l:=r2.drop 4) (by omega)] at d;exact d) H5.out)
      clear d c0 b7 hi
      rw [hq]
      clear hq
      go_wp2_with fail
      with_reducible refine HA.out.mono ?_
      rintro en w5 ⟨rfl,rfl⟩
      go_wp2
      go_ret2
      exact s.out
     have h9:(4:Int) < (m2:Int):=by omega
     have s:=A5 (Y23 HK.out (show Z1r true M (a::b::r) O 2 by unfold Z2k at d;rw [if_neg (fun h=>by rw [h] at c0;simp at c0;omega)] at d;exact d) H5.out)
     clear d c0 b7 hi
     rw [hq]
     clear hq
     go_wp2_with fail
     with_reducible refine HA.out.mono ?_
     rintro en w5 ⟨rfl,rfl⟩
     go_wp2
     go_ret2
     exact s.out
    have d:=HE.out
    rw [if_neg (fun h=>hq (HQ.out.2 h))] at d
    have s:=A5 (Y23 HK.out d H5.out)
    have i0:¬((Y0h (r2.take 4):Nat):Int)=(q:Int):=by omega
    have i1:(((Y0h (r2.take 4):Nat):Int) != (q:Int))=true:=by simp;omega
    generalize ((Y0h (r2.take 4):Nat):Int)=V at i0 i1⊢
    clear d hq hi
    go_wp2_with fail
    with_reducible refine HA.out.mono ?_
    rintro en w5 ⟨rfl,rfl⟩
    go_wp2
    go_ret2
    exact s.out
end
theorem Rd.oldZ {w0 w:World} {Rs:List A6} {v:Value} {n:Nat} {xs:List Value} (hv:Rd w0 1 v n xs) (h:A4 w0 w Rs):Rd w 1 v n xs:=(Y9.old (S:=V6m) hv (by decide)).rd h.addNon
theorem X6g {lev:Int} {b O:List Nat} {k z e:Nat} (hb:∀c∈b,c < 256) (hl:b.length≤1000) (hk:k < (Z3j lev b).length) (hk4:(Z3j lev b).length≤k+4) (hz:z < 256) (hne:(Z3j lev b)[k]?≠some z) (hg:Z1r true 1048576 ((Z3j lev b).set k z) O e):e=4:=by
 have f:most=16777216:=rfl
 obtain ⟨o,_⟩:=Z2p lev b hb (by omega)
 have g:=Z57 lev b
 unfold Z3j X4u at*
 generalize Z1p I9 (G3 C4) b lev=S at*
 have i:(adB b).length=4:=Z9c (K6 1 b)
 obtain ⟨j,p⟩:∃j,k=S.length+j+1+1:=⟨k-2-S.length,by omega⟩
 have l:j < 4:=by omega
 subst p
 have a:(120::156::(S++adB b)).set (S.length+j+1+1) z=120::156::(S++(adB b).set j z):=by
  rw [T0a,T0a,List.set_append_right _ _ (by omega),T0b]
 have d:(120::156::(S++adB b))[S.length+j+1+1]?=(adB b)[j]?:=by
  rw [T0c,T0c,List.getElem?_append_right (by omega),T0b]
 rw [d] at hne
 rw [a] at hg
 have m:=Y81 (N:=1048576) (t:=(adB b).set j z) o (by omega) (fun c hc=>by
   rcases T0d hc with hc | hc
   ·exact X2f b c hc
   omega) true
 obtain ⟨_,rfl⟩:=hg.det m
 have n:((adB b).set j z).length=4:=by rw [List.length_set,i]
 unfold Z3o
 rw [if_neg (by omega),List.take_of_length_le (by omega),if_neg (fun h=>hne (by
   rw [←h]
   exact List.getElem?_set_self (by omega)))]
theorem Y8r (v:Value) (bI:List Int) (atI bendI:Int) (u:Value) (mI:List Int) (w:World) (HL:Y4l w) (HO:Z3x w) (HG:X7 w) (hg:Y10.good w [v] bI) (hat:(Lit.int .u16 atI).wf=true) (hbe:(Lit.int .u8 bendI).wf=true) (hgm:Y10.good w [u] mI):
  Calls Tryz.prog 4 #[v,.int .u16 atI,.int .u8 bendI,u] w fun e w'=>e= .returned (.bool true)∧Below w.heap.size w w':=by
 obtain ⟨i0,f9,g0,g1,g2⟩:=info_parts Z0u
 have d5:=A5 (show 1000000000≤maxLen by decide)
 obtain ⟨b,hb,hv⟩:=V07 hg
 obtain ⟨ao,i8,rfl,_,_⟩:=hv.form
 obtain ⟨mo,d1,hu⟩:=V07 hgm
 obtain ⟨uo,k8,rfl,_,_⟩:=hu.form
 have c2:=bounds_u16 hat
 have h8:=bounds_u8 hbe
 obtain ⟨a,rfl⟩:∃a:Nat,atI=(a:Int):=⟨atI.toNat,by omega⟩
 obtain ⟨s,rfl⟩:∃s:Nat,bendI=(s:Int):=⟨bendI.toNat,by omega⟩
 clear hg hat hbe hgm
 obtain ⟨n,hn⟩:∃n,n=b.length:=⟨_,rfl⟩
 obtain ⟨m,hm⟩:∃m,m=mo.length:=⟨_,rfl⟩
 have l0:(0:Int)≤(n:Int):=T00 _
 have d6:(0:Int)≤(m:Int):=T00 _
 by_cases i:n≤1000∧s≠0∧m≤100
 rotate_left
 ·have HA:=A5 (Y3y HG (A4.start w))
  rw [←hn,←hm]
  clear hv hb hu d1 hn hm c2 h8 HL HO
  by_cases h1:n≤1000
  ·have b5:¬(1000:Int) < (n:Int):=by omega
   by_cases l:s=0
   ·obtain rfl:s=0:=l
    clear i h1
    go_enter Tryz.func4,Tryz.ntmps4
    go_wp2_with fail
    with_reducible refine HA.out.mono ?_
    rintro r w2 ⟨rfl,l⟩
    have H2:=A5 l.mod.toBelow
    clear l HA
    go_wp2
    go_ret
    exact ⟨rfl,H2.out⟩
   have h3:(100:Int) < (m:Int):=by omega
   have d7:¬(s:Int)=0:=by omega
   have d8:((s:Int)==0)=false:=by simp;omega
   clear i h1 l
   go_enter Tryz.func4,Tryz.ntmps4
   go_wp2_with fail
   with_reducible refine HA.out.mono ?_
   rintro r w2 ⟨rfl,l⟩
   have H2:=A5 l.mod.toBelow
   clear l HA
   go_wp2
   go_ret
   exact ⟨rfl,H2.out⟩
  have b5:(1000:Int) < (n:Int):=by omega
  clear i h1
  go_enter Tryz.func4,Tryz.ntmps4
  go_wp2_with fail
  with_reducible refine HA.out.mono ?_
  rintro r w2 ⟨rfl,l⟩
  have H2:=A5 l.mod.toBelow
  clear l HA
  go_wp2
  go_ret
  exact ⟨rfl,H2.out⟩
 obtain ⟨i,c0,n0⟩:=i
 have b5:¬(1000:Int) < (n:Int):=by omega
 have j3:¬(100:Int) < (m:Int):=by omega
 have d7:¬(s:Int)=0:=by omega
 have d8:((s:Int)==0)=false:=by simp;omega
 have HV:=A5 (And.intro hb (And.intro hv hn))
 have HU:=A5 (And.intro d1 (And.intro hu hm))
 have HN:=A5 (W4k 6 HL (A4.start w))
 have l1:most=16777216:=rfl
 rw [←hn] at hv⊢
 rw [←hm] at hu⊢
 have HO:=A5 HO
 have HG:=A5 HG
 have HA:=A5 (And.intro c2 h8)
 have d9:b.length≤most:=by omega
 have a0:=A5 d9
 have g8:=A5 c0
 clear hv hb hn HL c2 h8 d9 c0 hu d1 hm
 go_enter Tryz.func4,Tryz.ntmps4
 go_wp2_with fail
 with_reducible refine HN.out.mono ?_
 rintro r w2 ⟨B,rfl,l⟩
 have H2:=A5 (Y3y HG.out l)
 clear l HN
 go_wp2_with fail
 with_reducible refine H2.out.mono ?_
 rintro r w3 ⟨rfl,h3⟩
 have H3:=A5 (W69 (lev:=6) (v:= .slice ao b.length i8) (b:=b) h3 HO.out HV.out.2.1 HV.out.1 a0.out)
 rw [←HV.out.2.2] at H3
 clear h3 H2
 go_wp2_with fail
 with_reducible refine H3.out.mono ?_
 rintro r w4 ⟨rfl,h4⟩
 have H4:=A5 (W43 h4 HO.out HV.out.1 a0.out)
 clear h4 H3
 go_wp2_with fail
 with_reducible refine H4.out.mono ?_
 rintro r w5 ⟨rfl,h5⟩
 have H5:=A5 (V12 h5 HV.out.1 a0.out)
 clear h5 H4
 go_wp2_with fail
 with_reducible refine H5.out.mono ?_
 rintro r w6 ⟨d,rfl,h6⟩
 have c4:=Z57 6 b
 have i1:=(Z2p 6 b HV.out.1 a0.out).2
 obtain ⟨F,hF⟩:∃F,F=Z3j 6 b:=⟨_,rfl⟩
 have a4:=X7r 6 b HV.out.1 a0.out
 rw [←hF] at h6 c4 a4
 obtain ⟨N,hN⟩:∃N,N=F.length:=⟨_,rfl⟩
 rw [←hN] at h6 c4
 obtain ⟨fo,fc,rfl,i9,_⟩:=h6.own.form
 have e0:6≤N∧N < 5000:=by have:=HV.out.2.2;omega
 obtain ⟨k,hk⟩:∃k,k=a%N:=⟨_,rfl⟩
 have i2:k < N:=by rw [hk];exact Nat.mod_lt _ (by omega)
 have l2:(a:Int).tmod (N:Int)=(k:Int):=by rw [hk];exact (Int.tmod_eq_emod_of_nonneg (T00 _)).trans (by omega)
 have l3:wrap64 (a:Int)=(a:Int):=by have:=HA.out.1;unfold wrap64;omega
 have b1:k < F.length:=by omega
 obtain ⟨x,hx⟩:∃x,x=F[k]:=⟨_,rfl⟩
 have o:x < 256:=by rw [hx];exact a4 _ (List.getElem_mem _)
 have c5:F[k]?=some x:=by rw [T07 b1,hx]
 obtain ⟨z,hz⟩:∃z,z=x^^^s:=⟨_,rfl⟩
 have j:s < 256:=by have:=HA.out.2;omega
 have a5:z < 256:=by rw [hz];exact Nat.xor_lt_two_pow (n:=8) o j
 have l4:bits .xor .u8 (x:Int) (s:Int)=(z:Int):=by rw [hz];exact u8_xor_nat x s o j
 have e1:z≠x:=fun h=>by
  rw [hz] at h
  have h1:x^^^(x^^^s)=x^^^x:=by rw [h]
  rw [←Nat.xor_assoc,Nat.xor_self,Nat.zero_xor] at h1
  exact g8.out h1
 have c6:A4 w (w6.alloc (.cells #[] 5)) (B0 5 1 (.slice (some ⟨w6.heap.size,0,none⟩) 0 0) 0 []::_):=h6.lit 5 1 [] 0 (by decide) rfl
 have e2:=A5 c6.swap.own.rd
 have H7:=A5 c6
 have l5:¬(N:Int) < 5:=by omega
 have j8:(k:Int) < (N:Int):=by omega
 have l6:(0:Int)≤(N:Int):=T00 _
 have l7:(0:Int)≤(k:Int):=T00 _
 have j9:¬(N:Int)=0:=by omega
 have l8:0+N≤maxLen:=by have:=d5.out;omega
 have l9:N < 5000:=e0.2
 have b7:(D7 F).set k (.int .u8 (z:Int))=D7 (F.set k z):=by unfold D7;rw [List.map_set]
 have b8:∀c∈F.set k z,c < 256:=fun c hc=>by
  rcases T0d hc with hc | hc
  ·exact a4 c hc
  omega
 have e3:N=(F.set k z).length:=by rw [List.length_set];exact hN
 have b9:N≤k+4→∀O e,Z1r true 1048576 (F.set k z) O e→e=4:=fun h4 O e hg=>by
  rw [hF] at hg hN b1
  refine X6g HV.out.1 (by have:=HV.out.2.2;omega) b1 (by omega) a5 ?_ hg
  rw [←hF,c5]
  intro h
  exact e1 (by simpa using h.symm)
 have e4:Z1r true 1048576 (F++mo) b (Z2k true mo):=by
  have h1:=Y81 (N:=1048576) (t:=adB b++mo) (Z2p 6 b HV.out.1 a0.out).1 (by have:=HV.out.2.2;omega) (fun c hc=>(List.mem_append.1 hc).elim (X2f b c) (HU.out.1 c)) true
  have h4:(adB b).length=4:=Z9c (K6 1 b)
  have l:Z3o true b (adB b++mo)=Z2k true mo:=by
   unfold Z3o
   rw [if_neg (by rw [T01];omega),List.take_left' h4,if_pos rfl,List.drop_left' h4]
  rw [l] at h1
  have h3:F++mo=120::156::(Z1p I9 (G3 C4) b 6++(adB b++mo)):=by
   rw [hF]
   unfold Z3j X4u
   rw [T0e,T0e,List.append_assoc]
  rw [h3]
  exact h1
 have HP:=A5 (And.intro b9 (And.intro b8 (And.intro e3 (And.intro e4 (And.intro b7 (And.intro c5 (And.intro hN a4)))))))
 have HM:=A5 HU.out.2.2
 clear h6 c6 hF b8 e3 hN i1 c4 i9 H5 hk b1 b9 hx c5 o hz e1 b7 e0 e4 a4 a5 j
 go_wp2_with ((with_reducible show wpList _ _ _ (⟨some 51,_,_,_,_,_⟩::_) _ _);go_must (refine D4 rfl (.tmp 49) (.tmp 50) 26 rfl 5 i0 (.int .u8 0) 1 1 Tryz.underlying26 f9 g0 g1 g2 rfl (by decide) _ 0 [] rfl H7.out _ N (D7 F) rfl e2.out (T3 _) N (by omega) (by omega) (by omega) ?_);intro ro rc w7 h7;obtain ⟨g,g4,rfl,a8,a9,c1⟩:=h7.swap.own.site (by omega);have ck:=a8 k (.int .u8 (x:Int)) (by unfold D7;rw [T08,HP.out.2.2.2.2.2.1];rfl);have fk:=a9 k;have h8:=h7.swap.putOwn (c1 k (.int .u8 (z:Int)) i2) (E2.set _ _ _ _);rw [HP.out.2.2.2.2.1] at h8;have H8:=A5 h8;clear h7 h8 a8 a9 c1)
 have e6:=A5 (X87 (.slice (some ⟨g,g4,none⟩) N fc) N (F.set k z) 1048576 1048576 rfl HP.out.2.2.1 H8.out (fun w' hh=>hh.own.rd) HP.out.2.1 (by rw [←HP.out.2.2.1];omega) (by decide))
 clear ck fk e2 H7
 go_wp2_with fail
 with_reducible refine e6.out.mono ?_
 rintro r w8 ⟨y,O,e,rfl,hg,h9⟩
 obtain ⟨yo,yc,rfl,_,_⟩:=h9.own.form
 have c7:=A5 hg
 have HR:=A5 (X0p HG.out (.slice (some ⟨g,g4,none⟩) N fc) N (F.set k z) O HP.out.2.2.1 h9 (fun w' hh=>hh.swap.own.rd) HP.out.2.1 (by rw [←HP.out.2.2.1];omega) hg)
 clear hg h9 e6 H8
 go_wp2_with fail
 with_reducible refine HR.out.mono ?_
 rintro r w9 ⟨y2,rfl,i⟩
 obtain ⟨zo,zc,rfl,_,_⟩:=i.own.form
 have c8:=A5 (Rd.oldZ HU.out.2.1 i)
 rw [←HM.out] at c8
 have e7:=A5 i.fourth
 clear i HR
 have e8:N+m≤maxLen:=by have:=d5.out;omega
 go_wp2_with (first
  | ((with_reducible show wpList _ _ _ (⟨some 79,_,_,_,_,_⟩::_) _ _);go_must (refine D4 rfl (.tmp 77) (.tmp 78) 26 rfl 5 i0 (.int .u8 0) 1 1 Tryz.underlying26 f9 g0 g1 g2 rfl (by decide) _ N (D7 F) rfl e7.out _ m (D7 mo) rfl c8.out (T3 _) (N+m) rfl e8 (by omega) ?_);intro qo qc m7 d2;rw [←K4] at d2;have e9:=A5 d2;clear d2)
  | fail)
 have c9:N+m=(F++mo).length:=by rw [T01,←HM.out,←HP.out.2.2.2.2.2.2.1]
 have f0:=A5 (X0p HG.out (.slice qo (N+m) qc) (N+m) (F++mo) b c9 e9.out (fun w' hh=>hh.own.rd) (fun c hc=>(List.mem_append.1 hc).elim (HP.out.2.2.2.2.2.2.2 c) (HU.out.1 c)) (by rw [←c9];omega) HP.out.2.2.2.1)
 clear c9 e7 c8
 go_wp2_with fail
 with_reducible refine f0.out.mono ?_
 rintro r m8 ⟨y3,rfl,f8⟩
 obtain ⟨q,hq⟩:∃q,q=O.length:=⟨_,rfl⟩
 have m2:q≤1048576:=by rw [hq];exact c7.out.le
 have b3:=f8.drop.drop
 have HS:=A5 (W3z b3 (.slice zo O.length zc) (.slice yo O.length yc) O O rfl b3.own.rd b3.swap.own.rd (by omega))
 rw [←hq] at HS⊢
 have HZ:Hid (Z2k true mo=if m=0 then 8 else 2):=A5 (by
  have f1:=HM.out
  unfold Z2k
  by_cases h0:mo=[]
  ·have d6:m=0:=by rw [f1,h0];rfl
   rw [if_pos h0,if_pos rfl,if_pos d6]
  rw [if_neg h0,if_neg (by rw [f1];intro h;exact h0 (T09 h))])
 rw [HZ.out]
 have m4:¬(N:Int) < 4:=by omega
 clear f8 b3 f0 hq e9
 by_cases d0:m=0
 ·obtain rfl:m=0:=d0
  rw [if_pos rfl]
  by_cases a7:k < N-4
  ·have a6:(k:Int) < (N:Int)-4:=by omega
   clear a7
   go_wp2_with fail
   with_reducible refine HS.out.mono ?_
   rintro r d3 ⟨rfl,f⟩
   have p:=A5 f.mod.toBelow
   clear f HS
   go_wp2
   go_ret
   exact ⟨rfl,p.out⟩
  have a6:¬(k:Int) < (N:Int)-4:=by omega
  obtain rfl:e=4:=HP.out.1 (by omega) _ _ c7.out
  clear a7
  go_wp2_with fail
  with_reducible refine HS.out.mono ?_
  rintro r d3 ⟨rfl,f⟩
  have p:=A5 f.mod.toBelow
  clear f HS
  go_wp2
  go_ret
  exact ⟨rfl,p.out⟩
 rw [if_neg d0]
 have k2:0 < m:=by omega
 have k3:¬(m:Int)=0:=by omega
 have k4:((m:Int)==0)=false:=by simp;omega
 clear d0
 by_cases a7:k < N-4
 ·have a6:(k:Int) < (N:Int)-4:=by omega
  clear a7
  go_wp2_with fail
  with_reducible refine HS.out.mono ?_
  rintro r d3 ⟨rfl,f⟩
  have p:=A5 f.mod.toBelow
  clear f HS
  go_wp2
  go_ret
  exact ⟨rfl,p.out⟩
 have a6:¬(k:Int) < (N:Int)-4:=by omega
 obtain rfl:e=4:=HP.out.1 (by omega) _ _ c7.out
 clear a7
 go_wp2_with fail
 with_reducible refine HS.out.mono ?_
 rintro r d3 ⟨rfl,f⟩
 have p:=A5 f.mod.toBelow
 clear f HS
 go_wp2
 go_ret
 exact ⟨rfl,p.out⟩
theorem Y8i (v:Value) (bI:List Int) (atI bendI:Int) (u:Value) (mI:List Int) (w:World) (hL:Y4l w∧Z3x w∧X7 w) (hg:Y10.good w [v] bI) (hat:(Lit.int .u16 atI).wf=true) (hbe:(Lit.int .u8 bendI).wf=true) (hgm:Y10.good w [u] mI):
  Calls Tryz.prog 4 #[v,.int .u16 atI,.int .u8 bendI,u] w fun e w'=>e= .returned (.bool true)∧Below w.heap.size w w':=
 Y8r v bI atI bendI u mI w hL.1 hL.2.1 hL.2.2 hg hat hbe hgm
end Go.Proofs.YtbkbkmgogbgofaaGreatDoor
