/- The claim's texts, put together and shortened by a program (names, spaces). -/
import Derived.Test.YtbkbkmgogbgofaaGreatDoorZk19
import Derived.Test.YtbkbkmgogbgofaaGreatDoorZk03
import Derived.WalkSpells
import Derived.Test.YtbkbkmgogbgofaaGreatDoorZk17
open List renaming length_drop→T01,take_of_length_le→T04,getElem?_eq_getElem→T05,eq_nil_of_length_eq_zero→T06,length_append→T07
open Nat renaming le_refl→T02,mul_one→T03
open Int renaming natCast_nonneg→T00
namespace Go.Proofs.YtbkbkmgogbgofaaGreatDoor
set_option maxRecDepth 100000
set_option maxHeartbeats 6400000
open Go.RowKit
theorem W3z (a l d:Int) (w:World):(Instr.field 112 (.agg #[.int .u8 a,.int .i64 l,.int .i64 d]) 1).run Tryz.prog w= .ok (.int .i64 l) w:=by kernel_rfl
section
variable {w0 w:World} {Rs:List A6} {tr en la cut a P:Nat} {B:C4} {x:List Nat}
theorem W4a (A:Nat) (H:A4 w0 w (inF tr en la (A-cut) x cut P a B::Rs)) (HI:Z16 x cut P a) (hPA:P≤A) (hAx:A < x.length) (hcw:cut=0∨cut+32768≤A) (hlen:x.length < 1000000000) (hb:∀b∈x,b < 256) (htr:tr < 1000000000):
  Calls Tryz.prog 84 #[.pointer (some ⟨B.b,B.o,none⟩)] w fun e w'=>e= .returned (Y69 (K7 32768 258 x tr en la A))∧∃P' a',P'≤A+1∧Z16 x cut P' a'∧A4 w0 w' (inF tr en la (A-cut) x cut P' a' B::Rs):=by
 obtain ⟨i,hi⟩:∃i,i=A-cut:=⟨_,rfl⟩
 have e4:=HI.cut_le
 have b9:A=cut+i:=by omega
 have c0:A+1-cut=i+1:=by omega
 have t:=fun (wz:World) (Rz:List A6) (h:A4 w0 wz (inF tr en la (A-cut) x cut P a B::Rz))=>X66 h HI A hPA (by omega) hcw hlen hb htr
 have m:=fun (wz:World) (Rz:List A6) (l s:Nat) (h:A4 w0 wz (inF tr en la (A-cut) x cut l s B::Rz)) (h1:Z16 x cut l s) (h2:l≤A)=>X66 h h1 (A+1) (by omega) (by omega) (by omega) hlen hb htr
 rw [←hi] at H t m⊢
 obtain ⟨j,hj⟩:∃j,j=i+1:=⟨_,rfl⟩
 have h6:(i:Int)+1=(j:Int):=by omega
 have h7:j < 1000000000:=by omega
 rw [c0,←hj] at m
 obtain ⟨lv,bv,m1,m2,HF⟩:=Z3m H
 obtain ⟨hB,_,_,_,_⟩:=W6 HF
 obtain ⟨d,q,hf⟩:∃d q,best 32768 258 x tr en A=(d,q):=⟨_,_,rfl⟩
 obtain ⟨f,s2,hs⟩:∃f s2,best 32768 258 x tr en (A+1)=(f,s2):=⟨_,_,rfl⟩
 have h8:d≤258:=by have:=X2x (W:=32768) (L:=258) (tr:=tr) (en:=en) x A (by omega);rw [hf] at this;omega
 have h9:f≤258:=by have:=X2x (W:=32768) (L:=258) (tr:=tr) (en:=en) x (A+1) (by omega);rw [hs] at this;omega
 rw [hf] at t
 rw [hs] at m
 have c1:Hid (K7 32768 258 x tr en la A=if d=0∨(d < la∧d < f) then Y7p x A else (0,(d:Int),(q:Int))):=A5 (by unfold K7;rw [hf,hs])
 have c4:Hid (∀ (wz:World) (Rz:List A6),A4 w0 wz (inF tr en la i x cut P a B::Rz)→Calls Tryz.prog 96 #[.pointer (some ⟨B.b,B.o,none⟩),.int .i64 (i:Int)] wz fun e w'=>e= .returned (.agg #[.int .u8 0,.int .i64 (d:Int),.int .i64 (q:Int)])∧∃P' a',P'≤A∧Z16 x cut P' a'∧A4 w0 w' (inF tr en la i x cut P' a' B::Rz)):=t
 have e5:Hid (∀ (wz:World) (Rz:List A6) (l s:Nat),A4 w0 wz (inF tr en la i x cut l s B::Rz)→Z16 x cut l s→l≤A→Calls Tryz.prog 96 #[.pointer (some ⟨B.b,B.o,none⟩),.int .i64 (j:Int)] wz fun e w'=>e= .returned (.agg #[.int .u8 0,.int .i64 (f:Int),.int .i64 (s2:Int)])∧∃P' a',P'≤A+1∧Z16 x cut P' a'∧A4 w0 w' (inF tr en la i x cut P' a' B::Rz)):=m
 have HH:=A5 H
 have i1:=A5 hB
 have c5:=A5 b9
 have i2:i < 1000000000:=by omega
 have i3:(0:Int)≤(i:Int):=T00 _
 have f6:=A5 hPA
 have a0:=A5 hAx
 have h0:A4 w0 (w.alloc (.cells #[.int .u8 0,.int .i64 0,.int .i64 0] 112)) (inF tr en la i x cut P a B::E8 w.heap.size (Z5b (0,0)) 112::Rs):=(HH.out.newObj (Z5b (0,0)) 112).swap
 have c8:(w.alloc (.cells #[.int .u8 0,.int .i64 0,.int .i64 0] 112)).cell? ⟨B.b,B.o+8,none⟩=some (.int .i64 (i:Int)):=(hB.alloc _).cell (i:=8) rfl
 have H0:=A5 h0
 clear hj hf hs hi e4 b9 c0 t m HF hB hPA hAx h0 HI hcw
 go_enter Tryz.func84,Tryz.ntmps84
 go_wp2_with fail
 generalize w.alloc (.cells #[.int .u8 0,.int .i64 0,.int .i64 0] 112)=wA at c8 H0⊢
 generalize w.heap.size=N at H0⊢
 refine (c4.out _ _ H0.out).mono ?_
 rintro e w1 ⟨rfl,l,s,f0,c7,h1⟩
 have a6:=A5 c7
 have h2:A4 w0 (w1.alloc (.cells #[.int .u8 0,.int .i64 (d:Int),.int .i64 (q:Int)] 112)) (E8 w1.heap.size (Z5b (d,q)) 112::inF tr en la i x cut l s B::E8 N (Z5b (0,0)) 112::Rs):=h1.newObj _ _
 have H2:=A5 h2
 clear h1 h2 c7 c8 H0 c4
 go_upto_region 2 with (fail)
 generalize w1.alloc (.cells #[.int .u8 0,.int .i64 (d:Int),.int .i64 (q:Int)] 112)=wB at H2⊢
 generalize w1.heap.size=M at H2⊢
 have i4:(0:Int)≤(d:Int):=T00 _
 have g1:=H2.out.obj.cell (i:=1) rfl
 obtain ⟨j3,j4,n1,n2,d0⟩:=Z3m H2.out.swap
 have a8:=(W6 d0).1
 have c2:=a8.cell (i:=2) rfl
 have c8:=a8.cell (i:=8) rfl
 clear d0 a8
 go_cut [35] (fun s35 wx=>∃bq:Bool,s35= .bool bq∧Hid (bq=decide (d=0∨(d < la∧d < f)))∧∃y a2,y≤A+1∧Hid (Z16 x cut y a2)∧Hid (A4 w0 wx (E8 M (Z5b (d,q)) 112::inF tr en la i x cut y a2 B::E8 N (Z5b (0,0)) 112::Rs)))
 case first=>
  by_cases hf:d=0
  ·subst hf
   have b0:(((0:Nat):Int)==0)=true:=rfl
   go_quiet (fail)
   go_wp2
   go_meet
   case rel=>exact ⟨true,rfl,A5 (by simp),l,s,by omega,a6,A5 (H2.out.drewN _)⟩
  have b0:((d:Int)==0)=false:=by simp;omega
  have i6:decide ((d:Int)=0)=false:=by simp;omega
  by_cases hl:d < la
  ·have b1:decide ((d:Int) < (la:Int))=true:=decide_eq_true (by omega)
   have e8:decide (d < la)=true:=decide_eq_true hl
   obtain ⟨k,g⟩:∃k,k=decide (d < f):=⟨_,rfl⟩
   have b2:decide ((d:Int) < (f:Int))=k:=by
    rw [g]
    by_cases c:d < f
    ·rw [decide_eq_true c,decide_eq_true (by omega)]
    rw [decide_eq_false c,decide_eq_false (by omega)]
   have i8:decide (d < f)=k:=g.symm
   have HQ:Hid (k=decide (d=0∨(d < la∧d < f))):=A5 (by rw [g];simp [hf,hl])
   clear g
   have f9:=fun wg=>W3z 0 (f:Int) (s2:Int) wg
   have j0:IntKind.i64.wrap (j:Int)=(j:Int):=IntWalk.i64_in _ (by omega)
   go_region_held3 (fun w'=>w'.cell? ⟨M,1,none⟩=some (.int .i64 (d:Int))∧w'.cell? ⟨B.b,B.o+8,none⟩=some (.int .i64 (i:Int))∧w'.cell? ⟨B.b,B.o+2,none⟩=some (.int .i64 (la:Int))) (first | exact ⟨k1,k8,k2⟩ | exact ⟨g1,c8,c2⟩) ((first
    | (go_at_call 96;refine (e5.out _ _ l s H2.out.drew.swap a6.out f0).mono ?_;rintro e w5 ⟨rfl,y,a2,p,c9,h5⟩;have n:=A5 c9;have H5:=A5 h5.swap;have k1:=H5.out.obj.cell (i:=1) rfl;obtain ⟨j5,j6,q1,q2,b3⟩:=Z3m h5;have k8:=(W6 b3).1.cell (i:=8) rfl;have k2:=(W6 b3).1.cell (i:=2) rfl;clear c9 h5 b3)))
   go_wp2
   go_meet
   case rel=>exact ⟨k,rfl,HQ,y,a2,p,n,H5⟩
  have b1:decide ((d:Int) < (la:Int))=false:=decide_eq_false (by omega)
  have e8:decide (d < la)=false:=decide_eq_false hl
  go_quiet (fail)
  go_wp2
  go_meet
  case rel=>exact ⟨false,rfl,A5 (by simp [hf,hl]),l,s,by omega,a6,A5 (H2.out.drewN _)⟩
 case rest=>
  obtain ⟨bq,rfl,d1,y,a2,p,n,H6⟩:=hcut
  have H7:=A5 H6.out.third
  have e0:=H7.out.obj.frozen0
  have e1:=H7.out.obj.frozen 1
  have e2:=H7.out.obj.frozen 2
  have k0:=H7.out.obj.cell0 rfl
  have k1:=H7.out.obj.cell (i:=1) rfl
  have k2:=H7.out.obj.cell (i:=2) rfl
  clear g1 c2 c8
  cases bq with
  | true=>
   have hc:d=0∨(d < la∧d < f):=of_decide_eq_true d1.out.symm
   have a9:Hid (K7 32768 258 x tr en la A=Y7p x A):=A5 (by rw [c1.out,if_pos hc])
   obtain ⟨j9,k3,q1,q2,d3⟩:=Z3m H6.out.swap
   obtain ⟨b4,z,_,_,_⟩:=W6 d3
   obtain ⟨L,hL⟩:∃L,L=(x.drop cut).length:=⟨_,rfl⟩
   rw [←hL] at z
   have j2:i < L:=by have:=c5.out;have:=a0.out;rw [hL,T01];omega
   obtain ⟨lo,h4,rfl,k4,k5⟩:=z.form
   have c3:=b4.cell (i:=3) rfl
   have c8:=b4.cell (i:=8) rfl
   obtain ⟨gl,k6,rfl,r,_,_⟩:=z.site (by omega)
   obtain ⟨va,b6⟩:∃va,x[A]?=some va:=⟨x[A]'a0.out,T05 _⟩
   have hd:(x.drop cut)[i]?=some va:=by rw [List.getElem?_drop,←c5.out];exact b6
   have cl:=r i (.int .u8 (va:Int)) (by rw [Z3,hd];rfl)
   have g7:(i:Int) < (L:Int):=by omega
   have e9:=A5 (show Y7p x A=((va:Int),0,0) by unfold Y7p;rw [b6];rfl)
   clear r hd b6 z b4 d3 hL hc
   go_wp2
   go_region
   all_goals
    go_wp2
    have H9:=((H7.out.drew.setObj 0 (.int .u8 (va:Int))).setObj 1 (.int .i64 0)).setObj 2 (.int .i64 0)
    refine Z2y rfl _ 3 Tryz.underlying112 rfl Z5z N [.int .u8 (va:Int),.int .i64 0,.int .i64 0] 112 rfl rfl H9.obj rfl ⟨by rw [a9.out,e9.out];rfl,y,a2,p,n.out,H9.drop.drop⟩
  | false=>
   have hc:¬(d=0∨(d < la∧d < f)):=of_decide_eq_false d1.out.symm
   have a9:Hid (K7 32768 258 x tr en la A=(0,(d:Int),(q:Int))):=A5 (by rw [c1.out,if_neg hc])
   have g0:=H6.out.obj.cell0 rfl
   have g1:=H6.out.obj.cell (i:=1) rfl
   have g2:=H6.out.obj.cell (i:=2) rfl
   clear hc
   go_wp2
   have H9:=((H7.out.setObj 0 (.int .u8 0)).setObj 1 (.int .i64 (d:Int))).setObj 2 (.int .i64 (q:Int))
   refine Z2y rfl _ 3 Tryz.underlying112 rfl Z5z N (Z5b (d,q)) 112 rfl rfl H9.obj rfl ⟨by rw [a9.out];rfl, ?_⟩
   first | exact ⟨y,a2,p,n.out,H9.drop.drop⟩ | exact ⟨y,p,a2,n.out,H9.drop.drop⟩
end
section
variable {w0 w:World} {Rs:List A6} {tr en la at' cut gone n a P:Nat} {B:C4} {x bs bk:List Nat} {g h:List Nat→Option Nat}
theorem X7k (v:Value) (n:Nat) (l:List Nat) (h:A4 w0 w Rs) (hv:Rd w 1 v n (D9 l)) (hn:n≤1000000000):
  Calls Tryz.prog 122 #[v] w fun e w'=>∃v',e= .returned v'∧A4 w0 w' (B0 5 1 v' n (D9 l)::Rs):=by
 obtain ⟨i0,d,f,g,i⟩:=info_parts Z2u
 have s:∀ (w:World) (a:Option Addr) (n c n' c':Nat),(binOp .eql 26 (.slice a n c) (.slice none n' c')).run Tryz.prog w= .ok (.bool a.isNone) w:=fun w a n c n' c'=>Lib.run_eql_slice_nil w _ _ a n c n' c' Tryz.underlying26
 obtain ⟨j,ao,k,rfl,m,o,b,p⟩:=hv
 cases ao with
 | none=>
  obtain rfl:=b rfl
  obtain rfl:n=0:=by omega
  have t:D9 l=[]:=T06 (by omega)
  rw [t]
  have x:=A5 (h.nil 5 1)
  clear h j b p
  go_enter Tryz.func122,Tryz.ntmps122
  go_wp2
  go_ret
  exact ⟨_,rfl,x.out⟩
 | some a=>
  have hv:Rd w 1 (.slice (some a) n k) n (D9 l):=⟨j,_,_,rfl,m,o,b,p⟩
  have y:=A5 (h.lit 5 1 [] 0 (by decide) rfl)
  have z:=A5 (hv.kept ((E5.refl w (fun _=>False)).alloc (.cells #[] 5)) (fun _ _ h=>h))
  clear h j b p hv
  go_enter Tryz.func122,Tryz.ntmps122
  go_wp2_with (refine D6 rfl (.tmp 5) (.tmp 6) 26 rfl 5 i0 (.int .u8 0) 1 1 Tryz.underlying26 d f g i rfl (by decide) _ 0 [] rfl y.out _ n (D9 l) rfl z.out (T0 l) n (by omega) (by unfold maxLen;omega) (by omega) ?_;intro a1 q w1 r;have H2:=A5 r;clear r)
  go_ret
  exact ⟨_,rfl,H2.out⟩
theorem X1o (v:Value) (n:Nat) (l:List Nat) (h:A4 w0 w Rs) (hv:Rd w 1 v n (D5 .u16 l)) (hn:n≤1000000000):
  Calls Tryz.prog 123 #[v] w fun e w'=>∃v',e= .returned v'∧A4 w0 w' (B0 39 1 v' n (D5 .u16 l)::Rs):=by
 obtain ⟨i0,d,f,g,i⟩:=info_parts Y5n
 have s:∀ (w:World) (a:Option Addr) (n c n' c':Nat),(binOp .eql 66 (.slice a n c) (.slice none n' c')).run Tryz.prog w= .ok (.bool a.isNone) w:=fun w a n c n' c'=>Lib.run_eql_slice_nil w _ _ a n c n' c' Tryz.underlying66
 obtain ⟨j,ao,k,rfl,m,o,b,p⟩:=hv
 cases ao with
 | none=>
  obtain rfl:=b rfl
  obtain rfl:n=0:=by omega
  have t:D5 .u16 l=[]:=T06 (by omega)
  rw [t]
  have x:=A5 (h.nil 39 1)
  clear h j b p
  go_enter Tryz.func123,Tryz.ntmps123
  go_wp2
  go_ret
  exact ⟨_,rfl,x.out⟩
 | some a=>
  have hv:Rd w 1 (.slice (some a) n k) n (D5 .u16 l):=⟨j,_,_,rfl,m,o,b,p⟩
  have y:=A5 (h.lit 39 1 [] 0 (by decide) rfl)
  have z:=A5 (hv.kept ((E5.refl w (fun _=>False)).alloc (.cells #[] 39)) (fun _ _ h=>h))
  clear h j b p hv
  go_enter Tryz.func123,Tryz.ntmps123
  go_wp2_with (refine D6 rfl (.tmp 5) (.tmp 6) 66 rfl 39 i0 (.int .u16 0) 1 2 Tryz.underlying66 d f g i rfl (by decide) _ 0 [] rfl y.out _ n (D5 .u16 l) rfl z.out (Y1c _ l) n (by omega) (by unfold maxLen;omega) (by omega) ?_;intro a1 q w1 r;have H2:=A5 r;clear r)
  go_ret
  exact ⟨_,rfl,H2.out⟩
theorem V6s (lo:Option Addr) (L lcap n:Nat) (T E:TypeId) (i0:TypeInfo) (hT:Tryz.prog.underlying T=some (.slice E)) (hi0:Tryz.prog.info? E=some i0) (hz1:i0.size=1) (hn:n≤L) (hlc:L≤lcap) (wg:World):
  (Instr.sliceAt T (.slice lo L lcap) (some (.int .i64 (n:Int))) none none).run Tryz.prog wg= .ok (.slice (if lcap=n then lo else lo.map fun (x:Addr)=>x.add (n*1)) (L-n) (lcap-n)) wg:=
 O0 (P:=Tryz.prog) T E i0 1 hT hi0 hz1 lo L lcap n L (some (.int .i64 (n:Int))) none ⟨_,rfl⟩ rfl hn hlc
theorem X80 (H:A4 w0 w (inF tr en la at' x cut P a B::Rs)) (HI:Z16 x cut P a) (n:Nat) (hn:cut+n+2≤x.length) (hlen:x.length < 1000000000) (hb:∀b∈x,b < 256):
  Calls Tryz.prog 97 #[.pointer (some ⟨B.b,B.o+3,none⟩),.int .i64 (n:Int)] w fun e w'=>e= .returned (.tuple #[])∧∃a',Z16 x (cut+n) (max P (cut+n)) a'∧A4 w0 w' (inF tr en la at' x (cut+n) (max P (cut+n)) a' B::Rs):=by
 obtain ⟨i0,d1,i4,d2,i5⟩:=info_parts Z2u
 obtain ⟨i1,d3,i7,d4,i8⟩:=info_parts Y5n
 obtain ⟨lv,H⟩:=V4z H
 have p:=Y92 H HI (cut+n) (by omega) (.inr hn) hlen hb
 rw [show cut+n-cut=n by omega] at p
 have HL:=A5 p
 have f8:=A5 HI.cut_le
 obtain ⟨Q,hQ⟩:∃Q,Q=max P (cut+n):=⟨_,rfl⟩
 rw [←hQ] at HL⊢
 have HQ:=A5 hQ
 have f9:(0:Int)≤(n:Int):=T00 _
 clear p H HI hQ
 go_enter Tryz.func97,Tryz.ntmps97
 go_wp2_with fail
 refine HL.out.mono ?_
 rintro e w1 ⟨rfl,a1,a8,h1⟩
 have j:=A5 a8
 obtain ⟨bv,m1,m2,HF⟩:=unV h1
 obtain ⟨hB,m,z,_,_⟩:=W6 HF
 have H1:Hid (A4 w0 w1 (Q0 B (Z6j tr en la lv cut (.map (some m1)) (.map (some m2)) bv at')::B0 5 1 lv (x.drop cut).length (D9 (x.drop cut))::B0 39 1 bv (M6 x cut Q).length (D5 .u16 (M6 x cut Q))::Z3k (.map (some m1)) (P9 x a1 Q) Q::Z3k (.map (some m2)) (P3 32768 x a1) Q::Rs)):=HF
 obtain ⟨L,p⟩:∃L,L=(x.drop cut).length:=⟨_,rfl⟩
 obtain ⟨M,hM⟩:∃M,M=(M6 x cut Q).length:=⟨_,rfl⟩
 have b6:L=x.length-cut:=by rw [p,T01]
 have b7:M=Q-cut:=by rw [hM,Z6]
 rw [←p] at m
 rw [←hM] at z
 obtain ⟨lo,k,rfl,e0,i9⟩:=m.form
 obtain ⟨bo,g,rfl,e3,j0⟩:=z.form
 have a0:n≤L:=by omega
 have a2:n≤M:=by have:=HQ.out;omega
 have q:=fun wg=>V6s lo L k n 26 5 i0 Tryz.underlying26 d1 d2 a0 e0 wg
 have r:=fun wg=>V6s bo M g n 66 39 i1 Tryz.underlying66 d3 d4 a2 e3 wg
 have d:=m.rd.cut (L:=n) (H:=L) a0 (T02 _)
 have f:=fun (wz:World) (h:Rd wz 1 (.slice bo M g) M (D5 .u16 (M6 x cut Q)))=>h.cut (L:=n) (H:=M) a2 (T02 _)
 unfold sliced at d f
 generalize (if k=n then lo else lo.map fun (x:Addr)=>x.add (n*1))=lo2 at q d
 generalize (if g=n then bo else bo.map fun (x:Addr)=>x.add (n*1))=bo2 at r f
 have e1:((D9 (x.drop cut)).drop (n*1)).take ((L-n)*1)=D9 (x.drop (cut+n)):=by
  rw [T03,T03,T04 (by rw [T01,E6,←p];omega)]
  simp only [D9,←List.map_drop,List.drop_drop]
 have e2:((D5 .u16 (M6 x cut Q)).drop (n*1)).take ((M-n)*1)=D5 .u16 (M6 x (cut+n) Q):=by
  rw [T03,T03,T04 (by rw [T01,Z7p,←hM];omega),←X7v]
  simp only [D5,←List.map_drop]
 rw [e1] at d
 rw [e2] at f
 obtain ⟨K,hK⟩:∃K,K=L-n:=⟨_,rfl⟩
 obtain ⟨J,hJ⟩:∃J,J=M-n:=⟨_,rfl⟩
 rw [←hK] at q d
 rw [←hJ] at r f
 generalize k-n=lcap2 at q d
 generalize g-n=bcap2 at r f
 have HK:Hid (K=(x.drop (cut+n)).length∧J=(M6 x (cut+n) Q).length):=A5 ⟨by rw [T01];omega,by rw [Z6];omega⟩
 have a3:=A5 (X7k _ K _ H1.out d (by omega))
 have b8:=A5 f
 have b9:=A5 hM
 have HJ:Hid (J≤1000000000):=A5 (by have:=j.out.room;omega)
 have c3:=hB.cell (i:=3) rfl
 have g4:cut < 1000000000:=by omega
 have g5:n < 1000000000:=by omega
 have c0:(0:Int)≤(cut:Int):=T00 _
 clear a8 h1 HF hB m z p hM b6 b7 d f e1 e2 hK hJ HL
 go_wp2_with fail
 refine a3.out.mono ?_
 rintro e w2 ⟨v1,rfl,h2⟩
 obtain ⟨b0,b1,rfl,_,_⟩:=h2.own.form
 have h3:=h2.swap
 have s:=h3.objp
 have f3:=s.frozen 3
 have g6:=s.cell (i:=3) rfl
 have h4:=h3.setObjP 3 (.slice b0 K b1)
 have H4:=A5 h4
 have a5:=h4.objp
 have c7:=a5.cell (i:=7) rfl
 have t:=h4.drop.drop.drop.own
 rw [←b9.out] at t
 have a6:=X1o _ J _ h4 (b8.out _ t.rd) HJ.out
 have a7:=A5 a6
 clear h2 h3 h4 s a5 t a6 a3 c3
 go_wp2_with fail
 refine a7.out.mono ?_
 rintro e w3 ⟨v2,rfl,h5⟩
 obtain ⟨b2,b3,rfl,_,_⟩:=h5.own.form
 have h6:=h5.swap
 have l:=h6.objp
 have f7:=l.frozen 7
 have f4:=l.frozen 4
 have g7:=l.cell (i:=7) rfl
 have h7:=h6.setObjP 7 (.slice b2 J b3)
 have y:=h7.objp
 have c4:=y.cell (i:=4) rfl
 have g8:=y.frozen 4
 obtain ⟨C,hC⟩:∃C,C=cut+n:=⟨_,rfl⟩
 have H7:=A5 (h7.setObjP 4 (.int .i64 (C:Int)))
 have h0:(cut:Int)+(n:Int)=(C:Int):=by omega
 have HC:=A5 hC
 clear h5 h6 h7 l y a7 hC
 go_wp2
 go_end0
 refine ⟨rfl,a1,⟨by have:=HQ.out;omega,j.out.room,j.out.a_le,j.out.le_a,j.out.mod,j.out.some⟩, ?_⟩
 have h8:=V0m H7.out.fourth.drop.fourth.drop
 have hk:=HK.out
 rw [←HC.out] at h8 hk⊢
 refine Z7b (.slice b0 K b1) (.slice b2 J b3) m1 m2 ?_
 unfold Y2h
 rw [←hk.1,←hk.2]
 exact h8
theorem W6j (A:Nat) (H:A4 w0 w (inF tr en la (A-cut) x cut P a B::Rs)) (HI:Z16 x cut P a) (hPA:P≤A) (hAx:A≤x.length) (hcA:cut≤A) (hcw:cut=0∨cut+32768≤A) (hlen:x.length < 1000000000) (hb:∀b∈x,b < 256):
  Calls Tryz.prog 85 #[.pointer (some ⟨B.b,B.o,none⟩)] w fun e w'=>e= .returned (.tuple #[])∧∃cut' P' a',cut'≤A∧P'≤A∧(cut'=0∨cut'+32768≤A)∧Z16 x cut' P' a'∧A4 w0 w' (inF tr en la (A-cut') x cut' P' a' B::Rs):=by
 obtain ⟨t,p⟩:∃t,t=A-cut:=⟨_,rfl⟩
 have l:A=cut+t:=by omega
 obtain ⟨lv,bv,m1,m2,s⟩:=Z3m H
 have q:=(W6 s).1
 have c8:=q.cell (i:=8) rfl
 rw [←p] at c8
 have a8:(0:Int)≤(t:Int):=T00 _
 have a9:t < 1000000000:=by omega
 by_cases f:65536≤t
 ·obtain ⟨o,ho⟩:∃o,o=t-32768:=⟨_,rfl⟩
  have b0:(t:Int)-32768=(o:Int):=by omega
  have b1:(32768:Int)≤(o:Int):=by omega
  have b2:(0:Int)≤(o:Int):=T00 _
  have g:=A5 (X80 H HI o (by omega) hlen hb)
  have n:Hid (cut+o≤A∧max P (cut+o)≤A∧cut+o+32768≤A∧A- (cut+o)=32768):=A5 (by omega)
  have a2:(t:Int)- (o:Int)=32768:=by omega
  rw [←p] at g
  have b3:o < 1000000000:=by omega
  clear s q H HI ho l p hPA hAx hcA hcw f
  go_enter Tryz.func85,Tryz.ntmps85
  go_wp2_with fail
  refine g.out.mono ?_
  rintro e w1 ⟨rfl,a1,m,h1⟩
  have r:=A5 m
  obtain ⟨y,a0,q1,q2,k⟩:=Z3m h1
  have j:=(W6 k).1
  have d8:=j.cell (i:=8) rfl
  have f8:=j.frozen 8
  have h2:A4 w0 w1 (Q0 B (Z6j tr en la y (cut+o) (.map (some q1)) (.map (some q2)) a0 t)::_):=k
  have H2:=A5 (h2.setObjP 8 (.int .i64 32768))
  clear m h1 k j h2 g
  go_wp2
  go_end0
  refine ⟨rfl,cut+o,max P (cut+o),a1,n.out.1,n.out.2.1,.inr n.out.2.2.1,r.out, ?_⟩
  rw [n.out.2.2.2]
  exact Z7b _ _ _ _ H2.out
 have HH:=A5 H
 have d:=A5 (And.intro HI (And.intro hPA (And.intro hcA hcw)))
 obtain ⟨z,hz⟩:∃z:Int,z=(t:Int)-32768:=⟨_,rfl⟩
 have b5:(t:Int)-32768=z:=hz.symm
 have b6:¬(32768:Int)≤z:=by omega
 have b7: -9223372036854775808≤z:=by omega
 have b8:z≤9223372036854775807:=by omega
 clear s q H HI l p hPA hAx hcA hcw f hz
 go_enter Tryz.func85,Tryz.ntmps85
 go_wp2
 go_end0
 first | exact ⟨rfl,cut,P,a,d.out.2.2.1,d.out.2.1,d.out.2.2.2,d.out.1,HH.out⟩ | exact ⟨rfl,cut,d.out.2.2.1,P,d.out.2.1,d.out.2.2.2,a,d.out.1,HH.out⟩
end
theorem Y9y:(Tryz.prog.info? 112).map (fun i=>(i.zero,i.size,i.bytes))=some (some (.agg #[.int .u8 0,.int .i64 0,.int .i64 0]),3,24):=by kernel_rfl
section
variable {w0 w:World} {Rs:List A6} {tr en la at' cut gone n a P:Nat} {B:C4} {x bs bk:List Nat} {g h:List Nat→Option Nat}
theorem X8l (H:A4 w0 w (Z81 tr en la at' gone bs bk g h n B::Rs)) (v:Value) (m:Nat) (b:List Nat) (hv:Rd w 1 v m (D9 b)) (hlen:bs.length+m < 1000000000):
  Calls Tryz.prog 73 #[.pointer (some ⟨B.b,B.o,none⟩),v] w fun e w'=>e= .returned (.tuple #[])∧A4 w0 w' (Z81 tr en la at' gone (bs++b) bk g h n B::Rs):=by
 obtain ⟨i0,p,q,r,s⟩:=info_parts Z2u
 have d:m=b.length:=by have:=hv.1;rw [E6] at this;omega
 obtain ⟨so,a2,rfl,b1,b2⟩:=hv.form
 obtain ⟨lv,t,x,y,HF⟩:=Z3m H
 obtain ⟨L,l⟩:∃L,L=bs.length:=⟨_,rfl⟩
 have f:A4 w0 w (Q0 B (Z6j tr en la lv gone (.map (some x)) (.map (some y)) t at')::B0 5 1 lv bs.length (D9 bs)::B0 39 1 t bk.length (D5 .u16 bk)::Z3k (.map (some x)) g n::Z3k (.map (some y)) h n::Rs):=HF
 rw [←l] at f hlen
 obtain ⟨lo,a5,rfl,_,_⟩:=f.swap.own.form
 have z:=f.objp
 have c3:=z.cell (i:=3) rfl
 have H1:=A5 f.swap
 have HV:=A5 hv
 have HN:=A5 (And.intro l d)
 clear H HF f hv z l d
 go_enter Tryz.func73,Tryz.ntmps73
 go_wp2_with (refine D6 rfl (.tmp 11) (.tmp 12) 26 rfl 5 i0 (.int .u8 0) 1 1 Tryz.underlying26 p q r s rfl (by decide) _ L (D9 bs) rfl H1.out _ m (D9 b) rfl HV.out (T0 b) (L+m) rfl (by unfold maxLen;omega) (by omega) ?_;intro j a w2 h2;have k:=A5 h2.swap;have f3:=k.out.objp.frozen 3;have a8:=k.out.objp.cell (i:=3) rfl;clear h2)
 go_end0
 refine ⟨rfl,Z7b (.slice j (L+m) a) t x y ?_⟩
 have h3:=k.out.setObjP 3 (.slice j (L+m) a)
 unfold Y2h
 rw [T07,←HN.out.1,←HN.out.2,J8]
 exact h3
theorem V5c {R1 R2 R3 R4 R5 T:A6} (H:A4 w0 w (R1::R2::T::R3::R4::R5::Rs)):A4 w0 w (R1::R2::R3::R4::R5::T::Rs):=
 H.perm (List.Perm.cons _ (List.Perm.cons _ (List.perm_middle (l₁:=[R3,R4,R5])).symm))
theorem X54 (H:A4 w0 w (Z81 tr en la at' gone bs bk g h n B::Rs)) (hat:at'≤bs.length) (hlen:bs.length < 1000000000):
  Calls Tryz.prog 83 #[.pointer (some ⟨B.b,B.o,none⟩)] w fun e w'=>e= .returned (.int .i64 ((bs.length-at':Nat):Int))∧∃k,w'=w.drewN k:=by
 obtain ⟨y,z,m1,m2,j⟩:=Z3m H
 obtain ⟨a,f,_,_,_⟩:=W6 j
 obtain ⟨L,l⟩:∃L,L=bs.length:=⟨_,rfl⟩
 rw [←l] at f hat hlen⊢
 obtain ⟨lo,m,rfl,_,_⟩:=f.form
 have t:=a.cell (i:=3) rfl
 have x:=a.cell (i:=8) rfl
 obtain ⟨d,p⟩:∃d,d=L-at':=⟨_,rfl⟩
 have q:(L:Int)- (at':Int)=(d:Int):=by omega
 have r:(0:Int)≤(d:Int):=T00 _
 have s:d < 1000000000:=by omega
 rw [←p]
 clear p H j a f l hat
 go_enter Tryz.func83,Tryz.ntmps83
 go_wp2
 go_quiet (fail)
 go_wp2
 go_ret
 exact ⟨rfl,_,rfl⟩
def V7 (bs:List Nat):List E3:=bs.map fun (b:Nat)=>((b:Int),0,0)
theorem X2r (H:A4 w0 w (Z81 tr en la at' gone bs bk g h n B::Rs)) (hlen:bs.length < 1000000000):
  Calls Tryz.prog 82 #[.pointer (some ⟨B.b,B.o,none⟩)] w fun e w'=>∃v,e= .returned v∧A4 w0 w' (Y4n v (V7 bs)::Z81 tr en la at' gone [] bk g h n B::Rs):=by
 obtain ⟨i3,a5,a6,a7,a8⟩:=info_parts Y9y
 obtain ⟨lv,s,t,x,HF⟩:=Z3m H
 obtain ⟨hB,hO,_,_,_⟩:=W6 HF
 obtain ⟨L,hL⟩:∃L,L=bs.length:=⟨_,rfl⟩
 rw [←hL] at hO hlen
 obtain ⟨z,a,rfl,_,_⟩:=hO.form
 have HB:=A5 hB
 have c3:=hB.cell (i:=3) rfl
 have b6:(0:Int)≤(L:Int):=T00 _
 have y:=A5 hL
 have H1:Hid (A4 w0 w (Q0 B (Z6j tr en la (.slice z L a) gone (.map (some t)) (.map (some x)) s at')::B0 5 1 (.slice z L a) bs.length (D9 bs)::B0 39 1 s bk.length (D5 .u16 bk)::Z3k (.map (some t)) g n::Z3k (.map (some x)) h n::Rs)):=HF
 clear H HF hB hO hL
 go_enter Tryz.func82,Tryz.ntmps82
 go_wp2
 go_loopg [3,5,12] (L+2) (fun gg t3 t5 t12 wr=>∃ (k:Nat) (ao:Option Addr) (f:Nat),k≤L∧L+1-k < gg∧t12= .int .i64 (k:Int)∧t3= .slice ao k f∧
  Hid (A4 w0 wr (B0 112 3 (.slice ao k f) k (I6 (V7 (bs.take k)))::Q0 B (Z6j tr en la (.slice z L a) gone (.map (some t)) (.map (some x)) s at')::B0 5 1 (.slice z L a) bs.length (D9 bs)::B0 39 1 s bk.length (D5 .u16 bk)::Z3k (.map (some t)) g n::Z3k (.map (some x)) h n::Rs)))
 case atStart=>exact ⟨0,none,0,by omega,by omega,rfl,rfl,A5 (H1.out.nil 112 3)⟩
 case round=>
  obtain ⟨k,ao,f,hk,hg,rfl,rfl,HR⟩:=hrel
  have b8:(0:Int)≤(k:Int):=T00 _
  by_cases a3:k < L
  ·have a1:(k:Int) < (L:Int):=by omega
   obtain ⟨p,m⟩:∃p,bs[k]?=some p:=⟨bs[k]'(by rw [←y.out];exact a3),T05 _⟩
   have j:=HR.out.drop.drop.own
   rw [←y.out] at j
   obtain ⟨gl,c4,rfl,d,_,_⟩:=j.site (by omega)
   have cb:=d k (.int .u8 (p:Int)) (by rw [Z3,m];rfl)
   have HC:Hid (I6 (V7 (bs.take k))++[.int .u8 (p:Int),.int .i64 0,.int .i64 0]=I6 (V7 (bs.take (k+1)))):=A5 (by
    rw [List.take_add_one,m]
    simp [V7,I6])
   clear m j d
   go_wp2_with (refine D6 rfl (.tmp 16) (.tmp 19) 54 rfl 112 i3 (.agg #[.int .u8 0,.int .i64 0,.int .i64 0]) 3 24 Tryz.underlying54 a5 a6 a7 a8 rfl (by decide) _ k (I6 (V7 (bs.take k))) rfl (HR.out.alloc _) _ 1 [.int .u8 (p:Int),.int .i64 0,.int .i64 0] rfl (Rd.lit _ [.int .u8 (p:Int),.int .i64 0,.int .i64 0] _ 3 1 (by decide) rfl) (by intro u hu;simp at hu;rcases hu with rfl | rfl <;> rfl) (k+1) rfl (by unfold maxLen;omega) (by omega) ?_;intro a4 r w4 q;rw [HC.out] at q;have H4:=A5 q;clear q)
   go_roundg (gk-1)
   case measure=>omega
   case rel=>exact ⟨k+1,a4,r,by omega,by omega,by go_num,rfl,H4⟩
  obtain rfl:k=L:=by omega
  have a1:¬(k:Int) < (k:Int):=by omega
  have h2:=HR.out.swap
  have l:=h2.objp
  have d3:=l.cell (i:=3) rfl
  have f3:=l.frozen 3
  have H3:=A5 (h2.setObjP 3 (.slice none 0 0))
  clear h2 l
  go_wp2
  go_ret
  refine ⟨.slice ao k f,rfl, ?_⟩
  have q:=(V5c (H3.out.third.drop.nil 5 1).swap)
  have h5:=(Z7b (bs:=[]) (.slice none 0 0) s t x q).swap
  rw [T04 (by rw [y.out];exact T02 _)] at h5
  have e:(V7 bs).length=k:=by rw [y.out];simp [V7]
  unfold Y4n
  rw [e]
  exact h5
end
section
variable {w0 w:World} {Rs:List A6} {tr en la cut a P:Nat} {B:C4} {x:List Nat}
theorem X5e (A:Nat) (e:Bool) (st:Nat) (hst:st=if e then 0 else 261) (H:A4 w0 w (inF tr en la (A-cut) x cut P a B::Rs)) (HI:Z16 x cut P a) (hPA:P≤A) (hAx:A≤x.length) (hcA:cut≤A) (hcw:cut=0∨cut+32768≤A) (hlen:x.length < 1000000000) (hb:∀b∈x,b < 256) (htr:tr < 1000000000) (htr0:0 < tr):
  Calls Tryz.prog 74 #[.pointer (some ⟨B.b,B.o,none⟩),.bool e] w fun e' w'=>∃v cut' P' a',e'= .returned v∧cut'≤(M1 32768 258 x tr en la st A).2∧P'≤(M1 32768 258 x tr en la st A).2∧(cut'=0∨cut'+32768≤(M1 32768 258 x tr en la st A).2)∧Z16 x cut' P' a'∧
   A4 w0 w' (Y4n v (M1 32768 258 x tr en la st A).1::inF tr en la ((M1 32768 258 x tr en la st A).2-cut') x cut' P' a' B::Rs):=by
 obtain ⟨i3,f9,g0,g1,g2⟩:=info_parts Y9y
 obtain ⟨lv,bv,m1,m2,p⟩:=Z3m H
 have hB:=(W6 p).1
 have c0:=hB.cell0 rfl
 have g7:((tr:Int)==0)=false:=by simp;omega
 have e6:decide ((tr:Int)=0)=false:=by simp;omega
 have e7:¬(tr:Int)=0:=by omega
 have g8:(0:Int)≤(st:Int):=T00 _
 have g9:st≤261:=by rw [hst];split <;> omega
 obtain ⟨pl,pn,hp⟩:∃pl pn,M1 32768 258 x tr en la st A=(pl,pn):=⟨_,_,rfl⟩
 rw [hp]
 have HP:=A5 hp
 have HG:=A5 (And.intro HI (And.intro hPA (And.intro hAx (And.intro hcA hcw))))
 have HH:=A5 H
 have b8:=A5 hst
 clear p hB H HI hPA hAx hcA hcw hp hst
 go_enter Tryz.func74,Tryz.ntmps74
 go_upto_if 18 with (fail)
 go_cut [5] (fun s5 wx=>s5= .int .i64 (st:Int)∧wx=w)
 case first=>
  cases e with
  | true=>
   have a7:st=0:=by rw [b8.out];rfl
   subst a7
   go_wp2
   go_meet
   case rel=>exact ⟨rfl,rfl⟩
  | false=>
   have a7:st=261:=by rw [b8.out];rfl
   subst a7
   go_wp2
   go_meet
   case rel=>exact ⟨rfl,rfl⟩
 case rest=>
  obtain ⟨rfl,rfl⟩:=hcut
  go_wp2
  go_loopg [6,7] (x.length+2) (fun gg t6 t7 wr=>∃ (f P1 a1 k:Nat) (ao:Option Addr) (y:Nat) (l1:List E3),f≤x.length∧x.length+1-f < gg∧t6= .slice ao k y∧k≤f∧A≤f∧Hid (k=l1.length)∧
   Hid (l1++(M1 32768 258 x tr en la st f).1=pl∧(M1 32768 258 x tr en la st f).2=pn)∧Hid (Z16 x cut P1 a1∧P1≤f∧cut≤f∧(cut=0∨cut+32768≤f))∧
   Hid (A4 w0 wr (B0 112 3 (.slice ao k y) k (I6 l1)::inF tr en la (f-cut) x cut P1 a1 B::Rs)))
  case atStart=>
   refine ⟨A,P,a,0,none,0,[],HG.out.2.2.1,by omega,rfl,Nat.zero_le _,T02 _,A5 rfl,A5 ?_,A5 ⟨HG.out.1,HG.out.2.1,HG.out.2.2.2.1,HG.out.2.2.2.2⟩,A5 (HH.out.nil 112 3)⟩
   rw [HP.out];exact ⟨rfl,rfl⟩
  case round=>
   obtain ⟨f,P1,a1,k,ao,y,l1,g4,hg,rfl,k9,l0,HK,HL,p,HR⟩:=hrel
   obtain ⟨W1,b4⟩:∃W1,W1=x.length-f:=⟨_,rfl⟩
   have b9:(x.drop cut).length- (f-cut)=W1:=by rw [T01,b4];have:=p.out;omega
   have a8:=X54 HR.out.swap (by rw [T01];omega) (by rw [T01];omega)
   rw [b9] at a8
   have HW:=A5 a8
   have j3:(0:Int)≤(W1:Int):=T00 _
   have a9:=A5 b4
   clear a8 b9 b4
   by_cases hc:st < W1
   rotate_left
   ·have e8:¬(st:Int) < (W1:Int):=by omega
    have a3:=U0 (W:=32768) (L:=258) (x:=x) (tr:=tr) (en:=en) (la:=la) (stay:=st) f (by rw [←a9.out];exact hc)
    have hl:=HL.out
    rw [a3] at hl
    have HE:Hid (l1=pl∧f=pn):=A5 ⟨by rw [←hl.1];simp,hl.2⟩
    have c4:=A5 (fun (wz:World) (Rz:List A6) (h:A4 w0 wz (inF tr en la (f-cut) x cut P1 a1 B::Rz))=>W6j f h p.out.1 p.out.2.1 g4 p.out.2.2.1 p.out.2.2.2 hlen hb)
    clear a3 hl
    go_wp2_with fail
    refine HW.out.mono ?_
    rintro e1 w2 ⟨rfl,k2,rfl⟩
    go_wp2_with fail
    refine (c4.out _ _ (HR.out.drewN k2).swap).mono ?_
    rintro e1 w3 ⟨rfl,d3,P2,a2,d4,b1,a5,s,h3⟩
    have HX:=A5 (And.intro d4 (And.intro b1 (And.intro a5 (And.intro s h3))))
    clear d4 b1 a5 s h3 c4 HW
    go_wp2
    go_ret
    rw [←HE.out.2]
    refine ⟨.slice ao k y,d3,P2,a2,rfl,HX.out.1,HX.out.2.1,HX.out.2.2.1,HX.out.2.2.2.1, ?_⟩
    unfold Y4n
    rw [←HE.out.1,←HK.out]
    exact HX.out.2.2.2.2.swap
   have e8:(st:Int) < (W1:Int):=by omega
   have c1:f < x.length:=by have:=a9.out;omega
   have r:=A5 (fun (wz:World) (Rz:List A6) (h:A4 w0 wz (inF tr en la (f-cut) x cut P1 a1 B::Rz))=>W4a f h p.out.1 p.out.2.1 c1 p.out.2.2.2 hlen hb htr)
   obtain ⟨j,g,m,ht⟩:∃j g m,K7 32768 258 x tr en la f=(j,g,m):=⟨_,_,_,rfl⟩
   have n:=Z84 (W:=32768) (L:=258) (x:=x) (tr:=tr) (en:=en) (la:=la) (by omega) f c1
   have z:=Z38 (W:=32768) (L:=258) (x:=x) (tr:=tr) (en:=en) (la:=la) (stay:=st) f (by rw [←a9.out];exact hc)
   rw [ht] at n z r
   have r:Hid (∀ (wz:World) (Rz:List A6),A4 w0 wz (inF tr en la (f-cut) x cut P1 a1 B::Rz)→Calls Tryz.prog 84 #[.pointer (some ⟨B.b,B.o,none⟩)] wz fun e w'=>e= .returned (.agg #[.int .u8 j,.int .i64 g,.int .i64 m])∧∃P' a',P'≤f+1∧Z16 x cut P' a'∧A4 w0 w' (inF tr en la (f-cut) x cut P' a' B::Rz)):=r
   obtain ⟨q,hq⟩:∃q,q=adv (j,g,m):=⟨_,rfl⟩
   rw [←hq] at n z
   have j4:1≤q:=by rw [hq];exact Z2a _
   have e9:q=max g.toNat 1:=hq
   have a0:0≤g∧g≤258:=by
    rcases n.2.2 with h | ⟨l,d,h,_,h4,_⟩
    ·have:g=0:=congrArg (fun t:E3=>t.2.1) h
     omega
    have:g=(l:Int):=congrArg (fun t:E3=>t.2.1) h
    omega
   have h0:(if g < 1 then 1 else g)=(q:Int):=by split <;> omega
   have f0:f+q≤x.length:=n.1
   have j5:q≤258:=by have:=n.2.1;omega
   obtain ⟨u,hu⟩:∃u,u=f-cut:=⟨_,rfl⟩
   obtain ⟨u2,c7⟩:∃u2,u2=f+q-cut:=⟨_,rfl⟩
   have j6:(u:Int)+(q:Int)=(u2:Int):=by have:=p.out;omega
   have j7:u < 1000000000:=by omega
   have h2:u2 < 2000000000:=by omega
   have j8:(0:Int)≤(u:Int):=T00 _
   have f1:=A5 z
   have HU:=A5 (And.intro hu c7)
   have j9:=A5 a0
   have h8:=a0.1
   have h9:g≤258:=a0.2
   clear n z hq e9 ht hu c7 a0
   go_wp2_with fail
   refine HW.out.mono ?_
   rintro e1 w2 ⟨rfl,k2,rfl⟩
   go_wp2_with fail
   refine (r.out _ _ (HR.out.drewN k2).swap).mono ?_
   rintro e1 w3 ⟨rfl,P2,a2,b1,s,h3⟩
   have f2:=A5 s
   have H4:Hid (A4 w0 (w3.alloc (.cells #[.int .u8 j,.int .i64 g,.int .i64 m] 112)) (E8 w3.heap.size [.int .u8 j,.int .i64 g,.int .i64 m] 112::inF tr en la (f-cut) x cut P2 a2 B::B0 112 3 (.slice ao k y) k (I6 l1)::Rs)):=A5 (h3.newObj _ _)
   have c3:Hid (Rd ((w3.alloc (.cells #[.int .u8 j,.int .i64 g,.int .i64 m] 112)).alloc (.cells #[.int .u8 j,.int .i64 g,.int .i64 m] 112)) 3 (.slice (some ⟨w3.heap.size+1,0,none⟩) 1 1) 1 [.int .u8 j,.int .i64 g,.int .i64 m]):=A5 (by
    have h:=Rd.lit (w3.alloc (.cells #[.int .u8 j,.int .i64 g,.int .i64 m] 112)) [.int .u8 j,.int .i64 g,.int .i64 m] 112 3 1 (by decide) rfl
    rw [show (w3.alloc (.cells #[.int .u8 j,.int .i64 g,.int .i64 m] 112)).heap.size=w3.heap.size+1 by simp] at h
    exact h)
   have t0:=H4.out.obj.cell0 rfl
   have t1:=H4.out.obj.cell (i:=1) rfl
   have t2:=H4.out.obj.cell (i:=2) rfl
   clear s h3 HW r
   go_wp2_with (refine D6 rfl (.tmp 25) (.tmp 27) 54 rfl 112 i3 (.agg #[.int .u8 0,.int .i64 0,.int .i64 0]) 3 24 Tryz.underlying54 f9 g0 g1 g2 rfl (by decide) _ k (I6 l1) rfl (H4.out.third.alloc _) _ 1 [.int .u8 j,.int .i64 g,.int .i64 m] rfl c3.out (by intro u hu;simp at hu;rcases hu with rfl | rfl | rfl <;> rfl) (k+1) rfl (by unfold maxLen;omega) (by omega) ?_;intro f6 d2 w4 h4;have H5:=A5 h4;clear h4)
   obtain ⟨d6,d7,q1,q2,d8⟩:=Z3m H5.out.third
   have h6:A4 w0 w4 (Q0 B (Z6j tr en la d6 cut (.map (some q1)) (.map (some q2)) d7 (f-cut))::_):=d8
   rw [←HU.out.1] at h6
   have b0:=h6.objp
   have c8:=b0.cell (i:=8) rfl
   have f8:=b0.frozen 8
   have j1:=H5.out.swap.obj.cell (i:=1) rfl
   have H6:=A5 (h6.drew.setObjP 8 (.int .i64 (u2:Int)))
   clear d8 h6 b0 H4 t0 t1 t2 c3
   go_region
   all_goals
    have h7:A4 w0 _ (inF tr en la u2 x cut P2 a2 B::_):=Z7b d6 d7 q1 q2 H6.out
    have H8:=A5 h7
    clear h7
    go_wp2
    go_roundg (gk-1)
    case measure=>omega
    case rel=>
     refine ⟨f+q,P2,a2,k+1,f6,d2,l1++[(j,g,m)],f0,by omega,rfl,by omega,by omega,A5 (by rw [T07,←HK.out];rfl),A5 ?_,A5 ?_,A5 ?_⟩
     ·have h1:=HL.out
      rw [f1.out] at h1
      exact ⟨by rw [←h1.1];simp,h1.2⟩
     ·have:=p.out
      exact ⟨f2.out,by omega,by omega,by omega⟩
     rw [Z5s,←HU.out.2]
     exact H8.out.third.drop.swap
end
def Y3l:List (Nat×Nat×Nat):=[(0,0,0),(4,8,0),(8,16,0),(16,32,0),(16,32,4),(32,64,16),(64,128,16),(128,128,32),(512,258,128),(1024,258,258)]
def V2h:List Value:=Y3l.flatMap fun t=>[.int .i64 (t.1:Int),.int .i64 (t.2.1:Int),.int .i64 (t.2.2:Int)]
def Y4v (w:World):Prop:=∀i v,V2h[i]?=some v→w.cell? ⟨0,i,none⟩=some v
def Y8i (K8:Int):Nat:=(min (max K8 0) 9).toNat
def lvl (K8:Int):Nat×Nat×Nat:=Y3l[Y8i K8]?.getD (0,0,0)
theorem Y4v.kept {w w':World} (h:Y4v w) (hm:E5 w w' (fun _=>False)):Y4v w':=fun i v hv=>by
 have hc:=h i v hv
 rw [hm.cell (World.block_lt_of_cell? w _ hc) (fun h=>h)];exact hc
theorem X19:∀k,k < 10→V2h[k*3]?=some (.int .i64 (((Y3l[k]?.getD (0,0,0)).1:Nat):Int))∧V2h[k*3+1]?=some (.int .i64 (((Y3l[k]?.getD (0,0,0)).2.1:Nat):Int))∧V2h[k*3+2]?=some (.int .i64 (((Y3l[k]?.getD (0,0,0)).2.2:Nat):Int)):=by
 intro k a
 match k,a with
 | 0,_ | 1,_ | 2,_ | 3,_ | 4,_ | 5,_ | 6,_ | 7,_ | 8,_ | 9,_=>exact ⟨rfl,rfl,rfl⟩
 | k+10,h=>omega
theorem V34:∀t∈Y3l,t.1≤1024∧t.2.1≤258∧t.2.2≤258:=by decide
theorem V57 (K8:Int):(lvl K8).1≤1024∧(lvl K8).2.1≤258∧(lvl K8).2.2≤258:=by
 unfold lvl
 cases e:Y3l[Y8i K8]? with
 | none=>decide
 | some t=>exact V34 t (List.mem_of_getElem? e)
theorem V2q (K8:Int) (h:K8≤0):lvl K8=(0,0,0):=by
 unfold lvl Y8i
 rw [show (min (max K8 0) 9).toNat=0 by omega];rfl
theorem V0d (K8:Int) (h:1≤K8):1≤(lvl K8).1∧1≤(lvl K8).2.1:=by
 have a:Y8i K8 < 10∧1≤Y8i K8:=by unfold Y8i;omega
 unfold lvl
 generalize Y8i K8=k at a
 match k,a with
 | 1,_ | 2,_ | 3,_ | 4,_ | 5,_ | 6,_ | 7,_ | 8,_ | 9,_=>decide
 | k+10,h=>omega
section
variable {w0 w:World} {Rs:List A6}
theorem X2e (h:A4 w0 w Rs):
  Calls Tryz.prog 71 #[] w fun e w'=>∃m1 m2,e= .returned (.agg #[.slice none 0 0,.int .i64 0,.map (some m1),.map (some m2),.slice none 0 0])∧A4 w0 w' (Z3k (.map (some m1)) (fun _=>none) 0::Z3k (.map (some m2)) (fun _=>none) 0::Rs):=by
 have b:=A5 h
 have d:∀wg:World,(Instr.makeMap 65 none).run Tryz.prog wg= .ok (.map (some wg.heap.size)) (wg.alloc (.map #[] 0)):=fun wg=>rfl
 clear h
 go_enter Tryz.func71,Tryz.ntmps71
 go_wp2
 have a:=(((b.out.alloc (.cells #[.slice none 0 0,.int .i64 0,.map (some (w.heap.size+1)),.map (some (w.heap.size+1+1)),.slice none 0 0] 68)).newMap (kv:=X4 .u8) (ok:=Z3l) (ev:=fun p:Nat=>Value.int .i64 (p:Int))).newMap (kv:=X4 .u8) (ok:=Z3l) (ev:=fun p:Nat=>Value.int .i64 (p:Int)))
 rw [show (w.alloc (.cells #[.slice none 0 0,.int .i64 0,.map (some (w.heap.size+1)),.map (some (w.heap.size+1+1)),.slice none 0 0] 68)).heap.size=w.heap.size+1 by simp,
  show ((w.alloc (.cells #[.slice none 0 0,.int .i64 0,.map (some (w.heap.size+1)),.map (some (w.heap.size+1+1)),.slice none 0 0] 68)).alloc (.map #[] 0)).heap.size=w.heap.size+1+1 by simp] at a
 refine Z2y rfl _ 5 Tryz.underlying68 rfl (by kernel_rfl) w.heap.size [.slice none 0 0,.int .i64 0,.map (some (w.heap.size+1)),.map (some (w.heap.size+1+1)),.slice none 0 0] 68 rfl rfl ?_ rfl ⟨_,_,rfl,a.swap⟩
 exact ((X6.new w [.slice none 0 0,.int .i64 0,.map (some (w.heap.size+1)),.map (some (w.heap.size+1+1)),.slice none 0 0] 68).alloc _).alloc _
theorem W0m {tr en la m1 m2:Nat} (H:A4 w0 w (Z3k (.map (some m1)) (fun _=>none) 0::Z3k (.map (some m2)) (fun _=>none) 0::Rs)):
  A4 w0 (w.alloc (.cells #[.int .i64 (tr:Int),.int .i64 (en:Int),.int .i64 (la:Int),.slice none 0 0,.int .i64 0,.map (some m1),.map (some m2),.slice none 0 0,.int .i64 0] 70))
   (Y2h tr en la 0 0 [] [] (fun _=>none) (fun _=>none) 0 (.whole w.heap.size 70) (.slice none 0 0) (.slice none 0 0) m1 m2++Rs):=by
 have a:=H.newObjP (Z6j tr en la (.slice none 0 0) 0 (.map (some m1)) (.map (some m2)) (.slice none 0 0) 0) 70
 have b:=(a.nil 39 1).nil 5 1
 exact b.third
theorem V3n (K8:Int) (hl:Y4v w0) (h:A4 w0 w Rs):
  Calls Tryz.prog 46 #[.int .i64 K8] w fun e w'=>∃B:Nat,e= .returned (.pointer (some ⟨B,0,none⟩))∧A4 w0 w' (Z81 (lvl K8).1 (lvl K8).2.1 (lvl K8).2.2 0 0 [] [] (fun _=>none) (fun _=>none) 0 (.whole B 70)::Rs):=by
 have z:=A5 h
 obtain ⟨k,y⟩:∃k,k=Y8i K8:=⟨_,rfl⟩
 have o:k < 10:=by rw [y];unfold Y8i;omega
 obtain ⟨i,j,l,ht⟩:∃i j l,lvl K8=(i,j,l):=⟨_,_,_,rfl⟩
 have p:Y3l[k]?.getD (0,0,0)=(i,j,l):=by rw [y];exact ht
 have q:=X19 k o
 rw [p] at q
 rw [ht]
 have f:Hid (∀wz,E5 w0 wz (fun _=>False)→wz.cell? ⟨0,k*3,none⟩=some (.int .i64 (i:Int))∧wz.cell? ⟨0,k*3+1,none⟩=some (.int .i64 (j:Int))∧wz.cell? ⟨0,k*3+2,none⟩=some (.int .i64 (l:Int))):=
  A5 fun wz hm=>⟨hl.kept hm _ _ q.1,hl.kept hm _ _ q.2.1,hl.kept hm _ _ q.2.2⟩
 have r:=X2e h.drew
 have m:=A5 r
 have a9:(k:Int) < 10:=by omega
 have b0:(0:Int)≤(k:Int):=T00 _
 have n:(K8 < 0∧k=0)∨(0≤K8∧K8≤9∧K8=(k:Int))∨(9 < K8∧k=9):=by
  unfold Y8i at y;omega
 clear ht p q r h hl y
 rcases n with ⟨h1,rfl⟩ | ⟨h1,h2,rfl⟩ | ⟨h1,rfl⟩
 ·have a:=f.out w z.out.mod
  have c0:w.cell? ⟨0,0,none⟩=some (.int .i64 (i:Int)):=a.1
  have c1:w.cell? ⟨0,1,none⟩=some (.int .i64 (j:Int)):=a.2.1
  have c2:w.cell? ⟨0,2,none⟩=some (.int .i64 (l:Int)):=a.2.2
  clear a
  go_enter Tryz.func46,Tryz.ntmps46
  go_wp2
  go_region_law ((first
   | (
    go_simp;go_at_call 71;refine m.out.mono ?_;rintro e d ⟨t,x,rfl,g⟩;have s:=A5 g
    have b:=f.out d g.mod
    have d0:d.cell? ⟨0,0,none⟩=some (.int .i64 (i:Int)):=b.1
    have d1:d.cell? ⟨0,1,none⟩=some (.int .i64 (j:Int)):=b.2.1
    have d2:d.cell? ⟨0,2,none⟩=some (.int .i64 (l:Int)):=b.2.2
    clear g b)))
  all_goals
   go_wp2
   go_ret
   refine ⟨_,rfl,Z7b (.slice none 0 0) (.slice none 0 0) t x ?_⟩
   exact W0m s.out
 ·have a:=f.out w z.out.mod
  have a0:(if (k:Int) < 0 then 0 else (k:Int))=(k:Int):=if_neg (by omega)
  have a1:(if 9 < (k:Int) then 9 else (k:Int))=(k:Int):=if_neg (by omega)
  have c0:w.cell? ⟨0,k*3,none⟩=some (.int .i64 (i:Int)):=a.1
  have c1:w.cell? ⟨0,k*3+1,none⟩=some (.int .i64 (j:Int)):=a.2.1
  have c2:w.cell? ⟨0,k*3+2,none⟩=some (.int .i64 (l:Int)):=a.2.2
  clear a
  go_enter Tryz.func46,Tryz.ntmps46
  go_wp2
  go_region_law ((first
   | (
    go_simp;go_at_call 71;refine m.out.mono ?_;rintro e d ⟨t,x,rfl,g⟩;have s:=A5 g
    have b:=f.out d g.mod
    have d0:d.cell? ⟨0,k*3,none⟩=some (.int .i64 (i:Int)):=b.1
    have d1:d.cell? ⟨0,k*3+1,none⟩=some (.int .i64 (j:Int)):=b.2.1
    have d2:d.cell? ⟨0,k*3+2,none⟩=some (.int .i64 (l:Int)):=b.2.2
    clear g b)))
  all_goals
   go_wp2
   go_ret
   refine ⟨_,rfl,Z7b (.slice none 0 0) (.slice none 0 0) t x ?_⟩
   exact W0m s.out
 have a:=f.out w z.out.mod
 have a0:(if K8 < 0 then 0 else K8)=K8:=if_neg (by omega)
 have a1:(if 9 < K8 then 9 else K8)=9:=if_pos h1
 have c0:w.cell? ⟨0,27,none⟩=some (.int .i64 (i:Int)):=a.1
 have c1:w.cell? ⟨0,28,none⟩=some (.int .i64 (j:Int)):=a.2.1
 have c2:w.cell? ⟨0,29,none⟩=some (.int .i64 (l:Int)):=a.2.2
 clear a
 go_enter Tryz.func46,Tryz.ntmps46
 go_wp2
 go_region_law ((first
  | (
   go_simp;go_at_call 71;refine m.out.mono ?_;rintro e d ⟨t,x,rfl,g⟩;have s:=A5 g
   have b:=f.out d g.mod
   have d0:d.cell? ⟨0,27,none⟩=some (.int .i64 (i:Int)):=b.1
   have d1:d.cell? ⟨0,28,none⟩=some (.int .i64 (j:Int)):=b.2.1
   have d2:d.cell? ⟨0,29,none⟩=some (.int .i64 (l:Int)):=b.2.2
   clear g b)))
 all_goals
  go_wp2
  go_ret
  refine ⟨_,rfl,Z7b (.slice none 0 0) (.slice none 0 0) t x ?_⟩
  exact W0m s.out
end
end Go.Proofs.YtbkbkmgogbgofaaGreatDoor
