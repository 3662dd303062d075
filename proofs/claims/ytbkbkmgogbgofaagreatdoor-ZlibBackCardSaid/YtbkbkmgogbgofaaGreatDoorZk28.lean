/- The claim's texts, put together and shortened by a program (names, spaces). -/
import Derived.Test.YtbkbkmgogbgofaaGreatDoorZk27
import Derived.Test.YtbkbkmgogbgofaaGreatDoorZk03
import Derived.Handy
import Derived.Test.YtbkbkmgogbgofaaGreatDoorZk17
open List renaming length_append→T00,perm_append_comm→T01,getElem?_eq_getElem→T03,append_nil→T04,mem_of_getElem?→T07,flatMap_nil→T08,append_assoc→T09
open Nat renaming pow_le_pow_right→T06
open Int renaming natCast_nonneg→T02
open Bool renaming false_eq_true→T05
namespace Go.Proofs.YtbkbkmgogbgofaaGreatDoor
set_option maxRecDepth 100000
set_option maxHeartbeats 6400000
open Go.RowKit
theorem A4.pre {w0 w:World} {A B C D E F:A6} {Rs:List A6} (h:A4 w0 w (A::B::C::D::E::F::Rs)):A4 w0 w [A,B,C,D,E,F]:=by
 obtain ⟨a,b,d,f,g,i,j,k,l,m,n,o,p,q,s,t,x,y,r⟩:=h
 exact ⟨a,b,d,f,g,i,j,k,l,m,n,o,p,q,s,t,x,y,N3.mod r⟩
section
variable {w:World}
theorem X2s (lo:Option Addr) (ln lc:Nat) (l:List E3) (hv:Rd w 3 (.slice lo ln lc) ln (I6 l)) (hl:l.length < 1048576) (hs:∀t∈l,E9 t=true) (hb:O3 l):
  Calls Tryz.prog 87 #[.slice lo ln lc] w fun e w'=>∃B1 B2,e= .returned (Z3h (.slice lo ln lc) B1 B2 (Q3 I5 G7 l).length)∧A4 w w' [J7 I5 B1,J7 G7 B2]:=by
 have p:=(A4.start w).newObj [.slice none 0 0,.pointer none,.pointer none,.int .i64 0] 148
 have q:=A5 (Y7w p)
 have d:=hv.toks_len
 have b:=A5 (And.intro hv (And.intro hl (And.intro hs hb)))
 have k:ln < 1048576:=by omega
 clear p hv hl hs hb d
 go_enter Tryz.func87,Tryz.ntmps87
 go_wp2_with fail
 with_reducible refine q.out.mono ?_
 rintro e z ⟨ao,n,bo,g,rfl,o⟩
 have r:=A5 o
 have s:=A5 (X0x (.slice lo ln lc) ln l z (o.old b.out.1) k b.out.2.2.1 b.out.2.2.2)
 clear o q
 go_wp2_with fail
 with_reducible refine s.out.mono ?_
 rintro e w2 ⟨C,rfl,j⟩
 have f:=r.out.frame j
 have x:=A5 f
 have m:=A5 (Z6a lo ln lc (.slice ao 288 n) (.slice bo 32 g) l 288 32 C I5 G7 f.obj f.drop.own.rd f.drop.drop.own.rd Z11.1 Z11.2 b.out.2.1 b.out.2.2.1 b.out.2.2.2)
 unfold Z3h at m
 clear f j s r
 go_wp2_with fail
 with_reducible refine m.out.mono ?_
 rintro e w3 ⟨B1,B2,rfl,j⟩
 have a:A4 w w3 (E8 w.heap.size [.slice none 0 0,.pointer none,.pointer none,.int .i64 0] 148::J7 I5 B1::J7 G7 B2::_):=(x.out.frame j).perm (T01 (l₁:=[_,_,_,_,_]) (l₂:=[_]))
 have f0:=a.obj.frozen 0
 have f1:=a.obj.frozen 1
 have f2:=a.obj.frozen 2
 have f3:=a.obj.frozen 3
 have k0:=a.obj.cell (i:=0) rfl
 have k1:=a.obj.cell (i:=1) rfl
 have k2:=a.obj.cell (i:=2) rfl
 have k3:=a.obj.cell (i:=3) rfl
 have y:=A5 ((((a.setObj 0 (.slice lo ln lc)).setObj 1 (.pointer (some ⟨B1,0,none⟩))).setObj 2 (.pointer (some ⟨B2,0,none⟩))).setObj 3 (.int .i64 ((Q3 I5 G7 l).length:Int)))
 clear a j x m
 go_wp2
 try simp only [Exit.inBlock,Exit.then]
 refine Z8v rfl _ 4 Tryz.underlying148 rfl (by kernel_rfl) w.heap.size [.slice lo ln lc,.pointer (some ⟨B1,0,none⟩),.pointer (some ⟨B2,0,none⟩),.int .i64 ((Q3 I5 G7 l).length:Int)] 148 rfl rfl y.out.obj rfl ?_
 exact ⟨B1,B2,rfl,y.out.drop.two⟩
abbrev W36:List Value:=[.pointer none,.slice none 0 0,.pointer none,.pointer none,.int .i64 0]
def Y08 (Bh:Nat) (lv:Value) (B1 B2 bits:Nat):Value:= .agg #[.pointer (some ⟨Bh,0,none⟩),lv,.pointer (some ⟨B1,0,none⟩),.pointer (some ⟨B2,0,none⟩),.int .i64 (bits:Int)]
def Y4h (l:List E3) (Bh Bt B1 B2:Nat) (iv hv:Value):List A6:=
 [J7 (K3 D2 l) B1,J7 (K2 D2 l) B2,
 E8 Bh (X7c (K3 D2 l).length (K2 D2 l).length iv hv (.pointer (some ⟨Bt,0,none⟩)) (Z60 (K3 D2 l) (K2 D2 l) (Y7 D2 (G4 (K3 D2 l) (K2 D2 l))) (G4 (K3 D2 l) (K2 D2 l))).length) 201,
 B0 205 3 iv (G4 (K3 D2 l) (K2 D2 l)).length (L9 (G4 (K3 D2 l) (K2 D2 l))),
 B0 3 1 hv (Z2j (Y7 D2 (G4 (K3 D2 l) (K2 D2 l)))) (D3 ((W4 (Y7 D2 (G4 (K3 D2 l) (K2 D2 l)))).take (Z2j (Y7 D2 (G4 (K3 D2 l) (K2 D2 l)))))),
 J7 (Y7 D2 (G4 (K3 D2 l) (K2 D2 l))) Bt]
theorem Y6l (lo:Option Addr) (ln lc0:Nat) (l:List E3) (hv:Rd w 3 (.slice lo ln lc0) ln (I6 l)) (hO:Z4p w) (hl:l.length < 1048576) (hs:∀t∈l,E9 t=true) (hb:O3 l):
  Calls Tryz.prog 88 #[.slice lo ln lc0] w fun e w'=>∃Bh Bt B1 B2 iv hv,e= .returned (Y08 Bh (.slice lo ln lc0) B1 B2 (Q3 (K3 D2 l) (K2 D2 l) l).length)∧A4 w w' (Y4h l Bh Bt B1 B2 iv hv):=by
 have HA:=(A4.start w).newObj W36 152
 have c6:=hv.toks_len
 have HC:=A5 (X0x (.slice lo ln lc0) ln l _ (hv.kept HA.mod (fun _ _ h=>h)) (by omega) hs hb)
 have c7:=A5 HA
 obtain ⟨L0,a1⟩:∃L0,L0=M0 (D2 (Z1i l) 15):=⟨_,rfl⟩
 obtain ⟨x,a2⟩:∃x,x=M0 (D2 (Z0y l) 15):=⟨_,rfl⟩
 obtain ⟨y,a3⟩:∃y,y=Y8q x:=⟨_,rfl⟩
 have g1:=X5w E2 l
 have g2:=Z7j E2 l
 have g3:=X3r E2 l
 rw [←a1] at g1
 rw [←a2] at g2 g3
 rw [←a3] at g3
 have gl:=Y54 E2 l
 have gd:=Y50 E2 l
 obtain ⟨f,c2⟩:∃f,f=(K3 D2 l).length:=⟨_,rfl⟩
 obtain ⟨j,c3⟩:∃j,j=(K2 D2 l).length:=⟨_,rfl⟩
 have e1:f=Z12 L0 257 286:=by rw [c2,K3,←a1,Z39,g1]
 have e2:j=Z12 y 1 30:=by rw [c3,K2,←a2,←a3,Z39,g3]
 have HN:Hid (f=Z12 L0 257 286∧j=Z12 y 1 30∧f≤286∧j≤30):=A5 ⟨e1,e2,by omega,by omega⟩
 have b0:Hid (y.take j=K2 D2 l∧L0.take f=K3 D2 l):=A5 ⟨by rw [K2,←a2,←a3,Z6w,g3,e2],by rw [K3,←a1,Z6w,g1,e1]⟩
 have HB:Hid (257≤f∧f≤286∧1≤j∧j≤30):=A5 ⟨by omega,by omega,by omega,by omega⟩
 have HV:=A5 (And.intro hv (And.intro hO (And.intro hl (And.intro hs hb))))
 unfold Y4h
 rw [←c2,←c3]
 have HQ:=A5 (And.intro a1 (And.intro a2 (And.intro a3 (And.intro g1 (And.intro g2 g3)))))
 clear HA hv hO hl hs hb c6 a1 a2 a3 g1 g2 g3 gl gd c2 c3 e1 e2
 unfold Y08
 go_enter Tryz.func88,Tryz.ntmps88
 go_wp2_with fail
 with_reducible refine HC.out.mono ?_
 rintro e w1 ⟨C,rfl,p⟩
 have h1:=c7.out.frame p
 have H1:=A5 h1
 have b6:=A5 (Z80 h1 (.slice (some ⟨C,0,none⟩) 286 286) 286 15 (M0 (Z1i l)) (W1l h1.obj) (by rw [K9,N6]) (by omega) (by omega) (by omega) (Z9l (V4m HV.out.2.2.1)) (Nat.le_trans (Z9j _) (by rw [N6];decide)))
 rw [Y6v,Z2s,←HQ.out.1,show ((15:Nat):Int)=15 from rfl] at b6
 clear h1 p HC c7
 go_wp2_with fail
 with_reducible refine b6.out.mono ?_
 rintro e w2 ⟨lv,rfl,h2⟩
 obtain ⟨la,lc,rfl,_,_⟩:=h2.own.form
 have b7:=A5 (Z80 h2 (.slice (some ⟨C,286,none⟩) 30 30) 30 15 (M0 (Z0y l)) (W1n h2.swap.obj) (by rw [K9,N4]) (by omega) (by omega) (by omega) (Z9l (V2c HV.out.2.2.1)) (Nat.le_trans (Z9j _) (by rw [N4];decide)))
 rw [Y6v,Z2s,←HQ.out.2.1,show ((15:Nat):Int)=15 from rfl] at b7
 clear h2 b6 H1
 go_wp2_with fail
 with_reducible refine b7.out.mono ?_
 rintro e w3 ⟨dv,rfl,h3⟩
 obtain ⟨da,dc,rfl,_,_⟩:=h3.own.form
 have b8:=A5 (W15 (.slice da x.length dc) x w3 (by rw [HQ.out.2.2.2.2.1];exact h3.own.rd) (by rw [HQ.out.2.2.2.2.1];decide))
 rw [HQ.out.2.2.2.2.1] at b8
 have H3:=A5 h3.mid
 clear h3 b7
 go_wp2_with fail
 with_reducible refine b8.out.mono ?_
 rintro e w4 ⟨rfl,hm⟩
 have H4:Hid (A4 w w4 (B0 3 1 (.slice da 30 dc) 30 (D3 x)::E8 C (D5 .i64 (Z4q l)) 172::B0 3 1 (.slice la 286 lc) 286 (D3 L0)::[E8 w.heap.size W36 152])):=A5 (H3.out.same hm)
 clear hm b8 H3
 obtain ⟨su,f6⟩:∃su,su=F4 x:=⟨_,rfl⟩
 rw [←f6]
 by_cases h0:su=0
 ·have e7:((su:Int)==0)=true:=by simp [h0]
  have hF:y=x.set 0 1:=by rw [HQ.out.2.2.1,Y8q,if_pos (by omega)]
  obtain ⟨g,r,rfl,a5,d7,b5⟩:=H4.out.own.site (by omega)
  obtain ⟨z,hz⟩:∃z,x[0]?=some z:=⟨x[0]'(by have:=HQ.out.2.2.2.2.1;omega),T03 _⟩
  have c0:=a5 0 _ (by rw [G5,hz];rfl)
  have f0:=d7 0
  have s:=H4.out.putOwn (b5 0 (.int .i64 1) (by omega)) (E5.set w4 g (r+0) _)
  rw [show (D3 x).set 0 (.int .i64 1)=D3 y by rw [hF];simp [D3,List.map_set]] at s
  rw [Nat.add_zero] at c0 f0 s
  have H5:=A5 s
  clear a5 d7 b5 hz s hF HQ H4
  go_wp2_with fail
  generalize w4.setCell ⟨g,r,none⟩ (.int .i64 1)=w5 at H5⊢
  have n:=H5.out
  have b:=A5 (Y26 la 286 lc 257 L0 w5 (n.third.own.rd) (by omega) (by omega) n.third.own.spotless)
  rw [show Z12 L0 257 286=f from HN.out.1.symm,show ((257:Nat):Int)=257 from rfl] at b
  with_reducible refine b.out.mono ?_
  rintro e wa ⟨rfl,d1,rfl⟩
  have k:=A5 (n.drewN d1)
  have d:=A5 (Y26 (some ⟨g,r,none⟩) 30 dc 1 y (w5.drewN d1) k.out.own.rd (by omega) (by omega) k.out.own.spotless)
  rw [show Z12 y 1 30=j from HN.out.2.1.symm,show ((1:Nat):Int)=1 from rfl] at d
  go_wp2_with fail
  with_reducible refine d.out.mono ?_
  rintro e wa ⟨rfl,d2,rfl⟩
  have s:=k.out.drewN d2
  have q:A4 w ((w5.drewN d1).drewN d2) (B0 3 1 (.slice la f lc) f (D3 (K3 D2 l))::B0 3 1 (.slice (some ⟨g,r,none⟩) j dc) j (D3 (K2 D2 l))::E8 C (D5 .i64 (Z4q l)) 172::[E8 w.heap.size W36 152]):=by
   have h:=s.recut (Y0n s.own HN.out.2.2.2) rfl
   have m:=h.third.recut (Y0n h.third.own HN.out.2.2.1) (by cases la <;> rfl)
   rw [b0.out.1,b0.out.2] at m
   exact m
  generalize (w5.drewN d1).drewN d2=wb at q⊢
  have a0:=A5 (Y4b (.slice la f lc) (.slice (some ⟨g,r,none⟩) j dc) f j (K3 D2 l) (K2 D2 l) q.own.rd q.swap.own.rd (Z2m E2 l) (Z2t E2 l) HB.out.1 HB.out.2.1 HB.out.2.2.1 HB.out.2.2.2 (HV.out.2.1.kept q.mod))
  have H6:=A5 q
  clear s q k b d
  go_wp2_with fail
  with_reducible refine a0.out.mono ?_
  rintro e wc ⟨Bh,Bt,iv,hv,rfl,p⟩
  have m:=H6.out.frame p
  have H7:=A5 m
  have o:=A5 (Z6a lo ln lc0 (.slice la f lc) (.slice (some ⟨g,r,none⟩) j dc) l f j C (K3 D2 l) (K2 D2 l) m.drop.drop.drop.drop.drop.drop.obj m.drop.drop.drop.drop.own.rd m.drop.drop.drop.drop.drop.own.rd (Z2m E2 l) (Z2t E2 l) HV.out.2.2.1 HV.out.2.2.2.1 HV.out.2.2.2.2)
  unfold Z3h at o
  clear m p a0 H6
  go_wp2_with fail
  with_reducible refine o.out.mono ?_
  rintro e wd ⟨B1,B2,rfl,p⟩
  have a:A4 w wd (E8 w.heap.size W36 152::_):=(H7.out.frame p).perm (T01 (l₁:=[_,_,_,_,_,_,_,_,_]) (l₂:=[_]))
  have f0:=a.obj.frozen 0
  have f1:=a.obj.frozen 1
  have f2:=a.obj.frozen 2
  have f3:=a.obj.frozen 3
  have f4:=a.obj.frozen 4
  have k0:=a.obj.cell (i:=0) rfl
  have k1:=a.obj.cell (i:=1) rfl
  have k2:=a.obj.cell (i:=2) rfl
  have k3:=a.obj.cell (i:=3) rfl
  have k4:=a.obj.cell (i:=4) rfl
  have H9:=A5 (((((a.setObj 0 (.pointer (some ⟨Bh,0,none⟩))).setObj 1 (.slice lo ln lc0)).setObj 2 (.pointer (some ⟨B1,0,none⟩))).setObj 3 (.pointer (some ⟨B2,0,none⟩))).setObj 4 (.int .i64 ((Q3 (K3 D2 l) (K2 D2 l) l).length:Int)))
  clear a p H7 o
  go_wp2
  try simp only [Exit.inBlock,Exit.then]
  refine Z8v rfl _ 5 Tryz.underlying152 rfl (by kernel_rfl) w.heap.size [.pointer (some ⟨Bh,0,none⟩),.slice lo ln lc0,.pointer (some ⟨B1,0,none⟩),.pointer (some ⟨B2,0,none⟩),.int .i64 ((Q3 (K3 D2 l) (K2 D2 l) l).length:Int)] 152 rfl rfl H9.out.obj rfl ?_
  exact ⟨Bh,Bt,B1,B2,iv,hv,rfl,H9.out.drop.pre⟩
 have e7:((su:Int)==0)=false:=by simp;omega
 have hF:y=x:=by rw [HQ.out.2.2.1,Y8q,if_neg (by omega)]
 rw [←hF] at H4
 have n:=H4.out
 clear hF HQ
 have b:=A5 (Y26 la 286 lc 257 L0 w4 (n.third.own.rd) (by omega) (by omega) n.third.own.spotless)
 rw [show Z12 L0 257 286=f from HN.out.1.symm,show ((257:Nat):Int)=257 from rfl] at b
 go_wp2_with fail
 with_reducible refine b.out.mono ?_
 rintro e wa ⟨rfl,d1,rfl⟩
 have k:=A5 (n.drewN d1)
 have d:=A5 (Y26 da 30 dc 1 y (w4.drewN d1) k.out.own.rd (by omega) (by omega) k.out.own.spotless)
 rw [show Z12 y 1 30=j from HN.out.2.1.symm,show ((1:Nat):Int)=1 from rfl] at d
 go_wp2_with fail
 with_reducible refine d.out.mono ?_
 rintro e wa ⟨rfl,d2,rfl⟩
 have s:=k.out.drewN d2
 have q:A4 w ((w4.drewN d1).drewN d2) (B0 3 1 (.slice la f lc) f (D3 (K3 D2 l))::B0 3 1 (.slice da j dc) j (D3 (K2 D2 l))::E8 C (D5 .i64 (Z4q l)) 172::[E8 w.heap.size W36 152]):=by
  have h:=s.recut (Y0n s.own HN.out.2.2.2) (by cases da <;> rfl)
  have m:=h.third.recut (Y0n h.third.own HN.out.2.2.1) (by cases la <;> rfl)
  rw [b0.out.1,b0.out.2] at m
  exact m
 generalize (w4.drewN d1).drewN d2=wb at q⊢
 have a0:=A5 (Y4b (.slice la f lc) (.slice da j dc) f j (K3 D2 l) (K2 D2 l) q.own.rd q.swap.own.rd (Z2m E2 l) (Z2t E2 l) HB.out.1 HB.out.2.1 HB.out.2.2.1 HB.out.2.2.2 (HV.out.2.1.kept q.mod))
 have H6:=A5 q
 clear s q k b d
 go_wp2_with fail
 with_reducible refine a0.out.mono ?_
 rintro e wc ⟨Bh,Bt,iv,hv,rfl,p⟩
 have m:=H6.out.frame p
 have H7:=A5 m
 have o:=A5 (Z6a lo ln lc0 (.slice la f lc) (.slice da j dc) l f j C (K3 D2 l) (K2 D2 l) m.drop.drop.drop.drop.drop.drop.obj m.drop.drop.drop.drop.own.rd m.drop.drop.drop.drop.drop.own.rd (Z2m E2 l) (Z2t E2 l) HV.out.2.2.1 HV.out.2.2.2.1 HV.out.2.2.2.2)
 unfold Z3h at o
 clear m p a0 H6
 go_wp2_with fail
 with_reducible refine o.out.mono ?_
 rintro e wd ⟨B1,B2,rfl,p⟩
 have a:A4 w wd (E8 w.heap.size W36 152::_):=(H7.out.frame p).perm (T01 (l₁:=[_,_,_,_,_,_,_,_,_]) (l₂:=[_]))
 have f0:=a.obj.frozen 0
 have f1:=a.obj.frozen 1
 have f2:=a.obj.frozen 2
 have f3:=a.obj.frozen 3
 have f4:=a.obj.frozen 4
 have k0:=a.obj.cell (i:=0) rfl
 have k1:=a.obj.cell (i:=1) rfl
 have k2:=a.obj.cell (i:=2) rfl
 have k3:=a.obj.cell (i:=3) rfl
 have k4:=a.obj.cell (i:=4) rfl
 have H9:=A5 (((((a.setObj 0 (.pointer (some ⟨Bh,0,none⟩))).setObj 1 (.slice lo ln lc0)).setObj 2 (.pointer (some ⟨B1,0,none⟩))).setObj 3 (.pointer (some ⟨B2,0,none⟩))).setObj 4 (.int .i64 ((Q3 (K3 D2 l) (K2 D2 l) l).length:Int)))
 clear a p H7 o
 go_wp2
 try simp only [Exit.inBlock,Exit.then]
 refine Z8v rfl _ 5 Tryz.underlying152 rfl (by kernel_rfl) w.heap.size [.pointer (some ⟨Bh,0,none⟩),.slice lo ln lc0,.pointer (some ⟨B1,0,none⟩),.pointer (some ⟨B2,0,none⟩),.int .i64 ((Q3 (K3 D2 l) (K2 D2 l) l).length:Int)] 152 rfl rfl H9.out.obj rfl ?_
 exact ⟨Bh,Bt,B1,B2,iv,hv,rfl,H9.out.drop.pre⟩
end
theorem W00 (l:List Nat):J2 l=l++List.replicate (V9 l.length-l.length) 0:=by
 unfold J2
 congr 2
 unfold V9
 omega
theorem X6u {l:List Nat} (h:l.length%8=0):J2 l=l:=by
 unfold J2
 rw [h]
 simp
theorem Z9h (z:Nat) (h:z < 4294967296):IntKind.u32.wrap (z:Int)=(z:Int):=by
 unfold IntKind.wrap;simp [IntKind.bits,IntKind.signed];omega
theorem W7x (n:Nat) (h:n≤65535):A9 16 (4294967295-n)=A9 16 (65535-n):=by
 rw [←Z0r 16 (4294967295-n),←Z0r 16 (65535-n)]
 congr 1
 omega
theorem V3t (n:Nat) (h:n≤65535):bits .xor .u32 IntKind.u32.max (n:Int)=((4294967295-n:Nat):Int):=by
 have b:=u32_xor_nat 4294967295 n (by decide) (by omega)
 rw [show IntKind.u32.max=((4294967295:Nat):Int) from rfl,b]
 congr 1
 refine Nat.eq_of_testBit_eq fun i=> ?_
 rw [show 4294967295-n=2^32- (n+1) by omega,Nat.testBit_two_pow_sub_succ (by omega:n < 2^32),Nat.testBit_xor,show 4294967295=2^32-1 by rfl,Nat.testBit_two_pow_sub_one]
 by_cases a:i < 32
 ·simp [a]
 have:n.testBit i=false:=Nat.testBit_lt_two_pow (Nat.lt_of_lt_of_le (by omega:n < 2^32) (T06 (by decide) (by omega)))
 simp [a,this]
section
variable {w0 w:World} {Rs:List A6}
theorem X4y (u:Option Addr) (n cap:Nat) (hn:n < 1000000000):
  Calls Tryz.prog 218 #[.slice u n cap] w fun e w'=>e= .returned (.int .i64 ((37+8*n:Nat):Int))∧w'=w:=by
 have a:(0:Int)≤(n:Int):=T02 _
 go_enter Tryz.func218,Tryz.ntmps218
 go_wp2
 go_ret
 exact ⟨Z8t (by go_num),rfl⟩
theorem Y62 (lo:Option Addr) (ln lc B1 B2 bits:Nat):
  Calls Tryz.prog 221 #[Z3h (.slice lo ln lc) B1 B2 bits] w fun e w'=>e= .returned (.int .i64 (bits:Int))∧E5 w w' (fun _=>False):=by
 unfold Z3h
 go_enter Tryz.func221,Tryz.ntmps221
 go_wp2
 go_ret
 exact ⟨rfl,(E5.refl _ _).alloc _⟩
theorem X25 {n:Nat} {Bw:C4} {acc raw:List Nat} {S:A6} (u:Option Addr) (cap:Nat) (h:A4 w0 w (wrT Bw acc::S::Rs)) (hr:Z04 w0 S 1 (.slice u n cap) n (D9 raw)) (hb:∀b∈raw,b < 256) (hn:n≤65535) (hacc:acc.length < 10000000000):
  Calls Tryz.prog 219 #[.slice u n cap,.pointer (some ⟨Bw.b,Bw.o,none⟩)] w fun e w'=>e= .returned (.tuple #[])∧A4 w0 w' (wrT Bw (acc++G6 acc.length raw)::S::Rs):=by
 have f:n=raw.length:=by have:=(hr.rd h.swap).1;rw [E6] at this;omega
 have t:=A5 hr
 have x:=A5 hb
 have g:J2 acc=acc++List.replicate (V9 acc.length-acc.length) 0:=W00 acc
 have i:=Y31 acc
 have k:=Z5c acc
 have j:=A5 (X75 h (by omega))
 have y:IntKind.u32.wrap (n:Int)=(n:Int):=Z9h n (by omega)
 have z:Hid (J2 (J2 acc++A9 16 n++A9 16 (4294967295-n))++D7 raw=acc++G6 acc.length raw):=by
  rw [X6u (by simp only [T00,B5];omega),W7x n hn,g,G6,←f]
  exact A5 (by simp)
 have l:=A5 i
 have HX:bits .xor .u32 IntKind.u32.max (n:Int)=((4294967295-n:Nat):Int):=V3t n hn
 clear hr h hb g i k f
 go_enter Tryz.func219,Tryz.ntmps219
 go_wp2_with fail
 with_reducible refine j.out.mono ?_
 rintro e w1 ⟨rfl,p⟩
 have a:=A5 (Z6r p n 16 (by omega) (by omega) (by have:=l.out;omega))
 rw [show ((16:Nat):Int)=16 from rfl] at a
 clear p j
 go_wp2_with fail
 with_reducible refine a.out.mono ?_
 rintro e w2 ⟨rfl,q⟩
 have d:=A5 (Z6r q (4294967295-n) 16 (by omega) (by omega) (by have:=l.out;rw [T00,B5];omega))
 rw [show ((16:Nat):Int)=16 from rfl] at d
 clear q a
 go_wp2_with fail
 with_reducible refine d.out.mono ?_
 rintro e w3 ⟨rfl,r⟩
 have m:=A5 (Y8g r t.out x.out (by omega) (by have:=l.out;simp only [T00,B5];omega))
 rw [z.out] at m
 clear r d
 go_wp2_with fail
 with_reducible refine m.out.mono ?_
 rintro e w4 ⟨rfl,s⟩
 have HE:=A5 s
 clear s m
 go_wp2
 go_end0
 exact ⟨rfl,HE.out⟩
theorem X8t {B n1 n2 N m Bt bits:Nat} {Bw:C4} {acc:List Nat} {hd:List Int} {xs:List Y0} (io ha:Option Addr) (ic hc:Nat) (h:A4 w0 w (wrT Bw acc::E8 B (X7c n1 n2 (.slice io m ic) (.slice ha N hc) (.pointer (some ⟨Bt,0,none⟩)) bits) 201::B0 205 3 (.slice io m ic) m (L9 xs)::B0 3 1 (.slice ha N hc) N (D3 ((W4 hd).take N))::J7 hd Bt::Rs))
  (hl:hd.length=19) (hA:∀a∈hd,0≤a∧a≤7) (hF:Y4w hd) (hx:∀x∈xs,L4 hd x.1∧x.1 < 19∧x.2.1≤7∧x.2.2 < 2^x.2.1) (hn1:257≤n1∧n1≤286) (hn2:1≤n2∧n2≤30) (hN:4≤N∧N≤19) (hm:m≤1000) (hml:m=xs.length) (hacc:acc.length < 10000000000):
  Calls Tryz.prog 225 #[.pointer (some ⟨B,0,none⟩),.pointer (some ⟨Bw.b,Bw.o,none⟩)] w fun e w'=>e= .returned (.tuple #[])∧
   A4 w0 w' (wrT Bw (acc++(A9 5 (n1-257)++(A9 5 (n2-1)++(A9 4 (N-4)++(G8 hd N++Z00 hd xs)))))::E8 B (X7c n1 n2 (.slice io m ic) (.slice ha N hc) (.pointer (some ⟨Bt,0,none⟩)) bits) 201::B0 205 3 (.slice io m ic) m (L9 xs)::B0 3 1 (.slice ha N hc) N (D3 ((W4 hd).take N))::J7 hd Bt::Rs):=by
 unfold X7c at h⊢
 have f:=A5 (And.intro hl (And.intro hA (And.intro hF (And.intro hx hml))))
 have i1:(n1:Int)-257=((n1-257:Nat):Int):=by omega
 have i2:(n2:Int)-1=((n2-1:Nat):Int):=by omega
 have i3:(N:Int)-4=((N-4:Nat):Int):=by omega
 have u1:IntKind.u32.wrap ((n1-257:Nat):Int)=((n1-257:Nat):Int):=Z9h _ (by omega)
 have u2:IntKind.u32.wrap ((n2-1:Nat):Int)=((n2-1:Nat):Int):=Z9h _ (by omega)
 have u3:IntKind.u32.wrap ((N-4:Nat):Int)=((N-4:Nat):Int):=Z9h _ (by omega)
 have k0:=h.drop.obj.cell (i:=0) rfl
 have p:=A5 (Z6r h (n1-257) 5 (by omega) (by omega) (by omega))
 rw [show ((5:Nat):Int)=5 from rfl] at p
 clear h hl hA hF hx hml
 go_enter Tryz.func225,Tryz.ntmps225
 go_wp2_with fail
 with_reducible refine p.out.mono ?_
 rintro e w1 ⟨rfl,h1⟩
 have k1:=h1.drop.obj.cell (i:=1) rfl
 have q:=A5 (Z6r h1 (n2-1) 5 (by omega) (by omega) (by rw [T00,B5];omega))
 rw [show ((5:Nat):Int)=5 from rfl] at q
 clear h1 p k0
 go_wp2_with fail
 with_reducible refine q.out.mono ?_
 rintro e w2 ⟨rfl,h2⟩
 have k3:=h2.drop.obj.cell (i:=3) rfl
 have r:=A5 (Z6r h2 (N-4) 4 (by omega) (by omega) (by simp only [T00,B5];omega))
 rw [show ((4:Nat):Int)=4 from rfl] at r
 clear h2 q k1
 go_wp2_with fail
 with_reducible refine r.out.mono ?_
 rintro e w3 ⟨rfl,h3⟩
 obtain ⟨A,n⟩:∃A,A=acc++A9 5 (n1-257)++A9 5 (n2-1)++A9 4 (N-4):=⟨_,rfl⟩
 rw [←n] at h3
 have e8:A.length≤acc.length+14:=by rw [n];simp only [T00,B5];omega
 have c4:=A5 n
 have j3:=h3.drop.obj.cell (i:=3) rfl
 have H3:=A5 h3
 clear h3 r k3 n i1 i2 i3 u1 u2 u3
 have f1:(0:Int)≤(N:Int):=T02 _
 go_wp2
 clear j3
 go_loopg [38] (N+1) (fun k t38 wr=>∃i:Nat,i≤N∧N-i < k∧t38= .int .i64 (i:Int)∧Hid (A4 w0 wr (wrT Bw (A++G8 hd i)::E8 B [.int .i64 (n1:Int),.int .i64 (n2:Int),.slice io m ic,.slice ha N hc,.pointer (some ⟨Bt,0,none⟩),.int .i64 (bits:Int)] 201::B0 205 3 (.slice io m ic) m (L9 xs)::B0 3 1 (.slice ha N hc) N (D3 ((W4 hd).take N))::J7 hd Bt::Rs)))
 case atStart=>
  refine ⟨0,by omega,by omega,rfl, ?_⟩
  rw [G8,T04]
  exact H3
 case round=>
  obtain ⟨i,hi,hk,rfl,HI⟩:=hrel
  have f2:(0:Int)≤(i:Int):=T02 _
  by_cases d0:i < N
  ·have c5:(i:Int) < (N:Int):=by omega
   obtain ⟨v,hv⟩:∃v,hd[F8 i]?=some v:=⟨hd[F8 i]'(by have:=Z4i i (by omega);have:=f.out.1;omega),T03 _⟩
   have l:=f.out.2.1 v (T07 hv)
   obtain ⟨z,rfl⟩:=Int.eq_ofNat_of_zero_le l.1
   have hz:z≤7:=by omega
   have a5:((W4 hd).take N)[i]?=some (z:Int):=by rw [List.getElem?_take,if_pos d0,Z8u hd (by omega),hv];rfl
   obtain ⟨g,d1,rfl,d⟩:=HI.out.drop.drop.drop.own.rd.spot (by omega)
   have c1:=d i _ (by rw [G5,a5];rfl)
   have hw:IntKind.u32.wrap (z:Int)=(z:Int):=Z9h _ (by omega)
   have s:=A5 (Z6r HI.out z 3 (by omega) (by omega) (by rw [T00,S5];omega))
   have y:A++G8 hd i++A9 3 z=A++G8 hd (i+1):=by
    rw [G8,hv]
    simp
   rw [y,show ((3:Nat):Int)=3 from rfl] at s
   clear d a5 hv l y
   go_wp2_with fail
   with_reducible refine s.out.mono ?_
   rintro e w5 ⟨rfl,hh⟩
   have H5:=A5 hh
   clear hh s c1
   go_wp2
   go_roundg (gk-1)
   case measure=>omega
   case rel=>exact ⟨i+1,by omega,by omega,by go_num,H5⟩
  have c5:¬(i:Int) < (N:Int):=by omega
  obtain rfl:i=N:=by omega
  have k2:=HI.out.drop.obj.cell (i:=2) rfl
  have f5:(0:Int)≤(m:Int):=T02 _
  have a7:(A++G8 hd i).length≤acc.length+100:=by rw [T00,S5];omega
  obtain ⟨A2,a2⟩:∃A2,A2=A++G8 hd i:=⟨_,rfl⟩
  rw [←a2] at HI a7
  have c7:=A5 a2
  clear a2
  go_wp2
  clear k2
  go_loopg [52] (m+1) (fun k t52 wr=>∃j:Nat,j≤m∧m-j < k∧t52= .int .i64 (j:Int)∧Hid (A4 w0 wr (wrT Bw (A2++Z00 hd (xs.take j))::E8 B [.int .i64 (n1:Int),.int .i64 (n2:Int),.slice io m ic,.slice ha i hc,.pointer (some ⟨Bt,0,none⟩),.int .i64 (bits:Int)] 201::B0 205 3 (.slice io m ic) m (L9 xs)::B0 3 1 (.slice ha i hc) i (D3 ((W4 hd).take i))::J7 hd Bt::Rs)))
  case atStart=>
   refine ⟨0,by omega,by omega,rfl, ?_⟩
   rw [List.take_zero,Z00,T08,T04]
   exact HI
  case round=>
   obtain ⟨j,hj,g4,rfl,HJ⟩:=hrel
   have f6:(0:Int)≤(j:Int):=T02 _
   have a8:Hid ((A2++Z00 hd (xs.take j)).length < 100000000000):=by
    have h1:=Z1x (hd:=hd) f.out.2.1 (xs:=xs.take j) fun x hx=>(f.out.2.2.2.1 x (List.mem_of_mem_take hx)).2.2.1
    have h2:(xs.take j).length≤j:=by simp;omega
    rw [T00]
    exact A5 (by omega)
   by_cases g2:j < m
   rotate_left
   ·have c8:¬(j:Int) < (m:Int):=by omega
    have y:Hid (A2++Z00 hd (xs.take j)=acc++(A9 5 (n1-257)++(A9 5 (n2-1)++(A9 4 (i-4)++(G8 hd i++Z00 hd xs))))):=by
     rw [List.take_of_length_le (by have:=f.out.2.2.2.2;omega),c7.out,c4.out]
     exact A5 (by simp)
    have a0:=HJ.out
    rw [y.out] at a0
    have HK:=A5 a0
    clear a0 y
    go_wp2
    go_end0
    exact ⟨rfl,HK.out⟩
   have c8:(j:Int) < (m:Int):=by omega
   obtain ⟨⟨sy,ex,va⟩,ht⟩:∃t,xs[j]?=some t:=⟨xs[j]'(by have:=f.out.2.2.2.2;omega),T03 _⟩
   obtain ⟨a3,b2,b3,l⟩:=f.out.2.2.2.1 _ (T07 ht)
   simp only at a3 b2 b3 l
   have f7:2^ex≤2^7:=T06 (by decide) b3
   obtain ⟨g,d1,rfl,c0,c1,c2⟩:=HJ.out.drop.drop.own.rd.item ht
   have h5:=HJ.out.newObj [.int .i64 (sy:Int),.int .i64 (ex:Int),.int .i64 (va:Int)] 205
   have t0:=h5.obj.cell (i:=0) rfl
   have k4:=h5.drop.drop.obj.cell (i:=4) rfl
   have hw:IntKind.u32.wrap (va:Int)=(va:Int):=Z9h _ (by omega)
   have y:Hid (A2++Z00 hd (xs.take j)++E0 hd sy++A9 ex va=A2++Z00 hd (xs.take (j+1))):=by
    rw [List.take_add_one,ht]
    unfold Z00
    simp only [Option.toList_some,List.flatMap_append,List.flatMap_cons,T08,T04,T09]
    exact A5 rfl
   have H5:=A5 h5
   have c9:=A5 a3
   clear h5 ht a3
   go_wp2
   generalize wr.alloc (.cells #[.int .i64 (sy:Int),.int .i64 (ex:Int),.int .i64 (va:Int)] 205)=w5 at t0 k4 H5⊢
   go_still_tail 7,(by kernel_rfl)
   change wpList _ _ _ _ _ (World.drew _)
   have h6:=H5.out.drew.swap.perm (List.Perm.cons _ ((T01 (l₁:=[_,_,_,_]) (l₂:=[_])).append_right Rs))
   have HW:=A5 (X4q sy h6 f.out.2.2.1 c9.out (by have:=a8.out;omega))
   clear h6 t0 k4 H5
   go_wp2_with fail
   with_reducible refine HW.out.mono ?_
   rintro e w6 ⟨rfl,h7⟩
   have t1:=h7.third.obj.cell (i:=1) rfl
   have t2:=h7.third.obj.cell (i:=2) rfl
   have s:=A5 (Z6r h7 va ex (by omega) (by omega) (by have:=a8.out;have:=Z43 (m:=7) f.out.2.1 sy;rw [T00,R8];omega))
   rw [y.out] at s
   clear h7 HW
   go_wp2_with fail
   with_reducible refine s.out.mono ?_
   rintro e w7 ⟨rfl,h8⟩
   have H8:=A5 (h8.third.drop.perm (List.Perm.cons _ ((T01 (l₁:=[_]) (l₂:=[_,_,_])).append_right Rs)))
   clear h8 s t1 t2 c0 c1 c2
   go_wp2
   go_roundg (gk-1)
   case measure=>omega
   case rel=>exact ⟨j+1,by omega,by omega,by go_num,H8⟩
theorem W8d (lo:Option Addr) (ln lc Bh B1 B2 bits hb:Nat) (hc:w.cell? ⟨Bh,5,none⟩=some (.int .i64 (hb:Int))) (h1:bits < 1000000000000) (h2:hb < 1000000000000):
  Calls Tryz.prog 226 #[Y08 Bh (.slice lo ln lc) B1 B2 bits] w fun e w'=>e= .returned (.int .i64 ((hb+bits:Nat):Int))∧E5 w w' (fun _=>False):=by
 have f:=(A4.start w).newObj [.pointer (some ⟨Bh,0,none⟩),.slice lo ln lc,.pointer (some ⟨B1,0,none⟩),.pointer (some ⟨B2,0,none⟩),.int .i64 (bits:Int)] 152
 have d:(w.alloc (.cells #[.pointer (some ⟨Bh,0,none⟩),.slice lo ln lc,.pointer (some ⟨B1,0,none⟩),.pointer (some ⟨B2,0,none⟩),.int .i64 (bits:Int)] 152)).cell? ⟨Bh,5,none⟩=some (.int .i64 (hb:Int)):=by
  rw [f.mod.cell (World.block_lt_of_cell? w _ hc) (fun h=>h)];exact hc
 have b:=A5 f
 unfold Y08
 go_enter Tryz.func226,Tryz.ntmps226
 go_wp2
 generalize w.alloc (.cells #[.pointer (some ⟨Bh,0,none⟩),.slice lo ln lc,.pointer (some ⟨B1,0,none⟩),.pointer (some ⟨B2,0,none⟩),.int .i64 (bits:Int)] 152)=w1 at d b⊢
 have l:=b.out.obj.cell (i:=0) rfl
 have m:=b.out.obj.cell (i:=1) rfl
 have n:=b.out.obj.cell (i:=2) rfl
 have o:=b.out.obj.cell (i:=3) rfl
 have p:=b.out.obj.cell (i:=4) rfl
 have g:=A5 (fun k=>Y62 (w:=w1.drewN k) lo ln lc B1 B2 bits)
 unfold Z3h at g
 clear f hc
 go_region_held3 (fun w'=>w'.cell? ⟨Bh,5,none⟩=some (.int .i64 (hb:Int))∧w'.cell? ⟨w.heap.size,0,none⟩=some (.pointer (some ⟨Bh,0,none⟩))∧w'.cell? ⟨w.heap.size,1,none⟩=some (.slice lo ln lc)∧w'.cell? ⟨w.heap.size,2,none⟩=some (.pointer (some ⟨B1,0,none⟩))∧w'.cell? ⟨w.heap.size,3,none⟩=some (.pointer (some ⟨B2,0,none⟩))∧w'.cell? ⟨w.heap.size,4,none⟩=some (.int .i64 (bits:Int)))
  (first | exact ⟨y,q,r,s,t,x⟩ | exact ⟨d,l,m,n,o,p⟩ | go_keep)
  ((first
   | (go_at_call 221;refine (g.out 1).mono ?_;rintro e z ⟨rfl,j⟩;have a:=A5 (b.out.drewN 1 |>.same j);have q:=a.out.obj.cell (i:=0) rfl;have r:=a.out.obj.cell (i:=1) rfl;have s:=a.out.obj.cell (i:=2) rfl;have t:=a.out.obj.cell (i:=3) rfl;have x:=a.out.obj.cell (i:=4) rfl;have y:z.cell? ⟨Bh,5,none⟩=some (.int .i64 (hb:Int)):=by (rw [j.cell (World.block_lt_of_cell? w1 _ d) (fun h=>h)];exact d))))
 all_goals
  go_wp2
  go_ret
  exact ⟨Z8t (by rw [←Int.natCast_add];exact Z25 _ (by omega)),a.out.mod⟩
theorem W5s {n:Nat} {Bw:C4} {acc:List Nat} {l:List E3} {S:A6} (lo:Option Addr) (lc Bh Bt B1 B2 bits:Nat) (iv hv:Value) (h:A4 w0 w (wrT Bw acc::S::(Y4h l Bh Bt B1 B2 iv hv++Rs))) (hr:Z04 w0 S 3 (.slice lo n lc) n (I6 l)) (hs:∀t∈l,E9 t=true) (hb:O3 l) (hn:n < 1048576) (hacc:acc.length < 1000000000):
  Calls Tryz.prog 227 #[Y08 Bh (.slice lo n lc) B1 B2 bits,.pointer (some ⟨Bw.b,Bw.o,none⟩)] w fun e w'=>e= .returned (.tuple #[])∧A4 w0 w' (wrT Bw (acc++I0 D2 2 l [] 0)::S::(Y4h l Bh Bt B1 B2 iv hv++Rs)):=by
 obtain ⟨d,g⟩:∃d,d=K3 D2 l:=⟨_,rfl⟩
 obtain ⟨a,f⟩:∃a,a=K2 D2 l:=⟨_,rfl⟩
 obtain ⟨xs,m⟩:∃xs,xs=G4 d a:=⟨_,rfl⟩
 obtain ⟨hd,p⟩:∃hd,hd=Y7 D2 xs:=⟨_,rfl⟩
 have s:=Y54 E2 l
 have y:=Y50 E2 l
 have a3:=Z2m E2 l
 have a4:=Z2t E2 l
 have a5:=Y5p E2 hs hb
 have a6:=Y5a (Y58 E2 l) (Y5d E2 l)
 have a7:(I0 D2 2 l [] 0)=Z60 (K3 D2 l) (K2 D2 l) (Y7 D2 (G4 (K3 D2 l) (K2 D2 l))) (G4 (K3 D2 l) (K2 D2 l))++Q3 (K3 D2 l) (K2 D2 l) l:=rfl
 have b1:=Y37 E2 xs
 have z:=Z5w E2 xs
 have b3:=Z56 E2 xs
 have b4:4≤Z2j hd:=Y0t _ (by decide)
 have b5:Z2j hd≤19:=Z3r _
 unfold Y4h at h⊢
 rw [a7]
 rw [←g,←f] at a6 a5 h⊢
 rw [←g] at s a3
 rw [←f] at y a4
 rw [←m] at h⊢
 rw [←p] at b1 z b3 h⊢
 have b6:∀x∈xs,L4 hd x.1∧x.1 < 19∧x.2.1≤7∧x.2.2 < 2^x.2.1:=fun x hx=>by
  have j:=Z47 a6 (d++a).length 0 x (by rw [m] at hx;exact hx)
  exact ⟨by rw [p];exact Y3b E2 hx j.1,j⟩
 have b7:xs.length≤1000:=by
  have j:=Z2z (all:=d++a) (d++a).length 0
  have k:xs.length≤(d++a).length:=by rw [m];exact j
  rw [T00] at k
  omega
 have hE:Hid (Z60 d a hd xs=A9 5 (d.length-257)++(A9 5 (a.length-1)++(A9 4 (Z2j hd-4)++(G8 hd (Z2j hd)++Z00 hd xs)))):=A5 rfl
 obtain ⟨N,hN⟩:∃N,N=Z2j hd:=⟨_,rfl⟩
 rw [←hN] at b4 b5 h hE⊢
 have r:(Z60 d a hd xs).length≤20000:=by
  have j:=Z3s d a hd xs
  have k:=Z1x (hd:=hd) z (xs:=xs) fun x hx=>(b6 x hx).2.2.1
  rw [←hN] at j
  omega
 have q:=A5 (And.intro a3 (And.intro a4 (And.intro a5 (And.intro hr (And.intro hs hb)))))
 obtain ⟨io,ic,rfl,_,_⟩:=(h.drop.drop.drop.drop.drop.own).form
 obtain ⟨ha,hc,rfl,_,_⟩:=(h.drop.drop.drop.drop.drop.drop.own).form
 have j:=(h.newObj [.pointer (some ⟨Bh,0,none⟩),.slice lo n lc,.pointer (some ⟨B1,0,none⟩),.pointer (some ⟨B2,0,none⟩),.int .i64 (bits:Int)] 152).swap.perm (List.Perm.cons _ ((T01 (l₁:=[_,_,_,_]) (l₂:=[_,_,_,_])).append_right Rs))
 have k0:=j.drop.drop.drop.drop.drop.obj.cell (i:=0) rfl
 have HW:=A5 (X8t io ha ic hc j b1 z (Z2v b3) b6 ⟨s.1,s.2⟩ ⟨y.1,y.2⟩ ⟨b4,b5⟩ b7 rfl (by omega))
 rw [←hE.out] at HW
 clear h j hr hs hb s y a3 a4 a5 a6 a7 b1 z b3 b4 b5 b6 b7 hE hN g f m p
 have c5:=A5 r
 clear r
 unfold Y08
 go_enter Tryz.func227,Tryz.ntmps227
 go_wp2_with fail
 with_reducible refine HW.out.mono ?_
 rintro e w2 ⟨rfl,k⟩
 have j1:=k.drop.drop.drop.drop.drop.obj.cell (i:=1) rfl
 have j2:=k.drop.drop.drop.drop.drop.obj.cell (i:=2) rfl
 have j3:=k.drop.drop.drop.drop.drop.obj.cell (i:=3) rfl
 have j4:=k.drop.drop.drop.drop.drop.obj.cell (i:=4) rfl
 have h3:=(k.perm (List.Perm.cons _ ((T01 (l₁:=[_,_,_,_,_,_]) (l₂:=[_,_])).append_right Rs))).perm (List.Perm.cons _ (List.Perm.cons _ (List.Perm.cons _ ((T01 (l₁:=[_,_,_,_,_]) (l₂:=[_])).append_right Rs))))
 have HC:=A5 (Y74 (bits:=bits) (.slice lo n lc) l h3 q.out.2.2.2.1 (Z2v q.out.1) (Z2v q.out.2.1) q.out.2.2.2.2.1 q.out.2.2.2.2.2 q.out.2.2.1 hn (by have:=c5.out;rw [T00];omega))
 unfold Z3h at HC
 clear k h3 HW k0
 go_wp2_with fail
 with_reducible refine HC.out.mono ?_
 rintro e w3 ⟨rfl,h4⟩
 rw [T09] at h4
 have H5:=A5 ((h4.perm ((T01 (l₁:=[_,_,_,_,_,_,_,_]) (l₂:=[_])).append_right Rs)).drop.perm (List.Perm.cons _ ((T01 (l₁:=[_,_]) (l₂:=[_])).append_right _)))
 clear h4 HC j1 j2 j3 j4
 go_wp2
 go_end0
 exact ⟨rfl,H5.out⟩
end
def X9n (kind:Nat) (l:List E3) (lv uv c:Value) (Ts:List A6):Prop:=
 (kind=0∧c= .iface 145 uv∧Ts=[])∨
 (kind=1∧∃B1 B2,c= .iface 148 (Z3h lv B1 B2 (Q3 I5 G7 l).length)∧Ts=[J7 I5 B1,J7 G7 B2])∨
 (kind=2∧∃Bh Bt B1 B2 iv hv,c= .iface 152 (Y08 Bh lv B1 B2 (Q3 (K3 D2 l) (K2 D2 l) l).length)∧Ts=Y4h l Bh Bt B1 B2 iv hv)
section
variable {w:World}
theorem X20 {l:List E3}:wrB l=true↔Z37 l∧l.length < 1048576:=by
 rw [V4t]
 exact ⟨fun h=>⟨h.2,h.1⟩,fun h=>⟨h.2,h.1⟩⟩
theorem Y1u (kind:Nat) (lo uo:Option Addr) (n lc m uc:Nat) (l:List E3) (raw:List Nat) (hv:Rd w 3 (.slice lo n lc) n (I6 l)) (hu:Rd w 1 (.slice uo m uc) m (D9 raw)) (hO:Z4p w) (hb:O3 l) (hn:n < 1000000000) (hmy:Z3t kind l raw):
  Calls Tryz.prog 75 #[.int .i64 (kind:Int),.slice lo n lc,.slice uo m uc] w fun e w'=>∃c Ts,e= .returned (.tuple #[c,.bool true])∧X9n kind l (.slice lo n lc) (.slice uo m uc) c Ts∧A4 w w' Ts:=by
 have d:m=raw.length:=by have:=hu.1;rw [E6] at this;omega
 have f:=hv.toks_len
 rcases hmy with ⟨hk,hr⟩ | ⟨hk,s,r⟩
 ·have k:kind=0:=by omega
  subst k
  have z:decide ((m:Int)≤65535)=true:=by simp;omega
  clear f d hv hu hO
  go_enter Tryz.func75,Tryz.ntmps75
  go_wp2
  go_ret2
  exact ⟨_,[],rfl,.inl ⟨rfl,rfl,rfl⟩,A4.start w⟩
 have g:=A5 (Y1x (.slice lo n lc) n l w hv hn)
 rw [X20.2 ⟨s,r⟩] at g
 have a:=A5 (And.intro hv (And.intro hO (And.intro r (And.intro s hb))))
 have o:kind=1∨kind=2:=by omega
 clear f d hv hu hO s r hb
 rcases o with rfl | rfl
 ·go_enter Tryz.func75,Tryz.ntmps75
  go_wp2_with fail
  with_reducible refine g.out.mono ?_
  rintro e t ⟨rfl,b⟩
  have i:=A5 (X2s (w:=t) lo n lc l (a.out.1.kept b (fun _ _ h=>h)) a.out.2.2.1 a.out.2.2.2.1 a.out.2.2.2.2)
  have p:=A5 b
  clear b g
  go_wp2_with fail
  with_reducible refine i.out.mono ?_
  rintro e w2 ⟨x,y,rfl,j⟩
  have q:=A5 (((A4.start w).same p.out).frame j)
  clear j i
  go_wp2
  go_ret2
  exact ⟨_,_,rfl,.inr (.inl ⟨rfl,x,y,rfl,rfl⟩),q.out⟩
 go_enter Tryz.func75,Tryz.ntmps75
 go_wp2_with fail
 with_reducible refine g.out.mono ?_
 rintro e t ⟨rfl,b⟩
 have i:=A5 (Y6l (w:=t) lo n lc l (a.out.1.kept b (fun _ _ h=>h)) (a.out.2.1.kept b) a.out.2.2.1 a.out.2.2.2.1 a.out.2.2.2.2)
 have p:=A5 b
 clear b g
 go_wp2_with fail
 with_reducible refine i.out.mono ?_
 rintro e w2 ⟨Bh,Bt,x,y,iv,hv,rfl,j⟩
 have q:=A5 (((A4.start w).same p.out).frame j)
 clear j i
 go_wp2
 go_ret2
 exact ⟨_,_,rfl,.inr (.inr ⟨rfl,Bh,Bt,x,y,iv,hv,rfl,rfl⟩),q.out⟩
theorem X37 (kind:Int) (lo uo:Option Addr) (n lc m uc:Nat) (l:List E3) (raw:List Nat) (hv:Rd w 3 (.slice lo n lc) n (I6 l)) (hu:Rd w 1 (.slice uo m uc) m (D9 raw)) (hn:n < 1000000000) (hmy:¬Z3t kind l raw):
  Calls Tryz.prog 75 #[.int .i64 kind,.slice lo n lc,.slice uo m uc] w fun e w'=>e= .returned (.tuple #[.nilIface,.bool false])∧E5 w w' (fun _=>False):=by
 have d:m=raw.length:=by have:=hu.1;rw [E6] at this;omega
 have b:=A5 (Y1x (.slice lo n lc) n l w hv hn)
 have k:(kind=0∧¬m≤65535)∨(kind=1∧wrB l=false)∨(kind=2∧wrB l=false)∨(kind≠0∧kind≠1∧kind≠2):=by
  unfold Z3t at hmy
  by_cases g:kind=0
  ·exact .inl ⟨g,fun h=>hmy (.inl ⟨g,by omega⟩)⟩
  by_cases i:kind=1
  ·refine .inr (.inl ⟨i, ?_⟩)
   cases hw:wrB l with
   | false=>rfl
   | true=>exact absurd (.inr ⟨.inl i,X20.1 hw⟩) hmy
  by_cases j:kind=2
  ·refine .inr (.inr (.inl ⟨j, ?_⟩))
   cases hw:wrB l with
   | false=>rfl
   | true=>exact absurd (.inr ⟨.inr j,X20.1 hw⟩) hmy
  exact .inr (.inr (.inr ⟨g,i,j⟩))
 clear hv hu hmy d
 rcases k with ⟨rfl,h⟩ | ⟨rfl,h⟩ | ⟨rfl,h⟩ | ⟨h0,h1,h2⟩
 ·have o:decide ((m:Int)≤65535)=false:=by simp;omega
  go_enter Tryz.func75,Tryz.ntmps75
  go_wp2
  go_ret2
  exact ⟨rfl,E5.refl _ _⟩
 ·rw [h] at b
  go_enter Tryz.func75,Tryz.ntmps75
  go_wp2_with fail
  with_reducible refine b.out.mono ?_
  rintro e p ⟨rfl,a⟩
  have f:=A5 a
  clear a
  go_wp2
  go_ret2
  exact ⟨rfl,f.out⟩
 ·rw [h] at b
  go_enter Tryz.func75,Tryz.ntmps75
  go_wp2_with fail
  with_reducible refine b.out.mono ?_
  rintro e p ⟨rfl,a⟩
  have f:=A5 a
  clear a
  go_wp2
  go_ret2
  exact ⟨rfl,f.out⟩
 have q:(kind==0)=false:=by simp [h0]
 have r:(kind==1)=false:=by simp [h1]
 have s:(kind==2)=false:=by simp [h2]
 go_enter Tryz.func75,Tryz.ntmps75
 go_wp2
 go_ret2
 exact ⟨rfl,E5.refl _ _⟩
end
theorem W8i (F:Nat→List E3→List Nat→Nat→List Nat) (kind:Nat) (l:List E3) (raw acc:List Nat) (last:Bool):acc++A9 1 (if last then 1 else 0)++A9 2 kind++F kind l raw (acc.length+3)=acc++Q7 F kind l raw last acc.length:=by
 unfold Q7
 have h:=Z52 1 2 (if last then 1 else 0) kind (by cases last <;> decide)
 rw [show 1+2=3 by rfl,show 2^1=2 by rfl] at h
 rw [h]
 simp
section
variable {w0 w:World} {Rs:List A6}
theorem Z7m {n m kind:Nat} {Bw:C4} {acc raw:List Nat} {l:List E3} {S:A6} {Ts:List A6} {c:Value} (lo uo:Option Addr) (lc uc:Nat) (last:Bool) (hc:X9n kind l (.slice lo n lc) (.slice uo m uc) c Ts) (h:A4 w0 w (wrT Bw acc::S::(Ts++Rs))) (hr:Z04 w0 S 3 (.slice lo n lc) n (I6 l)) (hu:Z04 w0 S 1 (.slice uo m uc) m (D9 raw)) (hmy:Z3t kind l raw) (hb:O3 l) (hrb:∀b∈raw,b < 256) (hacc:acc.length < 900000000):
  Calls Tryz.prog 76 #[.pointer (some ⟨Bw.b,Bw.o,none⟩),.int .i64 (kind:Int),c,.bool last] w fun e w'=>e= .returned (.tuple #[])∧A4 w0 w' (wrT Bw (acc++Q7 (I0 D2) kind l raw last acc.length)::S::(Ts++Rs)):=by
 have b0:kind < 3:=by rcases hc with ⟨h,_⟩ | ⟨h,_⟩ | ⟨h,_⟩ <;> omega
 have hE:=W8i (I0 D2) kind l raw acc last
 have a7:m=raw.length:=by have:=(hu.rd h.swap).1;rw [E6] at this;omega
 have a8:=(hr.rd h.swap).toks_len
 have hw:IntKind.u32.wrap (kind:Int)=(kind:Int):=Z9h _ (by omega)
 have b1:(0:Int)≤(kind:Int):=T02 _
 have HM:=A5 (And.intro hmy (And.intro hb hrb))
 have s:∀t∈l,kind≠0→E9 t=true:=fun t ht h0=>by
  rcases hmy with ⟨h,_⟩ | ⟨_,h,_⟩
  ·omega
  exact h t ht
 have z:kind≠0→l.length < 1048576:=fun h0=>by
  rcases hmy with ⟨h,_⟩ | ⟨_,_,h⟩
  ·omega
  exact h
 have a2:kind=0→m≤65535:=fun h0=>by
  rcases hmy with ⟨_,h⟩ | ⟨h,_⟩
  ·omega
  omega
 obtain ⟨mk,d⟩:∃mk:Nat,mk=if last then 1 else 0:=⟨_,rfl⟩
 rw [←d] at hE
 have a9:mk≤1:=by rw [d];cases last <;> decide
 have a:=A5 (Z6r h mk 1 (by omega) (by omega) (by omega))
 rw [show ((1:Nat):Int)=1 from rfl] at a
 have f:=A5 (fun (x:World) (j:A4 w0 x (wrT Bw (acc++A9 1 mk)::S::(Ts++Rs)))=>Z6r j kind 2 (by omega) (by omega) (by rw [T00,B5];omega))
 rw [show ((2:Nat):Int)=2 from rfl] at f
 have a5:(acc++A9 1 mk++A9 2 kind).length=acc.length+3:=by simp only [T00,B5]
 have y:Hid (∀q:World,A4 w0 q (wrT Bw (acc++A9 1 mk++A9 2 kind)::S::(Ts++Rs))→(kind=0→Calls Tryz.prog 219 #[.slice uo m uc,.pointer (some ⟨Bw.b,Bw.o,none⟩)] q fun e w'=>e= .returned (.tuple #[])∧A4 w0 w' (wrT Bw (acc++Q7 (I0 D2) kind l raw last acc.length)::S::(Ts++Rs)))∧
   (∀B1 B2,kind=1→Ts=[J7 I5 B1,J7 G7 B2]→Calls Tryz.prog 222 #[Z3h (.slice lo n lc) B1 B2 (Q3 I5 G7 l).length,.pointer (some ⟨Bw.b,Bw.o,none⟩)] q fun e w'=>e= .returned (.tuple #[])∧A4 w0 w' (wrT Bw (acc++Q7 (I0 D2) kind l raw last acc.length)::S::(Ts++Rs)))∧
   (∀Bh Bt B1 B2 iv hv,kind=2→Ts=Y4h l Bh Bt B1 B2 iv hv→Calls Tryz.prog 227 #[Y08 Bh (.slice lo n lc) B1 B2 (Q3 (K3 D2 l) (K2 D2 l) l).length,.pointer (some ⟨Bw.b,Bw.o,none⟩)] q fun e w'=>e= .returned (.tuple #[])∧A4 w0 w' (wrT Bw (acc++Q7 (I0 D2) kind l raw last acc.length)::S::(Ts++Rs)))):=by
  refine A5 fun q k=>⟨fun h0=> ?_,fun B1 B2 h1 hT=> ?_,fun Bh Bt B1 B2 iv hv j hT=> ?_⟩
  ·have g:=X25 uo uc k hu hrb (a2 h0) (by omega)
   rw [a5] at g
   subst h0
   rw [show G6 (acc.length+3) raw=I0 D2 0 l raw (acc.length+3) from rfl,hE] at g
   exact g
  ·subst hT
   have g:=Y74 (bits:=(Q3 I5 G7 l).length) (.slice lo n lc) l (k.perm (List.Perm.cons _ ((T01 (l₁:=[_]) (l₂:=[_,_])).append_right Rs))) hr (Z2v Z11.1) (Z2v Z11.2) (fun t ht=>s t ht (by omega)) hb (Y5y (fun t ht=>s t ht (by omega)) hb) (by have:=z (by omega);omega) (by omega)
   subst h1
   rw [show Q3 I5 G7 l=I0 D2 1 l raw (acc.length+3) from rfl,hE] at g
   exact g.mono fun _ _ ⟨e1,e2⟩=>⟨e1,e2.perm (List.Perm.cons _ ((T01 (l₁:=[_,_]) (l₂:=[_])).append_right Rs))⟩
  subst hT
  have g:=W5s (bits:=(Q3 (K3 D2 l) (K2 D2 l) l).length) lo lc Bh Bt B1 B2 iv hv k hr (fun t ht=>s t ht (by omega)) hb (by have:=z (by omega);omega) (by omega)
  subst j
  rw [show I0 D2 2 l [] 0=I0 D2 2 l raw (acc.length+3) from rfl,hE] at g
  exact g
 clear hE a7 a8 HM s z a2 hmy hb hrb hr hu h a5
 rcases hc with ⟨hk,rfl,hT⟩ | ⟨hk,B1,B2,rfl,hT⟩ | ⟨hk,Bh,Bt,B1,B2,iv,hv,rfl,hT⟩
 ·cases last
  ·
   simp only [T05,if_false] at d
   subst d
   have HK:=A5 hk
   clear hk
   rw [show ((0:Nat):Int)=0 from rfl] at a
   go_enter Tryz.func76,Tryz.ntmps76
   go_wp2_with fail
   with_reducible refine a.out.mono ?_
   rintro e x ⟨rfl,j⟩
   have p:=A5 (f.out x j)
   clear j a f
   go_wp2_with fail
   with_reducible refine p.out.mono ?_
   rintro e q ⟨rfl,k⟩
   have i:=A5 ((y.out q k).1 HK.out)
   clear k p y
   go_wp2_with fail
   with_reducible refine i.out.mono ?_
   rintro e w4 ⟨rfl,r⟩
   have H9:=A5 r
   clear r i
   go_wp2
   go_end0
   exact ⟨rfl,H9.out⟩
  ·
   simp only [if_true] at d
   subst d
   have HK:=A5 hk
   clear hk
   rw [show ((1:Nat):Int)=1 from rfl] at a
   go_enter Tryz.func76,Tryz.ntmps76
   go_wp2_with fail
   with_reducible refine a.out.mono ?_
   rintro e x ⟨rfl,j⟩
   have p:=A5 (f.out x j)
   clear j a f
   go_wp2_with fail
   with_reducible refine p.out.mono ?_
   rintro e q ⟨rfl,k⟩
   have i:=A5 ((y.out q k).1 HK.out)
   clear k p y
   go_wp2_with fail
   with_reducible refine i.out.mono ?_
   rintro e w4 ⟨rfl,r⟩
   have H9:=A5 r
   clear r i
   go_wp2
   go_end0
   exact ⟨rfl,H9.out⟩
 ·cases last
  ·
   simp only [T05,if_false] at d
   subst d
   have HK:=A5 hk
   clear hk
   rw [show ((0:Nat):Int)=0 from rfl] at a
   unfold Z3h
   go_enter Tryz.func76,Tryz.ntmps76
   go_wp2_with fail
   with_reducible refine a.out.mono ?_
   rintro e x ⟨rfl,j⟩
   have p:=A5 (f.out x j)
   clear j a f
   go_wp2_with fail
   with_reducible refine p.out.mono ?_
   rintro e q ⟨rfl,k⟩
   have i:=A5 ((y.out q k).2.1 B1 B2 HK.out hT)
   unfold Z3h at i
   clear k p y
   go_wp2_with fail
   with_reducible refine i.out.mono ?_
   rintro e w4 ⟨rfl,r⟩
   have H9:=A5 r
   clear r i
   go_wp2
   go_end0
   exact ⟨rfl,H9.out⟩
  ·
   simp only [if_true] at d
   subst d
   have HK:=A5 hk
   clear hk
   rw [show ((1:Nat):Int)=1 from rfl] at a
   unfold Z3h
   go_enter Tryz.func76,Tryz.ntmps76
   go_wp2_with fail
   with_reducible refine a.out.mono ?_
   rintro e x ⟨rfl,j⟩
   have p:=A5 (f.out x j)
   clear j a f
   go_wp2_with fail
   with_reducible refine p.out.mono ?_
   rintro e q ⟨rfl,k⟩
   have i:=A5 ((y.out q k).2.1 B1 B2 HK.out hT)
   unfold Z3h at i
   clear k p y
   go_wp2_with fail
   with_reducible refine i.out.mono ?_
   rintro e w4 ⟨rfl,r⟩
   have H9:=A5 r
   clear r i
   go_wp2
   go_end0
   exact ⟨rfl,H9.out⟩
 cases last
 ·
  simp only [T05,if_false] at d
  subst d
  have HK:=A5 hk
  clear hk
  rw [show ((0:Nat):Int)=0 from rfl] at a
  unfold Y08
  go_enter Tryz.func76,Tryz.ntmps76
  go_wp2_with fail
  with_reducible refine a.out.mono ?_
  rintro e x ⟨rfl,j⟩
  have p:=A5 (f.out x j)
  clear j a f
  go_wp2_with fail
  with_reducible refine p.out.mono ?_
  rintro e q ⟨rfl,k⟩
  have i:=A5 ((y.out q k).2.2 Bh Bt B1 B2 iv hv HK.out hT)
  unfold Y08 at i
  clear k p y
  go_wp2_with fail
  with_reducible refine i.out.mono ?_
  rintro e w4 ⟨rfl,r⟩
  have H9:=A5 r
  clear r i
  go_wp2
  go_end0
  exact ⟨rfl,H9.out⟩
 ·
  simp only [if_true] at d
  subst d
  have HK:=A5 hk
  clear hk
  rw [show ((1:Nat):Int)=1 from rfl] at a
  unfold Y08
  go_enter Tryz.func76,Tryz.ntmps76
  go_wp2_with fail
  with_reducible refine a.out.mono ?_
  rintro e x ⟨rfl,j⟩
  have p:=A5 (f.out x j)
  clear j a f
  go_wp2_with fail
  with_reducible refine p.out.mono ?_
  rintro e q ⟨rfl,k⟩
  have i:=A5 ((y.out q k).2.2 Bh Bt B1 B2 iv hv HK.out hT)
  unfold Y08 at i
  clear k p y
  go_wp2_with fail
  with_reducible refine i.out.mono ?_
  rintro e w4 ⟨rfl,r⟩
  have H9:=A5 r
  clear r i
  go_wp2
  go_end0
  exact ⟨rfl,H9.out⟩
end
end Go.Proofs.YtbkbkmgogbgofaaGreatDoor
