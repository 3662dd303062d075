/- The claim's texts, put together and shortened by a program (names, spaces). -/
import Derived.Test.YtbkbkmgogbgofaaGreatDoorZt29
import Derived.Handy
import Derived.Test.YtbkbkmgogbgofaaGreatDoorZt18
open List renaming perm_append_comm→T00,length_append→T01,append_nil→T03,getElem?_eq_getElem→T06,mem_of_getElem?→T07,flatMap_nil→T08,append_assoc→T09
open Nat renaming pow_le_pow_right→T05
open Int renaming natCast_nonneg→T02
open Bool renaming false_eq_true→T04
namespace Go.Proofs.YtbkbkmgogbgofaaGreatDoor
set_option maxRecDepth 100000
set_option maxHeartbeats 6400000
open Go.RowKit
theorem X9r (l:List Nat):J2 l=l++List.replicate (W5 l.length-l.length) 0:=by
 unfold J2
 congr 2
 unfold W5
 omega
theorem X5o {l:List Nat} (h:l.length%8=0):J2 l=l:=by
 unfold J2
 rw [h]
 simp
theorem Z9e (z:Nat) (h:z < 4294967296):IntKind.u32.wrap (z:Int)=(z:Int):=by
 unfold IntKind.wrap;simp [IntKind.bits,IntKind.signed];omega
theorem V19 (n:Nat) (h:n≤65535):A9 16 (4294967295-n)=A9 16 (65535-n):=by
 rw [←Z0r 16 (4294967295-n),←Z0r 16 (65535-n)]
 congr 1
 omega
theorem V33 (n:Nat) (h:n≤65535):bits .xor .u32 IntKind.u32.max (n:Int)=((4294967295-n:Nat):Int):=by
 have b:=u32_xor_nat 4294967295 n (by decide) (by omega)
 rw [show IntKind.u32.max=((4294967295:Nat):Int) from rfl,b]
 congr 1
 refine Nat.eq_of_testBit_eq fun i=> ?_
 rw [show 4294967295-n=2^32- (n+1) by omega,Nat.testBit_two_pow_sub_succ (by omega:n < 2^32),Nat.testBit_xor,show 4294967295=2^32-1 by rfl,Nat.testBit_two_pow_sub_one]
 by_cases a:i < 32
 ·simp [a]
 have:n.testBit i=false:=Nat.testBit_lt_two_pow (Nat.lt_of_lt_of_le (by omega:n < 2^32) (T05 (by decide) (by omega)))
 simp [a,this]
section
variable {w0 w:World} {Rs:List A6}
theorem X3y (u:Option Addr) (n cap:Nat) (hn:n < 1000000000):
  Calls Tryz.prog 218 #[.slice u n cap] w fun e w'=>e= .returned (.int .i64 ((37+8*n:Nat):Int))∧w'=w:=by
 have a:(0:Int)≤(n:Int):=T02 _
 go_enter Tryz.func218,Tryz.ntmps218
 go_wp2
 go_ret
 exact ⟨Z8t (by go_num),rfl⟩
theorem Y7z (lo:Option Addr) (ln lc B1 B2 bits:Nat):
  Calls Tryz.prog 221 #[Z3k (.slice lo ln lc) B1 B2 bits] w fun e w'=>e= .returned (.int .i64 (bits:Int))∧E2 w w' (fun _=>False):=by
 unfold Z3k
 go_enter Tryz.func221,Tryz.ntmps221
 go_wp2
 go_ret
 exact ⟨rfl,(E2.refl _ _).alloc _⟩
theorem X1v {n:Nat} {Bw:D0} {acc raw:List Nat} {S:A6} (u:Option Addr) (cap:Nat) (h:A4 w0 w (wrT Bw acc::S::Rs)) (hr:Y9 w0 S 1 (.slice u n cap) n (D7 raw)) (hb:∀b∈raw,b < 256) (hn:n≤65535) (hacc:acc.length < 10000000000):
  Calls Tryz.prog 219 #[.slice u n cap,.pointer (some ⟨Bw.b,Bw.o,none⟩)] w fun e w'=>e= .returned (.tuple #[])∧A4 w0 w' (wrT Bw (acc++G6 acc.length raw)::S::Rs):=by
 have f:n=raw.length:=by have:=(hr.rd h.swap).1;rw [E5] at this;omega
 have t:=A5 hr
 have x:=A5 hb
 have g:J2 acc=acc++List.replicate (W5 acc.length-acc.length) 0:=X9r acc
 have i:=Y3j acc
 have k:=Z5e acc
 have j:=A5 (X63 h (by omega))
 have y:IntKind.u32.wrap (n:Int)=(n:Int):=Z9e n (by omega)
 have z:Hid (J2 (J2 acc++A9 16 n++A9 16 (4294967295-n))++D6 raw=acc++G6 acc.length raw):=by
  rw [X5o (by simp only [T01,B5];omega),V19 n hn,g,G6,←f]
  exact A5 (by simp)
 have l:=A5 i
 have HX:bits .xor .u32 IntKind.u32.max (n:Int)=((4294967295-n:Nat):Int):=V33 n hn
 clear hr h hb g i k f
 go_enter Tryz.func219,Tryz.ntmps219
 go_wp2_with fail
 with_reducible refine j.out.mono ?_
 rintro e w1 ⟨rfl,p⟩
 have a:=A5 (Z6v p n 16 (by omega) (by omega) (by have:=l.out;omega))
 rw [show ((16:Nat):Int)=16 from rfl] at a
 clear p j
 go_wp2_with fail
 with_reducible refine a.out.mono ?_
 rintro e w2 ⟨rfl,q⟩
 have d:=A5 (Z6v q (4294967295-n) 16 (by omega) (by omega) (by have:=l.out;rw [T01,B5];omega))
 rw [show ((16:Nat):Int)=16 from rfl] at d
 clear q a
 go_wp2_with fail
 with_reducible refine d.out.mono ?_
 rintro e w3 ⟨rfl,r⟩
 have m:=A5 (Y8g r t.out x.out (by omega) (by have:=l.out;simp only [T01,B5];omega))
 rw [z.out] at m
 clear r d
 go_wp2_with fail
 with_reducible refine m.out.mono ?_
 rintro e w4 ⟨rfl,s⟩
 have HE:=A5 s
 clear s m
 go_wp2
 go_end0
 exact ⟨rfl,HE.out⟩
theorem W0m {B n1 n2 N m Bt bits:Nat} {Bw:D0} {acc:List Nat} {hd:List Int} {xs:List Y0} (io ha:Option Addr) (ic hc:Nat) (h:A4 w0 w (wrT Bw acc::E7 B (X70 n1 n2 (.slice io m ic) (.slice ha N hc) (.pointer (some ⟨Bt,0,none⟩)) bits) 201::B0 205 3 (.slice io m ic) m (L7 xs)::B0 3 1 (.slice ha N hc) N (D2 ((V3 hd).take N))::J7 hd Bt::Rs))
  (hl:hd.length=19) (hA:∀a∈hd,0≤a∧a≤7) (hF:Y4o hd) (hx:∀x∈xs,K7 hd x.1∧x.1 < 19∧x.2.1≤7∧x.2.2 < 2^x.2.1) (hn1:257≤n1∧n1≤286) (hn2:1≤n2∧n2≤30) (hN:4≤N∧N≤19) (hm:m≤1000) (hml:m=xs.length) (hacc:acc.length < 10000000000):
  Calls Tryz.prog 225 #[.pointer (some ⟨B,0,none⟩),.pointer (some ⟨Bw.b,Bw.o,none⟩)] w fun e w'=>e= .returned (.tuple #[])∧
   A4 w0 w' (wrT Bw (acc++(A9 5 (n1-257)++(A9 5 (n2-1)++(A9 4 (N-4)++(G8 hd N++Z5 hd xs)))))::E7 B (X70 n1 n2 (.slice io m ic) (.slice ha N hc) (.pointer (some ⟨Bt,0,none⟩)) bits) 201::B0 205 3 (.slice io m ic) m (L7 xs)::B0 3 1 (.slice ha N hc) N (D2 ((V3 hd).take N))::J7 hd Bt::Rs):=by
 unfold X70 at h⊢
 have f:=A5 (And.intro hl (And.intro hA (And.intro hF (And.intro hx hml))))
 have i1:(n1:Int)-257=((n1-257:Nat):Int):=by omega
 have i2:(n2:Int)-1=((n2-1:Nat):Int):=by omega
 have i3:(N:Int)-4=((N-4:Nat):Int):=by omega
 have u1:IntKind.u32.wrap ((n1-257:Nat):Int)=((n1-257:Nat):Int):=Z9e _ (by omega)
 have u2:IntKind.u32.wrap ((n2-1:Nat):Int)=((n2-1:Nat):Int):=Z9e _ (by omega)
 have u3:IntKind.u32.wrap ((N-4:Nat):Int)=((N-4:Nat):Int):=Z9e _ (by omega)
 have k0:=h.drop.obj.cell (i:=0) rfl
 have p:=A5 (Z6v h (n1-257) 5 (by omega) (by omega) (by omega))
 rw [show ((5:Nat):Int)=5 from rfl] at p
 clear h hl hA hF hx hml
 go_enter Tryz.func225,Tryz.ntmps225
 go_wp2_with fail
 with_reducible refine p.out.mono ?_
 rintro e w1 ⟨rfl,h1⟩
 have k1:=h1.drop.obj.cell (i:=1) rfl
 have q:=A5 (Z6v h1 (n2-1) 5 (by omega) (by omega) (by rw [T01,B5];omega))
 rw [show ((5:Nat):Int)=5 from rfl] at q
 clear h1 p k0
 go_wp2_with fail
 with_reducible refine q.out.mono ?_
 rintro e w2 ⟨rfl,h2⟩
 have k3:=h2.drop.obj.cell (i:=3) rfl
 have r:=A5 (Z6v h2 (N-4) 4 (by omega) (by omega) (by simp only [T01,B5];omega))
 rw [show ((4:Nat):Int)=4 from rfl] at r
 clear h2 q k1
 go_wp2_with fail
 with_reducible refine r.out.mono ?_
 rintro e w3 ⟨rfl,h3⟩
 obtain ⟨A,n⟩:∃A,A=acc++A9 5 (n1-257)++A9 5 (n2-1)++A9 4 (N-4):=⟨_,rfl⟩
 rw [←n] at h3
 have e8:A.length≤acc.length+14:=by rw [n];simp only [T01,B5];omega
 have c4:=A5 n
 have j3:=h3.drop.obj.cell (i:=3) rfl
 have H3:=A5 h3
 clear h3 r k3 n i1 i2 i3 u1 u2 u3
 have f1:(0:Int)≤(N:Int):=T02 _
 go_wp2
 clear j3
 go_loopg [38] (N+1) (fun k t38 wr=>∃i:Nat,i≤N∧N-i < k∧t38= .int .i64 (i:Int)∧Hid (A4 w0 wr (wrT Bw (A++G8 hd i)::E7 B [.int .i64 (n1:Int),.int .i64 (n2:Int),.slice io m ic,.slice ha N hc,.pointer (some ⟨Bt,0,none⟩),.int .i64 (bits:Int)] 201::B0 205 3 (.slice io m ic) m (L7 xs)::B0 3 1 (.slice ha N hc) N (D2 ((V3 hd).take N))::J7 hd Bt::Rs)))
 case atStart=>
  refine ⟨0,by omega,by omega,rfl, ?_⟩
  rw [G8,T03]
  exact H3
 case round=>
  obtain ⟨i,hi,hk,rfl,HI⟩:=hrel
  have f2:(0:Int)≤(i:Int):=T02 _
  by_cases d0:i < N
  ·have c5:(i:Int) < (N:Int):=by omega
   obtain ⟨v,hv⟩:∃v,hd[F7 i]?=some v:=⟨hd[F7 i]'(by have:=Z4o i (by omega);have:=f.out.1;omega),T06 _⟩
   have l:=f.out.2.1 v (T07 hv)
   obtain ⟨z,rfl⟩:=Int.eq_ofNat_of_zero_le l.1
   have hz:z≤7:=by omega
   have a5:((V3 hd).take N)[i]?=some (z:Int):=by rw [List.getElem?_take,if_pos d0,Z8s hd (by omega),hv];rfl
   obtain ⟨g,d1,rfl,d⟩:=HI.out.drop.drop.drop.own.rd.spot (by omega)
   have c1:=d i _ (by rw [G5,a5];rfl)
   have hw:IntKind.u32.wrap (z:Int)=(z:Int):=Z9e _ (by omega)
   have s:=A5 (Z6v HI.out z 3 (by omega) (by omega) (by rw [T01,S2];omega))
   have y:A++G8 hd i++A9 3 z=A++G8 hd (i+1):=by
    rw [G8,hv]
    simp
   rw [y,show ((3:Nat):Int)=3 from rfl] at s
   clear d a5 hv l y
   go_wp2_with fail
   with_reducible refine s.out.mono ?_
   rintro e w5 ⟨rfl,hh⟩
   have H5:=A5 hh
   clear hh s c1
   go_wp2
   go_roundg (gk-1)
   case measure=>omega
   case rel=>exact ⟨i+1,by omega,by omega,by go_num,H5⟩
  have c5:¬(i:Int) < (N:Int):=by omega
  obtain rfl:i=N:=by omega
  have k2:=HI.out.drop.obj.cell (i:=2) rfl
  have f5:(0:Int)≤(m:Int):=T02 _
  have a7:(A++G8 hd i).length≤acc.length+100:=by rw [T01,S2];omega
  obtain ⟨A2,a2⟩:∃A2,A2=A++G8 hd i:=⟨_,rfl⟩
  rw [←a2] at HI a7
  have c7:=A5 a2
  clear a2
  go_wp2
  clear k2
  go_loopg [52] (m+1) (fun k t52 wr=>∃j:Nat,j≤m∧m-j < k∧t52= .int .i64 (j:Int)∧Hid (A4 w0 wr (wrT Bw (A2++Z5 hd (xs.take j))::E7 B [.int .i64 (n1:Int),.int .i64 (n2:Int),.slice io m ic,.slice ha i hc,.pointer (some ⟨Bt,0,none⟩),.int .i64 (bits:Int)] 201::B0 205 3 (.slice io m ic) m (L7 xs)::B0 3 1 (.slice ha i hc) i (D2 ((V3 hd).take i))::J7 hd Bt::Rs)))
  case atStart=>
   refine ⟨0,by omega,by omega,rfl, ?_⟩
   rw [List.take_zero,Z5,T08,T03]
   exact HI
  case round=>
   obtain ⟨j,hj,g4,rfl,HJ⟩:=hrel
   have f6:(0:Int)≤(j:Int):=T02 _
   have a8:Hid ((A2++Z5 hd (xs.take j)).length < 100000000000):=by
    have h1:=Z2c (hd:=hd) f.out.2.1 (xs:=xs.take j) fun x hx=>(f.out.2.2.2.1 x (List.mem_of_mem_take hx)).2.2.1
    have h2:(xs.take j).length≤j:=by simp;omega
    rw [T01]
    exact A5 (by omega)
   by_cases g2:j < m
   rotate_left
   ·have c8:¬(j:Int) < (m:Int):=by omega
    have y:Hid (A2++Z5 hd (xs.take j)=acc++(A9 5 (n1-257)++(A9 5 (n2-1)++(A9 4 (i-4)++(G8 hd i++Z5 hd xs))))):=by
     rw [List.take_of_length_le (by have:=f.out.2.2.2.2;omega),c7.out,c4.out]
     exact A5 (by simp)
    have a0:=HJ.out
    rw [y.out] at a0
    have HK:=A5 a0
    clear a0 y
    go_wp2
    go_end0
    exact ⟨rfl,HK.out⟩
   have c8:(j:Int) < (m:Int):=by omega
   obtain ⟨⟨sy,ex,va⟩,ht⟩:∃t,xs[j]?=some t:=⟨xs[j]'(by have:=f.out.2.2.2.2;omega),T06 _⟩
   obtain ⟨a3,b2,b3,l⟩:=f.out.2.2.2.1 _ (T07 ht)
   simp only at a3 b2 b3 l
   have f7:2^ex≤2^7:=T05 (by decide) b3
   obtain ⟨g,d1,rfl,c0,c1,c2⟩:=HJ.out.drop.drop.own.rd.item ht
   have h5:=HJ.out.newObj [.int .i64 (sy:Int),.int .i64 (ex:Int),.int .i64 (va:Int)] 205
   have t0:=h5.obj.cell (i:=0) rfl
   have k4:=h5.drop.drop.obj.cell (i:=4) rfl
   have hw:IntKind.u32.wrap (va:Int)=(va:Int):=Z9e _ (by omega)
   have y:Hid (A2++Z5 hd (xs.take j)++D8 hd sy++A9 ex va=A2++Z5 hd (xs.take (j+1))):=by
    rw [List.take_add_one,ht]
    unfold Z5
    simp only [Option.toList_some,List.flatMap_append,List.flatMap_cons,T08,T03,T09]
    exact A5 rfl
   have H5:=A5 h5
   have c9:=A5 a3
   clear h5 ht a3
   go_wp2
   generalize wr.alloc (.cells #[.int .i64 (sy:Int),.int .i64 (ex:Int),.int .i64 (va:Int)] 205)=w5 at t0 k4 H5⊢
   go_still_tail 7,(by kernel_rfl)
   change wpList _ _ _ _ _ (World.drew _)
   have h6:=H5.out.drew.swap.perm (List.Perm.cons _ ((T00 (l₁:=[_,_,_,_]) (l₂:=[_])).append_right Rs))
   have HW:=A5 (X4r sy h6 f.out.2.2.1 c9.out (by have:=a8.out;omega))
   clear h6 t0 k4 H5
   go_wp2_with fail
   with_reducible refine HW.out.mono ?_
   rintro e w6 ⟨rfl,h7⟩
   have t1:=h7.third.obj.cell (i:=1) rfl
   have t2:=h7.third.obj.cell (i:=2) rfl
   have s:=A5 (Z6v h7 va ex (by omega) (by omega) (by have:=a8.out;have:=Z4e (m:=7) f.out.2.1 sy;rw [T01,Q9];omega))
   rw [y.out] at s
   clear h7 HW
   go_wp2_with fail
   with_reducible refine s.out.mono ?_
   rintro e w7 ⟨rfl,h8⟩
   have H8:=A5 (h8.third.drop.perm (List.Perm.cons _ ((T00 (l₁:=[_]) (l₂:=[_,_,_])).append_right Rs)))
   clear h8 s t1 t2 c0 c1 c2
   go_wp2
   go_roundg (gk-1)
   case measure=>omega
   case rel=>exact ⟨j+1,by omega,by omega,by go_num,H8⟩
theorem W7e (lo:Option Addr) (ln lc Bh B1 B2 bits hb:Nat) (hc:w.cell? ⟨Bh,5,none⟩=some (.int .i64 (hb:Int))) (h1:bits < 1000000000000) (h2:hb < 1000000000000):
  Calls Tryz.prog 226 #[Z9p Bh (.slice lo ln lc) B1 B2 bits] w fun e w'=>e= .returned (.int .i64 ((hb+bits:Nat):Int))∧E2 w w' (fun _=>False):=by
 have f:=(A4.start w).newObj [.pointer (some ⟨Bh,0,none⟩),.slice lo ln lc,.pointer (some ⟨B1,0,none⟩),.pointer (some ⟨B2,0,none⟩),.int .i64 (bits:Int)] 152
 have d:(w.alloc (.cells #[.pointer (some ⟨Bh,0,none⟩),.slice lo ln lc,.pointer (some ⟨B1,0,none⟩),.pointer (some ⟨B2,0,none⟩),.int .i64 (bits:Int)] 152)).cell? ⟨Bh,5,none⟩=some (.int .i64 (hb:Int)):=by
  rw [f.mod.cell (World.block_lt_of_cell? w _ hc) (fun h=>h)];exact hc
 have b:=A5 f
 unfold Z9p
 go_enter Tryz.func226,Tryz.ntmps226
 go_wp2
 generalize w.alloc (.cells #[.pointer (some ⟨Bh,0,none⟩),.slice lo ln lc,.pointer (some ⟨B1,0,none⟩),.pointer (some ⟨B2,0,none⟩),.int .i64 (bits:Int)] 152)=w1 at d b⊢
 have l:=b.out.obj.cell (i:=0) rfl
 have m:=b.out.obj.cell (i:=1) rfl
 have n:=b.out.obj.cell (i:=2) rfl
 have o:=b.out.obj.cell (i:=3) rfl
 have p:=b.out.obj.cell (i:=4) rfl
 have g:=A5 (fun k=>Y7z (w:=w1.drewN k) lo ln lc B1 B2 bits)
 unfold Z3k at g
 clear f hc
 go_region_held3 (fun w'=>w'.cell? ⟨Bh,5,none⟩=some (.int .i64 (hb:Int))∧w'.cell? ⟨w.heap.size,0,none⟩=some (.pointer (some ⟨Bh,0,none⟩))∧w'.cell? ⟨w.heap.size,1,none⟩=some (.slice lo ln lc)∧w'.cell? ⟨w.heap.size,2,none⟩=some (.pointer (some ⟨B1,0,none⟩))∧w'.cell? ⟨w.heap.size,3,none⟩=some (.pointer (some ⟨B2,0,none⟩))∧w'.cell? ⟨w.heap.size,4,none⟩=some (.int .i64 (bits:Int)))
  (first | exact ⟨y,q,r,s,t,x⟩ | exact ⟨d,l,m,n,o,p⟩ | go_keep)
  ((first
   | (go_at_call 221;refine (g.out 1).mono ?_;rintro e z ⟨rfl,j⟩;have a:=A5 (b.out.drewN 1 |>.same j);have q:=a.out.obj.cell (i:=0) rfl;have r:=a.out.obj.cell (i:=1) rfl;have s:=a.out.obj.cell (i:=2) rfl;have t:=a.out.obj.cell (i:=3) rfl;have x:=a.out.obj.cell (i:=4) rfl;have y:z.cell? ⟨Bh,5,none⟩=some (.int .i64 (hb:Int)):=by (rw [j.cell (World.block_lt_of_cell? w1 _ d) (fun h=>h)];exact d))))
 all_goals
  go_wp2
  go_ret
  exact ⟨Z8t (by rw [←Int.natCast_add];exact Z2b _ (by omega)),a.out.mod⟩
theorem W37 {n:Nat} {Bw:D0} {acc:List Nat} {l:List E1} {S:A6} (lo:Option Addr) (lc Bh Bt B1 B2 bits:Nat) (iv hv:Value) (h:A4 w0 w (wrT Bw acc::S::(Y48 l Bh Bt B1 B2 iv hv++Rs))) (hr:Y9 w0 S 3 (.slice lo n lc) n (I5 l)) (hs:∀t∈l,E8 t=true) (hb:N9 l) (hn:n < 1048576) (hacc:acc.length < 1000000000):
  Calls Tryz.prog 227 #[Z9p Bh (.slice lo n lc) B1 B2 bits,.pointer (some ⟨Bw.b,Bw.o,none⟩)] w fun e w'=>e= .returned (.tuple #[])∧A4 w0 w' (wrT Bw (acc++G3 C4 2 l [] 0)::S::(Y48 l Bh Bt B1 B2 iv hv++Rs)):=by
 obtain ⟨d,g⟩:∃d,d=K1 C4 l:=⟨_,rfl⟩
 obtain ⟨a,f⟩:∃a,a=K2 C4 l:=⟨_,rfl⟩
 obtain ⟨xs,m⟩:∃xs,xs=G4 d a:=⟨_,rfl⟩
 obtain ⟨hd,p⟩:∃hd,hd=Z0 C4 xs:=⟨_,rfl⟩
 have s:=Y5b E0 l
 have y:=Y53 E0 l
 have a3:=Z2v E0 l
 have a4:=Z2u E0 l
 have a5:=Y6n E0 hs hb
 have a6:=Y54 (Y5d E0 l) (Y55 E0 l)
 have a7:(G3 C4 2 l [] 0)=Z5r (K1 C4 l) (K2 C4 l) (Z0 C4 (G4 (K1 C4 l) (K2 C4 l))) (G4 (K1 C4 l) (K2 C4 l))++P7 (K1 C4 l) (K2 C4 l) l:=rfl
 have b1:=Y3g E0 xs
 have z:=Z5s E0 xs
 have b3:=Z4v E0 xs
 have b4:4≤Z2j hd:=Y0i _ (by decide)
 have b5:Z2j hd≤19:=Z3t _
 unfold Y48 at h⊢
 rw [a7]
 rw [←g,←f] at a6 a5 h⊢
 rw [←g] at s a3
 rw [←f] at y a4
 rw [←m] at h⊢
 rw [←p] at b1 z b3 h⊢
 have b6:∀x∈xs,K7 hd x.1∧x.1 < 19∧x.2.1≤7∧x.2.2 < 2^x.2.1:=fun x hx=>by
  have j:=Z4b a6 (d++a).length 0 x (by rw [m] at hx;exact hx)
  exact ⟨by rw [p];exact Y2n E0 hx j.1,j⟩
 have b7:xs.length≤1000:=by
  have j:=Z30 (all:=d++a) (d++a).length 0
  have k:xs.length≤(d++a).length:=by rw [m];exact j
  rw [T01] at k
  omega
 have hE:Hid (Z5r d a hd xs=A9 5 (d.length-257)++(A9 5 (a.length-1)++(A9 4 (Z2j hd-4)++(G8 hd (Z2j hd)++Z5 hd xs)))):=A5 rfl
 obtain ⟨N,hN⟩:∃N,N=Z2j hd:=⟨_,rfl⟩
 rw [←hN] at b4 b5 h hE⊢
 have r:(Z5r d a hd xs).length≤20000:=by
  have j:=Z3v d a hd xs
  have k:=Z2c (hd:=hd) z (xs:=xs) fun x hx=>(b6 x hx).2.2.1
  rw [←hN] at j
  omega
 have q:=A5 (And.intro a3 (And.intro a4 (And.intro a5 (And.intro hr (And.intro hs hb)))))
 obtain ⟨io,ic,rfl,_,_⟩:=(h.drop.drop.drop.drop.drop.own).form
 obtain ⟨ha,hc,rfl,_,_⟩:=(h.drop.drop.drop.drop.drop.drop.own).form
 have j:=(h.newObj [.pointer (some ⟨Bh,0,none⟩),.slice lo n lc,.pointer (some ⟨B1,0,none⟩),.pointer (some ⟨B2,0,none⟩),.int .i64 (bits:Int)] 152).swap.perm (List.Perm.cons _ ((T00 (l₁:=[_,_,_,_]) (l₂:=[_,_,_,_])).append_right Rs))
 have k0:=j.drop.drop.drop.drop.drop.obj.cell (i:=0) rfl
 have HW:=A5 (W0m io ha ic hc j b1 z (Z31 b3) b6 ⟨s.1,s.2⟩ ⟨y.1,y.2⟩ ⟨b4,b5⟩ b7 rfl (by omega))
 rw [←hE.out] at HW
 clear h j hr hs hb s y a3 a4 a5 a6 a7 b1 z b3 b4 b5 b6 b7 hE hN g f m p
 have c5:=A5 r
 clear r
 unfold Z9p
 go_enter Tryz.func227,Tryz.ntmps227
 go_wp2_with fail
 with_reducible refine HW.out.mono ?_
 rintro e w2 ⟨rfl,k⟩
 have j1:=k.drop.drop.drop.drop.drop.obj.cell (i:=1) rfl
 have j2:=k.drop.drop.drop.drop.drop.obj.cell (i:=2) rfl
 have j3:=k.drop.drop.drop.drop.drop.obj.cell (i:=3) rfl
 have j4:=k.drop.drop.drop.drop.drop.obj.cell (i:=4) rfl
 have h3:=(k.perm (List.Perm.cons _ ((T00 (l₁:=[_,_,_,_,_,_]) (l₂:=[_,_])).append_right Rs))).perm (List.Perm.cons _ (List.Perm.cons _ (List.Perm.cons _ ((T00 (l₁:=[_,_,_,_,_]) (l₂:=[_])).append_right Rs))))
 have HC:=A5 (Y66 (bits:=bits) (.slice lo n lc) l h3 q.out.2.2.2.1 (Z31 q.out.1) (Z31 q.out.2.1) q.out.2.2.2.2.1 q.out.2.2.2.2.2 q.out.2.2.1 hn (by have:=c5.out;rw [T01];omega))
 unfold Z3k at HC
 clear k h3 HW k0
 go_wp2_with fail
 with_reducible refine HC.out.mono ?_
 rintro e w3 ⟨rfl,h4⟩
 rw [T09] at h4
 have H5:=A5 ((h4.perm ((T00 (l₁:=[_,_,_,_,_,_,_,_]) (l₂:=[_])).append_right Rs)).drop.perm (List.Perm.cons _ ((T00 (l₁:=[_,_]) (l₂:=[_])).append_right _)))
 clear h4 HC j1 j2 j3 j4
 go_wp2
 go_end0
 exact ⟨rfl,H5.out⟩
end
def W09 (kind:Nat) (l:List E1) (lv uv c:Value) (Ts:List A6):Prop:=
 (kind=0∧c= .iface 145 uv∧Ts=[])∨
 (kind=1∧∃B1 B2,c= .iface 148 (Z3k lv B1 B2 (P7 I0 G7 l).length)∧Ts=[J7 I0 B1,J7 G7 B2])∨
 (kind=2∧∃Bh Bt B1 B2 iv hv,c= .iface 152 (Z9p Bh lv B1 B2 (P7 (K1 C4 l) (K2 C4 l) l).length)∧Ts=Y48 l Bh Bt B1 B2 iv hv)
section
variable {w:World}
theorem X2n {l:List E1}:wrB l=true↔Z36 l∧l.length < 1048576:=by
 rw [V43]
 exact ⟨fun h=>⟨h.2,h.1⟩,fun h=>⟨h.2,h.1⟩⟩
theorem Y1v (kind:Nat) (lo uo:Option Addr) (n lc m uc:Nat) (l:List E1) (raw:List Nat) (hv:Rd w 3 (.slice lo n lc) n (I5 l)) (hu:Rd w 1 (.slice uo m uc) m (D7 raw)) (hO:Z3x w) (hb:N9 l) (hn:n < 1000000000) (hmy:Z3u kind l raw):
  Calls Tryz.prog 75 #[.int .i64 (kind:Int),.slice lo n lc,.slice uo m uc] w fun e w'=>∃c Ts,e= .returned (.tuple #[c,.bool true])∧W09 kind l (.slice lo n lc) (.slice uo m uc) c Ts∧A4 w w' Ts:=by
 have d:m=raw.length:=by have:=hu.1;rw [E5] at this;omega
 have f:=hv.toks_len
 rcases hmy with ⟨hk,hr⟩ | ⟨hk,s,r⟩
 ·have k:kind=0:=by omega
  subst k
  have z:decide ((m:Int)≤65535)=true:=by simp;omega
  clear f d hv hu hO
  go_enter Tryz.func75,Tryz.ntmps75
  go_wp2
  go_ret2
  exact ⟨_,[],rfl,.inl ⟨rfl,rfl,rfl⟩,A4.start w⟩
 have g:=A5 (Y25 (.slice lo n lc) n l w hv hn)
 rw [X2n.2 ⟨s,r⟩] at g
 have a:=A5 (And.intro hv (And.intro hO (And.intro r (And.intro s hb))))
 have o:kind=1∨kind=2:=by omega
 clear f d hv hu hO s r hb
 rcases o with rfl | rfl
 ·go_enter Tryz.func75,Tryz.ntmps75
  go_wp2_with fail
  with_reducible refine g.out.mono ?_
  rintro e t ⟨rfl,b⟩
  have i:=A5 (X2k (w:=t) lo n lc l (a.out.1.kept b (fun _ _ h=>h)) a.out.2.2.1 a.out.2.2.2.1 a.out.2.2.2.2)
  have p:=A5 b
  clear b g
  go_wp2_with fail
  with_reducible refine i.out.mono ?_
  rintro e w2 ⟨x,y,rfl,j⟩
  have q:=A5 (((A4.start w).same p.out).frame j)
  clear j i
  go_wp2
  go_ret2
  exact ⟨_,_,rfl,.inr (.inl ⟨rfl,x,y,rfl,rfl⟩),q.out⟩
 go_enter Tryz.func75,Tryz.ntmps75
 go_wp2_with fail
 with_reducible refine g.out.mono ?_
 rintro e t ⟨rfl,b⟩
 have i:=A5 (Y73 (w:=t) lo n lc l (a.out.1.kept b (fun _ _ h=>h)) (a.out.2.1.kept b) a.out.2.2.1 a.out.2.2.2.1 a.out.2.2.2.2)
 have p:=A5 b
 clear b g
 go_wp2_with fail
 with_reducible refine i.out.mono ?_
 rintro e w2 ⟨Bh,Bt,x,y,iv,hv,rfl,j⟩
 have q:=A5 (((A4.start w).same p.out).frame j)
 clear j i
 go_wp2
 go_ret2
 exact ⟨_,_,rfl,.inr (.inr ⟨rfl,Bh,Bt,x,y,iv,hv,rfl,rfl⟩),q.out⟩
theorem X1i (kind:Int) (lo uo:Option Addr) (n lc m uc:Nat) (l:List E1) (raw:List Nat) (hv:Rd w 3 (.slice lo n lc) n (I5 l)) (hu:Rd w 1 (.slice uo m uc) m (D7 raw)) (hn:n < 1000000000) (hmy:¬Z3u kind l raw):
  Calls Tryz.prog 75 #[.int .i64 kind,.slice lo n lc,.slice uo m uc] w fun e w'=>e= .returned (.tuple #[.nilIface,.bool false])∧E2 w w' (fun _=>False):=by
 have d:m=raw.length:=by have:=hu.1;rw [E5] at this;omega
 have b:=A5 (Y25 (.slice lo n lc) n l w hv hn)
 have k:(kind=0∧¬m≤65535)∨(kind=1∧wrB l=false)∨(kind=2∧wrB l=false)∨(kind≠0∧kind≠1∧kind≠2):=by
  unfold Z3u at hmy
  by_cases g:kind=0
  ·exact .inl ⟨g,fun h=>hmy (.inl ⟨g,by omega⟩)⟩
  by_cases i:kind=1
  ·refine .inr (.inl ⟨i, ?_⟩)
   cases hw:wrB l with
   | false=>rfl
   | true=>exact absurd (.inr ⟨.inl i,X2n.1 hw⟩) hmy
  by_cases j:kind=2
  ·refine .inr (.inr (.inl ⟨j, ?_⟩))
   cases hw:wrB l with
   | false=>rfl
   | true=>exact absurd (.inr ⟨.inr j,X2n.1 hw⟩) hmy
  exact .inr (.inr (.inr ⟨g,i,j⟩))
 clear hv hu hmy d
 rcases k with ⟨rfl,h⟩ | ⟨rfl,h⟩ | ⟨rfl,h⟩ | ⟨h0,h1,h2⟩
 ·have o:decide ((m:Int)≤65535)=false:=by simp;omega
  go_enter Tryz.func75,Tryz.ntmps75
  go_wp2
  go_ret2
  exact ⟨rfl,E2.refl _ _⟩
 ·rw [h] at b
  go_enter Tryz.func75,Tryz.ntmps75
  go_wp2_with fail
  with_reducible refine b.out.mono ?_
  rintro e p ⟨rfl,a⟩
  have f:=A5 a
  clear a
  go_wp2
  go_ret2
  exact ⟨rfl,f.out⟩
 ·rw [h] at b
  go_enter Tryz.func75,Tryz.ntmps75
  go_wp2_with fail
  with_reducible refine b.out.mono ?_
  rintro e p ⟨rfl,a⟩
  have f:=A5 a
  clear a
  go_wp2
  go_ret2
  exact ⟨rfl,f.out⟩
 have q:(kind==0)=false:=by simp [h0]
 have r:(kind==1)=false:=by simp [h1]
 have s:(kind==2)=false:=by simp [h2]
 go_enter Tryz.func75,Tryz.ntmps75
 go_wp2
 go_ret2
 exact ⟨rfl,E2.refl _ _⟩
end
theorem V0x (F:Nat→List E1→List Nat→Nat→List Nat) (kind:Nat) (l:List E1) (raw acc:List Nat) (last:Bool):acc++A9 1 (if last then 1 else 0)++A9 2 kind++F kind l raw (acc.length+3)=acc++Q3 F kind l raw last acc.length:=by
 unfold Q3
 have h:=Z54 1 2 (if last then 1 else 0) kind (by cases last <;> decide)
 rw [show 1+2=3 by rfl,show 2^1=2 by rfl] at h
 rw [h]
 simp
section
variable {w0 w:World} {Rs:List A6}
theorem Z80 {n m kind:Nat} {Bw:D0} {acc raw:List Nat} {l:List E1} {S:A6} {Ts:List A6} {c:Value} (lo uo:Option Addr) (lc uc:Nat) (last:Bool) (hc:W09 kind l (.slice lo n lc) (.slice uo m uc) c Ts) (h:A4 w0 w (wrT Bw acc::S::(Ts++Rs))) (hr:Y9 w0 S 3 (.slice lo n lc) n (I5 l)) (hu:Y9 w0 S 1 (.slice uo m uc) m (D7 raw)) (hmy:Z3u kind l raw) (hb:N9 l) (hrb:∀b∈raw,b < 256) (hacc:acc.length < 900000000):
  Calls Tryz.prog 76 #[.pointer (some ⟨Bw.b,Bw.o,none⟩),.int .i64 (kind:Int),c,.bool last] w fun e w'=>e= .returned (.tuple #[])∧A4 w0 w' (wrT Bw (acc++Q3 (G3 C4) kind l raw last acc.length)::S::(Ts++Rs)):=by
 have b0:kind < 3:=by rcases hc with ⟨h,_⟩ | ⟨h,_⟩ | ⟨h,_⟩ <;> omega
 have hE:=V0x (G3 C4) kind l raw acc last
 have a7:m=raw.length:=by have:=(hu.rd h.swap).1;rw [E5] at this;omega
 have a8:=(hr.rd h.swap).toks_len
 have hw:IntKind.u32.wrap (kind:Int)=(kind:Int):=Z9e _ (by omega)
 have b1:(0:Int)≤(kind:Int):=T02 _
 have HM:=A5 (And.intro hmy (And.intro hb hrb))
 have s:∀t∈l,kind≠0→E8 t=true:=fun t ht h0=>by
  rcases hmy with ⟨h,_⟩ | ⟨_,h,_⟩
  ·omega
  exact h t ht
 have z:kind≠0→l.length < 1048576:=fun h0=>by
  rcases hmy with ⟨h,_⟩ | ⟨_,_,h⟩
  ·omega
  exact h
 have a2:kind=0→m≤65535:=fun h0=>by
  rcases hmy with ⟨_,h⟩ | ⟨h,_⟩
  ·omega
  omega
 obtain ⟨mk,d⟩:∃mk:Nat,mk=if last then 1 else 0:=⟨_,rfl⟩
 rw [←d] at hE
 have a9:mk≤1:=by rw [d];cases last <;> decide
 have a:=A5 (Z6v h mk 1 (by omega) (by omega) (by omega))
 rw [show ((1:Nat):Int)=1 from rfl] at a
 have f:=A5 (fun (x:World) (j:A4 w0 x (wrT Bw (acc++A9 1 mk)::S::(Ts++Rs)))=>Z6v j kind 2 (by omega) (by omega) (by rw [T01,B5];omega))
 rw [show ((2:Nat):Int)=2 from rfl] at f
 have a5:(acc++A9 1 mk++A9 2 kind).length=acc.length+3:=by simp only [T01,B5]
 have y:Hid (∀q:World,A4 w0 q (wrT Bw (acc++A9 1 mk++A9 2 kind)::S::(Ts++Rs))→(kind=0→Calls Tryz.prog 219 #[.slice uo m uc,.pointer (some ⟨Bw.b,Bw.o,none⟩)] q fun e w'=>e= .returned (.tuple #[])∧A4 w0 w' (wrT Bw (acc++Q3 (G3 C4) kind l raw last acc.length)::S::(Ts++Rs)))∧
   (∀B1 B2,kind=1→Ts=[J7 I0 B1,J7 G7 B2]→Calls Tryz.prog 222 #[Z3k (.slice lo n lc) B1 B2 (P7 I0 G7 l).length,.pointer (some ⟨Bw.b,Bw.o,none⟩)] q fun e w'=>e= .returned (.tuple #[])∧A4 w0 w' (wrT Bw (acc++Q3 (G3 C4) kind l raw last acc.length)::S::(Ts++Rs)))∧
   (∀Bh Bt B1 B2 iv hv,kind=2→Ts=Y48 l Bh Bt B1 B2 iv hv→Calls Tryz.prog 227 #[Z9p Bh (.slice lo n lc) B1 B2 (P7 (K1 C4 l) (K2 C4 l) l).length,.pointer (some ⟨Bw.b,Bw.o,none⟩)] q fun e w'=>e= .returned (.tuple #[])∧A4 w0 w' (wrT Bw (acc++Q3 (G3 C4) kind l raw last acc.length)::S::(Ts++Rs)))):=by
  refine A5 fun q k=>⟨fun h0=> ?_,fun B1 B2 h1 hT=> ?_,fun Bh Bt B1 B2 iv hv j hT=> ?_⟩
  ·have g:=X1v uo uc k hu hrb (a2 h0) (by omega)
   rw [a5] at g
   subst h0
   rw [show G6 (acc.length+3) raw=G3 C4 0 l raw (acc.length+3) from rfl,hE] at g
   exact g
  ·subst hT
   have g:=Y66 (bits:=(P7 I0 G7 l).length) (.slice lo n lc) l (k.perm (List.Perm.cons _ ((T00 (l₁:=[_]) (l₂:=[_,_])).append_right Rs))) hr (Z31 Z12.1) (Z31 Z12.2) (fun t ht=>s t ht (by omega)) hb (Y5r (fun t ht=>s t ht (by omega)) hb) (by have:=z (by omega);omega) (by omega)
   subst h1
   rw [show P7 I0 G7 l=G3 C4 1 l raw (acc.length+3) from rfl,hE] at g
   exact g.mono fun _ _ ⟨e1,e2⟩=>⟨e1,e2.perm (List.Perm.cons _ ((T00 (l₁:=[_,_]) (l₂:=[_])).append_right Rs))⟩
  subst hT
  have g:=W37 (bits:=(P7 (K1 C4 l) (K2 C4 l) l).length) lo lc Bh Bt B1 B2 iv hv k hr (fun t ht=>s t ht (by omega)) hb (by have:=z (by omega);omega) (by omega)
  subst j
  rw [show G3 C4 2 l [] 0=G3 C4 2 l raw (acc.length+3) from rfl,hE] at g
  exact g
 clear hE a7 a8 HM s z a2 hmy hb hrb hr hu h a5
 rcases hc with ⟨hk,rfl,hT⟩ | ⟨hk,B1,B2,rfl,hT⟩ | ⟨hk,Bh,Bt,B1,B2,iv,hv,rfl,hT⟩
 ·cases last
  ·
   simp only [T04,if_false] at d
   subst d
   have HK:=A5 hk
   clear hk
   rw [show ((0:Nat):Int)=0 from rfl] at a
   go_enter Tryz.func76,Tryz.ntmps76
   go_wp2_with fail
   with_reducible refine a.out.mono ?_
   rintro e x ⟨rfl,j⟩
   have p:=A5 (f.out x j)
   clear j a f
   go_wp2_with fail
   with_reducible refine p.out.mono ?_
   rintro e q ⟨rfl,k⟩
   have i:=A5 ((y.out q k).1 HK.out)
   clear k p y
   go_wp2_with fail
   with_reducible refine i.out.mono ?_
   rintro e w4 ⟨rfl,r⟩
   have H9:=A5 r
   clear r i
   go_wp2
   go_end0
   exact ⟨rfl,H9.out⟩
  ·
   simp only [if_true] at d
   subst d
   have HK:=A5 hk
   clear hk
   rw [show ((1:Nat):Int)=1 from rfl] at a
   go_enter Tryz.func76,Tryz.ntmps76
   go_wp2_with fail
   with_reducible refine a.out.mono ?_
   rintro e x ⟨rfl,j⟩
   have p:=A5 (f.out x j)
   clear j a f
   go_wp2_with fail
   with_reducible refine p.out.mono ?_
   rintro e q ⟨rfl,k⟩
   have i:=A5 ((y.out q k).1 HK.out)
   clear k p y
   go_wp2_with fail
   with_reducible refine i.out.mono ?_
   rintro e w4 ⟨rfl,r⟩
   have H9:=A5 r
   clear r i
   go_wp2
   go_end0
   exact ⟨rfl,H9.out⟩
 ·cases last
  ·
   simp only [T04,if_false] at d
   subst d
   have HK:=A5 hk
   clear hk
   rw [show ((0:Nat):Int)=0 from rfl] at a
   unfold Z3k
   go_enter Tryz.func76,Tryz.ntmps76
   go_wp2_with fail
   with_reducible refine a.out.mono ?_
   rintro e x ⟨rfl,j⟩
   have p:=A5 (f.out x j)
   clear j a f
   go_wp2_with fail
   with_reducible refine p.out.mono ?_
   rintro e q ⟨rfl,k⟩
   have i:=A5 ((y.out q k).2.1 B1 B2 HK.out hT)
   unfold Z3k at i
   clear k p y
   go_wp2_with fail
   with_reducible refine i.out.mono ?_
   rintro e w4 ⟨rfl,r⟩
   have H9:=A5 r
   clear r i
   go_wp2
   go_end0
   exact ⟨rfl,H9.out⟩
  ·
   simp only [if_true] at d
   subst d
   have HK:=A5 hk
   clear hk
   rw [show ((1:Nat):Int)=1 from rfl] at a
   unfold Z3k
   go_enter Tryz.func76,Tryz.ntmps76
   go_wp2_with fail
   with_reducible refine a.out.mono ?_
   rintro e x ⟨rfl,j⟩
   have p:=A5 (f.out x j)
   clear j a f
   go_wp2_with fail
   with_reducible refine p.out.mono ?_
   rintro e q ⟨rfl,k⟩
   have i:=A5 ((y.out q k).2.1 B1 B2 HK.out hT)
   unfold Z3k at i
   clear k p y
   go_wp2_with fail
   with_reducible refine i.out.mono ?_
   rintro e w4 ⟨rfl,r⟩
   have H9:=A5 r
   clear r i
   go_wp2
   go_end0
   exact ⟨rfl,H9.out⟩
 cases last
 ·
  simp only [T04,if_false] at d
  subst d
  have HK:=A5 hk
  clear hk
  rw [show ((0:Nat):Int)=0 from rfl] at a
  unfold Z9p
  go_enter Tryz.func76,Tryz.ntmps76
  go_wp2_with fail
  with_reducible refine a.out.mono ?_
  rintro e x ⟨rfl,j⟩
  have p:=A5 (f.out x j)
  clear j a f
  go_wp2_with fail
  with_reducible refine p.out.mono ?_
  rintro e q ⟨rfl,k⟩
  have i:=A5 ((y.out q k).2.2 Bh Bt B1 B2 iv hv HK.out hT)
  unfold Z9p at i
  clear k p y
  go_wp2_with fail
  with_reducible refine i.out.mono ?_
  rintro e w4 ⟨rfl,r⟩
  have H9:=A5 r
  clear r i
  go_wp2
  go_end0
  exact ⟨rfl,H9.out⟩
 ·
  simp only [if_true] at d
  subst d
  have HK:=A5 hk
  clear hk
  rw [show ((1:Nat):Int)=1 from rfl] at a
  unfold Z9p
  go_enter Tryz.func76,Tryz.ntmps76
  go_wp2_with fail
  with_reducible refine a.out.mono ?_
  rintro e x ⟨rfl,j⟩
  have p:=A5 (f.out x j)
  clear j a f
  go_wp2_with fail
  with_reducible refine p.out.mono ?_
  rintro e q ⟨rfl,k⟩
  have i:=A5 ((y.out q k).2.2 Bh Bt B1 B2 iv hv HK.out hT)
  unfold Z9p at i
  clear k p y
  go_wp2_with fail
  with_reducible refine i.out.mono ?_
  rintro e w4 ⟨rfl,r⟩
  have H9:=A5 r
  clear r i
  go_wp2
  go_end0
  exact ⟨rfl,H9.out⟩
end
def Z0k (kind:Nat) (l:List E1) (raw:List Nat):Nat:=(G3 C4 kind l raw 3).length
theorem X8p (l:List E1) (raw:List Nat):Z0k 0 l raw=37+8*raw.length:=by
 show (G6 3 raw).length=_
 rw [Z51]
 have:W5 3=8:=by decide
 omega
theorem Y7d {kind:Nat} {l:List E1} {raw:List Nat} (hm:Z3u kind l raw):Z0k kind l raw < 1000000+100*1048576:=by
 rcases hm with ⟨h,h2⟩ | ⟨h,h2,h3⟩
 ·have:=Y5p E0 kind [] raw 3 (.inl ⟨by omega,h2⟩)
  have e:Z0k kind l raw=(G3 C4 kind [] raw 3).length:=by
   have a:kind=0:=by omega
   subst a;rfl
  rw [e]
  simp at this
  omega
 have:=Y5p E0 kind l raw 3 (.inr ⟨by omega,h2⟩)
 unfold Z0k
 omega
section
variable {w0 w:World} {Rs:List A6}
theorem A4.dropAll:∀ {Ts:List A6},A4 w0 w (Ts++Rs)→A4 w0 w Rs
 | [],h=>h
 | _::_,h=>A4.dropAll (A4.drop h)
structure V6n (kind:Nat) (l:List E1) (raw:List Nat) (lo uo:Option Addr) (n lc m uc:Nat) (Ts:List A6) (w1:World):Prop where
 s0:kind=0→Calls Tryz.prog 218 #[.slice uo m uc] w1 fun e w'=>e= .returned (.int .i64 (Z0k kind l raw:Int))∧E2 w1 w' (fun _=>False)
 s1:∀B1 B2,kind=1→Calls Tryz.prog 221 #[Z3k (.slice lo n lc) B1 B2 (P7 I0 G7 l).length] w1 fun e w'=>e= .returned (.int .i64 (Z0k kind l raw:Int))∧E2 w1 w' (fun _=>False)
 s2:∀Bh Bt B1 B2 iv hv,kind=2→Ts=Y48 l Bh Bt B1 B2 iv hv→Calls Tryz.prog 226 #[Z9p Bh (.slice lo n lc) B1 B2 (P7 (K1 C4 l) (K2 C4 l) l).length] w1 fun e w'=>e= .returned (.int .i64 (Z0k kind l raw:Int))∧E2 w1 w' (fun _=>False)
theorem Z7v {kind:Nat} {l:List E1} {raw:List Nat} {Ts:List A6} {w1:World} (lo uo:Option Addr) (n lc m uc:Nat) (hm:m=raw.length) (hmy:Z3u kind l raw) (h:A4 w0 w1 (Ts++Rs)):V6n kind l raw lo uo n lc m uc Ts w1:=by
 have a:=Y7d hmy
 refine ⟨fun hk=> ?_,fun B1 B2 hk=> ?_,fun Bh Bt B1 B2 iv hv hk hT=> ?_⟩
 ·subst hk
  have b:m≤65535:=by
   rcases hmy with ⟨_,h2⟩ | ⟨h2,_⟩
   ·omega
   omega
  refine (X3y (w:=w1) uo m uc (by omega)).mono fun e w' ⟨h1,h2⟩=>⟨?_,by rw [h2];exact E2.refl _ _⟩
  rw [h1,X8p,hm]
 ·subst hk
  exact Y7z lo n lc B1 B2 _
 subst hT
 subst hk
 have d:w1.cell? ⟨Bh,5,none⟩=some (.int .i64 ((Z5r (K1 C4 l) (K2 C4 l) (Z0 C4 (G4 (K1 C4 l) (K2 C4 l))) (G4 (K1 C4 l) (K2 C4 l))).length:Int)):=h.drop.drop.obj.cell (i:=5) rfl
 have e:Z0k 2 l raw=(Z5r (K1 C4 l) (K2 C4 l) (Z0 C4 (G4 (K1 C4 l) (K2 C4 l))) (G4 (K1 C4 l) (K2 C4 l))).length+(P7 (K1 C4 l) (K2 C4 l) l).length:=by
  show (Z5r _ _ _ _++P7 _ _ _).length=_
  rw [T01]
 rw [e] at a⊢
 exact W7e lo n lc Bh B1 B2 _ _ d (by omega) (by omega)
theorem Y3e {kind:Nat} {l:List E1} {raw:List Nat} (hm:Z3u kind l raw):V9 (G3 C4) kind l raw=((3+Z0k kind l raw:Nat):Int):=by
 unfold V9
 rw [if_pos hm];rfl
theorem W31 {kind:Int} {l:List E1} {raw:List Nat} (hm:¬Z3u kind l raw):V9 (G3 C4) kind l raw= -1:=by
 unfold V9
 rw [if_neg hm]
theorem W51 (kind:Nat) (l:List E1) (raw acc:List Nat) (last:Bool) (v u:Value) (n m:Nat) (B:D0) (S:A6) (hO:Z3x w0) (h:A4 w0 w (wrT B acc::S::Rs)) (hv:Y9 w0 S 3 v n (I5 l)) (hu:Y9 w0 S 1 u m (D7 raw)) (hb:N9 l) (hr:∀b∈raw,b < 256) (hn:n < 1000000000) (hacc:acc.length < 900000000) (hmy:Z3u kind l raw):
  Calls Tryz.prog 55 #[.pointer (some ⟨B.b,B.o,none⟩),.int .i64 (kind:Int),v,u,.bool last] w fun e w'=>e= .returned (.bool true)∧A4 w0 w' (wrT B (acc++Q3 (G3 C4) kind l raw last acc.length)::S::Rs):=by
 have a:=hv.rd h.swap
 have d:=hu.rd h.swap
 obtain ⟨s,t,rfl,_,_⟩:=a.form
 obtain ⟨x,y,rfl,_,_⟩:=d.form
 have i:=A5 (Y1v kind s x n t m y l raw a d (hO.kept h.mod) hb hn hmy)
 have f:=A5 (And.intro h (And.intro hv (And.intro hu (And.intro hb (And.intro hr hmy)))))
 clear a d h hv hu hO hb hr hmy
 go_enter Tryz.func55,Tryz.ntmps55
 go_wp2_with fail
 with_reducible refine i.out.mono ?_
 rintro e w1 ⟨c,Ts,rfl,p,q⟩
 have j:A4 w0 w1 (wrT B acc::S::(Ts++Rs)):=(f.out.1.frame q).perm (by
  have g:=(T00 (l₁:=Ts) (l₂:=[wrT B acc,S])).append_right Rs
  simpa using g)
 have k:=A5 (Z80 s x t y last p j f.out.2.1 f.out.2.2.1 f.out.2.2.2.2.2 f.out.2.2.2.1 f.out.2.2.2.2.1 hacc)
 clear p q j i
 go_wp2_with fail
 with_reducible refine k.out.mono ?_
 rintro e r ⟨rfl,g⟩
 have z:Hid (A4 w0 r (wrT B (acc++Q3 (G3 C4) kind l raw last acc.length)::S::Rs)):=by
  have h3:A4 w0 r (Ts++(wrT B (acc++Q3 (G3 C4) kind l raw last acc.length)::S::Rs)):=g.perm (by
   have h4:=(T00 (l₁:=[wrT B (acc++Q3 (G3 C4) kind l raw last acc.length),S]) (l₂:=Ts)).append_right Rs
   simpa using h4)
  exact A5 h3.dropAll
 clear g k
 go_wp2
 go_ret
 exact ⟨rfl,z.out⟩
end
def K8 (l:List E1) (raw:List Nat):Nat→Int×Int
 | 0=>(-1,0)
 | i+1=>P4 (K8 l raw i) i (V9 (G3 C4) i l raw)
theorem X24 (l:List E1) (raw:List Nat):K8 l raw 3=Z7c (G3 C4) l raw:=rfl
theorem X98 {l:List E1} {raw:List Nat} {i:Nat} (h:¬Z3u i l raw):K8 l raw (i+1)=K8 l raw i:=by
 rw [K8,W31 h,P4,if_neg (by omega)]
theorem X2j {l:List E1} {raw:List Nat} {i:Nat} (h:Z3u i l raw) (hb:(K8 l raw i).1 < 0):K8 l raw (i+1)=((i:Int),((3+Z0k i l raw:Nat):Int)):=by
 rw [K8,Y3e h,P4,if_pos ⟨by omega,.inl hb⟩]
theorem Z72 {l:List E1} {raw:List Nat} {i k:Nat} (h:Z3u i l raw) (hb:(K8 l raw i).2=((3+Z0k k l raw:Nat):Int)) (hl:Z0k i l raw < Z0k k l raw):K8 l raw (i+1)=((i:Int),((3+Z0k i l raw:Nat):Int)):=by
 rw [K8,Y3e h,P4,if_pos ⟨by omega,.inr (by rw [hb];omega)⟩]
theorem Z7f {l:List E1} {raw:List Nat} {i k:Nat} (h:Z3u i l raw) (h1:(K8 l raw i).1=(k:Int)) (hb:(K8 l raw i).2=((3+Z0k k l raw:Nat):Int)) (hl:¬Z0k i l raw < Z0k k l raw):K8 l raw (i+1)=K8 l raw i:=by
 rw [K8,Y3e h,P4,if_neg]
 rintro ⟨_,a | a⟩
 ·omega
 rw [hb] at a;omega
section
variable {w0 w:World} {Rs:List A6}
def X2x (w0:World) (B:D0) (acc:List Nat) (S:A6) (Rs:List A6) (l:List E1) (raw:List Nat) (lv uv:Value) (i:Nat) (c:Value) (wr:World):Prop:=
 ((K8 l raw i).1 < 0∧c= .nilIface∧A4 w0 wr (wrT B acc::S::Rs))∨
 ∃ (k:Nat) (Ts:List A6),k < i∧(K8 l raw i).1=(k:Int)∧(K8 l raw i).2=((3+Z0k k l raw:Nat):Int)∧Z3u k l raw∧W09 k l lv uv c Ts∧A4 w0 wr (Ts++(wrT B acc::S::Rs))
theorem W91 (l:List E1) (raw acc:List Nat) (last:Bool) (v u:Value) (n m:Nat) (B:D0) (S:A6) (hO:Z3x w0) (h:A4 w0 w (wrT B acc::S::Rs)) (hv:Y9 w0 S 3 v n (I5 l)) (hu:Y9 w0 S 1 u m (D7 raw)) (hb:N9 l) (hr:∀b∈raw,b < 256) (hn:n < 1000000000) (hacc:acc.length < 900000000):
  Calls Tryz.prog 54 #[.pointer (some ⟨B.b,B.o,none⟩),v,u,.bool last] w fun e w'=>e= .returned (.int .i64 (Z7c (G3 C4) l raw).1)∧A4 w0 w' (wrT B (if (Z7c (G3 C4) l raw).1 < 0 then acc else acc++Q3 (G3 C4) (Z7c (G3 C4) l raw).1.toNat l raw last acc.length)::S::Rs):=by
 have t:=hv.rd h.swap
 have r:=hu.rd h.swap
 obtain ⟨lo,lc,rfl,_,_⟩:=t.form
 obtain ⟨uo,uc,rfl,_,_⟩:=r.form
 have d4:m=raw.length:=by have:=r.1;rw [E5] at this;omega
 have HP:=A5 (And.intro hv (And.intro hu (And.intro hO (And.intro hb (And.intro hr d4)))))
 have H0:=A5 h
 rw [←X24]
 obtain ⟨out,b3⟩:∃out,out=if (K8 l raw 3).1 < 0 then acc else acc++Q3 (G3 C4) (K8 l raw 3).1.toNat l raw last acc.length:=⟨_,rfl⟩
 rw [←b3]
 have c5:=A5 b3
 clear b3
 clear t r h hv hu hO hb hr d4
 go_enter Tryz.func54,Tryz.ntmps54
 go_wp2
 go_loopg [9,10,11] 4 (fun k t9 t10 t11 wr=>∃ (i:Nat) (c0:Value),i≤3∧3-i < k∧t11= .int .i64 (i:Int)∧t9= .int .i64 (K8 l raw i).1∧t10=c0∧Hid (X2x w0 B acc S Rs l raw (.slice lo n lc) (.slice uo m uc) i c0 wr))
 case atStart=>exact ⟨0,_,by omega,by omega,rfl,rfl,rfl,A5 (.inl ⟨by show ((-1:Int) < 0);decide,rfl,H0.out⟩)⟩
 case round=>
  obtain ⟨i,c0,hi,hk,rfl,rfl,f1,HF⟩:=hrel
  obtain rfl:=f1.symm
  have f7:(0:Int)≤(i:Int):=T02 _
  obtain ⟨b1,q⟩:∃b1,b1=(K8 l raw i).1:=⟨_,rfl⟩
  have d5:∃Q:List A6,A4 w0 wr (Q++(wrT B acc::S::Rs)):=by
   rcases HF.out with ⟨_,_,h⟩ | ⟨_,Ts,_,_,_,_,_,h⟩
   ·exact ⟨[],h⟩
   exact ⟨Ts,h⟩
  obtain ⟨Q,hQ⟩:=d5
  have hW:=hQ.dropAll
  have t:=HP.out.1.rd hW.swap
  have r:=HP.out.2.1.rd hW.swap
  by_cases g1:i < 3
  rotate_left
  ·have e3:¬(i:Int)≤2:=by omega
   have e7:i=3:=by omega
   subst e7
   rw [←q]
   have g:=A5 q
   rcases HF.out with ⟨h1,h2,h3⟩ | ⟨k,Ts,h1,h2,h3,h4,h5,h6⟩
   ·have d2:decide ((0:Int)≤b1)=false:=by simp;omega
    have H3:=A5 h3
    have hE:Hid (b1 < 0):=A5 (by omega)
    clear h1 h2 h3 t r hW hQ HF q
    go_wp2
    go_ret
    rw [←g.out]
    refine ⟨rfl, ?_⟩
    rw [c5.out,←g.out,if_pos hE.out]
    exact H3.out
   have e8:b1=(k:Int):=q.trans h2
   subst e8
   have d2:decide ((0:Int)≤(k:Int))=true:=by simp
   have g0:(0:Int)≤(k:Int):=T02 _
   have h7:A4 w0 wr (wrT B acc::S::(Ts++Rs)):=h6.perm (by
    have h2:=(T00 (l₁:=Ts) (l₂:=[wrT B acc,S])).append_right Rs
    simpa using h2)
   have HW:=A5 (Z80 lo uo lc uc last h5 h7 HP.out.1 HP.out.2.1 h4 HP.out.2.2.2.1 HP.out.2.2.2.2.1 hacc)
   clear h1 h2 h3 h4 h5 h6 h7 t r hW hQ HF q
   go_wp2_with fail
   with_reducible refine HW.out.mono ?_
   rintro e w2 ⟨rfl,h2⟩
   have H2:Hid (A4 w0 w2 (wrT B (acc++Q3 (G3 C4) k l raw last acc.length)::S::Rs)):=by
    have h3:A4 w0 w2 (Ts++(wrT B (acc++Q3 (G3 C4) k l raw last acc.length)::S::Rs)):=h2.perm (by
     have h4:=(T00 (l₁:=[wrT B (acc++Q3 (G3 C4) k l raw last acc.length),S]) (l₂:=Ts)).append_right Rs
     simpa using h4)
    exact A5 h3.dropAll
   clear h2 HW
   go_wp2
   go_ret
   rw [←g.out]
   refine ⟨rfl, ?_⟩
   rw [c5.out,←g.out,if_neg (by omega),Int.toNat_natCast]
   exact H2.out
  have e3:(i:Int)≤2:=by omega
  by_cases a9:Z3u i l raw
  rotate_left
  ·have HC:=A5 (X1i (i:Int) lo uo n lc m uc l raw t r hn a9)
   have d:Hid (K8 l raw (i+1)=K8 l raw i):=A5 (X98 a9)
   rw [←q]
   have g:=A5 q
   clear a9 t r hW hQ q
   go_wp2_with fail
   with_reducible refine HC.out.mono ?_
   rintro e w1 ⟨rfl,s⟩
   have e6:Hid (X2x w0 B acc S Rs l raw (.slice lo n lc) (.slice uo m uc) (i+1) c0 w1):=by
    unfold X2x
    rw [d.out]
    rcases HF.out with ⟨h1,h2,h3⟩ | ⟨k,Ts,h1,h2,h3,h4,h5,h6⟩
    ·exact A5 (.inl ⟨h1,h2,h3.same s⟩)
    exact A5 (.inr ⟨k,Ts,by omega,h2,h3,h4,h5,h6.same s⟩)
   clear s HC
   go_wp2
   go_roundg (gk-1)
   case measure=>omega
   case rel=>exact ⟨i+1,_,by omega,by omega,by go_num,by rw [d.out,←g.out],rfl,e6⟩
  have HC:=A5 (Y1v i lo uo n lc m uc l raw t r (HP.out.2.2.1.kept hW.mod) HP.out.2.2.2.1 hn a9)
  have HM:=A5 a9
  have g:=A5 q
  rw [←q]
  clear a9 t r hW hQ q
  by_cases c6:b1 < 0
  ·have d2:decide (b1 < 0)=true:=by simp;omega
   have d:Hid (K8 l raw (i+1)=((i:Int),((3+Z0k i l raw:Nat):Int))):=A5 (X2j HM.out (by rw [←g.out];exact c6))
   have hT:Hid (A4 w0 wr (wrT B acc::S::Rs)):=by
    rcases HF.out with ⟨_,_,h⟩ | ⟨k,_,_,h1,_⟩
    ·exact A5 h
    have:=g.out
    omega
   go_wp2_with fail
   with_reducible refine HC.out.mono ?_
   rintro e w1 ⟨c,Ts,rfl,hc,hh⟩
   have H1:=A5 (hT.out.frame hh)
   have a6:=A5 hc
   clear hh hc HC hT
   go_wp2
   go_roundg (gk-1)
   case measure=>omega
   case rel=>exact ⟨i+1,_,by omega,by omega,by go_num,by rw [d.out],rfl,A5 (.inr ⟨i,Ts,by omega,by rw [d.out],by rw [d.out],HM.out,a6.out,H1.out⟩)⟩
  have d2:decide (b1 < 0)=false:=by simp;omega
  rcases HF.out with ⟨h1,_,_⟩ | ⟨k,Tk,hki,d7,d8,d3,hf,hT⟩
  ·have:=g.out
   omega
  have p:=A5 (And.intro d7 (And.intro d8 (And.intro d3 hf)))
  have HT:=A5 hT
  have e4:=Y7d HM.out
  have e5:=Y7d d3
  obtain ⟨x,hx⟩:∃x,x=Z0k i l raw:=⟨_,rfl⟩
  obtain ⟨y,hy⟩:∃y,y=Z0k k l raw:=⟨_,rfl⟩
  rw [←hx] at e4
  rw [←hy] at e5
  have a:=A5 (And.intro hx hy)
  have f8:k=0∨k=1:=by omega
  clear d7 d8 d3 hT hx hy c6 HF
  rcases hf with ⟨hcf,rfl,hTf⟩ | ⟨hcf,C1,C2,rfl,hTf⟩ | ⟨hcf,_⟩
  ·have a2:=A5 hcf
   clear hcf
   go_wp2_with fail
   with_reducible refine HC.out.mono ?_
   rintro e w1 ⟨c,Ti,rfl,hc,hh⟩
   have H1:=A5 (HT.out.frame hh)
   have a6:=A5 hc
   have a3:=A5 (Z7v (w0:=wr) (Rs:=[]) lo uo n lc m uc HP.out.2.2.2.2.2 HM.out (by rw [T03];exact hh))
   clear hh HC
   rcases hc with ⟨hci,rfl,hTi⟩ | ⟨hci,B1,B2,rfl,hTi⟩ | ⟨hci,Bh,Bt,B1,B2,iv,hv,rfl,hTi⟩
   ·have:=a2.out
    omega
   ·have f:=A5 (a3.out.s1 B1 B2 hci)
    rw [←a.out.1] at f
    unfold Z3k at f⊢
    clear a3 hci
    go_wp2_with fail
    with_reducible refine f.out.mono ?_
    rintro e w2 ⟨rfl,s⟩
    have H2:=A5 (H1.out.same s)
    have z:=A5 (Z7v (w0:=w0) (Rs:=wrT B acc::S::Rs) lo uo n lc m uc HP.out.2.2.2.2.2 p.out.2.2.1 H2.out.dropAll)
    have j:=A5 (z.out.s0 a2.out)
    rw [←a.out.2] at j
    clear s f H1 z
    go_wp2_with fail
    with_reducible refine j.out.mono ?_
    rintro e w3 ⟨rfl,s⟩
    have H3:=A5 (H2.out.same s)
    clear s j H2
    by_cases a1:x < y
    ·have a0:decide ((x:Int) < (y:Int))=true:=by simp;omega
     have d:Hid (K8 l raw (i+1)=((i:Int),((3+Z0k i l raw:Nat):Int))):=A5 (Z72 HM.out p.out.2.1 (by rw [←a.out.1,←a.out.2];exact a1))
     have b2:Hid (A4 w0 w3 (Ti++(wrT B acc::S::Rs))):=by
      have h4:A4 w0 w3 (Tk++(Ti++(wrT B acc::S::Rs))):=H3.out.perm (by
       have h5:=(T00 (l₁:=Ti) (l₂:=Tk)).append_right (wrT B acc::S::Rs)
       simpa using h5)
      exact A5 h4.dropAll
     go_wp2
     go_roundg (gk-1)
     case measure=>omega
     case rel=>exact ⟨i+1,_,by omega,by omega,by go_num,by rw [d.out],rfl,A5 (.inr ⟨i,Ti,by omega,by rw [d.out],by rw [d.out],HM.out,a6.out,b2.out⟩)⟩
    have a0:decide ((x:Int) < (y:Int))=false:=by simp;omega
    have d:Hid (K8 l raw (i+1)=K8 l raw i):=A5 (Z7f HM.out p.out.1 p.out.2.1 (by rw [←a.out.1,←a.out.2];exact a1))
    go_wp2
    go_roundg (gk-1)
    case measure=>omega
    case rel=>exact ⟨i+1,_,by omega,by omega,by go_num,by rw [d.out,←g.out],rfl,A5 (.inr ⟨k,Tk,by omega,by rw [d.out];exact p.out.1,by rw [d.out];exact p.out.2.1,p.out.2.2.1,p.out.2.2.2,H3.out.dropAll⟩)⟩
   have f:=A5 (a3.out.s2 Bh Bt B1 B2 iv hv hci hTi)
   rw [←a.out.1] at f
   unfold Z9p at f⊢
   clear a3 hci
   go_wp2_with fail
   with_reducible refine f.out.mono ?_
   rintro e w2 ⟨rfl,s⟩
   have H2:=A5 (H1.out.same s)
   have z:=A5 (Z7v (w0:=w0) (Rs:=wrT B acc::S::Rs) lo uo n lc m uc HP.out.2.2.2.2.2 p.out.2.2.1 H2.out.dropAll)
   have j:=A5 (z.out.s0 a2.out)
   rw [←a.out.2] at j
   clear s f H1 z
   go_wp2_with fail
   with_reducible refine j.out.mono ?_
   rintro e w3 ⟨rfl,s⟩
   have H3:=A5 (H2.out.same s)
   clear s j H2
   by_cases a1:x < y
   ·have a0:decide ((x:Int) < (y:Int))=true:=by simp;omega
    have d:Hid (K8 l raw (i+1)=((i:Int),((3+Z0k i l raw:Nat):Int))):=A5 (Z72 HM.out p.out.2.1 (by rw [←a.out.1,←a.out.2];exact a1))
    have b2:Hid (A4 w0 w3 (Ti++(wrT B acc::S::Rs))):=by
     have h4:A4 w0 w3 (Tk++(Ti++(wrT B acc::S::Rs))):=H3.out.perm (by
      have h5:=(T00 (l₁:=Ti) (l₂:=Tk)).append_right (wrT B acc::S::Rs)
      simpa using h5)
     exact A5 h4.dropAll
    go_wp2
    go_roundg (gk-1)
    case measure=>omega
    case rel=>exact ⟨i+1,_,by omega,by omega,by go_num,by rw [d.out],rfl,A5 (.inr ⟨i,Ti,by omega,by rw [d.out],by rw [d.out],HM.out,a6.out,b2.out⟩)⟩
   have a0:decide ((x:Int) < (y:Int))=false:=by simp;omega
   have d:Hid (K8 l raw (i+1)=K8 l raw i):=A5 (Z7f HM.out p.out.1 p.out.2.1 (by rw [←a.out.1,←a.out.2];exact a1))
   go_wp2
   go_roundg (gk-1)
   case measure=>omega
   case rel=>exact ⟨i+1,_,by omega,by omega,by go_num,by rw [d.out,←g.out],rfl,A5 (.inr ⟨k,Tk,by omega,by rw [d.out];exact p.out.1,by rw [d.out];exact p.out.2.1,p.out.2.2.1,p.out.2.2.2,H3.out.dropAll⟩)⟩
  ·have a2:=A5 hcf
   clear hcf
   unfold Z3k
   go_wp2_with fail
   with_reducible refine HC.out.mono ?_
   rintro e w1 ⟨c,Ti,rfl,hc,hh⟩
   have H1:=A5 (HT.out.frame hh)
   have a6:=A5 hc
   have a3:=A5 (Z7v (w0:=wr) (Rs:=[]) lo uo n lc m uc HP.out.2.2.2.2.2 HM.out (by rw [T03];exact hh))
   clear hh HC
   rcases hc with ⟨hci,rfl,hTi⟩ | ⟨hci,B1,B2,rfl,hTi⟩ | ⟨hci,Bh,Bt,B1,B2,iv,hv,rfl,hTi⟩
   ·have:=a2.out
    omega
   ·have:=a2.out
    omega
   have f:=A5 (a3.out.s2 Bh Bt B1 B2 iv hv hci hTi)
   rw [←a.out.1] at f
   unfold Z9p at f⊢
   clear a3 hci
   go_wp2_with fail
   with_reducible refine f.out.mono ?_
   rintro e w2 ⟨rfl,s⟩
   have H2:=A5 (H1.out.same s)
   have z:=A5 (Z7v (w0:=w0) (Rs:=wrT B acc::S::Rs) lo uo n lc m uc HP.out.2.2.2.2.2 p.out.2.2.1 H2.out.dropAll)
   have j:=A5 (z.out.s1 C1 C2 a2.out)
   rw [←a.out.2] at j
   unfold Z3k at j
   clear s f H1 z
   go_wp2_with fail
   with_reducible refine j.out.mono ?_
   rintro e w3 ⟨rfl,s⟩
   have H3:=A5 (H2.out.same s)
   clear s j H2
   by_cases a1:x < y
   ·have a0:decide ((x:Int) < (y:Int))=true:=by simp;omega
    have d:Hid (K8 l raw (i+1)=((i:Int),((3+Z0k i l raw:Nat):Int))):=A5 (Z72 HM.out p.out.2.1 (by rw [←a.out.1,←a.out.2];exact a1))
    have b2:Hid (A4 w0 w3 (Ti++(wrT B acc::S::Rs))):=by
     have h4:A4 w0 w3 (Tk++(Ti++(wrT B acc::S::Rs))):=H3.out.perm (by
      have h5:=(T00 (l₁:=Ti) (l₂:=Tk)).append_right (wrT B acc::S::Rs)
      simpa using h5)
     exact A5 h4.dropAll
    go_wp2
    go_roundg (gk-1)
    case measure=>omega
    case rel=>exact ⟨i+1,_,by omega,by omega,by go_num,by rw [d.out],rfl,A5 (.inr ⟨i,Ti,by omega,by rw [d.out],by rw [d.out],HM.out,a6.out,b2.out⟩)⟩
   have a0:decide ((x:Int) < (y:Int))=false:=by simp;omega
   have d:Hid (K8 l raw (i+1)=K8 l raw i):=A5 (Z7f HM.out p.out.1 p.out.2.1 (by rw [←a.out.1,←a.out.2];exact a1))
   go_wp2
   go_roundg (gk-1)
   case measure=>omega
   case rel=>exact ⟨i+1,_,by omega,by omega,by go_num,by rw [d.out,←g.out],rfl,A5 (.inr ⟨k,Tk,by omega,by rw [d.out];exact p.out.1,by rw [d.out];exact p.out.2.1,p.out.2.2.1,p.out.2.2.2,H3.out.dropAll⟩)⟩
  omega
end
end Go.Proofs.YtbkbkmgogbgofaaGreatDoor
