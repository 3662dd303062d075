/- The claim's texts, put together and shortened by a program (names, spaces). -/
import Derived.Test.YtbkbkmgogbgofaaGreatDoorZk02
import Derived.Test.YtbkbkmgogbgofaaGreatDoorZk03
import Derived.Test.YtbkbkmgogbgofaaGreatDoorZk04
import Derived.StillTailTactics
import Derived.Deep.DeepMust
import Derived.Deep.RegionHeld3
open List renaming range→T01,replicate→T02,length_drop→T04
open Nat renaming pow_le_pow_right→T03
open Int renaming natCast_nonneg→T00
namespace Go.Proofs.YtbkbkmgogbgofaaGreatDoor
set_option maxRecDepth 100000
set_option maxHeartbeats 6400000
open Go.RowKit
def noT:A6 where
 res:=fun _ F=>∀k,¬F k
 loc:=fun _ _ _ _ h _ _=>h
def Z0g:List A6→A6
 | []=>noT
 | R::L=>V0x R (Z0g L)
section
variable {w0 w:World}
theorem A4.noT {Rs:List A6} (h:A4 w0 w Rs):A4 w0 w (noT::Rs):=h.push _ (fun _=>False) (fun _ h=>h) (E5.refl w _) (fun _ h=>h.elim)
theorem A4.all:∀ {L Rs:List A6},A4 w0 w (L++Rs)→A4 w0 w (Z0g L::Rs)
 | [],_,h=>h.noT
 | R::L,Rs,h=>by
  have h1:A4 w0 w (L++R::Rs):=h.perm List.perm_middle.symm
  exact (A4.all h1).swap.pair
theorem A4.unall:∀ {L Rs:List A6},A4 w0 w (Z0g L::Rs)→A4 w0 w (L++Rs)
 | [],_,h=>h.drop
 | R::L,Rs,h=>by
  have h1:A4 w0 w (L++R::Rs):=A4.unall (A4.unpair h).swap
  exact h1.perm List.perm_middle
theorem Z8n {L L' Rs:List A6} (h:A4 w0 w (Z0g L::Rs)) (hp:L.Perm L'):A4 w0 w (Z0g L'::Rs):=
 A4.all (h.unall.perm (hp.append_right Rs))
theorem Z59 {R:A6}:∀ (L:List A6) (i:Nat),L[i]?=some R→(R::L.eraseIdx i).Perm L
 | [],i,h=>by simp at h
 | a::L,0,h=>by
  simp only [List.getElem?_cons_zero,Option.some.injEq] at h
  subst h;exact List.Perm.refl _
 | a::L,i+1,h=>by
  have ih:=Z59 L i (by simpa using h)
  exact (List.Perm.swap a R _).trans (List.Perm.cons a ih)
theorem A4.allOut {L Rs:List A6} {i:Nat} {R:A6} (h:A4 w0 w (Z0g L::Rs)) (hi:L[i]?=some R):A4 w0 w (R::Z0g (L.eraseIdx i)::Rs):=by
 exact A4.unpair (Z8n (L':=R::L.eraseIdx i) h (Z59 L i hi).symm)
theorem A4.allBack {L Rs:List A6} {i:Nat} {R:A6} (h:A4 w0 w (R::Z0g (L.eraseIdx i)::Rs)) (hi:i < L.length):A4 w0 w (Z0g (L.set i R)::Rs):=by
 have b:A4 w0 w (Z0g (R::L.eraseIdx i)::Rs):=h.pair
 have a:=Z59 (L.set i R) i (List.getElem?_set_self hi)
 rw [List.eraseIdx_set_eq] at a
 exact Z8n b a
theorem N3.frame {w w':World} {Rs:List A6} (h:A4 w0 w Rs):∀ {Ts:List A6} {U V:Nat→Prop},N3 w w' U Ts→(∀k,V k→U k)→(∀k,V k→w.heap.size≤k)→N3 w0 w' V (Ts++Rs)
 | [],_,_,hm,_,hw=>by
  have hM:E5 w w' (fun _=>False):=hm
  exact (N3.more h (fun k hk=> .inr (hw k hk))).step hM (fun _ h=>h.elim) (fun _ h=>h.elim)
 | _::_,_,_,⟨F,h1,h2,h3⟩,hv,hw=>
  ⟨F,h1,fun k hk=>⟨Nat.le_trans h.mod.size (h2 k hk).1,(h2 k hk).2.1,fun hV=>(h2 k hk).2.2 (hv k hV)⟩,
   N3.frame h h3 (fun k hk=>hk.imp (hv k) id) (fun k hk=>hk.elim (hw k) fun hf=>(h2 k hf).1)⟩
theorem A4.frame {w w':World} {Rs Ts:List A6} (h:A4 w0 w Rs) (h2:A4 w w' Ts):A4 w0 w' (Ts++Rs):=N3.frame h h2 (fun _ h=>h) (fun _ h=>h.elim)
theorem A4.litN {w:World} {Rs:List A6} (h:A4 w0 w Rs) (e:TypeId) (size:Nat) (cs:List Value) (n:Nat) (hm:n≤maxLen) (hs:cs.length=n*size) (N:Nat) (hN:w.heap.size=N):
  A4 w0 (w.alloc (.cells cs.toArray e)) (B0 e size (.slice (some ⟨N,0,none⟩) n n) n cs::Rs):=by
 subst hN
 exact h.lit e size cs n hm hs
end
def rdT (size:Nat) (v:Value) (n:Nat) (xs:List Value):A6 where
 res:=fun w F=>Rd w size v n xs∧∀k,v.ownBlock=some k→F k
 loc:=fun _ _ _ _ h hm hS=>⟨h.1.kept hm (fun k hk=>hS k (h.2 k hk)),h.2⟩
def Y8l (size:Nat) (v:Value) (n:Nat) (xs:List Value) (v2:Value) (n2:Nat) (xs2:List Value):A6 where
 res:=fun w F=>(Rd w size v n xs∧∀k,v.ownBlock=some k→F k)∧(Rd w size v2 n2 xs2∧∀k,v2.ownBlock=some k→F k)
 loc:=fun _ _ _ _ h hm hS=>⟨⟨h.1.1.kept hm (fun k hk=>hS k (h.1.2 k hk)),h.1.2⟩,⟨h.2.1.kept hm (fun k hk=>hS k (h.2.2 k hk)),h.2.2⟩⟩
section
variable {w0 w:World} {Rs:List A6}
theorem A4.rdv {size n:Nat} {v:Value} {xs:List Value} (h:A4 w0 w (rdT size v n xs::Rs)):Rd w size v n xs:=by
 obtain ⟨F,a,_⟩:=h
 exact a.1
theorem A4.rdv2 {size n n2:Nat} {v v2:Value} {xs xs2:List Value} (h:A4 w0 w (Y8l size v n xs v2 n2 xs2::Rs)):Rd w size v n xs∧Rd w size v2 n2 xs2:=by
 obtain ⟨F,a,_⟩:=h
 exact ⟨a.1.1,a.2.1⟩
theorem A4.toRd {e:TypeId} {size n:Nat} {v:Value} {xs:List Value} (h:A4 w0 w (B0 e size v n xs::Rs)):A4 w0 w (rdT size v n xs::Rs):=by
 obtain ⟨F,a,b⟩:=h
 exact ⟨F,⟨a.1.rd,fun k hk=>(a.2 k).2 hk⟩,b⟩
def S2 (B:Nat) (o:Value) (e:Nat) (r k s b:Value) (a:Nat) (M:Int) (li di lc dc tk:Value):A6:=
 E8 B [o,.int .i64 (e:Int),r,k,s,b,.int .i64 (a:Int),.int .i64 M,li,di,lc,dc,tk] 56
def S4 (B:Nat):Value:= .pointer (some ⟨B,0,none⟩)
theorem Y7j:(Tryz.prog.info? 5).map (fun i=>(i.zero,i.size,i.bytes))=some (some (.int .u8 0),1,1):=by kernel_rfl
theorem M2 {bs:List Nat} {a n v:Nat} (h:I8 bs a n=some v):a+n≤bs.length∧v=E4 ((bs.drop a).take n):=by
 unfold I8 at h
 split at h
 ·rename_i b
  simp only [Option.some.injEq] at h
  exact ⟨b,h.symm⟩
 cases h
theorem Y9t {bs:List Nat} {a n:Nat} (h:I8 bs a n=none):bs.length < a+n:=by
 unfold I8 at h
 split at h
 ·cases h
 omega
theorem Z51 (B:Nat) (o:Value) (e:Nat) (r k s:Value) (bo:Option Addr) (bc m a n:Nat) (M:Int) (li di lc dc tk:Value) (all:List Nat) (h:A4 w0 w (S2 B o e r k s (.slice bo m bc) a M li di lc dc tk::rdT 1 (.slice bo m bc) m (D9 all)::Rs)) (ht:I8 all a n=none) (ha:a≤2000000000) (hn:n≤64):
  Calls Tryz.prog 35 #[S4 B,.int .i64 (n:Int)] w fun e' w'=>e'= .returned (.tuple #[.int .i64 0,.bool false])∧A4 w0 w' (S2 B o 5 r k s (.slice bo m bc) a M li di lc dc tk::rdT 1 (.slice bo m bc) m (D9 all)::Rs):=by
 have g:m=all.length:=by have:=h.drop.rdv.1;rw [E6] at this;omega
 have b:=Y9t ht
 rw [←g] at b
 unfold S4
 unfold S2 at h⊢
 have d:=h.obj
 have c1:=d.cell (i:=1) rfl
 have c5:=d.cell (i:=5) rfl
 have c6:=d.cell (i:=6) rfl
 have f1:=d.frozen 1
 have l:(0:Int)≤(a:Int):=T00 _
 have p:(0:Int)≤(n:Int):=T00 _
 obtain ⟨z,y⟩:∃z,z=a+n:=⟨_,rfl⟩
 have f:(a:Int)+(n:Int)=(z:Int):=by omega
 have q:(0:Int)≤(z:Int):=T00 _
 have t:(m:Int) < (z:Int):=by omega
 have j:m < z:=by omega
 have x:IntKind.i64.wrap ((a:Int)+(n:Int))=(z:Int):=by rw [f];exact IntWalk.i64_in _ (by omega)
 have H:=A5 h
 clear h d g ht b y
 go_enter Tryz.func35,Tryz.ntmps35
 go_wp2
 go_quiet (fail)
 go_wp2
 go_ret2
 exact ⟨rfl,(H.out.drewN nq).setObj 1 _⟩
theorem X5a (xo:Option Addr) (m xc a e:Nat) (h1:a≤e) (h2:e≤m) (h3:m≤xc) (wg:World):
  (Instr.sliceAt 26 (.slice xo m xc) (some (.int .i64 (a:Int))) (some (.int .i64 (e:Int))) none).run Tryz.prog wg= .ok (sliced xo a e xc 1) wg:=by
 obtain ⟨i,d,f,b,g⟩:=info_parts Y7j
 exact O0 (P:=Tryz.prog) (w:=wg) 26 5 i 1 Tryz.underlying26 d b xo m xc a e (some (.int .i64 (a:Int))) (some (.int .i64 (e:Int))) ⟨_,rfl⟩ ⟨_,rfl⟩ h1 (by omega)
theorem X9 (B:Nat) (o:Value) (e:Nat) (r k s:Value) (bo:Option Addr) (bc m a n v:Nat) (M:Int) (li di lc dc tk:Value) (all:List Nat) (h:A4 w0 w (S2 B o e r k s (.slice bo m bc) a M li di lc dc tk::rdT 1 (.slice bo m bc) m (D9 all)::Rs)) (ht:I8 all a n=some v) (hbits:isBits all) (hm2:m≤2000000000) (hn:n≤60):
  Calls Tryz.prog 35 #[S4 B,.int .i64 (n:Int)] w fun e' w'=>e'= .returned (.tuple #[.int .i64 (v:Int),.bool true])∧A4 w0 w' (S2 B o e r k s (.slice bo m bc) (a+n) M li di lc dc tk::rdT 1 (.slice bo m bc) m (D9 all)::Rs):=by
 have hm:m=all.length:=by have:=h.drop.rdv.1;rw [E6] at this;omega
 obtain ⟨g,hv⟩:=M2 ht
 rw [←hm] at g
 unfold S4
 unfold S2 at h⊢
 have j:=h.obj
 have c1:=j.cell (i:=1) rfl
 have c5:=j.cell (i:=5) rfl
 have c6:=j.cell (i:=6) rfl
 have f6:=j.frozen 6
 have b6:(0:Int)≤(a:Int):=T00 _
 have b7:(0:Int)≤(n:Int):=T00 _
 obtain ⟨z,hz⟩:∃z,z=a+n:=⟨_,rfl⟩
 rw [←hz] at g⊢
 have q:(a:Int)+(n:Int)=(z:Int):=by omega
 have b8:(0:Int)≤(z:Int):=T00 _
 have t:¬(m:Int) < (z:Int):=by omega
 have a4:decide (m < z)=false:=decide_eq_false (by omega)
 have a5:decide ((m:Int) < (z:Int))=false:=decide_eq_false t
 have b9:(a:Int)≤(z:Int):=by omega
 have a6:(z:Int)≤(m:Int):=by omega
 have d:=h.drop.rdv
 obtain ⟨_,_,p,a2,_⟩:=d.form
 simp only [Value.slice.injEq,true_and] at p
 obtain ⟨rfl,rfl⟩:=p
 have f:=X5a bo m bc a z (by omega) g a2
 have b:=d.cut (L:=a) (H:=z) (by omega) g
 have e2:((D9 all).drop (a*1)).take ((z-a)*1)=D9 ((all.drop a).take n):=by
  rw [Nat.mul_one,Nat.mul_one,show z-a=n by omega]
  simp [D9,List.map_drop,List.map_take]
 rw [e2] at b
 have y:((all.drop a).take n).length=z-a:=by rw [List.length_take,T04];omega
 unfold sliced at f b
 rw [←y] at f b
 generalize (if bc=a then bo else bo.map fun (x:Addr)=>x.add (a*1))=a' at f b
 have HN:=A5 (fun w1 (hr:Rd w1 1 (.slice a' ((all.drop a).take n).length (bc-a)) ((all.drop a).take n).length (D9 ((all.drop a).take n)))=>X8v _ _ w1 hr (Z0t (F3 hbits a) n) (by rw [y];omega))
 rw [←hv] at HN
 generalize ((all.drop a).take n).length=L at*
 have a0:=A5 b
 have H:=A5 h
 have c0:IntKind.i64.wrap ((a:Int)+(n:Int))=(z:Int):=by rw [q];exact IntWalk.i64_in _ (by omega)
 have a9:IntKind.i64.wrap (z:Int)=(z:Int):=IntWalk.i64_in _ (by omega)
 clear h j hm ht g hz hv e2 y b d
 go_enter Tryz.func35,Tryz.ntmps35
 go_wp2
 go_quiet (fail)
 have H1:=A5 (H.out.drewN nq)
 have l:=A5 (show Rd (w.drewN nq) 1 _ _ _ from a0.out)
 generalize w.drewN nq=w1 at H1 l⊢
 have j:=H1.out.obj
 have d5:=j.cell (i:=5) rfl
 have d6:=j.cell (i:=6) rfl
 have g6:=j.frozen 6
 have c3:∀k,(w1.drewN k).cell? ⟨B,6,none⟩=some (.int .i64 (a:Int)):=fun k=>d6
 have HX:=A5 (fun k=>HN.out (w1.drewN k) l.out)
 clear c1 c5 c6 f6 H j
 go_wp2
 go_quiet ((go_at_call 57;go_must (exact (HX.out _).mono fun _ _ h=>⟨h.1,_,h.2.symm⟩)))
 go_wp2
 go_ret2
 exact ⟨rfl,(H1.out.drewN nq).setObj 6 _⟩
theorem X2u (B:Nat) (oo:Option Addr) (oc m e:Nat) (r k s b:Value) (a:Nat) (M c:Int) (li di lc dc tk:Value) (out:List Nat) (h:A4 w0 w (S2 B (.slice oo m oc) e r k s b a M li di lc dc tk::B0 5 1 (.slice oo m oc) m (D9 out)::Rs)) (hM:M≤(m:Int)):
  Calls Tryz.prog 58 #[S4 B,.int .u8 c] w fun e' w'=>e'= .returned (.bool false)∧A4 w0 w' (S2 B (.slice oo m oc) 6 r k s b a M li di lc dc tk::B0 5 1 (.slice oo m oc) m (D9 out)::Rs):=by
 unfold S4
 unfold S2 at h⊢
 have d:=h.obj
 have f:=d.cell (i:=0) rfl
 have g:=d.cell (i:=1) rfl
 have j:=d.cell (i:=7) rfl
 have l:=d.frozen 1
 have H:=A5 h
 clear h d
 go_enter Tryz.func58,Tryz.ntmps58
 go_wp2
 go_quiet (fail)
 go_wp2
 go_ret
 exact ⟨rfl,(H.out.drewN nq).setObj 1 _⟩
theorem Y7n (B:Nat) (oo:Option Addr) (oc m e:Nat) (r k s b:Value) (a:Nat) (M:Int) (c:Nat) (li di lc dc tk:Value) (out:List Nat) (h:A4 w0 w (S2 B (.slice oo m oc) e r k s b a M li di lc dc tk::B0 5 1 (.slice oo m oc) m (D9 out)::Rs)) (hM:(m:Int) < M) (hm:m≤1000000000):
  Calls Tryz.prog 58 #[S4 B,.int .u8 (c:Int)] w fun e' w'=>e'= .returned (.bool true)∧∃oo' oc',A4 w0 w' (S2 B (.slice oo' (m+1) oc') e r k s b a M li di lc dc tk::B0 5 1 (.slice oo' (m+1) oc') (m+1) (D9 (out++[c]))::Rs):=by
 obtain ⟨y,j,l,n,o⟩:=info_parts Y7j
 unfold S4
 unfold S2 at h⊢
 have d:=h.obj
 have p:=d.cell (i:=0) rfl
 have q:=d.cell (i:=7) rfl
 have t:¬M≤(m:Int):=by omega
 have H:=A5 h
 clear h d
 go_enter Tryz.func58,Tryz.ntmps58
 go_wp2
 go_quiet (fail)
 have g:=A5 (H.out.drewN nq)
 generalize w.drewN nq=w1 at g⊢
 have d:=g.out.obj
 have z:=d.cell (i:=0) rfl
 clear p q H d
 go_wp2_with (refine D6 rfl (.tmp 22) (.tmp 24) 26 rfl 5 y (.int .u8 0) 1 1 Tryz.underlying26 j l n o rfl (by decide) _ m (D9 out) rfl (g.out.swap.alloc _) _ 1 (D9 [c]) rfl (Rd.lit _ [_] _ 1 1 (by decide) rfl) (T0 [c]) (m+1) rfl (by unfold maxLen;omega) (by omega) ?_;intro oo' oc' w4 f;rw [←J8] at f;have d:=f.swap.obj;have e0:=d.cell (i:=0) rfl;have g0:=d.frozen 0;have x:=A5 (f.swap.setObj 0 (.slice oo' (m+1) oc'));clear f d)
 go_ret
 exact ⟨rfl,_,_,x.out⟩
end
section
variable {w0 w:World} {Rs:List A6}
theorem Y00 (B:Nat) (o:Value) (e:Nat) (r k s:Value) (bo:Option Addr) (bc m a:Nat) (M:Int) (li di lc dc tk:Value) (all:List Nat) (v u:Value) (l:List Int) (n:Nat)
  (h:A4 w0 w (S2 B o e r k s (.slice bo m bc) a M li di lc dc tk::rdT 1 (.slice bo m bc) m (D9 all)::Rs)) (hv:Rd w 1 v n (D3 l)) (hu:Rd w 1 u n (D5 .u32 (G1 l))) (hn:n=l.length) (hl:∀y∈l,0≤y∧y≤15) (hn2:n≤288) (hb:isBits all) (ha:a≤m) (hm2:m < 1000000000):
  Calls Tryz.prog 60 #[S4 B,v,u] w fun e' w'=>
   ((I7 l (all.drop a)).2.2=0∧e'= .returned (.tuple #[.int .i64 (((I7 l (all.drop a)).1:Nat):Int),.bool true])∧A4 w0 w' (S2 B o e r k s (.slice bo m bc) (a+(I7 l (all.drop a)).2.1) M li di lc dc tk::rdT 1 (.slice bo m bc) m (D9 all)::Rs))∨
   ((I7 l (all.drop a)).2.2≠0∧e'= .returned (.tuple #[.int .i64 0,.bool false])∧A4 w0 w' (S2 B o (I7 l (all.drop a)).2.2 r k s (.slice bo m bc) a M li di lc dc tk::rdT 1 (.slice bo m bc) m (D9 all)::Rs)):=by
 have x:m=all.length:=by have:=h.drop.rdv.1;rw [E6] at this;omega
 have HR:=A5 (fun w1 (hv:Rd w1 1 v n (D3 l)) (hu:Rd w1 1 u n (D5 .u32 (G1 l))) (hx:Rd w1 1 (.slice bo m bc) m (D9 all))=>X6h v u (.slice bo m bc) l all a n m w1 hv hu hx hn x hl hn2 hb ha hm2)
 have HS:=A5 (fun (k q f:Nat) (t:O9 l (all.drop a) k q f)=>Z8j (F3 hb a) hl t)
 have HH:=A5 (fun (h:(I7 l (all.drop a)).2.2=0)=>X44 h)
 generalize I7 l (all.drop a)=S at*
 unfold S4
 unfold S2 at h⊢
 have hb:=h.obj
 have c1:=hb.cell (i:=1) rfl
 have c5:=hb.cell (i:=5) rfl
 have c6:=hb.cell (i:=6) rfl
 have b1:(0:Int)≤(a:Int):=T00 _
 have H:=A5 h
 have HV:=A5 hv
 have HU:=A5 hu
 have HM:=A5 x
 have a0:=A5 (HR.out w.drew hv.drew hu.drew h.drop.rdv.drew)
 clear h hb hv hu HR x hl hn
 go_enter Tryz.func60,Tryz.ntmps60
 go_wp2
 go_region_held3 (fun w'=>w'.cell? ⟨B,5,none⟩=some (.slice bo m bc)∧w'.cell? ⟨B,6,none⟩=some (.int .i64 (a:Int))) (first | exact ⟨d5,d6⟩ | exact ⟨c5,c6⟩ | go_keep)
  ((go_at_call 77;go_must (refine a0.out.mono ?_);rintro e' w2 ⟨kk,q,f,rfl,b,t⟩;have p:=A5 (HS.out kk q f t.out);have h2:=H.out.drew.same b;have hb:=h2.obj;have d1:=hb.cell (i:=1) rfl;have d5:=hb.cell (i:=5) rfl;have d6:=hb.cell (i:=6) rfl;have f1:=hb.frozen 1;have f6:=hb.frozen 6;have H2:=A5 h2;clear t b h2 hb))
 all_goals
  have HQ:Hid (f=0→q≤all.length-a):=A5 (fun d=>by
   have j:=(HH.out (by rw [p.out];exact d)).2.2.1
   rw [p.out,T04] at j
   exact j)
  by_cases d:f=0
  ·have j:=HQ.out d
   rw [←HM.out] at j
   have b6:q≤1000000000:=by omega
   subst d
   obtain ⟨z,hz⟩:∃z,z=a+q:=⟨_,rfl⟩
   have a2:(a:Int)+(q:Int)=(z:Int):=by omega
   have b7:(0:Int)≤(z:Int):=T00 _
   have b8:(0:Int)≤(q:Int):=T00 _
   have b9:z≤3000000000:=by omega
   have HZ:=A5 hz
   have g:Hid (S.1=kk∧(a:Int)+(S.2.1:Int)=(z:Int)∧S.2.2=0):=A5 (by rw [p.out];exact ⟨rfl,a2,rfl⟩)
   clear hz j
   go_wp2
   go_ret2
   exact .inl ⟨g.out.2.2,by rw [g.out.1];rfl,by rw [g.out.2.1];exact H2.out.setObj 6 _⟩
  have c0:((f:Int) != 0)=true:=by simp;exact d
  have g:Hid (S.2.2=f∧S.2.2≠0):=A5 (by rw [p.out];exact ⟨rfl,d⟩)
  clear d
  go_wp2
  go_ret2
  exact .inr ⟨g.out.2,rfl,by rw [g.out.1];exact H2.out.setObj 1 _⟩
def Z4d (i:Nat):Int:=if 144≤i∧i < 256 then 9 else if 256≤i∧i < 280 then 7 else 8
def I5:List Int:=(T01 288).map Z4d
def G7:List Int:=T02 32 5
theorem W92 (i:Nat):(T01 (i+1)).map Z4d=(T01 i).map Z4d++[Z4d i]:=by rw [List.range_succ,List.map_append];rfl
theorem Y3g:(Tryz.prog.info? 3).map (fun i=>(i.zero,i.size,i.bytes))=some (some (.int .i64 0),1,8):=by kernel_rfl
theorem A4.toRd2 {e e2:TypeId} {size n n2:Nat} {v v2:Value} {xs xs2:List Value} (h:A4 w0 w (B0 e size v n xs::B0 e2 size v2 n2 xs2::Rs)):A4 w0 w (Y8l size v n xs v2 n2 xs2::Rs):=by
 obtain ⟨F,⟨g,i,a,b,_,d⟩,f⟩:=h.pair
 exact ⟨F,⟨⟨a.1.rd,fun k hk=>(d k).2 (.inl ((a.2 k).2 hk))⟩,⟨b.1.rd,fun k hk=>(d k).2 (.inr ((b.2 k).2 hk))⟩⟩,f⟩
theorem W5v (B:Nat) (o:Value) (e:Nat) (r k s b:Value) (a:Nat) (M:Int) (li di lc dc tk:Value) (h:A4 w0 w (S2 B o e r k s b a M li di lc dc tk::Rs)):
  Calls Tryz.prog 37 #[S4 B] w fun e' w'=>e'= .returned (.tuple #[])∧∃li' di',A4 w0 w' (S2 B o e r k s b a M li' di' lc dc tk::Y8l 1 li' 288 (D3 I5) di' 32 (D3 G7)::Rs):=by
 obtain ⟨i0,p,q,t,x⟩:=info_parts Y3g
 unfold S4
 unfold S2 at h⊢
 have d:=h.obj
 have c8:=d.cell (i:=8) rfl
 have c9:=d.cell (i:=9) rfl
 have f8:=d.frozen 8
 have f9:=d.frozen 9
 have h1:=((h.setObj 8 (.slice none 0 0)).setObj 9 (.slice none 0 0))
 have H1:=A5 ((h1.nil 3 1).swap)
 clear h d h1
 go_enter Tryz.func37,Tryz.ntmps37
 go_wp2
 go_loopg [2] (290) (fun g t2 wr=>∃ (i:Nat) (lo:Option Addr) (m:Nat),i≤288∧288-i < g∧t2= .int .i64 (i:Int)∧Hid (A4 w0 wr (E8 B [o,.int .i64 (e:Int),r,k,s,b,.int .i64 (a:Int),.int .i64 M,.slice lo i m,.slice none 0 0,lc,dc,tk] 56::B0 3 1 (.slice lo i m) i (D3 ((T01 i).map Z4d))::Rs)))
 case atStart=>exact ⟨0,none,0,by omega,by omega,rfl,H1⟩
 case round=>
  obtain ⟨i,lo,m,hi,hg,rfl,HH⟩:=hrel
  obtain ⟨gx,rfl⟩:∃g,g=gk:=⟨gk,rfl⟩
  have d1:(0:Int)≤(i:Int):=T00 _
  have d:=HH.out.obj
  have d8:=d.cell (i:=8) rfl
  have d9:=d.cell (i:=9) rfl
  clear d
  by_cases c5:i < 288
  rotate_left
  ·have a9:¬(i:Int) < 288:=by omega
   obtain rfl:i=288:=by omega
   have H2:=A5 ((HH.out.nil 3 1).swap)
   clear HH
   go_wp2
   go_loopg [4] (34) (fun g t4 wq=>∃ (j:Nat) (dd:Option Addr) (y:Nat),j≤32∧32-j < g∧t4= .int .i64 (j:Int)∧Hid (A4 w0 wq (E8 B [o,.int .i64 (e:Int),r,k,s,b,.int .i64 (a:Int),.int .i64 M,.slice lo 288 m,.slice dd j y,lc,dc,tk] 56::B0 3 1 (.slice dd j y) j (D3 (T02 j 5))::B0 3 1 (.slice lo 288 m) 288 (D3 I5)::Rs)))
   case atStart=>exact ⟨0,none,0,by omega,by omega,rfl,H2⟩
   case round=>
    obtain ⟨j,dd,y,hj,e3,rfl,HQ⟩:=hrel
    have e2:(0:Int)≤(j:Int):=T00 _
    have d:=HQ.out.obj
    have d9:=d.cell (i:=9) rfl
    clear d
    by_cases d4:j < 32
    ·have c4:(j:Int) < 32:=by omega
     have z:Hid (D3 (T02 (j+1) 5)=D3 (T02 j 5)++D3 [5]):=A5 (by rw [List.replicate_succ',T7])
     go_wp2_with (refine D6 rfl (.tmp 45) (.tmp 46) 52 rfl 3 i0 (.int .i64 0) 1 8 Tryz.underlying52 p q t x rfl (by decide) _ j _ rfl (HQ.out.swap.alloc _) _ 1 (D3 [5]) rfl (Rd.lit _ [_] _ 1 1 (by decide) rfl) (S6 _) (j+1) rfl (by unfold maxLen;omega) (by omega) ?_;intro c6 a2 w4 l;rw [←z.out] at l;have d:=l.swap.obj;have e9:=d.cell (i:=9) rfl;have g9:=d.frozen 9;have H4:=A5 (l.swap.setObj 9 (.slice c6 (j+1) a2));clear l d)
     go_roundg (gk-1)
     case measure=>omega
     case rel=>exact ⟨j+1,_,_,by omega,by omega,by go_num,H4⟩
    have c4:¬(j:Int) < 32:=by omega
    obtain rfl:j=32:=by omega
    go_wp2
    go_end0
    exact ⟨rfl,_,_,HQ.out.swap.third.toRd2.swap⟩
  have a9:(i:Int) < 288:=by omega
  have a1:(i < 144∧Z4d i=8)∨(144≤i∧i < 256∧Z4d i=9)∨(256≤i∧i < 280∧Z4d i=7)∨(280≤i∧Z4d i=8):=by
   unfold Z4d
   rcases (by omega:i < 144∨(144≤i∧i < 256)∨(256≤i∧i < 280)∨280≤i) with h | h | h | h
   ·exact .inl ⟨h,by rw [if_neg (by omega),if_neg (by omega)]⟩
   ·exact .inr (.inl ⟨h.1,h.2,by rw [if_pos h]⟩)
   ·exact .inr (.inr (.inl ⟨h.1,h.2,by rw [if_neg (by omega),if_pos h]⟩))
   exact .inr (.inr (.inr ⟨h,by rw [if_neg (by omega),if_neg (by omega)]⟩))
  have z:Hid (D3 ((T01 (i+1)).map Z4d)=D3 ((T01 i).map Z4d)++D3 [Z4d i]):=A5 (by rw [W92,T7])
  rcases a1 with ⟨h1,hf⟩ | ⟨h1,h2,hf⟩ | ⟨h1,h2,hf⟩ | ⟨h1,hf⟩
  ·have b1:¬144≤(i:Int):=by omega
   have b2:¬256≤(i:Int):=by omega
   have b3:¬144≤i:=by omega
   have b4:¬256≤i:=by omega
   rw [hf] at z
   clear hf
   go_wp2_with (refine D6 rfl (.tmp 31) (.tmp 33) 52 rfl 3 i0 (.int .i64 0) 1 8 Tryz.underlying52 p q t x rfl (by decide) _ i _ rfl (HH.out.swap.alloc _) _ 1 (D3 [8]) rfl (Rd.lit _ [_] _ 1 1 (by decide) rfl) (S6 _) (i+1) rfl (by unfold maxLen;omega) (by omega) ?_;intro n f w4 l;rw [←z.out] at l;have d:=l.swap.obj;have e8:=d.cell (i:=8) rfl;have g8:=d.frozen 8;have H4:=A5 (l.swap.setObj 8 (.slice n (i+1) f));clear l d)
   go_roundg (gx-1)
   case measure=>omega
   case rel=>exact ⟨i+1,_,_,by omega,by omega,by go_num,H4⟩
  ·have b1:decide (144≤(i:Int))=true:=decide_eq_true (by omega)
   have b2:decide ((i:Int) < 256)=true:=decide_eq_true (by omega)
   have b3:decide (256≤(i:Int))=false:=decide_eq_false (by omega)
   have b4:decide (144≤i)=true:=decide_eq_true (by omega)
   have b5:decide (i < 256)=true:=decide_eq_true (by omega)
   have b6:decide (256≤i)=false:=decide_eq_false (by omega)
   rw [hf] at z
   clear hf
   go_wp2_with (refine D6 rfl (.tmp 31) (.tmp 33) 52 rfl 3 i0 (.int .i64 0) 1 8 Tryz.underlying52 p q t x rfl (by decide) _ i _ rfl (HH.out.swap.alloc _) _ 1 (D3 [9]) rfl (Rd.lit _ [_] _ 1 1 (by decide) rfl) (S6 _) (i+1) rfl (by unfold maxLen;omega) (by omega) ?_;intro n f w4 l;rw [←z.out] at l;have d:=l.swap.obj;have e8:=d.cell (i:=8) rfl;have g8:=d.frozen 8;have H4:=A5 (l.swap.setObj 8 (.slice n (i+1) f));clear l d)
   go_roundg (gx-1)
   case measure=>omega
   case rel=>exact ⟨i+1,_,_,by omega,by omega,by go_num,H4⟩
  ·have b1:decide (144≤(i:Int))=true:=decide_eq_true (by omega)
   have b2:decide ((i:Int) < 256)=false:=decide_eq_false (by omega)
   have b3:decide (256≤(i:Int))=true:=decide_eq_true (by omega)
   have b4:decide (144≤i)=true:=decide_eq_true (by omega)
   have b5:decide (i < 256)=false:=decide_eq_false (by omega)
   have b6:decide (256≤i)=true:=decide_eq_true (by omega)
   have b7:decide ((i:Int) < 280)=true:=decide_eq_true (by omega)
   have b8:decide (i < 280)=true:=decide_eq_true (by omega)
   rw [hf] at z
   clear hf
   go_wp2_with (refine D6 rfl (.tmp 31) (.tmp 33) 52 rfl 3 i0 (.int .i64 0) 1 8 Tryz.underlying52 p q t x rfl (by decide) _ i _ rfl (HH.out.swap.alloc _) _ 1 (D3 [7]) rfl (Rd.lit _ [_] _ 1 1 (by decide) rfl) (S6 _) (i+1) rfl (by unfold maxLen;omega) (by omega) ?_;intro n f w4 l;rw [←z.out] at l;have d:=l.swap.obj;have e8:=d.cell (i:=8) rfl;have g8:=d.frozen 8;have H4:=A5 (l.swap.setObj 8 (.slice n (i+1) f));clear l d)
   go_roundg (gx-1)
   case measure=>omega
   case rel=>exact ⟨i+1,_,_,by omega,by omega,by go_num,H4⟩
  have b1:decide (144≤(i:Int))=true:=decide_eq_true (by omega)
  have b2:decide ((i:Int) < 256)=false:=decide_eq_false (by omega)
  have b3:decide (256≤(i:Int))=true:=decide_eq_true (by omega)
  have b4:decide (144≤i)=true:=decide_eq_true (by omega)
  have b5:decide (i < 256)=false:=decide_eq_false (by omega)
  have b6:decide (256≤i)=true:=decide_eq_true (by omega)
  have b7:decide ((i:Int) < 280)=false:=decide_eq_false (by omega)
  have b8:decide (i < 280)=false:=decide_eq_false (by omega)
  rw [hf] at z
  clear hf
  go_wp2_with (refine D6 rfl (.tmp 31) (.tmp 33) 52 rfl 3 i0 (.int .i64 0) 1 8 Tryz.underlying52 p q t x rfl (by decide) _ i _ rfl (HH.out.swap.alloc _) _ 1 (D3 [8]) rfl (Rd.lit _ [_] _ 1 1 (by decide) rfl) (S6 _) (i+1) rfl (by unfold maxLen;omega) (by omega) ?_;intro n f w4 l;rw [←z.out] at l;have d:=l.swap.obj;have e8:=d.cell (i:=8) rfl;have g8:=d.frozen 8;have H4:=A5 (l.swap.setObj 8 (.slice n (i+1) f));clear l d)
  go_roundg (gx-1)
  case measure=>omega
  case rel=>exact ⟨i+1,_,_,by omega,by omega,by go_num,H4⟩
end
section
variable {w0 w:World} {Rs:List A6}
theorem L8 {all:List Nat} (hb:isBits all) (a n:Nat):E4 ((all.drop a).take n) < 2^n:=by
 refine Nat.lt_of_lt_of_le (Z88 _ (Z0t (F3 hb a) n)) (T03 (by decide) (List.length_take_le _ _))
theorem Y1w {all:List Nat} {a n:Nat} (h:a+n≤all.length):I8 all a n=some (E4 ((all.drop a).take n)):=if_pos h
def V5i (w0 w':World) (Rs:List A6) (S:Nat×Nat×List Nat) (B:Nat) (r kk s:Value) (bo:Option Addr) (bc m M:Nat) (li di lc dc tk:Value) (all:List Nat):Prop:=
 ∃ (oo':Option Addr) (oc' k' a':Nat),k'=S.2.2.length∧(S.1=0→a'=S.2.1)∧
  A4 w0 w' (S2 B (.slice oo' k' oc') S.1 r kk s (.slice bo m bc) a' (M:Int) li di lc dc tk::rdT 1 (.slice bo m bc) m (D9 all)::B0 5 1 (.slice oo' k' oc') k' (D9 S.2.2)::Rs)
theorem W0s (B:Nat) (oo:Option Addr) (oc k:Nat) (r kk s:Value) (bo:Option Addr) (bc m a M:Nat) (li di lc dc tk:Value) (all out:List Nat)
  (h:A4 w0 w (S2 B (.slice oo k oc) 0 r kk s (.slice bo m bc) a (M:Int) li di lc dc tk::rdT 1 (.slice bo m bc) m (D9 all)::B0 5 1 (.slice oo k oc) k (D9 out)::Rs)) (hb:isBits all) (ha:a≤m) (hm2:m < 1000000000) (hk:k+70000≤1000000000):
  Calls Tryz.prog 36 #[S4 B] w fun e' w'=>e'= .returned (.bool (decide ((N9 all M a out).1=0)))∧V5i w0 w' Rs (N9 all M a out) B r kk s bo bc m M li di lc dc tk all:=by
 have hm:m=all.length:=by have:=h.drop.rdv.1;rw [E6] at this;omega
 have c0:k=out.length:=by have:=h.drop.drop.own.rd.1;rw [E6] at this;omega
 have n:=A5 (And.intro hm c0)
 obtain ⟨A,hA⟩:∃A,A=V9 a:=⟨_,rfl⟩
 have g6:a≤A∧A≤a+7∧A%8=0:=by rw [hA];unfold V9;omega
 have HA:=A5 hA
 have H:=A5 h
 have o:=A5 hb
 have HR:Hid (N9 all M a out=N9 all M a out):=rfl
 generalize hS:N9 all M a out=S at*
 have HS:=A5 hS
 unfold S4
 clear h hb hm c0 hA hS HR
 go_enter Tryz.func36,Tryz.ntmps36
 go_wp2
 go_loopg [] (10) (fun g wr=>∃x:Nat,a≤x∧x≤A∧A-x < g∧Hid (A4 w0 wr (S2 B (.slice oo k oc) 0 r kk s (.slice bo m bc) x (M:Int) li di lc dc tk::rdT 1 (.slice bo m bc) m (D9 all)::B0 5 1 (.slice oo k oc) k (D9 out)::Rs)))
 case atStart=>exact ⟨a,by omega,by omega,by omega,H⟩
 case round=>
  obtain ⟨x,j0,j1,hg,HH⟩:=hrel
  have g8:(0:Int)≤(x:Int):=T00 _
  obtain ⟨y,hy⟩:∃y,y=x%8:=⟨_,rfl⟩
  have g9:(x:Int)%8=(y:Int):=by omega
  have h0:(x:Int).tmod 8=(y:Int):=by rw [hy];rfl
  have hb:=HH.out.obj
  have c6:=hb.cell (i:=6) rfl
  have f6:=hb.frozen 6
  by_cases i5:y=0
  rotate_left
  ·have d7:(0:Int) < (y:Int):=by omega
   have c3:x < A:=by omega
   have H2:=A5 (HH.out.setObj 6 (.int .i64 ((x+1:Nat):Int)))
   clear hb hy
   go_wp2
   go_roundg (gk-1)
   case measure=>omega
   case rel=>exact ⟨x+1,by omega,by omega,by omega,H2⟩
  have c3:x=A:=by omega
  subst c3
  have d7:¬(0:Int) < (y:Int):=by omega
  have c1:=hb.cell (i:=1) rfl
  have c5:=hb.cell (i:=5) rfl
  have f1:=hb.frozen 1
  obtain ⟨z,hz⟩:∃z,z=x+32:=⟨_,rfl⟩
  have d8:(x:Int)+32=(z:Int):=by omega
  have h5:(0:Int)≤(z:Int):=T00 _
  have c4:IntKind.i64.wrap ((x:Int)+32)=(z:Int):=by rw [d8];exact IntWalk.i64_in _ (by omega)
  have HZ:=A5 hz
  clear hb hz hy
  by_cases d:m < z
  ·have b1:decide (m < z)=true:=decide_eq_true d
   have b2:decide ((m:Int) < (z:Int))=true:=decide_eq_true (by omega)
   have a3:Hid (S=(5,x,out)):=A5 (by rw [←HS.out];unfold N9;rw [←HA.out,if_pos (by rw [←n.out.1,←HZ.out];exact d)])
   clear d c4
   go_wp2
   go_quiet (fail)
   go_wp2
   go_ret
   refine ⟨by rw [a3.out];rfl,⟨oo,oc,k,x, ?_, ?_, ?_⟩⟩
   ·rw [a3.out];exact n.out.2
   ·rw [a3.out];intro h;cases h
   rw [a3.out];exact (HH.out.drewN _).setObj 1 _
  have b1:decide (m < z)=false:=decide_eq_false d
  have b2:decide ((m:Int) < (z:Int))=false:=decide_eq_false (by omega)
  obtain ⟨l,a6⟩:∃l,l=E4 ((all.drop x).take 16):=⟨_,rfl⟩
  obtain ⟨n2,a8⟩:∃n2,n2=E4 ((all.drop (x+16)).take 16):=⟨_,rfl⟩
  have f3:l < 65536:=by rw [a6];exact L8 o.out x 16
  have f4:n2 < 65536:=by rw [a8];exact L8 o.out _ 16
  have c7:I8 all x 16=some l:=by rw [a6];exact Y1w (by rw [←n.out.1];omega)
  have c8:I8 all (x+16) 16=some n2:=by rw [a8];exact Y1w (by rw [←n.out.1];omega)
  have a4:=A5 (fun w1 (f:A4 w0 w1 (S2 B (.slice oo k oc) 0 r kk s (.slice bo m bc) x (M:Int) li di lc dc tk::rdT 1 (.slice bo m bc) m (D9 all)::B0 5 1 (.slice oo k oc) k (D9 out)::Rs))=>X9 B _ 0 r kk s bo bc m x 16 l M li di lc dc tk all f c7 o.out (by omega) (by decide))
  have a0:=A5 (fun w1 (f:A4 w0 w1 (S2 B (.slice oo k oc) 0 r kk s (.slice bo m bc) (x+16) (M:Int) li di lc dc tk::rdT 1 (.slice bo m bc) m (D9 all)::B0 5 1 (.slice oo k oc) k (D9 out)::Rs))=>X9 B _ 0 r kk s bo bc m (x+16) 16 n2 M li di lc dc tk all f c8 o.out (by omega) (by decide))
  have c9:S=if l+n2≠65535 then (2,z,out) else T5 all M l z out:=by
   rw [←HS.out];unfold N9
   rw [←HA.out,if_neg (by rw [←n.out.1,←HZ.out];exact d),←a6,←a8,←HZ.out]
  have a5:=A5 c9
  have a9:x+16+16=z:=by have:=HZ.out;omega
  have d9:z≤m:=by omega
  have e0:((16:Nat):Int)=16:=rfl
  rw [e0] at a4 a0
  unfold S4 at a4 a0
  rw [a9] at a0
  clear a6 a8 c7 c8 c9 d a9 c4
  go_wp2
  go_quiet (fail)
  have H1:=A5 (a4.out _ (HH.out.drewN nq))
  clear c1 c5 c6 f1 f6 a4
  go_wp2_with fail
  refine H1.out.mono ?_
  rintro e' w2 ⟨rfl,f⟩
  have H2:=A5 (a0.out _ f)
  clear f H1 a0
  go_wp2_with fail
  refine H2.out.mono ?_
  rintro e' w3 ⟨rfl,f⟩
  have H3:=A5 f
  clear f H2
  obtain ⟨sm,d3⟩:∃sm,sm=l+n2:=⟨_,rfl⟩
  have f7:(l:Int)+(n2:Int)=(sm:Int):=by omega
  have f8:(0:Int)≤(l:Int):=T00 _
  have f9:(0:Int)≤(n2:Int):=T00 _
  by_cases d2:sm=65535
  rotate_left
  ·have b3:((sm:Int) != 65535)=true:=by simp;omega
   have b:Hid (S=(2,z,out)):=A5 (by rw [a5.out,if_pos (by omega)])
   have hb:=H3.out.obj
   have d1:=hb.cell (i:=1) rfl
   have g1:=hb.frozen 1
   clear hb d3 d2 a5
   go_wp2
   go_ret
   refine ⟨by rw [b.out];rfl,⟨oo,oc,k,z, ?_, ?_, ?_⟩⟩
   ·rw [b.out];exact n.out.2
   ·rw [b.out];intro h;cases h
   rw [b.out];exact H3.out.setObj 1 _
  have b3:((sm:Int) != 65535)=false:=by simp;omega
  have HC:Hid (S=T5 all M l z out):=A5 (by rw [a5.out,if_neg (by omega)])
  clear d3 d2 a5
  go_wp2
  go_loopg [7] (l+2) (fun g t7 wq=>∃ (j p t:Nat) (O:List Nat) (o1:Option Addr) (c1:Nat),j≤l∧l-j < g∧t7= .int .i64 (j:Int)∧p≤m∧t≤k+j∧Hid (t=O.length∧S=T5 all M (l-j) p O)∧
   Hid (A4 w0 wq (S2 B (.slice o1 t c1) 0 r kk s (.slice bo m bc) p (M:Int) li di lc dc tk::rdT 1 (.slice bo m bc) m (D9 all)::B0 5 1 (.slice o1 t c1) t (D9 O)::Rs)))
  case atStart=>exact ⟨0,z,k,out,oo,oc,by omega,by omega,rfl,d9,by omega,A5 ⟨n.out.2,HC.out⟩,H3⟩
  case round=>
   obtain ⟨j,p,t,O,o1,c1,hj,j2,rfl,hp,j3,HO,HQ⟩:=hrel
   have i1:(0:Int)≤(j:Int):=T00 _
   by_cases i6:j < l
   rotate_left
   ·have e2:¬(j:Int) < (l:Int):=by omega
    have b:Hid (S=(0,p,O)):=A5 (by rw [HO.out.2,show l-j=0 by omega];rfl)
    go_wp2
    go_ret
    refine ⟨by rw [b.out];rfl,⟨o1,c1,t,p, ?_, ?_, ?_⟩⟩
    ·rw [b.out];exact HO.out.1
    ·rw [b.out];intro _;rfl
    rw [b.out];exact HQ.out
   have e2:(j:Int) < (l:Int):=by omega
   have q:S=T5 all M (l- (j+1)+1) p O:=by rw [show l- (j+1)+1=l-j by omega];exact HO.out.2
   have h8:((8:Nat):Int)=8:=rfl
   cases ht:I8 all p 8 with
   | none=>
    have hT:=Z51 B _ 0 r kk s bo bc m p 8 M li di lc dc tk all HQ.out ht (by omega) (by decide)
    rw [h8] at hT
    unfold S4 at hT
    have HT:=A5 hT
    have b:Hid (S=(5,p,O)):=A5 (by rw [q,T5,ht])
    clear q ht hT
    go_wp2_with fail
    refine HT.out.mono ?_
    rintro e' w4 ⟨rfl,f⟩
    have H4:=A5 f
    clear f HT HQ
    go_wp2
    go_ret
    refine ⟨by rw [b.out];rfl,⟨o1,c1,t,p, ?_, ?_, ?_⟩⟩
    ·rw [b.out];exact HO.out.1
    ·rw [b.out];intro h;cases h
    rw [b.out];exact H4.out
   | some c=>
    obtain ⟨b7,hc⟩:=M2 ht
    have e3:c < 256:=by rw [hc];exact L8 o.out p 8
    have hT:=X9 B _ 0 r kk s bo bc m p 8 c M li di lc dc tk all HQ.out ht o.out (by omega) (by decide)
    rw [h8] at hT
    unfold S4 at hT
    have HT:=A5 hT
    have e4:p+8≤m:=by rw [n.out.1];exact b7
    have i3:(0:Int)≤(c:Int):=T00 _
    have i4:(c:Int)%256=(c:Int):=by omega
    by_cases hM:M≤t
    ·have b:Hid (S=(6,p+8,O)):=A5 (by rw [q,T5,ht];simp only;rw [if_pos (by rw [←HO.out.1];exact hM)])
     clear q ht hT hc b7
     go_wp2_with fail
     refine HT.out.mono ?_
     rintro e' w4 ⟨rfl,f⟩
     have hE:=X2u B o1 c1 t 0 r kk s (.slice bo m bc) (p+8) M (c:Int) li di lc dc tk O f.third.swap (by omega)
     unfold S4 at hE
     have HE:=A5 hE
     clear f hE HT HQ
     go_wp2_with fail
     refine HE.out.mono ?_
     rintro e' w5 ⟨rfl,f⟩
     have H5:=A5 f
     clear f HE
     go_wp2
     go_ret
     refine ⟨by rw [b.out];rfl,⟨o1,c1,t,p+8, ?_, ?_, ?_⟩⟩
     ·rw [b.out];exact HO.out.1
     ·rw [b.out];intro h;cases h
     rw [b.out];exact H5.out.third.swap
    have b:Hid (S=T5 all M (l- (j+1)) (p+8) (O++[c])):=A5 (by rw [q,T5,ht];simp only;rw [if_neg (by rw [←HO.out.1];exact hM)])
    clear q ht hT hc b7
    go_wp2_with fail
    refine HT.out.mono ?_
    rintro e' w4 ⟨rfl,f⟩
    have hE:=Y7n B o1 c1 t 0 r kk s (.slice bo m bc) (p+8) M c li di lc dc tk O f.third.swap (by omega) (by omega)
    unfold S4 at hE
    have HE:=A5 hE
    clear f hE HT HQ
    go_wp2_with fail
    refine HE.out.mono ?_
    rintro e' w5 ⟨rfl,o2,c2,f⟩
    have H5:=A5 f
    clear f HE
    go_wp2
    go_roundg (gk-1)
    case measure=>omega
    case rel=>exact ⟨j+1,p+8,t+1,O++[c],o2,c2,by omega,by omega,by go_num,e4,by omega,A5 ⟨by rw [List.length_append,←HO.out.1];rfl,b.out⟩,A5 H5.out.third.swap⟩
end
section
variable {lit dist:List Int} {bs:List Nat} {M a k n e:Nat} {out:List Nat} {tk:List E3}
theorem X76 (h:I7 lit (bs.drop a)=(k,n,e)) (he:e≠0):J4 lit dist bs M a out tk=(true,e,a,out,tk):=by
 unfold J4;rw [h];exact if_pos he
theorem Y77 (h:I7 lit (bs.drop a)=(256,n,0)):J4 lit dist bs M a out tk=(true,0,a+n,out,tk):=by
 unfold J4;rw [h];rfl
theorem Y44 (h:I7 lit (bs.drop a)=(k,n,0)) (hk:k < 256) (hM:M≤out.length):J4 lit dist bs M a out tk=(true,6,a+n,out,tk++[((k:Int),0,0)]):=by
 unfold J4;rw [h]
 dsimp only
 rw [if_neg (fun h=>h rfl),if_neg (by omega),if_pos hk,if_pos hM]
theorem Y6m (h:I7 lit (bs.drop a)=(k,n,0)) (hk:k < 256) (hM:¬M≤out.length):J4 lit dist bs M a out tk=(false,0,a+n,out++[k],tk++[((k:Int),0,0)]):=by
 unfold J4;rw [h]
 dsimp only
 rw [if_neg (fun h=>h rfl),if_neg (by omega),if_pos hk,if_neg hM]
theorem Y4a (h:I7 lit (bs.drop a)=(k,n,0)) (hk:285 < k):J4 lit dist bs M a out tk=(true,3,a+n,out,tk):=by
 unfold J4;rw [h]
 dsimp only
 rw [if_neg (fun h=>h rfl),if_neg (by omega),if_neg (by omega),if_pos hk]
theorem Y8d (h:I7 lit (bs.drop a)=(k,n,0)) (hk:256 < k) (hk2:k≤285):J4 lit dist bs M a out tk=J4.matchF dist bs M (a+n) (k-257) out tk:=by
 unfold J4;rw [h]
 dsimp only
 rw [if_neg (fun h=>h rfl),if_neg (by omega),if_neg (by omega),if_neg (by omega)]
variable {a1 c more k2 n2 e2:Nat}
theorem Y9o (ht:I8 bs a1 (lX c)=none):J4.matchF dist bs M a1 c out tk=(true,5,a1,out,tk):=by
 unfold J4.matchF;rw [ht]
theorem X0q (ht:I8 bs a1 (lX c)=some more) (h2:I7 dist (bs.drop (a1+lX c))=(k2,n2,e2)) (he:e2≠0):J4.matchF dist bs M a1 c out tk=(true,e2,a1+lX c,out,tk):=by
 unfold J4.matchF;rw [ht,h2];exact if_pos he
theorem Y2s (ht:I8 bs a1 (lX c)=some more) (h2:I7 dist (bs.drop (a1+lX c))=(k2,n2,0)):J4.matchF dist bs M a1 c out tk=J4.farF bs M (a1+lX c+n2) k2 (lB c+more) out tk:=by
 unfold J4.matchF;rw [ht,h2];exact if_neg (fun h=>h rfl)
variable {a3 q L far:Nat}
theorem W17 (h:29 < q):J4.farF bs M a3 q L out tk=(true,3,a3,out,tk):=by
 unfold J4.farF;exact if_pos h
theorem W2s (h:¬29 < q) (ht:I8 bs a3 (dX q)=none):J4.farF bs M a3 q L out tk=(true,5,a3,out,tk):=by
 unfold J4.farF;rw [if_neg h,ht]
theorem W2b (h:¬29 < q) (ht:I8 bs a3 (dX q)=some far) (hd:out.length < dB q+far):J4.farF bs M a3 q L out tk=(true,3,a3+dX q,out,tk):=by
 unfold J4.farF;rw [if_neg h,ht];exact if_pos hd
theorem W2q (h:¬29 < q) (ht:I8 bs a3 (dX q)=some far) (hd:¬out.length < dB q+far) (hM:M < out.length+L):J4.farF bs M a3 q L out tk=(true,6,a3+dX q,ext out (dB q+far) (M-out.length),tk++[(0,(L:Int),((dB q+far:Nat):Int))]):=by
 unfold J4.farF;rw [if_neg h,ht]
 dsimp only
 rw [if_neg hd,if_pos hM]
theorem W0w (h:¬29 < q) (ht:I8 bs a3 (dX q)=some far) (hd:¬out.length < dB q+far) (hM:¬M < out.length+L):J4.farF bs M a3 q L out tk=(false,0,a3+dX q,ext out (dB q+far) L,tk++[(0,(L:Int),((dB q+far:Nat):Int))]):=by
 unfold J4.farF;rw [if_neg h,ht]
 dsimp only
 rw [if_neg hd,if_neg hM]
end
theorem V3w (k:Nat) (hk:k < 28):(k < 8∧lX k=0)∨(8≤k∧lX k=(k-4) / 4):=by
 unfold lX sx
 rw [if_neg (by omega)]
 by_cases h:k < 4
 ·rw [if_pos h];omega
 rw [if_neg h];omega
theorem V4h (k:Nat) (hk:k < 30):(k < 4∧dX k=0)∨(4≤k∧dX k=(k-2) / 2):=by
 unfold dX sx
 by_cases h:k < 2
 ·rw [if_pos h];omega
 rw [if_neg h];omega
theorem V5u:∀k,k < 28→lB k+2^lX k≤1000:=by decide+kernel
theorem V6a:∀k,k < 30→dB k+2^dX k≤100000:=by decide+kernel
theorem Y3w (code:Int) (w:World):
  Calls Tryz.prog 61 #[.int .i64 code] w fun e w'=>e= .returned (Z1c code)∧w=w':=by
 go_enter Tryz.func61,Tryz.ntmps61
 go_wp2
 go_loopg [5,6] (30) (fun g t5 t6 wr=>∃k b c:Nat,k≤28∧28-k < g∧t6= .int .i64 (c:Int)∧c=257+k∧t5= .int .i64 (b:Int)∧Hid (k < 28→b=lB k)∧b≤1000∧(code < 257∨(c:Int)≤code)∧wr=w)
 case atStart=>exact ⟨0,3,257,by omega,by omega,rfl,rfl,rfl,A5 (fun _=>by decide),by omega,by omega,rfl⟩
 case round=>
  obtain ⟨k,b,c,hk,hg,rfl,s,rfl,HB,hb,i,rfl⟩:=hrel
  have a6:(0:Int)≤(c:Int):=T00 _
  by_cases j:k < 28
  rotate_left
  ·have a3:¬(c:Int)≤284:=by omega
   by_cases a:code=285
   ·subst a
    have n:Hid (Z1c 285= .tuple #[.int .i64 258,.int .i64 0,.bool true]):=A5 (by
     have:=Z6m 28 (by decide)
     rw [show lB 28=258 by decide,show lX 28=0 by decide] at this
     exact this)
    go_wp2
    go_ret3
    exact ⟨by rw [n.out];rfl,rfl⟩
   have a1:(code==285)=false:=by simp;exact a
   have n:Hid (Z1c code= .tuple #[.int .i64 0,.int .i64 0,.bool false]):=A5 (if_pos (by omega))
   clear i
   go_wp2
   go_ret3
   exact ⟨by rw [n.out];rfl,rfl⟩
  have a3:(c:Int)≤284:=by omega
  have d:=HB.out j
  have a7:=X0u k (by omega)
  obtain ⟨x,q⟩:∃x,x=lX k:=⟨_,rfl⟩
  have HX:=A5 q
  have t:x≤5:=by omega
  have m:Hid (k+1 < 28→b+2^x=lB (k+1)):=A5 (fun h=>by rw [V3s k (by omega),←d,q])
  have hy:2^x≤2^5:=T03 (by decide) t
  obtain ⟨y,f⟩:∃y,y=2^x:=⟨_,rfl⟩
  have b0:(2:Int)^x=(y:Int):=by rw [f];push_cast;rfl
  rw [←f] at hy m
  have a5:y≤32:=by omega
  have b1:wrap64 (y:Int)=(y:Int):=by unfold wrap64;omega
  have b2:(0:Int)≤(x:Int):=T00 _
  have b3:(0:Int)≤(y:Int):=T00 _
  have b4:(0:Int)≤(b:Int):=T00 _
  have z:Hid (b+y≤1000):=A5 (by rw [f,d,q];exact V5u k j)
  rcases V3w k j with ⟨hk8,hx1⟩ | ⟨hk8,hx1⟩
  ·have a0:¬265≤(c:Int):=by omega
   have l:x=0:=by omega
   have a4:y=1:=by rw [f,l]
   subst l
   subst a4
   by_cases a:(c:Int)=code
   ·have n:Hid (Z1c code= .tuple #[.int .i64 (b:Int),.int .i64 0,.bool true]):=A5 (by rw [←a,s,Z6m k (by omega),d,hx1];rfl)
    clear q d f HB s
    subst a
    go_wp2
    go_ret3
    exact ⟨by rw [n.out];rfl,rfl⟩
   have a1:((c:Int)==code)=false:=by simp;exact a
   have o:code < 257∨((c+1:Nat):Int)≤code:=by omega
   have p:c+1=257+(k+1):=by omega
   clear q d f HB s i
   go_wp2
   go_roundg (gk-1)
   case measure=>omega
   case rel=>exact ⟨k+1,b+1,c+1,by omega,by omega,by go_num,p,by go_num,m,z.out,o,rfl⟩
  have a0:265≤(c:Int):=by omega
  obtain ⟨r,hr⟩:∃r:Nat,r=k-4:=⟨_,rfl⟩
  have b5:(c:Int)-261=(r:Int):=by omega
  have hq:(r:Int) / 4=(x:Int):=by omega
  have b6:(0:Int)≤(r:Int):=T00 _
  clear hr
  by_cases a:(c:Int)=code
  ·have n:Hid (Z1c code= .tuple #[.int .i64 (b:Int),.int .i64 (x:Int),.bool true]):=A5 (by rw [←a,s,Z6m k (by omega),d,HX.out])
   clear q d f HB s
   subst a
   go_wp2
   go_ret3
   exact ⟨by rw [n.out];rfl,rfl⟩
  have a1:((c:Int)==code)=false:=by simp;exact a
  have o:code < 257∨((c+1:Nat):Int)≤code:=by omega
  have p:c+1=257+(k+1):=by omega
  clear q d f HB s i
  go_wp2
  go_roundg (gk-1)
  case measure=>omega
  case rel=>exact ⟨k+1,b+y,c+1,by omega,by omega,by go_num,p,by go_num,m,z.out,o,rfl⟩
theorem Y17 (code:Int) (w:World):
  Calls Tryz.prog 62 #[.int .i64 code] w fun e w'=>e= .returned (Z0j code)∧w=w':=by
 go_enter Tryz.func62,Tryz.ntmps62
 go_wp2
 go_loopg [5,6] (32) (fun g t5 t6 wr=>∃k b c:Nat,k≤30∧30-k < g∧t6= .int .i64 (c:Int)∧c=k∧t5= .int .i64 (b:Int)∧Hid (k < 30→b=dB k)∧b≤100000∧(code < 0∨(c:Int)≤code)∧wr=w)
 case atStart=>exact ⟨0,1,0,by omega,by omega,rfl,rfl,rfl,A5 (fun _=>by decide),by omega,by omega,rfl⟩
 case round=>
  obtain ⟨k,b,c,hk,hg,rfl,q,rfl,HB,hb,i,rfl⟩:=hrel
  have a6:(0:Int)≤(c:Int):=T00 _
  by_cases j:k < 30
  rotate_left
  ·have a2:¬(c:Int) < 30:=by omega
   have HL:Hid (Z0j code= .tuple #[.int .i64 0,.int .i64 0,.bool false]):=A5 (if_pos (by omega))
   clear i
   go_wp2
   go_ret3
   exact ⟨by rw [HL.out];rfl,rfl⟩
  have a2:(c:Int) < 30:=by omega
  have a:=HB.out j
  have a7:=Y9l k (by omega)
  obtain ⟨x,p⟩:∃x,x=dX k:=⟨_,rfl⟩
  have HX:=A5 p
  have s:x≤13:=by omega
  have m:Hid (k+1 < 30→b+2^x=dB (k+1)):=A5 (fun h=>by rw [V2t k (by omega),←a,p])
  have hy:2^x≤2^13:=T03 (by decide) s
  obtain ⟨y,d⟩:∃y,y=2^x:=⟨_,rfl⟩
  have b0:(2:Int)^x=(y:Int):=by rw [d];push_cast;rfl
  rw [←d] at hy m
  have a5:y≤8192:=by omega
  have b1:wrap64 (y:Int)=(y:Int):=by unfold wrap64;omega
  have b2:(0:Int)≤(x:Int):=T00 _
  have b3:(0:Int)≤(y:Int):=T00 _
  have b4:(0:Int)≤(b:Int):=T00 _
  have t:Hid (b+y≤100000):=A5 (by rw [d,a,p];exact V6a k j)
  rcases V4h k j with ⟨hk4,hx1⟩ | ⟨hk4,hx1⟩
  ·have z:¬4≤(c:Int):=by omega
   have l:x=0:=by omega
   have a3:y=1:=by rw [d,l]
   subst l
   subst a3
   by_cases f:(c:Int)=code
   ·have HL:Hid (Z0j code= .tuple #[.int .i64 (b:Int),.int .i64 0,.bool true]):=A5 (by rw [←f,q,Z7w k (by omega),a,hx1];rfl)
    clear p a d HB q
    subst f
    go_wp2
    go_ret3
    exact ⟨by rw [HL.out];rfl,rfl⟩
   have a4:((c:Int)==code)=false:=by simp;exact f
   have n:code < 0∨((c+1:Nat):Int)≤code:=by omega
   have o:c+1=(k+1):=by omega
   clear p a d HB q i
   go_wp2
   go_roundg (gk-1)
   case measure=>omega
   case rel=>exact ⟨k+1,b+1,c+1,by omega,by omega,by go_num,o,by go_num,m,t.out,n,rfl⟩
  have z:4≤(c:Int):=by omega
  obtain ⟨r,hr⟩:∃r:Nat,r=k-2:=⟨_,rfl⟩
  have b5:(c:Int)-2=(r:Int):=by omega
  have hq:(r:Int) / 2=(x:Int):=by omega
  have b6:(0:Int)≤(r:Int):=T00 _
  clear hr
  by_cases f:(c:Int)=code
  ·have HL:Hid (Z0j code= .tuple #[.int .i64 (b:Int),.int .i64 (x:Int),.bool true]):=A5 (by rw [←f,q,Z7w k (by omega),a,HX.out])
   clear p a d HB q
   subst f
   go_wp2
   go_ret3
   exact ⟨by rw [HL.out];rfl,rfl⟩
  have a4:((c:Int)==code)=false:=by simp;exact f
  have n:code < 0∨((c+1:Nat):Int)≤code:=by omega
  have o:c+1=(k+1):=by omega
  clear p a d HB q i
  go_wp2
  go_roundg (gk-1)
  case measure=>omega
  case rel=>exact ⟨k+1,b+y,c+1,by omega,by omega,by go_num,o,by go_num,m,t.out,n,rfl⟩
theorem W81 (q k:Nat) (hq:q=257+k) (hk:k < 29):Z1c (q:Int)= .tuple #[.int .i64 ((lB k:Nat):Int),.int .i64 ((lX k:Nat):Int),.bool true]:=by subst hq;exact Z6m k hk
theorem W5r (q k:Nat) (hq:q=0+k) (hk:k < 30):Z0j (q:Int)= .tuple #[.int .i64 ((dB k:Nat):Int),.int .i64 ((dX k:Nat):Int),.bool true]:=by subst hq;rw [Nat.zero_add];exact Z7w k hk
end Go.Proofs.YtbkbkmgogbgofaaGreatDoor
