/- The claim's texts, put together and shortened by a program (names, spaces). -/
import Derived.Test.YtbkbkmgogbgofaaGreatDoorZk28
import Derived.Test.YtbkbkmgogbgofaaGreatDoorZk18
import Derived.Test.YtbkbkmgogbgofaaGreatDoorZk21
open List renaming perm_middle→T00,perm_append_comm→T01,length_append→T02,append_nil→T04,length_drop→T07,mem_of_mem_take→T08
open Nat renaming sub_zero→T05
open Int renaming natCast_nonneg→T03,toNat_natCast→T06
namespace Go.Proofs.YtbkbkmgogbgofaaGreatDoor
set_option maxRecDepth 100000
set_option maxHeartbeats 6400000
open Go.RowKit
def Z0k (kind:Nat) (l:List E3) (raw:List Nat):Nat:=(I0 D2 kind l raw 3).length
theorem X7q (l:List E3) (raw:List Nat):Z0k 0 l raw=37+8*raw.length:=by
 show (G6 3 raw).length=_
 rw [Z4t]
 have:V9 3=8:=by decide
 omega
theorem Y6k {kind:Nat} {l:List E3} {raw:List Nat} (hm:Z3t kind l raw):Z0k kind l raw < 1000000+100*1048576:=by
 rcases hm with ⟨h,h2⟩ | ⟨h,h2,h3⟩
 ·have:=Y66 E2 kind [] raw 3 (.inl ⟨by omega,h2⟩)
  have e:Z0k kind l raw=(I0 D2 kind [] raw 3).length:=by
   have a:kind=0:=by omega
   subst a;rfl
  rw [e]
  simp at this
  omega
 have:=Y66 E2 kind l raw 3 (.inr ⟨by omega,h2⟩)
 unfold Z0k
 omega
section
variable {w0 w:World} {Rs:List A6}
theorem A4.dropAll:∀ {Ts:List A6},A4 w0 w (Ts++Rs)→A4 w0 w Rs
 | [],h=>h
 | _::_,h=>A4.dropAll (A4.drop h)
structure V7c (kind:Nat) (l:List E3) (raw:List Nat) (lo uo:Option Addr) (n lc m uc:Nat) (Ts:List A6) (w1:World):Prop where
 s0:kind=0→Calls Tryz.prog 218 #[.slice uo m uc] w1 fun e w'=>e= .returned (.int .i64 (Z0k kind l raw:Int))∧E5 w1 w' (fun _=>False)
 s1:∀B1 B2,kind=1→Calls Tryz.prog 221 #[Z3h (.slice lo n lc) B1 B2 (Q3 I5 G7 l).length] w1 fun e w'=>e= .returned (.int .i64 (Z0k kind l raw:Int))∧E5 w1 w' (fun _=>False)
 s2:∀Bh Bt B1 B2 iv hv,kind=2→Ts=Y4h l Bh Bt B1 B2 iv hv→Calls Tryz.prog 226 #[Y08 Bh (.slice lo n lc) B1 B2 (Q3 (K3 D2 l) (K2 D2 l) l).length] w1 fun e w'=>e= .returned (.int .i64 (Z0k kind l raw:Int))∧E5 w1 w' (fun _=>False)
theorem Z73 {kind:Nat} {l:List E3} {raw:List Nat} {Ts:List A6} {w1:World} (lo uo:Option Addr) (n lc m uc:Nat) (hm:m=raw.length) (hmy:Z3t kind l raw) (h:A4 w0 w1 (Ts++Rs)):V7c kind l raw lo uo n lc m uc Ts w1:=by
 have a:=Y6k hmy
 refine ⟨fun hk=> ?_,fun B1 B2 hk=> ?_,fun Bh Bt B1 B2 iv hv hk hT=> ?_⟩
 ·subst hk
  have b:m≤65535:=by
   rcases hmy with ⟨_,h2⟩ | ⟨h2,_⟩
   ·omega
   omega
  refine (X4y (w:=w1) uo m uc (by omega)).mono fun e w' ⟨h1,h2⟩=>⟨?_,by rw [h2];exact E5.refl _ _⟩
  rw [h1,X7q,hm]
 ·subst hk
  exact Y62 lo n lc B1 B2 _
 subst hT
 subst hk
 have d:w1.cell? ⟨Bh,5,none⟩=some (.int .i64 ((Z60 (K3 D2 l) (K2 D2 l) (Y7 D2 (G4 (K3 D2 l) (K2 D2 l))) (G4 (K3 D2 l) (K2 D2 l))).length:Int)):=h.drop.drop.obj.cell (i:=5) rfl
 have e:Z0k 2 l raw=(Z60 (K3 D2 l) (K2 D2 l) (Y7 D2 (G4 (K3 D2 l) (K2 D2 l))) (G4 (K3 D2 l) (K2 D2 l))).length+(Q3 (K3 D2 l) (K2 D2 l) l).length:=by
  show (Z60 _ _ _ _++Q3 _ _ _).length=_
  rw [T02]
 rw [e] at a⊢
 exact W8d lo n lc Bh B1 B2 _ _ d (by omega) (by omega)
theorem Y39 {kind:Nat} {l:List E3} {raw:List Nat} (hm:Z3t kind l raw):V4 (I0 D2) kind l raw=((3+Z0k kind l raw:Nat):Int):=by
 unfold V4
 rw [if_pos hm];rfl
theorem W4c {kind:Int} {l:List E3} {raw:List Nat} (hm:¬Z3t kind l raw):V4 (I0 D2) kind l raw= -1:=by
 unfold V4
 rw [if_neg hm]
theorem W55 (kind:Nat) (l:List E3) (raw acc:List Nat) (last:Bool) (v u:Value) (n m:Nat) (B:C4) (S:A6) (hO:Z4p w0) (h:A4 w0 w (wrT B acc::S::Rs)) (hv:Z04 w0 S 3 v n (I6 l)) (hu:Z04 w0 S 1 u m (D9 raw)) (hb:O3 l) (hr:∀b∈raw,b < 256) (hn:n < 1000000000) (hacc:acc.length < 900000000) (hmy:Z3t kind l raw):
  Calls Tryz.prog 55 #[.pointer (some ⟨B.b,B.o,none⟩),.int .i64 (kind:Int),v,u,.bool last] w fun e w'=>e= .returned (.bool true)∧A4 w0 w' (wrT B (acc++Q7 (I0 D2) kind l raw last acc.length)::S::Rs):=by
 have a:=hv.rd h.swap
 have d:=hu.rd h.swap
 obtain ⟨s,t,rfl,_,_⟩:=a.form
 obtain ⟨x,y,rfl,_,_⟩:=d.form
 have i:=A5 (Y1u kind s x n t m y l raw a d (hO.kept h.mod) hb hn hmy)
 have f:=A5 (And.intro h (And.intro hv (And.intro hu (And.intro hb (And.intro hr hmy)))))
 clear a d h hv hu hO hb hr hmy
 go_enter Tryz.func55,Tryz.ntmps55
 go_wp2_with fail
 with_reducible refine i.out.mono ?_
 rintro e w1 ⟨c,Ts,rfl,p,q⟩
 have j:A4 w0 w1 (wrT B acc::S::(Ts++Rs)):=(f.out.1.frame q).perm (by
  have g:=(T01 (l₁:=Ts) (l₂:=[wrT B acc,S])).append_right Rs
  simpa using g)
 have k:=A5 (Z7m s x t y last p j f.out.2.1 f.out.2.2.1 f.out.2.2.2.2.2 f.out.2.2.2.1 f.out.2.2.2.2.1 hacc)
 clear p q j i
 go_wp2_with fail
 with_reducible refine k.out.mono ?_
 rintro e r ⟨rfl,g⟩
 have z:Hid (A4 w0 r (wrT B (acc++Q7 (I0 D2) kind l raw last acc.length)::S::Rs)):=by
  have h3:A4 w0 r (Ts++(wrT B (acc++Q7 (I0 D2) kind l raw last acc.length)::S::Rs)):=g.perm (by
   have h4:=(T01 (l₁:=[wrT B (acc++Q7 (I0 D2) kind l raw last acc.length),S]) (l₂:=Ts)).append_right Rs
   simpa using h4)
  exact A5 h3.dropAll
 clear g k
 go_wp2
 go_ret
 exact ⟨rfl,z.out⟩
end
def L5 (l:List E3) (raw:List Nat):Nat→Int×Int
 | 0=>(-1,0)
 | i+1=>Q1 (L5 l raw i) i (V4 (I0 D2) i l raw)
theorem X1u (l:List E3) (raw:List Nat):L5 l raw 3=Z7d (I0 D2) l raw:=rfl
theorem W0h {l:List E3} {raw:List Nat} {i:Nat} (h:¬Z3t i l raw):L5 l raw (i+1)=L5 l raw i:=by
 rw [L5,W4c h,Q1,if_neg (by omega)]
theorem X34 {l:List E3} {raw:List Nat} {i:Nat} (h:Z3t i l raw) (hb:(L5 l raw i).1 < 0):L5 l raw (i+1)=((i:Int),((3+Z0k i l raw:Nat):Int)):=by
 rw [L5,Y39 h,Q1,if_pos ⟨by omega,.inl hb⟩]
theorem Z82 {l:List E3} {raw:List Nat} {i k:Nat} (h:Z3t i l raw) (hb:(L5 l raw i).2=((3+Z0k k l raw:Nat):Int)) (hl:Z0k i l raw < Z0k k l raw):L5 l raw (i+1)=((i:Int),((3+Z0k i l raw:Nat):Int)):=by
 rw [L5,Y39 h,Q1,if_pos ⟨by omega,.inr (by rw [hb];omega)⟩]
theorem Z8c {l:List E3} {raw:List Nat} {i k:Nat} (h:Z3t i l raw) (h1:(L5 l raw i).1=(k:Int)) (hb:(L5 l raw i).2=((3+Z0k k l raw:Nat):Int)) (hl:¬Z0k i l raw < Z0k k l raw):L5 l raw (i+1)=L5 l raw i:=by
 rw [L5,Y39 h,Q1,if_neg]
 rintro ⟨_,a | a⟩
 ·omega
 rw [hb] at a;omega
section
variable {w0 w:World} {Rs:List A6}
def X1t (w0:World) (B:C4) (acc:List Nat) (S:A6) (Rs:List A6) (l:List E3) (raw:List Nat) (lv uv:Value) (i:Nat) (c:Value) (wr:World):Prop:=
 ((L5 l raw i).1 < 0∧c= .nilIface∧A4 w0 wr (wrT B acc::S::Rs))∨
 ∃ (k:Nat) (Ts:List A6),k < i∧(L5 l raw i).1=(k:Int)∧(L5 l raw i).2=((3+Z0k k l raw:Nat):Int)∧Z3t k l raw∧X9n k l lv uv c Ts∧A4 w0 wr (Ts++(wrT B acc::S::Rs))
theorem V08 (l:List E3) (raw acc:List Nat) (last:Bool) (v u:Value) (n m:Nat) (B:C4) (S:A6) (hO:Z4p w0) (h:A4 w0 w (wrT B acc::S::Rs)) (hv:Z04 w0 S 3 v n (I6 l)) (hu:Z04 w0 S 1 u m (D9 raw)) (hb:O3 l) (hr:∀b∈raw,b < 256) (hn:n < 1000000000) (hacc:acc.length < 900000000):
  Calls Tryz.prog 54 #[.pointer (some ⟨B.b,B.o,none⟩),v,u,.bool last] w fun e w'=>e= .returned (.int .i64 (Z7d (I0 D2) l raw).1)∧A4 w0 w' (wrT B (if (Z7d (I0 D2) l raw).1 < 0 then acc else acc++Q7 (I0 D2) (Z7d (I0 D2) l raw).1.toNat l raw last acc.length)::S::Rs):=by
 have t:=hv.rd h.swap
 have r:=hu.rd h.swap
 obtain ⟨lo,lc,rfl,_,_⟩:=t.form
 obtain ⟨uo,uc,rfl,_,_⟩:=r.form
 have d4:m=raw.length:=by have:=r.1;rw [E6] at this;omega
 have HP:=A5 (And.intro hv (And.intro hu (And.intro hO (And.intro hb (And.intro hr d4)))))
 have H0:=A5 h
 rw [←X1u]
 obtain ⟨out,b3⟩:∃out,out=if (L5 l raw 3).1 < 0 then acc else acc++Q7 (I0 D2) (L5 l raw 3).1.toNat l raw last acc.length:=⟨_,rfl⟩
 rw [←b3]
 have c5:=A5 b3
 clear b3
 clear t r h hv hu hO hb hr d4
 go_enter Tryz.func54,Tryz.ntmps54
 go_wp2
 go_loopg [9,10,11] 4 (fun k t9 t10 t11 wr=>∃ (i:Nat) (c0:Value),i≤3∧3-i < k∧t11= .int .i64 (i:Int)∧t9= .int .i64 (L5 l raw i).1∧t10=c0∧Hid (X1t w0 B acc S Rs l raw (.slice lo n lc) (.slice uo m uc) i c0 wr))
 case atStart=>exact ⟨0,_,by omega,by omega,rfl,rfl,rfl,A5 (.inl ⟨by show ((-1:Int) < 0);decide,rfl,H0.out⟩)⟩
 case round=>
  obtain ⟨i,c0,hi,hk,rfl,rfl,f1,HF⟩:=hrel
  obtain rfl:=f1.symm
  have f7:(0:Int)≤(i:Int):=T03 _
  obtain ⟨b1,q⟩:∃b1,b1=(L5 l raw i).1:=⟨_,rfl⟩
  have d5:∃Q:List A6,A4 w0 wr (Q++(wrT B acc::S::Rs)):=by
   rcases HF.out with ⟨_,_,h⟩ | ⟨_,Ts,_,_,_,_,_,h⟩
   ·exact ⟨[],h⟩
   exact ⟨Ts,h⟩
  obtain ⟨Q,hQ⟩:=d5
  have hW:=hQ.dropAll
  have t:=HP.out.1.rd hW.swap
  have r:=HP.out.2.1.rd hW.swap
  by_cases g1:i < 3
  rotate_left
  ·have e3:¬(i:Int)≤2:=by omega
   have e7:i=3:=by omega
   subst e7
   rw [←q]
   have g:=A5 q
   rcases HF.out with ⟨h1,h2,h3⟩ | ⟨k,Ts,h1,h2,h3,h4,h5,h6⟩
   ·have d2:decide ((0:Int)≤b1)=false:=by simp;omega
    have H3:=A5 h3
    have hE:Hid (b1 < 0):=A5 (by omega)
    clear h1 h2 h3 t r hW hQ HF q
    go_wp2
    go_ret
    rw [←g.out]
    refine ⟨rfl, ?_⟩
    rw [c5.out,←g.out,if_pos hE.out]
    exact H3.out
   have e8:b1=(k:Int):=q.trans h2
   subst e8
   have d2:decide ((0:Int)≤(k:Int))=true:=by simp
   have g0:(0:Int)≤(k:Int):=T03 _
   have h7:A4 w0 wr (wrT B acc::S::(Ts++Rs)):=h6.perm (by
    have h2:=(T01 (l₁:=Ts) (l₂:=[wrT B acc,S])).append_right Rs
    simpa using h2)
   have HW:=A5 (Z7m lo uo lc uc last h5 h7 HP.out.1 HP.out.2.1 h4 HP.out.2.2.2.1 HP.out.2.2.2.2.1 hacc)
   clear h1 h2 h3 h4 h5 h6 h7 t r hW hQ HF q
   go_wp2_with fail
   with_reducible refine HW.out.mono ?_
   rintro e w2 ⟨rfl,h2⟩
   have H2:Hid (A4 w0 w2 (wrT B (acc++Q7 (I0 D2) k l raw last acc.length)::S::Rs)):=by
    have h3:A4 w0 w2 (Ts++(wrT B (acc++Q7 (I0 D2) k l raw last acc.length)::S::Rs)):=h2.perm (by
     have h4:=(T01 (l₁:=[wrT B (acc++Q7 (I0 D2) k l raw last acc.length),S]) (l₂:=Ts)).append_right Rs
     simpa using h4)
    exact A5 h3.dropAll
   clear h2 HW
   go_wp2
   go_ret
   rw [←g.out]
   refine ⟨rfl, ?_⟩
   rw [c5.out,←g.out,if_neg (by omega),T06]
   exact H2.out
  have e3:(i:Int)≤2:=by omega
  by_cases a9:Z3t i l raw
  rotate_left
  ·have HC:=A5 (X37 (i:Int) lo uo n lc m uc l raw t r hn a9)
   have d:Hid (L5 l raw (i+1)=L5 l raw i):=A5 (W0h a9)
   rw [←q]
   have g:=A5 q
   clear a9 t r hW hQ q
   go_wp2_with fail
   with_reducible refine HC.out.mono ?_
   rintro e w1 ⟨rfl,s⟩
   have e6:Hid (X1t w0 B acc S Rs l raw (.slice lo n lc) (.slice uo m uc) (i+1) c0 w1):=by
    unfold X1t
    rw [d.out]
    rcases HF.out with ⟨h1,h2,h3⟩ | ⟨k,Ts,h1,h2,h3,h4,h5,h6⟩
    ·exact A5 (.inl ⟨h1,h2,h3.same s⟩)
    exact A5 (.inr ⟨k,Ts,by omega,h2,h3,h4,h5,h6.same s⟩)
   clear s HC
   go_wp2
   go_roundg (gk-1)
   case measure=>omega
   case rel=>exact ⟨i+1,_,by omega,by omega,by go_num,by rw [d.out,←g.out],rfl,e6⟩
  have HC:=A5 (Y1u i lo uo n lc m uc l raw t r (HP.out.2.2.1.kept hW.mod) HP.out.2.2.2.1 hn a9)
  have HM:=A5 a9
  have g:=A5 q
  rw [←q]
  clear a9 t r hW hQ q
  by_cases c6:b1 < 0
  ·have d2:decide (b1 < 0)=true:=by simp;omega
   have d:Hid (L5 l raw (i+1)=((i:Int),((3+Z0k i l raw:Nat):Int))):=A5 (X34 HM.out (by rw [←g.out];exact c6))
   have hT:Hid (A4 w0 wr (wrT B acc::S::Rs)):=by
    rcases HF.out with ⟨_,_,h⟩ | ⟨k,_,_,h1,_⟩
    ·exact A5 h
    have:=g.out
    omega
   go_wp2_with fail
   with_reducible refine HC.out.mono ?_
   rintro e w1 ⟨c,Ts,rfl,hc,hh⟩
   have H1:=A5 (hT.out.frame hh)
   have a6:=A5 hc
   clear hh hc HC hT
   go_wp2
   go_roundg (gk-1)
   case measure=>omega
   case rel=>exact ⟨i+1,_,by omega,by omega,by go_num,by rw [d.out],rfl,A5 (.inr ⟨i,Ts,by omega,by rw [d.out],by rw [d.out],HM.out,a6.out,H1.out⟩)⟩
  have d2:decide (b1 < 0)=false:=by simp;omega
  rcases HF.out with ⟨h1,_,_⟩ | ⟨k,Tk,hki,d7,d8,d3,hf,hT⟩
  ·have:=g.out
   omega
  have p:=A5 (And.intro d7 (And.intro d8 (And.intro d3 hf)))
  have HT:=A5 hT
  have e4:=Y6k HM.out
  have e5:=Y6k d3
  obtain ⟨x,hx⟩:∃x,x=Z0k i l raw:=⟨_,rfl⟩
  obtain ⟨y,hy⟩:∃y,y=Z0k k l raw:=⟨_,rfl⟩
  rw [←hx] at e4
  rw [←hy] at e5
  have a:=A5 (And.intro hx hy)
  have f8:k=0∨k=1:=by omega
  clear d7 d8 d3 hT hx hy c6 HF
  rcases hf with ⟨hcf,rfl,hTf⟩ | ⟨hcf,C1,C2,rfl,hTf⟩ | ⟨hcf,_⟩
  ·have a2:=A5 hcf
   clear hcf
   go_wp2_with fail
   with_reducible refine HC.out.mono ?_
   rintro e w1 ⟨c,Ti,rfl,hc,hh⟩
   have H1:=A5 (HT.out.frame hh)
   have a6:=A5 hc
   have a3:=A5 (Z73 (w0:=wr) (Rs:=[]) lo uo n lc m uc HP.out.2.2.2.2.2 HM.out (by rw [T04];exact hh))
   clear hh HC
   rcases hc with ⟨hci,rfl,hTi⟩ | ⟨hci,B1,B2,rfl,hTi⟩ | ⟨hci,Bh,Bt,B1,B2,iv,hv,rfl,hTi⟩
   ·have:=a2.out
    omega
   ·have f:=A5 (a3.out.s1 B1 B2 hci)
    rw [←a.out.1] at f
    unfold Z3h at f⊢
    clear a3 hci
    go_wp2_with fail
    with_reducible refine f.out.mono ?_
    rintro e w2 ⟨rfl,s⟩
    have H2:=A5 (H1.out.same s)
    have z:=A5 (Z73 (w0:=w0) (Rs:=wrT B acc::S::Rs) lo uo n lc m uc HP.out.2.2.2.2.2 p.out.2.2.1 H2.out.dropAll)
    have j:=A5 (z.out.s0 a2.out)
    rw [←a.out.2] at j
    clear s f H1 z
    go_wp2_with fail
    with_reducible refine j.out.mono ?_
    rintro e w3 ⟨rfl,s⟩
    have H3:=A5 (H2.out.same s)
    clear s j H2
    by_cases a1:x < y
    ·have a0:decide ((x:Int) < (y:Int))=true:=by simp;omega
     have d:Hid (L5 l raw (i+1)=((i:Int),((3+Z0k i l raw:Nat):Int))):=A5 (Z82 HM.out p.out.2.1 (by rw [←a.out.1,←a.out.2];exact a1))
     have b2:Hid (A4 w0 w3 (Ti++(wrT B acc::S::Rs))):=by
      have h4:A4 w0 w3 (Tk++(Ti++(wrT B acc::S::Rs))):=H3.out.perm (by
       have h5:=(T01 (l₁:=Ti) (l₂:=Tk)).append_right (wrT B acc::S::Rs)
       simpa using h5)
      exact A5 h4.dropAll
     go_wp2
     go_roundg (gk-1)
     case measure=>omega
     case rel=>exact ⟨i+1,_,by omega,by omega,by go_num,by rw [d.out],rfl,A5 (.inr ⟨i,Ti,by omega,by rw [d.out],by rw [d.out],HM.out,a6.out,b2.out⟩)⟩
    have a0:decide ((x:Int) < (y:Int))=false:=by simp;omega
    have d:Hid (L5 l raw (i+1)=L5 l raw i):=A5 (Z8c HM.out p.out.1 p.out.2.1 (by rw [←a.out.1,←a.out.2];exact a1))
    go_wp2
    go_roundg (gk-1)
    case measure=>omega
    case rel=>exact ⟨i+1,_,by omega,by omega,by go_num,by rw [d.out,←g.out],rfl,A5 (.inr ⟨k,Tk,by omega,by rw [d.out];exact p.out.1,by rw [d.out];exact p.out.2.1,p.out.2.2.1,p.out.2.2.2,H3.out.dropAll⟩)⟩
   have f:=A5 (a3.out.s2 Bh Bt B1 B2 iv hv hci hTi)
   rw [←a.out.1] at f
   unfold Y08 at f⊢
   clear a3 hci
   go_wp2_with fail
   with_reducible refine f.out.mono ?_
   rintro e w2 ⟨rfl,s⟩
   have H2:=A5 (H1.out.same s)
   have z:=A5 (Z73 (w0:=w0) (Rs:=wrT B acc::S::Rs) lo uo n lc m uc HP.out.2.2.2.2.2 p.out.2.2.1 H2.out.dropAll)
   have j:=A5 (z.out.s0 a2.out)
   rw [←a.out.2] at j
   clear s f H1 z
   go_wp2_with fail
   with_reducible refine j.out.mono ?_
   rintro e w3 ⟨rfl,s⟩
   have H3:=A5 (H2.out.same s)
   clear s j H2
   by_cases a1:x < y
   ·have a0:decide ((x:Int) < (y:Int))=true:=by simp;omega
    have d:Hid (L5 l raw (i+1)=((i:Int),((3+Z0k i l raw:Nat):Int))):=A5 (Z82 HM.out p.out.2.1 (by rw [←a.out.1,←a.out.2];exact a1))
    have b2:Hid (A4 w0 w3 (Ti++(wrT B acc::S::Rs))):=by
     have h4:A4 w0 w3 (Tk++(Ti++(wrT B acc::S::Rs))):=H3.out.perm (by
      have h5:=(T01 (l₁:=Ti) (l₂:=Tk)).append_right (wrT B acc::S::Rs)
      simpa using h5)
     exact A5 h4.dropAll
    go_wp2
    go_roundg (gk-1)
    case measure=>omega
    case rel=>exact ⟨i+1,_,by omega,by omega,by go_num,by rw [d.out],rfl,A5 (.inr ⟨i,Ti,by omega,by rw [d.out],by rw [d.out],HM.out,a6.out,b2.out⟩)⟩
   have a0:decide ((x:Int) < (y:Int))=false:=by simp;omega
   have d:Hid (L5 l raw (i+1)=L5 l raw i):=A5 (Z8c HM.out p.out.1 p.out.2.1 (by rw [←a.out.1,←a.out.2];exact a1))
   go_wp2
   go_roundg (gk-1)
   case measure=>omega
   case rel=>exact ⟨i+1,_,by omega,by omega,by go_num,by rw [d.out,←g.out],rfl,A5 (.inr ⟨k,Tk,by omega,by rw [d.out];exact p.out.1,by rw [d.out];exact p.out.2.1,p.out.2.2.1,p.out.2.2.2,H3.out.dropAll⟩)⟩
  ·have a2:=A5 hcf
   clear hcf
   unfold Z3h
   go_wp2_with fail
   with_reducible refine HC.out.mono ?_
   rintro e w1 ⟨c,Ti,rfl,hc,hh⟩
   have H1:=A5 (HT.out.frame hh)
   have a6:=A5 hc
   have a3:=A5 (Z73 (w0:=wr) (Rs:=[]) lo uo n lc m uc HP.out.2.2.2.2.2 HM.out (by rw [T04];exact hh))
   clear hh HC
   rcases hc with ⟨hci,rfl,hTi⟩ | ⟨hci,B1,B2,rfl,hTi⟩ | ⟨hci,Bh,Bt,B1,B2,iv,hv,rfl,hTi⟩
   ·have:=a2.out
    omega
   ·have:=a2.out
    omega
   have f:=A5 (a3.out.s2 Bh Bt B1 B2 iv hv hci hTi)
   rw [←a.out.1] at f
   unfold Y08 at f⊢
   clear a3 hci
   go_wp2_with fail
   with_reducible refine f.out.mono ?_
   rintro e w2 ⟨rfl,s⟩
   have H2:=A5 (H1.out.same s)
   have z:=A5 (Z73 (w0:=w0) (Rs:=wrT B acc::S::Rs) lo uo n lc m uc HP.out.2.2.2.2.2 p.out.2.2.1 H2.out.dropAll)
   have j:=A5 (z.out.s1 C1 C2 a2.out)
   rw [←a.out.2] at j
   unfold Z3h at j
   clear s f H1 z
   go_wp2_with fail
   with_reducible refine j.out.mono ?_
   rintro e w3 ⟨rfl,s⟩
   have H3:=A5 (H2.out.same s)
   clear s j H2
   by_cases a1:x < y
   ·have a0:decide ((x:Int) < (y:Int))=true:=by simp;omega
    have d:Hid (L5 l raw (i+1)=((i:Int),((3+Z0k i l raw:Nat):Int))):=A5 (Z82 HM.out p.out.2.1 (by rw [←a.out.1,←a.out.2];exact a1))
    have b2:Hid (A4 w0 w3 (Ti++(wrT B acc::S::Rs))):=by
     have h4:A4 w0 w3 (Tk++(Ti++(wrT B acc::S::Rs))):=H3.out.perm (by
      have h5:=(T01 (l₁:=Ti) (l₂:=Tk)).append_right (wrT B acc::S::Rs)
      simpa using h5)
     exact A5 h4.dropAll
    go_wp2
    go_roundg (gk-1)
    case measure=>omega
    case rel=>exact ⟨i+1,_,by omega,by omega,by go_num,by rw [d.out],rfl,A5 (.inr ⟨i,Ti,by omega,by rw [d.out],by rw [d.out],HM.out,a6.out,b2.out⟩)⟩
   have a0:decide ((x:Int) < (y:Int))=false:=by simp;omega
   have d:Hid (L5 l raw (i+1)=L5 l raw i):=A5 (Z8c HM.out p.out.1 p.out.2.1 (by rw [←a.out.1,←a.out.2];exact a1))
   go_wp2
   go_roundg (gk-1)
   case measure=>omega
   case rel=>exact ⟨i+1,_,by omega,by omega,by go_num,by rw [d.out,←g.out],rfl,A5 (.inr ⟨k,Tk,by omega,by rw [d.out];exact p.out.1,by rw [d.out];exact p.out.2.1,p.out.2.2.1,p.out.2.2.2,H3.out.dropAll⟩)⟩
  omega
end
theorem Y3r:Z19 (I0 D2) where
 good kind l raw a hm hb hr:=W6e E2 kind l raw a (by
  rcases hm with ⟨h1,h2⟩ | ⟨h1,h2,h3⟩
  ·exact .inl ⟨by omega,h2⟩
  exact .inr ⟨by omega,h2⟩) hb hr
 same kind l raw a b hk:=by
  unfold I0
  rw [if_neg hk,if_neg hk]
 place kind l raw a b h:=X7t kind l raw a b h
def Y4q (p:C4) (n:Nat) (A B:List Value) (h:A.length=n):C4:=⟨p.b,p.o+n,p.pre++A,B++p.post,p.T,by rw [T02,p.len,h]⟩
theorem Y1k (p:C4) (n:Nat) (A B C:List Value) (h:A.length=n):Q0 (Y4q p n A B h) C=Q0 p (A++(C++B)):=by
 unfold Q0 Y4q
 simp only [List.append_assoc]
section
variable {w0 w:World} {Rs:List A6}
structure Z4b (acc bs:List Nat) (c sp:Nat):Prop where
 low:c < 8
 fits:sp < 2^c
 byt:∀b∈bs,b < 256
 is:acc=D7 bs++A9 c sp
theorem X3n {q:C4} {d:Value} {acc bs:List Nat} {c sp:Nat} (hf:Z4b acc bs c sp) (h:A4 w0 w (Q0 q [d,.int .u64 (sp:Int),.int .i64 (c:Int)]::B0 5 1 d bs.length (D9 bs)::Rs)):A4 w0 w (wrT q acc::Rs):=by
 obtain ⟨F,⟨m,n,a,f,g,i⟩,j,l⟩:=h.pair
 refine ⟨F,⟨d,⟨bs,sp,c,⟨a.1,f.1,fun e=>g q.b ((a.2 q.b).2 rfl) ((f.2 q.b).2 e),hf.fits,hf.byt⟩,hf.low,hf.is⟩,fun k=> ?_⟩,j,l⟩
 rw [i,a.2,f.2]
 exact Iff.rfl
theorem Y99 {q:C4} {acc:List Nat} (h:A4 w0 w (wrT q acc::Rs)):∃d sp c bs,Z4b acc bs c sp∧A4 w0 w (Q0 q [d,.int .u64 (sp:Int),.int .i64 (c:Int)]::B0 5 1 d bs.length (D9 bs)::Rs):=by
 obtain ⟨F,⟨d,⟨bs,sp,c,⟨f,g,i,j,l⟩,m,n⟩,o⟩,p,a⟩:=h
 refine ⟨d,sp,c,bs,⟨m,j,l,n⟩,A4.unpair ⟨F,⟨fun k=>k=q.b,fun k=>d.ownBlock=some k,⟨f,fun _=>Iff.rfl⟩,⟨g,fun _=>Iff.rfl⟩,fun k hk e=>i (by rw [←show k=q.b from hk];exact e),fun k=>o k⟩,p,a⟩⟩
theorem A4.tailOut {R:A6} {L:List A6} (h:A4 w0 w (R::(L++Rs))):A4 w0 w (L++R::Rs):=h.perm List.perm_middle.symm
theorem A4.tailIn {R:A6} {L:List A6} (h:A4 w0 w (L++R::Rs)):A4 w0 w (R::(L++Rs)):=h.perm T00
theorem X7g {s:U5} {p:C4} {R:List Value} (H:A4 w0 w (Y2i s (Y4q p 0 [] R rfl)::Rs)):
  ∃ (tr en la:Nat) (lv:Value) (gone m1 m2:Nat) (bv:Value) (at':Nat) (X:A6),A4 w0 w (Q0 p (Z6j tr en la lv gone (.map (some m1)) (.map (some m2)) bv at'++R)::X::Rs)∧(∃a n c,lv= .slice a n c)∧(∃a n c,bv= .slice a n c)∧
   ∀ (p':C4) (R':List Value) (w':World) (Rs':List A6),A4 w0 w' (Q0 p' (Z6j tr en la lv gone (.map (some m1)) (.map (some m2)) bv at'++R')::X::Rs')→A4 w0 w' (Y2i s (Y4q p' 0 [] R' rfl)::Rs'):=by
 obtain ⟨b,P,a,gone,i,j⟩:=unT H
 obtain ⟨lv,bv,m1,m2,d⟩:=Z3m j
 have f:A4 w0 w (Q0 (Y4q p 0 [] R rfl) (Z6j s.tr s.en s.la lv gone (.map (some m1)) (.map (some m2)) bv (s.at_-b))::([_,_,_,_]++Rs)):=d
 rw [Y1k] at f
 obtain ⟨m,o,k,_⟩:=(W6 d).2.1.form
 obtain ⟨q,r,l,_⟩:=(W6 d).2.2.1.form
 refine ⟨s.tr,s.en,s.la,lv,gone,m1,m2,bv,s.at_-b,_,(A4.all f.tailOut).swap,⟨_,_,_,k⟩,⟨_,_,_,l⟩,fun p' R' w' Rs' h4=> ?_⟩
 have g:=(A4.unall h4.swap).tailIn
 refine mkT b P a gone i (Z7b lv bv m1 m2 ?_)
 show A4 w0 w' (Q0 (Y4q p' 0 [] R' rfl) _::([_,_,_,_]++Rs'))
 rw [Y1k]
 exact g
def Z6u (rv lv:Value) (told:Nat) (d:Value) (sp c:Nat) (packs:Bool):List Value:=[rv,lv,.int .i64 (told:Int),d,.int .u64 (sp:Int),.int .i64 (c:Int),.bool packs,.bool false]
structure V1a where
 rv:Value
 lv:Value
 d:Value
 sp:Nat
 c:Nat
 bs:List Nat
def V61 (s:O6 U5) (p:C4) (q:V1a):List A6:=[Y2i s.f (Y4q p 0 [] (Z6u q.rv q.lv s.told q.d q.sp q.c s.packs) rfl),B0 5 1 q.rv s.raw.length (D9 s.raw),B0 112 3 q.lv s.list.length (I6 s.list),B0 5 1 q.d q.bs.length (D9 q.bs)]
def Q8 (s:O6 U5) (p:C4):A6:=exT fun q:V1a=>Y46 (Z4b s.acc q.bs q.c q.sp) (Z0g (V61 s p q))
theorem X38 {s:O6 U5} {p:C4} (H:A4 w0 w (Q8 s p::Rs)):∃q:V1a,Z4b s.acc q.bs q.c q.sp∧A4 w0 w (Y2i s.f (Y4q p 0 [] (Z6u q.rv q.lv s.told q.d q.sp q.c s.packs) rfl)::B0 5 1 q.rv s.raw.length (D9 s.raw)::B0 112 3 q.lv s.list.length (I6 s.list)::B0 5 1 q.d q.bs.length (D9 q.bs)::Rs):=by
 obtain ⟨q,a⟩:=H.ex
 obtain ⟨b,g⟩:=a.fact
 exact ⟨q,b,g.unall⟩
theorem X1v {s:O6 U5} {p:C4} (q:V1a) (hf:Z4b s.acc q.bs q.c q.sp) (H:A4 w0 w (Y2i s.f (Y4q p 0 [] (Z6u q.rv q.lv s.told q.d q.sp q.c s.packs) rfl)::B0 5 1 q.rv s.raw.length (D9 s.raw)::B0 112 3 q.lv s.list.length (I6 s.list)::B0 5 1 q.d q.bs.length (D9 q.bs)::Rs)):A4 w0 w (Q8 s p::Rs):=
 A4.mk (R:=fun q:V1a=>Y46 (Z4b s.acc q.bs q.c q.sp) (Z0g (V61 s p q))) q (A4.mkFact hf (A4.all (L:=V61 s p q) H))
structure Z8y where
 tr:Nat
 en:Nat
 la:Nat
 l0:Value
 gone:Nat
 m1:Nat
 m2:Nat
 b0:Value
 at_:Nat
def Z8y.V (C:Z8y):List Value:=Z6j C.tr C.en C.la C.l0 C.gone (.map (some C.m1)) (.map (some C.m2)) C.b0 C.at_
def X32 (p:C4) (C:Z8y) (X:A6) (raw:List Nat) (list:List E3) (told:Nat) (bs:List Nat) (rv lv d:Value) (sp c:Nat) (packs:Bool) (Rs:List A6):List A6:=
 Q0 p (C.V++Z6u rv lv told d sp c packs)::B0 5 1 rv raw.length (D9 raw)::B0 112 3 lv list.length (I6 list)::B0 5 1 d bs.length (D9 bs)::X::Rs
def X1w (f:U5) (p:C4) (C:Z8y) (X:A6) (packs:Bool) (w0:World):Prop:=
 ∀ (raw:List Nat) (list:List E3) (told:Nat) (acc bs:List Nat) (rv lv d:Value) (sp c:Nat) (w:World) (Rs:List A6),Z4b acc bs c sp→A4 w0 w (X32 p C X raw list told bs rv lv d sp c packs Rs)→A4 w0 w (Q8 ⟨f,raw,list,told,acc,packs⟩ p::Rs)
theorem A4.last5 {R1 R2 R3 R4 R5:A6} (h:A4 w0 w (R1::R2::R3::R4::R5::Rs)):A4 w0 w (R1::R3::R4::R5::R2::Rs):=h.perm (List.Perm.cons _ (T00 (l₁:=[R3,R4,R5])).symm)
theorem A4.first5 {R1 R2 R3 R4 R5:A6} (h:A4 w0 w (R1::R3::R4::R5::R2::Rs)):A4 w0 w (R1::R2::R3::R4::R5::Rs):=h.perm (List.Perm.cons _ (T00 (l₁:=[R3,R4,R5])))
theorem Z26 {s:O6 U5} {p:C4} (H:A4 w0 w (Q8 s p::Rs)):∃ (C:Z8y) (X:A6) (bs:List Nat) (rv lv d:Value) (sp c:Nat),Z4b s.acc bs c sp∧A4 w0 w (X32 p C X s.raw s.list s.told bs rv lv d sp c s.packs Rs)∧X1w s.f p C X s.packs w0:=by
 obtain ⟨q,i,j⟩:=X38 H
 obtain ⟨k,l,m,n,a,o,r,t,g,X,x,_,_,b⟩:=X7g j
 refine ⟨⟨k,l,m,n,a,o,r,t,g⟩,X,q.bs,q.rv,q.lv,q.d,q.sp,q.c,i,x.last5,fun raw list told acc bs rv lv d sp c w' Rs' hf' h3=> ?_⟩
 exact X1v (s:=⟨s.f,raw,list,told,acc,s.packs⟩) ⟨rv,lv,d,sp,c,bs⟩ hf' (b _ _ _ _ (A4.first5 h3))
theorem W11 (C:Z8y) (rv lv:Value) (told:Nat):(C.V++[rv,lv,.int .i64 (told:Int)]).length=12:=rfl
def W47 (p:C4) (C:Z8y) (rv lv:Value) (told:Nat) (packs:Bool):C4:=Y4q p 12 (C.V++[rv,lv,.int .i64 (told:Int)]) [.bool packs,.bool false] (W11 C rv lv told)
theorem X3k (p:C4) (C:Z8y) (rv lv:Value) (told:Nat) (packs:Bool) (d:Value) (sp c:Nat):Q0 (W47 p C rv lv told packs) [d,.int .u64 (sp:Int),.int .i64 (c:Int)]=Q0 p (C.V++Z6u rv lv told d sp c packs):=
 (Y1k p 12 _ _ _ (W11 C rv lv told)).trans (by unfold Z6u;simp)
theorem W2k {p:C4} {C:Z8y} {X:A6} {raw acc:List Nat} {list:List E3} {told:Nat} {bs:List Nat} {rv lv d:Value} {sp c:Nat} {packs:Bool} (hf:Z4b acc bs c sp) (h:A4 w0 w (X32 p C X raw list told bs rv lv d sp c packs Rs)):
  A4 w0 w (wrT (W47 p C rv lv told packs) acc::B0 5 1 rv raw.length (D9 raw)::B0 112 3 lv list.length (I6 list)::X::Rs):=by
 refine X3n (d:=d) hf ?_
 rw [X3k]
 exact h.perm (List.Perm.cons _ (T00 (l₁:=[_,_])))
theorem V5q {p:C4} {C:Z8y} {X:A6} {raw acc:List Nat} {list:List E3} {told:Nat} {rv lv:Value} {packs:Bool}
  (h:A4 w0 w (wrT (W47 p C rv lv told packs) acc::B0 5 1 rv raw.length (D9 raw)::B0 112 3 lv list.length (I6 list)::X::Rs)):
  ∃ (bs:List Nat) (d:Value) (sp c:Nat),Z4b acc bs c sp∧A4 w0 w (X32 p C X raw list told bs rv lv d sp c packs Rs):=by
 obtain ⟨d,sp,c,bs,b,a⟩:=Y99 h
 refine ⟨bs,d,sp,c,b, ?_⟩
 rw [X3k] at a
 exact a.perm (List.Perm.cons _ (T00 (l₁:=[_,_])).symm)
theorem A4.rot5 {R1 R2 R3 R4 R5:A6} (h:A4 w0 w (R1::R2::R3::R4::R5::Rs)):A4 w0 w (R5::R1::R2::R3::R4::Rs):=h.perm (T00 (l₁:=[R1,R2,R3,R4]))
theorem W0j {s:O6 U5} {p:C4} {S:A6} (H:A4 w0 w (Q8 s p::S::Rs)) (v:Value) (n:Nat) (b:List Nat) (hv:Z04 w0 S 1 v n (D9 b)) (hs:Y4d s.f) (hlen:s.f.x.length+n < 1000000000):
  Calls Tryz.prog 73 #[.pointer (some ⟨p.b,p.o,none⟩),v] w fun e w'=>e= .returned (.tuple #[])∧A4 w0 w' (Q8 {s with f:=K5.write s.f b} p::S::Rs):=by
 obtain ⟨q,d,a⟩:=X38 H
 exact (W7l s.f _ v n b a hs (hv.rd (A4.rot5 a)) hlen).mono fun _ _ ⟨h2,h3⟩=>⟨h2,X1v (s:={s with f:=K5.write s.f b}) q d h3⟩
theorem W6f {s:O6 U5} {p:C4} (H:A4 w0 w (Q8 s p::Rs)) (e:Bool) (hs:Y4d s.f):
  Calls Tryz.prog 74 #[.pointer (some ⟨p.b,p.o,none⟩),.bool e] w fun e' w'=>∃v,e'= .returned v∧A4 w0 w' (Y4n v (K5.toks s.f e).2::Q8 {s with f:=(K5.toks s.f e).1} p::Rs):=by
 obtain ⟨q,a,d⟩:=X38 H
 exact (V4s s.f _ e d hs).mono fun _ _ ⟨v,h2,h3⟩=>⟨v,h2,(X1v (s:={s with f:=(K5.toks s.f e).1}) q a (h3.perm (T00 (l₁:=[_,_,_,_])).symm)).swap⟩
theorem Z9p {p:C4} {X:A6} {C:Z8y} {rv lv:Value} {acc:List Nat} {raw:List Nat} {list:List E3} {told:Nat} {packs:Bool} {f:U5} (back:X1w f p C X packs w0)
  (h:A4 w0 w (wrT (W47 p C rv lv told packs) acc::B0 5 1 rv raw.length (D9 raw)::B0 112 3 lv list.length (I6 list)::X::Rs)):A4 w0 w (Q8 ⟨f,raw,list,told,acc,packs⟩ p::Rs):=by
 obtain ⟨a,d,b,c,g,i⟩:=V5q h
 exact back raw list told acc a rv lv d b c w Rs g i
theorem X94 {s:O6 U5} {p:C4} (H:A4 w0 w (Q8 s p::Rs)) (hl:s.acc.length < 1099511600000):
  Calls Tryz.prog 33 #[.pointer (some ⟨p.b,p.o+12,none⟩)] w fun e w'=>e= .returned (.tuple #[])∧A4 w0 w' (Q8 {s with acc:=J2 s.acc} p::Rs):=by
 obtain ⟨C,X,i,j,k,d,l,c,f,g,a⟩:=Z26 H
 exact (X75 (W2k f g) hl).mono fun _ _ ⟨h2,h3⟩=>⟨h2,Z9p a h3⟩
theorem W8b {s:O6 U5} {p:C4} (H:A4 w0 w (Q8 s p::Rs)):
  Calls Tryz.prog 30 #[.pointer (some ⟨p.b,p.o+12,none⟩)] w fun e w'=>∃d,e= .returned d∧A4 w0 w' (B0 5 1 d (D4 s.acc).length (D9 (D4 s.acc))::Q8 (Z4y s) p::Rs):=by
 obtain ⟨C,X,i,j,k,d,l,c,f,g,a⟩:=Z26 H
 exact (V1k (W2k f g)).mono fun _ _ ⟨d,h2,h3⟩=>⟨d,h2,(Z9p a (h3.perm (T00 (l₁:=[_,_,_,_])).symm)).swap⟩
end
theorem W9h:(Tryz.prog.info? 112).map (fun i=>(i.zero,i.size,i.bytes))=some (some (.agg #[.int .u8 0,.int .i64 0,.int .i64 0]),3,24):=by kernel_rfl
theorem Y9w:(Tryz.prog.info? 5).map (fun i=>(i.zero,i.size,i.bytes))=some (some (.int .u8 0),1,1):=by kernel_rfl
section
variable {w0 w:World} {Rs:List A6} {S:A6}
theorem W82 {s:O6 U5} {p:C4} (H:A4 w0 w (Q8 s p::S::Rs)) (v:Value) (n:Nat) (b:List Nat) (hv:Z04 w0 S 1 v n (D9 b)) (hs:Y4d s.f) (hlen:s.f.x.length+n < 1000000000) (hr:s.raw.length < 1000000000):
  Calls Tryz.prog 48 #[.pointer (some ⟨p.b,p.o,none⟩),v] w fun e w'=>e= .returned (.tuple #[])∧A4 w0 w' (Q8 (X1l K5 s b) p::S::Rs):=by
 obtain ⟨i0,a1,a2,a3,a4⟩:=info_parts Y9w
 have j:=hv.rd H.swap
 have l:n=b.length:=by have:=j.1;rw [E6] at this;omega
 obtain ⟨vo,vc,rfl,_,_⟩:=j.form
 have HW:=A5 (W0j H (.slice vo n vc) n b hv hs hlen)
 have HV:=A5 hv
 have HN:=A5 l
 clear H j hv hs l
 go_enter Tryz.func48,Tryz.ntmps48
 go_wp2_with fail
 with_reducible refine HW.out.mono ?_
 rintro e z ⟨rfl,h2⟩
 obtain ⟨C,X,bs,rv,lv,d,sp,c,hf,h3,g⟩:=Z26 h2
 have HF:=A5 hf
 have HB:=A5 g
 have H3:=A5 h3
 obtain ⟨L,r⟩:∃L,L=s.raw.length:=⟨_,rfl⟩
 have k:=h3
 unfold X32 at k
 rw [←r] at hr
 have t:=A5 r
 have hR:Rd z 1 (.slice vo n vc) n (D9 b):=HV.out.rd (show A4 w0 z (Q8 {s with f:=K5.write s.f b} p::S::Rs) from h2).swap
 have HR:=A5 hR
 have q:A4 w0 z (B0 5 1 rv L (D9 s.raw)::Q0 p (C.V++Z6u rv lv s.told d sp c s.packs)::B0 112 3 lv s.list.length (I6 s.list)::B0 5 1 d bs.length (D9 bs)::X::S::Rs):=by
  rw [r];exact k.swap
 obtain ⟨ro,rc,rfl,_,_⟩:=q.own.form
 have H4:=A5 q
 have hb:=q.swap.objp
 have c9:=hb.cell (i:=9) rfl
 clear h2 h3 k q hb hf g r hR HW H3
 go_wp2_with (refine D6 rfl (.tmp 13) (.tmp 14) 26 rfl 5 i0 (.int .u8 0) 1 1 Tryz.underlying26 a1 a2 a3 a4 rfl (by decide) _ L (D9 s.raw) rfl H4.out _ n (D9 b) rfl HR.out (T0 b) (L+n) rfl (by unfold maxLen;omega) (by omega) ?_;intro m a w2 h5;have y:=A5 h5.swap;have f9:=y.out.objp.frozen 9;have c4:=y.out.objp.cell (i:=9) rfl;clear h5)
 go_end0
 refine ⟨rfl, ?_⟩
 have h6:=y.out.setObjP 9 (.slice m (L+n) a)
 refine HB.out (s.raw++b) s.list s.told s.acc bs (.slice m (L+n) a) lv d sp c _ _ HF.out ?_
 unfold X32
 rw [T02,←t.out,←HN.out,J8]
 exact h6
theorem X50 {s:O6 U5} {p:C4} (H:A4 w0 w (Q8 s p::Rs)) (b:Bool) (hs:Y4d s.f):
  Calls Tryz.prog 51 #[.pointer (some ⟨p.b,p.o,none⟩),.bool b] w fun e w'=>∃v,e= .returned v∧A4 w0 w' (Y4n v (K5.toks s.f b).2::Q8 {s with f:=(K5.toks s.f b).1} p::Rs):=by
 have d:=A5 (W6f H b hs)
 clear H hs
 go_enter Tryz.func51,Tryz.ntmps51
 go_wp2_with fail
 with_reducible refine d.out.mono ?_
 rintro e j ⟨v,rfl,a⟩
 unfold Y4n at a
 obtain ⟨k,i,rfl,_,_⟩:=a.own.form
 have g:=A5 a
 clear a d
 go_wp2
 go_ret
 exact ⟨_,rfl,g.out⟩
theorem W3k {s:O6 U5} {p:C4} (H:A4 w0 w (Q8 s p::Rs)) (t:E3) (hn:0≤t.2.1∧t.2.1≤258) (hl:s.list.length < 1000000000) (ht:s.told < 1000000000):
  Calls Tryz.prog 52 #[.pointer (some ⟨p.b,p.o,none⟩),Y69 t] w fun e w'=>e= .returned (.tuple #[])∧A4 w0 w' (Q8 (Z4 s t) p::Rs):=by
 obtain ⟨i3,c2,c3,c4,c5⟩:=info_parts W9h
 obtain ⟨a,n,d⟩:=t
 obtain ⟨C,X,bs,rv,lv,dv,sp,c,hf,h1,x⟩:=Z26 H
 obtain ⟨m,rfl⟩:=Int.eq_ofNat_of_zero_le hn.1
 have b5:m≤258:=by have:(m:Int)≤258:=hn.2;omega
 obtain ⟨q,hq⟩:∃q,q=adv (a,(m:Int),d):=⟨_,rfl⟩
 have b6:q=max m 1:=hq
 have d2:q≤258:=by omega
 have c8:(if (m:Int) < 1 then 1 else (m:Int))=(q:Int):=by split <;> omega
 obtain ⟨u,hu⟩:∃u,u=s.told+q:=⟨_,rfl⟩
 have d3:(s.told:Int)+(q:Int)=(u:Int):=by omega
 obtain ⟨K,hK⟩:∃K,K=s.list.length:=⟨_,rfl⟩
 rw [←hK] at hl
 have h3:=(A4.newObj h1 [.int .u8 a,.int .i64 (m:Int),.int .i64 d] 112)
 have hO:A4 w0 w (B0 112 3 lv K (I6 s.list)::Q0 p (C.V++Z6u rv lv s.told dv sp c s.packs)::B0 5 1 rv s.raw.length (D9 s.raw)::B0 5 1 dv bs.length (D9 bs)::X::Rs):=by
  rw [hK];exact A4.third h1
 obtain ⟨lo,lc,rfl,_,_⟩:=hO.own.form
 have HF:=A5 hf
 have HB:=A5 x
 have HQ:=A5 (And.intro hq (And.intro hu hK))
 have k:Hid (A4 w0 (w.alloc (.cells #[.int .u8 a,.int .i64 (m:Int),.int .i64 d] 112)) (Q0 p (C.V++Z6u rv (.slice lo K lc) s.told dv sp c s.packs)::B0 112 3 (.slice lo K lc) K (I6 s.list)::E8 w.heap.size [.int .u8 a,.int .i64 (m:Int),.int .i64 d] 112::B0 5 1 rv s.raw.length (D9 s.raw)::B0 5 1 dv bs.length (D9 bs)::X::Rs)):=A5 (by
  have h4:=hO.swap.newObj [.int .u8 a,.int .i64 (m:Int),.int .i64 d] 112
  exact h4.swap.mid)
 have d8:u < 2000000000:=by omega
 clear h1 h3 hO hf x hq b6 hu hK hn H
 unfold Y69
 simp only
 go_enter Tryz.func52,Tryz.ntmps52
 go_wp2
 generalize e6:w.alloc (.cells #[.int .u8 a,.int .i64 (m:Int),.int .i64 d] 112)=wA at k⊢
 generalize w.heap.size=N at k⊢
 have z:=k.out.objp
 have HA:=k.out.apartP
 have b9:=z.cell (i:=10) rfl
 have c0:=z.frozen 10
 have fa:∀o,(wA.alloc o).frozen? ⟨p.b,p.o+10,none⟩=false:=fun o=>(z.alloc o).frozen 10
 have a0:∀o,(wA.alloc o).cell? ⟨p.b,p.o+10,none⟩=some (.slice lo K lc):=fun o=>(z.alloc o).cell (i:=10) rfl
 have l:=k.out.swap.own
 have t0:=k.out.third.obj.cell (i:=0) rfl
 have t1:=k.out.third.obj.cell (i:=1) rfl
 have t2:=k.out.third.obj.cell (i:=2) rfl
 go_region_law
  ((refine Z3e _ (by rfl) (.tmp 8) (.tmp 10) 54 (by rfl) 112 i3 (.agg #[.int .u8 0,.int .i64 0,.int .i64 0]) 3 24 Tryz.underlying54 c2 c3 c4 c5 (by rfl) (by decide) (.slice lo K lc) K (I6 s.list) (by rfl) (by exact (l.alloc _).drew) (.slice (some ⟨wA.heap.size,0,none⟩) 1 1) 1 [.int .u8 a,.int .i64 (m:Int),.int .i64 d] (by rfl) (by exact (Rd.lit _ [_,_,_] _ 3 1 (by decide) rfl).drew) (by intro u hu;simp at hu;rcases hu with rfl | rfl | rfl <;> rfl) (by unfold maxLen;omega) (by omega) ?_;intro a6 r w2 j f a7;have g:=(z.alloc _).drew.grown f HA;have a1:=g.cell (i:=10) rfl;have a2:=g.frozen 10;have a3:=g.cell (i:=11) rfl;have a4:=g.frozen 11;have H5:=A5 ((((k.out.alloc _).drew).swap.app j f a7).swap.setObjP 10 (.slice a6 (K+1) r));clear f a7 j))
 all_goals
  have y:=H5.out.objp
  have e3:=y.cell (i:=11) rfl
  have e4:=y.frozen 11
  have u1:=H5.out.third.obj.cell (i:=1) rfl
  have H6:=A5 (H5.out.drew.setObjP 11 (.int .i64 (u:Int)))
  clear z g y b9 c0 a1 a2 a3 a4 fa a0 l t0 t1 t2 HA k H5
  go_wp2
  go_region
  all_goals
   go_end0
   refine ⟨rfl,HB.out s.raw (s.list++[(a,(m:Int),d)]) (s.told+adv (a,(m:Int),d)) s.acc bs rv (.slice a6 (K+1) r) dv sp c _ _ HF.out ?_⟩
   unfold X32
   rw [←HQ.out.1,←HQ.out.2.1,T02,←HQ.out.2.2,Z5s]
   exact H6.out.third.drop.mid
end
def X02 (v:Value) (n:Nat) (xs:List Value) (u:Value) (m:Nat) (ys:List Value):A6 where
 res:=fun w F=>Own w 5 1 v n xs∧(Rd w 1 u m ys∧∀k,u.ownBlock=some k→F k)∧∀k,F k↔v.ownBlock=some k
 loc:=fun _ _ _ _ h hm hS=>⟨h.1.kept hm (fun k hk=>hS k ((h.2.2 k).2 hk)),⟨h.2.1.1.kept hm (fun k hk=>hS k (h.2.1.2 k hk)),h.2.1.2⟩,h.2.2⟩
theorem Rd.shrink {w:World} {size n cap c:Nat} {a:Option Addr} {xs:List Value} (h:Rd w size (.slice a n cap) n xs) (h1:n≤c) (h2:c≤cap):Rd w size (.slice a n c) n xs:=by
 obtain ⟨f,j,b,d,k,l,g,i⟩:=h
 simp only [Value.slice.injEq,true_and] at d
 obtain ⟨rfl,rfl⟩:=d
 exact ⟨f,a,c,rfl,h1,by omega,fun e=>by have:=g e;omega,i⟩
theorem Z99 (a:Option Addr) (k:Nat):(a.map fun (x:Addr)=>x.add (0*k))=a:=by
 cases a with
 | none=>rfl
 | some x=>simp [Addr.add]
theorem W7s {P:Program} {w:World} (t e:TypeId) (i:TypeInfo) (ht:P.underlying t=some (.slice e)) (hi:P.info? e=some i) (a:Option Addr) (len cap H:Nat) (h:H≤cap):
  (Instr.sliceAt t (.slice a len cap) none (some (.int .i64 (H:Int))) (some (.int .i64 (H:Int)))).run P w= .ok (.slice a H H) w:=by
 have b:P.elem t=e:=by simp [Program.elem,ht]
 have d:P.underlying t=some (.slice (P.elem t)):=by rw [b];exact ht
 have f:(sizeOf (P.elem t)).run P w= .ok i.size w:=by rw [b];simp [sizeOf,typeInfo,hi]
 rw [run_sliceAt_slice w t _ _ _ _ d,run_slice_hm w t a len cap d .i64 .i64 (H:Int) (H:Int) (by omega) (Int.le_refl _) (by omega),f]
 simp only [Result.andThen,sliced,T06,T05]
 rw [Z99,ite_self]
section
variable {w0 w:World} {Rs:List A6} {S:A6}
theorem A4.both {v u:Value} {n m:Nat} {xs ys:List Value} (h:A4 w0 w (X02 v n xs u m ys::Rs)):Own w 5 1 v n xs∧Rd w 1 u m ys:=by
 obtain ⟨F,a,_⟩:=h
 exact ⟨a.1,a.2.1.1⟩
theorem A4.bothOwn {v u:Value} {n m:Nat} {xs ys:List Value} (h:A4 w0 w (X02 v n xs u m ys::Rs)):A4 w0 w (B0 5 1 v n xs::Rs):=by
 obtain ⟨F,a,b,d⟩:=h
 exact ⟨F,⟨a.1,a.2.2⟩,b,d⟩
theorem A4.mkBoth {v v' u:Value} {n n' m:Nat} {xs xs' ys:List Value} (h:A4 w0 w (B0 5 1 v n xs::Rs)) (ho:Own w 5 1 v' n' xs') (hu:Rd w 1 u m ys) (e1:v'.ownBlock=v.ownBlock) (e2:u.ownBlock=v.ownBlock):A4 w0 w (X02 v' n' xs' u m ys::Rs):=by
 obtain ⟨F,a,b,d⟩:=h
 exact ⟨F,⟨ho,⟨hu,fun k hk=>(a.2 k).2 (e2 ▸ hk)⟩,fun k=>by rw [e1];exact a.2 k⟩,b,d⟩
theorem W9j {p:C4} {C:Z8y} {X:A6} {raw:List Nat} {list:List E3} {told:Nat} {bs:List Nat} {rv lv d:Value} {sp c:Nat} {packs:Bool} (H:A4 w0 w (X32 p C X raw list told bs rv lv d sp c packs Rs)) (ht:told≤raw.length) (hr:raw.length < 1000000000):
  Calls Tryz.prog 53 #[.pointer (some ⟨p.b,p.o,none⟩)] w fun e w'=>∃rv' u,e= .returned (.tuple #[lv,u])∧
   A4 w0 w' (Q0 p (C.V++Z6u rv' (.slice none 0 0) 0 d sp c packs)::X02 rv' (raw.drop told).length (D9 (raw.drop told)) u told (D9 (raw.take told))::B0 112 3 lv list.length (I6 list)::B0 5 1 d bs.length (D9 bs)::X::Rs):=by
 obtain ⟨i0,r,c0,z,c1⟩:=info_parts Y9w
 unfold X32 at H
 obtain ⟨L,s⟩:∃L,L=raw.length:=⟨_,rfl⟩
 rw [←s] at hr ht
 have n:=H.objp
 have q:=H.swap.own
 have hT:=H.third.own
 rw [←s] at q
 obtain ⟨g,l,rfl,t,a0⟩:=q.form
 obtain ⟨lo,lc,rfl,_,_⟩:=hT.form
 have a6:∀wg,(Instr.sliceAt 26 (.slice g L l) none (some (.int .i64 (told:Int))) (some (.int .i64 (told:Int)))).run Tryz.prog wg= .ok (.slice g told told) wg:=fun wg=>
  W7s (P:=Tryz.prog) 26 5 i0 Tryz.underlying26 r g L l told (by omega)
 have j:∀wg,(Instr.sliceAt 26 (.slice g L l) (some (.int .i64 (told:Int))) none none).run Tryz.prog wg= .ok (.slice (if l=told then g else g.map fun (x:Addr)=>x.add (told*1)) (L-told) (l-told)) wg:=fun wg=>
  O0 (P:=Tryz.prog) 26 5 i0 1 Tryz.underlying26 r z g L l told L (some (.int .i64 (told:Int))) none ⟨_,rfl⟩ rfl ht t
 have a:=q.cut (L:=told) (H:=L) ht (Nat.le_refl _)
 have f:=Z3u g told L l 1 L
 have k:=(q.rd.cut (L:=0) (H:=told) (Nat.zero_le _) ht)
 have e1:((D9 raw).drop (told*1)).take ((L-told)*1)=D9 (raw.drop told):=by
  rw [Nat.mul_one,Nat.mul_one,List.take_of_length_le (by rw [T07,E6,←s];omega)]
  simp only [D9,←List.map_drop]
 have e2:((D9 raw).drop (0*1)).take ((told-0)*1)=D9 (raw.take told):=by
  simp [D9,List.map_take]
 rw [e1] at a
 rw [e2] at k
 unfold sliced at a f k
 rw [Z99,ite_self,T05,T05] at k
 have m:=k.shrink (c:=told) (Nat.le_refl _) (by omega)
 generalize (if l=told then g else g.map fun (x:Addr)=>x.add (told*1))=ro2 at j a f
 generalize l-told=rc2 at j a f
 obtain ⟨K,hK⟩:∃K,K=L-told:=⟨_,rfl⟩
 rw [←hK] at j a f
 have HK:Hid ((raw.drop told).length=K):=A5 (by rw [T07];omega)
 have c9:=n.cell (i:=9) rfl
 have a8:=n.cell (i:=10) rfl
 have a9:=n.cell (i:=11) rfl
 have f9:=n.frozen 9
 have b0:=n.frozen 10
 have b1:=n.frozen 11
 have HO:=A5 a
 have HB:=A5 f
 have y:=A5 m
 have HH:=A5 H
 have HL:=A5 s
 have b5:(0:Int)≤(told:Int):=T03 _
 have b6:told < 1000000000:=by omega
 have b7:(told:Int)≤(L:Int):=by omega
 clear H n q hT a f k m e1 e2 hK s t a0
 go_enter Tryz.func53,Tryz.ntmps53
 go_wp2
 go_region
 all_goals
  go_wp2
  go_region
  all_goals
   go_wp2
   go_ret2
   have h1:=(HH.out.swap.mkBoth HO.out y.out HB.out (by cases g <;> rfl)).swap
   have h2:=((h1.drew.drew.setObjP 9 (.slice ro2 K rc2)).setObjP 10 (.slice none 0 0)).setObjP 11 (.int .i64 0)
   rw [HK.out]
   exact ⟨.slice ro2 K rc2,.slice g told told,rfl,h2⟩
def V2z (rv:Value) (rest:List Nat) (u:Value) (m:Nat) (part:List Nat) (lv:Value) (list:List E3):A6:=V0x (X02 rv rest.length (D9 rest) u m (D9 part)) (B0 112 3 lv list.length (I6 list))
theorem W2z (rv:Value) (rest:List Nat) (u:Value) (m:Nat) (part:List Nat) (lv:Value) (list:List E3):Z04 w0 (V2z rv rest u m part lv list) 1 u m (D9 part):=by
 rintro w F _ ⟨d,f,a,g,i,b⟩
 exact ⟨a.2.1.1,fun _ k hk=> .inr ((b k).2 (.inl (a.2.1.2 k hk)))⟩
theorem W8n (rv:Value) (rest:List Nat) (u:Value) (m:Nat) (part:List Nat) (lv:Value) (list:List E3):Z04 w0 (V2z rv rest u m part lv list) 3 lv list.length (I6 list):=by
 rintro w F _ ⟨d,f,g,a,i,b⟩
 exact ⟨a.1.rd,fun _ k hk=> .inr ((b k).2 (.inr ((a.2 k).2 hk)))⟩
theorem W21 {p:C4} {C:Z8y} {X:A6} {rest part acc:List Nat} {list:List E3} {m:Nat} {bs:List Nat} {rv lv u d:Value} {sp c:Nat} {packs:Bool} (hf:Z4b acc bs c sp)
  (h:A4 w0 w (Q0 p (C.V++Z6u rv (.slice none 0 0) 0 d sp c packs)::X02 rv rest.length (D9 rest) u m (D9 part)::B0 112 3 lv list.length (I6 list)::B0 5 1 d bs.length (D9 bs)::X::Rs)):
  A4 w0 w (wrT (W47 p C rv (.slice none 0 0) 0 packs) acc::V2z rv rest u m part lv list::X::Rs):=by
 have a:=h.perm (List.Perm.cons _ (T00 (l₁:=[_,_])))
 rw [←X3k] at a
 have b:=X3n hf a
 exact (b.perm (T00 (l₁:=[_,_])).symm).pair.swap
theorem W7u {f:U5} {p:C4} {C:Z8y} {X:A6} {rest part acc:List Nat} {list:List E3} {m:Nat} {rv lv u:Value} {packs:Bool} (back:X1w f p C X packs w0)
  (h:A4 w0 w (wrT (W47 p C rv (.slice none 0 0) 0 packs) acc::V2z rv rest u m part lv list::X::Rs)):A4 w0 w (Q8 ⟨f,rest,[],0,acc,packs⟩ p::Rs):=by
 have a:=(h.swap.unpair.bothOwn.swap.drop).swap
 refine Z9p back (told:=0) (list:=[]) (rv:=rv) (lv:= .slice none 0 0) ?_
 exact (a.nil 112 3).perm (T00 (l₁:=[_,_])).symm
theorem Y7l {s:O6 U5} {p:C4} (H:A4 w0 w (Q8 s p::Rs)) (hO:Z4p w0) (last:Bool) (ht:s.told≤s.raw.length) (hr:s.raw.length < 1000000000) (h16:s.told≤65535) (hb:O3 s.list) (hby:∀b∈s.raw,b < 256) (hl:s.list.length < 1000000000) (hacc:s.acc.length < 900000000):
  Calls Tryz.prog 32 #[.pointer (some ⟨p.b,p.o,none⟩),.bool last] w fun e w'=>e= .returned (.tuple #[])∧A4 w0 w' (Q8 (R0 (I0 D2) last s) p::Rs):=by
 obtain ⟨f,raw,a,told,g,q⟩:=s
 obtain ⟨C,X,bs,rv,lv,d,sp,c,hf,h1,m⟩:=Z26 H
 have t:=h1.third.own
 have x:=A5 (W9j h1 ht hr)
 obtain ⟨lo,lc,rfl,_,_⟩:=t.form
 have HF:=A5 hf
 have HB:=A5 m
 have r:=A5 (And.intro hb (And.intro hby (And.intro h16 (And.intro ht hl))))
 have hacc:g.length < 900000000:=hacc
 have HA:=A5 hacc
 simp only at x HF HB r
 clear H h1 t hf m hb hby h16 ht hl hr hacc
 cases q with
 | true=>
  go_enter Tryz.func32,Tryz.ntmps32
  go_wp2_with fail
  with_reducible refine x.out.mono ?_
  rintro e w1 ⟨a7,u,rfl,j⟩
  have n:=j.objp.cell (i:=15) rfl
  have y:=j.swap.both.2
  obtain ⟨uo,uc,rfl,_,_⟩:=y.form
  have z:=W21 HF.out j
  have HW:Hid (Calls Tryz.prog 54 #[.pointer (some ⟨p.b,p.o+12,none⟩),.slice lo a.length lc,.slice uo told uc,.bool last] w1 fun e w'=>∃k:Int,e= .returned (.int .i64 k)∧A4 w0 w' (Q8 (R0 (I0 D2) last ⟨f,raw,a,told,g,true⟩) p::Rs)):=
   A5 ((V08 a (raw.take told) g last (.slice lo a.length lc) (.slice uo told uc) a.length told _ _ hO z (W8n _ _ _ _ _ _ _) (W2z _ _ _ _ _ _ _) r.out.1 (fun b hb=>r.out.2.1 b (T08 hb)) r.out.2.2.2.2 HA.out).mono fun e w' ⟨l,h5⟩=>⟨_,l,by
    have h6:=W7u HB.out h5
    have e1:(if (Z7d (I0 D2) a (raw.take told)).1 < 0 then g else g++Q7 (I0 D2) (Z7d (I0 D2) a (raw.take told)).1.toNat a (raw.take told) last g.length)=g++Z31 (I0 D2) true a (raw.take told) last g.length:=by
     unfold Z31
     rw [if_pos rfl]
     split
     ·rw [T04]
     rfl
    rw [e1] at h6
    exact h6⟩)
  clear j z y x
  go_wp2_with fail
  with_reducible refine HW.out.mono ?_
  rintro e w2 ⟨k,rfl,l⟩
  have H4:=A5 l
  clear l HW n
  go_wp2
  refine bodyPost_ret (results_none rfl _ _ _) rfl ?_
  exact ⟨rfl,H4.out⟩
 | false=>
  go_enter Tryz.func32,Tryz.ntmps32
  go_wp2_with fail
  with_reducible refine x.out.mono ?_
  rintro e w1 ⟨a7,u,rfl,j⟩
  have n:=j.objp.cell (i:=15) rfl
  have y:=j.swap.both.2
  obtain ⟨uo,uc,rfl,_,_⟩:=y.form
  have z:=W21 HF.out j
  have HW:Hid (Calls Tryz.prog 55 #[.pointer (some ⟨p.b,p.o+12,none⟩),.int .i64 0,.slice none 0 0,.slice uo told uc,.bool last] w1 fun e w'=>e= .returned (.bool true)∧A4 w0 w' (Q8 (R0 (I0 D2) last ⟨f,raw,a,told,g,false⟩) p::Rs)):=
   A5 ((W55 0 [] (raw.take told) g last (.slice none 0 0) (.slice uo told uc) 0 told _ _ hO z (fun wz F _ _=>⟨Rd.nil wz 3,fun h=>by omega⟩) (W2z _ _ _ _ _ _ _) (fun _ h=>by cases h) (fun b hb=>r.out.2.1 b (T08 hb)) (by decide) HA.out (.inl ⟨rfl,by rw [List.length_take];have:=r.out.2.2.1;omega⟩)).mono fun e w' ⟨l,h5⟩=>⟨l,W7u HB.out h5⟩)
  clear j z y x
  go_wp2_with fail
  with_reducible refine HW.out.mono ?_
  rintro e w2 ⟨rfl,l⟩
  have H4:=A5 l
  clear l HW n
  go_wp2
  go_end0
  exact ⟨rfl,H4.out⟩
end
end Go.Proofs.YtbkbkmgogbgofaaGreatDoor
