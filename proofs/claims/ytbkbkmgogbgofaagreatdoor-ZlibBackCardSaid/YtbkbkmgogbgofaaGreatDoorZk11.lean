/- The claim's texts, put together and shortened by a program (names, spaces). -/
import Derived.Test.YtbkbkmgogbgofaaGreatDoorZk03
import Derived.Test.YtbkbkmgogbgofaaGreatDoorZk04
import Derived.StillTailTactics
import Derived.Lib.SlBytesConst
import Derived.Laws.BytesArg
import Derived.Test.YtbkbkmgogbgofaaGreatDoorZk08
import Derived.WalkSpells
import Derived.Deep.DeepCutAuto
import Derived.Test.YtbkbkmgogbgofaaGreatDoorZk02
import Derived.Test.YtbkbkmgogbgofaaGreatDoorZk07
import Derived.Test.YtbkbkmgogbgofaaGreatDoorZk10
import Derived.Handy
open List renaming length_append→T01,length_drop→T03,append_assoc→T04,getElem?_append_right→T05,take_of_length_le→T07,map_drop→T08,length_cons→T09,length_nil→T0a,drop_append→T0b,set_append_right→T0c,perm_middle→T0d
open Nat renaming mul_one→T02,le_refl→T06
open Int renaming natCast_nonneg→T00
namespace Go.Proofs.YtbkbkmgogbgofaaGreatDoor
set_option maxRecDepth 100000
set_option maxHeartbeats 6400000
open Go.RowKit
section
variable {w0 w:World} {Rs:List A6}
end
def U8 (S:Nat) (l:List Nat):List Nat:=l.drop (l.length-S)
theorem W5 (S:Nat) (l:List Nat):(U8 S l).length=min l.length S:=by rw [U8,T03];omega
theorem Z4v (S:Nat) (l:List Nat) (h:l.length≤S):U8 S l=l:=by rw [U8,Nat.sub_eq_zero_of_le h,List.drop_zero]
theorem Z3p (S:Nat) (p l:List Nat) (h:S≤l.length):U8 S (p++l)=U8 S l:=by
 have e:p.length+l.length-S=p.length+(l.length-S):=by omega
 rw [U8,T01,e,T0b,U8]
 simp
theorem Z7r (S:Nat) (l:List Nat):l.take (l.length-S)++U8 S l=l:=List.take_append_drop _ _
theorem W56 (S:Nat) (l m:List Nat):U8 S (U8 S l++U8 S m)=U8 S (l++m):=by
 have b:=W5 S l
 have d:=W5 S m
 by_cases h:S≤m.length
 ·rw [Z3p S l m h,Z3p S _ _ (by omega)]
  exact Z4v S _ (by omega)
 rw [Z4v S m (by omega)]
 by_cases a:l.length≤S
 ·rw [Z4v S l a]
 have e:l++m=l.take (l.length-S)++(U8 S l++m):=by rw [←T04,Z7r]
 rw [e,Z3p S _ (U8 S l++m) (by rw [T01];omega)]
theorem X3g (p l:List Nat) (d:Nat) (h:d≤l.length):∀n,ext (p++l) d n=p++ext l d n
 | 0=>rfl
 | n+1=>by
  have e:p.length+l.length+n-d=p.length+(l.length+n-d):=by omega
  rw [ext,ext,X3g p l d h n,T04,T01,e,T05 (by omega),Nat.add_sub_cancel_left]
theorem V3a (p l:List Nat) (d n:Nat) (h:d≤l.length):out (p++l) d n=out l d n:=by
 rw [out,out,X3g p l d h n,T01,T0b]
 simp
theorem W5j (S:Nat) (l:List Nat) (d n:Nat) (h:d≤(U8 S l).length):U8 S (ext (U8 S l) d n)=U8 S (ext l d n):=by
 by_cases a:l.length≤S
 ·rw [Z4v S l a]
 have b:=W5 S l
 have e:ext l d n=l.take (l.length-S)++ext (U8 S l) d n:=by rw [←X3g _ _ _ h,Z7r]
 rw [e,Z3p S _ (ext (U8 S l) d n) (by rw [G3];omega)]
theorem W35 (S:Nat) (l:List Nat) (d n:Nat) (h:d≤(U8 S l).length):out (U8 S l) d n=out l d n:=by
 have e:=V3a (l.take (l.length-S)) (U8 S l) d n h
 rw [Z7r] at e
 exact e.symm
theorem W0p (S:Nat) (l:List Nat) (n:Nat) (h1:n≤l.length) (h2:n≤S):(U8 S l).drop ((U8 S l).length-n)=l.drop (l.length-n):=by
 have e:l.length-S+(l.length- (l.length-S)-n)=l.length-n:=by omega
 rw [U8,T03,List.drop_drop,e]
theorem W9r (l:List Nat) (d n:Nat):(ext l d n).drop ((ext l d n).length-n)=out l d n:=by
 rw [G3,Nat.add_sub_cancel,out]
theorem Z3y:(Tryz.prog.info? 5).map (fun i=>(i.zero,i.size,i.bytes))=some (some (.int .u8 0),1,1):=by kernel_rfl
def L7 (l:List Nat):List Nat:=U8 32768 l
def Y2v (l:List Nat) (B:C4):A6:=exT fun v:Value=>V0x (Q0 B [v]) (B0 5 1 v l.length (D9 l))
def Z8x (all:List Nat) (B:C4):A6:=Y2v (L7 all) B
section
variable {w0 w:World} {Rs:List A6}
theorem W1c {l:List Nat} {B:C4} {n:Nat} {v:Value} (hn:n=l.length) (h:A4 w0 w (Q0 B [v]::B0 5 1 v n (D9 l)::Rs)):A4 w0 w (Y2v l B::Rs):=by
 subst hn
 exact A4.mk v h.pair
theorem X06 {l:List Nat} {B:C4} (h:A4 w0 w (Y2v l B::Rs)):∃v,A4 w0 w (Q0 B [v]::B0 5 1 v l.length (D9 l)::Rs):=by
 obtain ⟨v,a⟩:=h.ex
 exact ⟨v,a.unpair⟩
theorem Y48 (n:Nat) (hn:n < 2000000000) (w:World):
  Calls Tryz.prog 192 #[.int .i64 (n:Int)] w fun e w'=>e= .returned (.int .i64 ((n-32768:Nat):Int))∧w'=w:=by
 have g:(0:Int)≤(n:Int):=T00 _
 rcases Nat.lt_or_ge 32768 n with h | h
 ·have a:(n:Int)-32768=((n-32768:Nat):Int):=by omega
  obtain ⟨m,d⟩:∃m,m=n-32768:=⟨_,rfl⟩
  rw [←d] at a⊢
  have i:(0:Int)≤(m:Int):=T00 _
  have j:(0:Int) < (m:Int):=by omega
  clear d h
  go_enter Tryz.func192,Tryz.ntmps192
  go_wp2
  go_ret
  exact ⟨rfl,rfl⟩
 obtain ⟨x,f⟩:∃x:Int,x=(n:Int)-32768:=⟨_,rfl⟩
 have a:(n:Int)-32768=x:=f.symm
 have k:n-32768=0:=by omega
 have l: -9223372036854775808≤x:=by omega
 have o:x≤9223372036854775807:=by omega
 have b:x < 0∨x=0:=by omega
 rw [k]
 clear f h
 rcases b with b | rfl
 all_goals
  go_enter Tryz.func192,Tryz.ntmps192
  go_wp2
  go_ret
  exact ⟨rfl,rfl⟩
theorem X29 (l:List Nat) (B:C4) (n:Nat) (h:A4 w0 w (Y2v l B::Rs)) (hn:n=l.length):
  Calls Tryz.prog 177 #[.pointer (some ⟨B.b,B.o,none⟩)] w fun e w'=>e= .returned (.int .i64 (n:Int))∧w=w':=by
 subst hn
 obtain ⟨v,a⟩:=X06 h
 have d:=a.objp
 obtain ⟨i,f,rfl,_,_⟩:=a.swap.own.form
 have g:=d.cell0 rfl
 clear h a d
 go_enter Tryz.func177,Tryz.ntmps177
 go_wp2
 go_ret
 exact ⟨rfl,rfl⟩
theorem X89 (v:Value) (n:Nat) (l:List Nat) (h:A4 w0 w Rs) (hv:Rd w 1 v n (D9 l)) (hn:n≤1000000000):
  Calls Tryz.prog 122 #[v] w fun e w'=>∃v',e= .returned v'∧A4 w0 w' (B0 5 1 v' n (D9 l)::Rs):=by
 obtain ⟨i0,d,f,g,i⟩:=info_parts Z3y
 have s:∀ (w:World) (a:Option Addr) (n c n' c':Nat),(binOp .eql 26 (.slice a n c) (.slice none n' c')).run Tryz.prog w= .ok (.bool a.isNone) w:=fun w a n c n' c'=>Lib.run_eql_slice_nil w _ _ a n c n' c' Tryz.underlying26
 obtain ⟨j,ao,k,rfl,m,o,b,p⟩:=hv
 cases ao with
 | none=>
  obtain rfl:=b rfl
  obtain rfl:n=0:=by omega
  have t:D9 l=[]:=List.eq_nil_of_length_eq_zero (by omega)
  rw [t]
  have x:=A5 (h.nil 5 1)
  clear h j b p
  go_enter Tryz.func122,Tryz.ntmps122
  go_wp2
  go_ret
  exact ⟨_,rfl,x.out⟩
 | some a=>
  have hv:Rd w 1 (.slice (some a) n k) n (D9 l):=⟨j,_,_,rfl,m,o,b,p⟩
  have y:=A5 (h.lit 5 1 [] 0 (by decide) rfl)
  have z:=A5 (hv.kept ((E5.refl w (fun _=>False)).alloc (.cells #[] 5)) (fun _ _ h=>h))
  clear h j b p hv
  go_enter Tryz.func122,Tryz.ntmps122
  go_wp2_with (refine D6 rfl (.tmp 5) (.tmp 6) 26 rfl 5 i0 (.int .u8 0) 1 1 Tryz.underlying26 d f g i rfl (by decide) _ 0 [] rfl y.out _ n (D9 l) rfl z.out (T0 l) n (by omega) (by unfold maxLen;omega) (by omega) ?_;intro a1 q w1 r;have H2:=A5 r;clear r)
  go_ret
  exact ⟨_,rfl,H2.out⟩
theorem X18 (l:List Nat) (B:C4) (h:A4 w0 w (Y2v l B::Rs)) (hl:l.length < 2000000000):
  Calls Tryz.prog 193 #[.pointer (some ⟨B.b,B.o,none⟩)] w fun e w'=>e= .returned (.tuple #[])∧A4 w0 w' (Y2v (L7 l) B::Rs):=by
 obtain ⟨i,hi,a2,r,a3⟩:=info_parts Z3y
 obtain ⟨v,f⟩:=X06 h
 obtain ⟨n,m⟩:∃n,n=l.length:=⟨_,rfl⟩
 rw [←m] at f hl
 obtain ⟨d,a,rfl,s,a4⟩:=f.swap.own.form
 obtain ⟨q,t⟩:∃q,q=n-32768:=⟨_,rfl⟩
 have y:=A5 (fun w=>Y48 n hl w)
 rw [←t] at y
 have p:=f.objp
 have c0:=p.cell0 rfl
 have f0:=p.frozen0
 have g:q≤n:=by omega
 have j:∀wg,(Instr.sliceAt 26 (.slice d n a) (some (.int .i64 (q:Int))) none none).run Tryz.prog wg= .ok (.slice (if a=q then d else d.map fun (x:Addr)=>x.add (q*1)) (n-q) (a-q)) wg:=fun wg=>
  O0 (P:=Tryz.prog) 26 5 i 1 Tryz.underlying26 hi r d n a q n (some (.int .i64 (q:Int))) none ⟨_,rfl⟩ rfl g s
 have k:=A5 (f.swap.recut (f.swap.own.cut g (T06 _)) (Z3u d q n a 1 n)).swap
 unfold sliced at k
 generalize (if a=q then d else d.map fun (x:Addr)=>x.add (q*1))=a' at j k
 have z:Hid (((D9 l).drop (q*1)).take ((n-q)*1)=D9 (L7 l)∧n-q=(L7 l).length):=by
  have hk:=W5 32768 l
  refine A5 ⟨?_,by rw [L7,hk,←m];omega⟩
  rw [T02,T02,T07 (by rw [T03,E6];omega),L7,U8,←m,←t]
  simp [D9,T08]
 rw [z.out.1] at k
 clear h f p t m
 go_enter Tryz.func193,Tryz.ntmps193
 go_wp2
 go_still_tail 14,(by kernel_rfl)
 still_call (y.out _)
 repeat still_step
 refine wpStill_nil ?_
 change wpList _ _ _ _ _ w.drew
 go_wp2
 go_end0
 exact ⟨rfl,W1c z.out.2 (k.out.drew.setObjP0 _)⟩
theorem V0t (l:List Nat) (B:C4) (k:Nat) (a:Int) (h:A4 w0 w (Y2v l B::Rs)) (hl:l.length < 1000000000) (hk:1≤k) (hkl:k≤l.length) (ha:a=(k:Int)∨((k:Int)≤a∧k=l.length)):
  Calls Tryz.prog 195 #[.pointer (some ⟨B.b,B.o,none⟩),.int .i64 a] w fun e w'=>∃v,e= .returned v∧A4 w0 w' (B0 5 1 v k (D9 (l.drop (l.length-k)))::Y2v l B::Rs):=by
 obtain ⟨i,hi,b7,a0,b8⟩:=info_parts Z3y
 obtain ⟨n,t⟩:∃n,n=l.length:=⟨_,rfl⟩
 rw [←t] at hl ha hkl⊢
 obtain ⟨p,hp⟩:∃p,p=n-k:=⟨_,rfl⟩
 rw [←hp]
 have q:p≤n:=by omega
 have HL:=A5 (X29 l B n h t)
 have HW:=A5 h
 obtain ⟨v,s⟩:=X06 h
 rw [←t] at s
 obtain ⟨m,f,rfl,a1,b9⟩:=s.swap.own.form
 have hb:=s.objp
 have c0:=hb.cell0 rfl
 have g:∀wg,(Instr.sliceAt 26 (.slice m n f) (some (.int .i64 (p:Int))) none none).run Tryz.prog wg= .ok (.slice (if f=p then m else m.map fun (x:Addr)=>x.add (p*1)) (n-p) (f-p)) wg:=fun wg=>
  O0 (P:=Tryz.prog) 26 5 i 1 Tryz.underlying26 hi a0 m n f p n (some (.int .i64 (p:Int))) none ⟨_,rfl⟩ rfl q a1
 have d:=(s.swap.own.rd.cut (L:=p) (H:=n) q (T06 _)).drew
 unfold sliced at d
 generalize (if f=p then m else m.map fun (x:Addr)=>x.add (p*1))=a' at g d
 have y:n-p=k:=by omega
 have e2:((D9 l).drop (p*1)).take ((n-p)*1)=D9 (l.drop p):=by
  rw [T02,T02,T07 (by rw [T03,E6];omega)]
  simp [D9,T08]
 rw [e2,y] at d
 rw [y] at g
 have j:=A5 (X89 _ k (l.drop p) h.drew d (by omega))
 have a7:(0:Int)≤(n:Int):=T00 _
 have a8:(0:Int)≤(k:Int):=T00 _
 have a9:¬(k:Int) < 1:=by omega
 have b0:(k:Int)≤(n:Int):=by omega
 have b1:(n:Int)- (k:Int)=(p:Int):=by omega
 have b2:IntKind.i64.wrap (p:Int)=(p:Int):=IntWalk.i64_in _ (by omega)
 have hc:a=(k:Int)∨((n:Int) < a∧n=k):=by omega
 clear h s hb d y e2 hp t ha
 rcases hc with rfl | ⟨hc,hnk⟩
 ·go_enter Tryz.func195,Tryz.ntmps195
  go_wp2_with fail
  refine HL.out.mono ?_
  rintro e w1 ⟨rfl,rfl⟩
  go_wp2
  go_still_tail 12,(by kernel_rfl)
  change wpList _ _ _ _ _ w.drew
  generalize w.drew=w2 at j⊢
  go_wp2_with fail
  refine j.out.mono ?_
  rintro e w3 ⟨v',rfl,r⟩
  have z:=A5 r
  clear r j
  go_wp2
  go_ret
  exact ⟨_,rfl,z.out⟩
 subst hnk
 go_enter Tryz.func195,Tryz.ntmps195
 go_wp2_with fail
 refine HL.out.mono ?_
 rintro e w1 ⟨rfl,rfl⟩
 go_wp2
 go_still_tail 12,(by kernel_rfl)
 change wpList _ _ _ _ _ w.drew
 generalize w.drew=w2 at j⊢
 go_wp2_with fail
 refine j.out.mono ?_
 rintro e w3 ⟨v',rfl,r⟩
 have z:=A5 r
 clear r j
 go_wp2
 go_ret
 exact ⟨_,rfl,z.out⟩
theorem V2f (l bs:List Nat) (B:C4) (v:Value) (m:Nat) (h:A4 w0 w (Y2v l B::Rs)) (hl:l.length < 40000) (hv:Rd w 1 v m (D9 bs)) (hm:m < 2000000000):
  Calls Tryz.prog 172 #[.pointer (some ⟨B.b,B.o,none⟩),v] w fun e w'=>e= .returned (.tuple #[])∧A4 w0 w' (Y2v (L7 (l++L7 bs)) B::Rs):=by
 obtain ⟨i,hi,a8,a2,a9⟩:=info_parts Z3y
 have t:m=bs.length:=by have:=hv.1;rw [E6] at this;omega
 obtain ⟨r,a,rfl,b0,c9⟩:=hv.form
 obtain ⟨n,hn⟩:∃n,n=l.length:=⟨_,rfl⟩
 obtain ⟨q,hq⟩:∃q,q=m-32768:=⟨_,rfl⟩
 have y:q≤m:=by omega
 have HO:=A5 (fun w=>Y48 m hm w)
 rw [←hq] at HO
 obtain ⟨v,s⟩:=X06 h
 rw [←hn] at s hl
 obtain ⟨ao,b2,rfl,d1,d2⟩:=s.swap.own.form
 have hb:=s.objp
 have HB:=A5 hb
 have HA:=A5 s.apartP
 have c0:=hb.cell0 rfl
 have j:∀wg,(Instr.sliceAt 26 (.slice r m a) (some (.int .i64 (q:Int))) none none).run Tryz.prog wg= .ok (.slice (if a=q then r else r.map fun (x:Addr)=>x.add (q*1)) (m-q) (a-q)) wg:=fun wg=>
  O0 (P:=Tryz.prog) 26 5 i 1 Tryz.underlying26 hi a2 r m a q m (some (.int .i64 (q:Int))) none ⟨_,rfl⟩ rfl y b0
 have f:=(hv.cut (L:=q) (H:=m) y (T06 _)).drew
 unfold sliced at f
 generalize (if a=q then r else r.map fun (x:Addr)=>x.add (q*1))=a' at j f
 obtain ⟨k,hk⟩:∃k,k=m-q:=⟨_,rfl⟩
 have e2:((D9 bs).drop (q*1)).take ((m-q)*1)=D9 (L7 bs):=by
  rw [T02,T02,T07 (by rw [T03,E6];omega),L7,U8,←t,←hq]
  simp [D9,T08]
 rw [e2,←hk] at f
 rw [←hk] at j
 have c4:k≤32768:=by omega
 have z:k=(L7 bs).length:=by rw [L7,W5];omega
 have HR:=A5 f
 have HN:=A5 (And.intro hn z)
 have H3:=A5 s.swap
 clear h s hb hv f e2 hq hk z hn t
 go_enter Tryz.func172,Tryz.ntmps172
 go_wp2
 go_region_law ((first
  | (refine Z3e _ (by rfl) (.tmp 10) (.tmp 15) 26 (by rfl) 5 i (.int .u8 0) 1 1 Tryz.underlying26 hi a8 a2 a9 (by rfl) (by decide) (.slice ao n b2) n (D9 l) (by rfl) (by exact H3.out.own.drew) (.slice a' k (a-q)) k (D9 (L7 bs)) (by rfl) (by exact HR.out) (T0 _) (by unfold maxLen;omega) (by omega) ?_;intro a7 a0 w2 g d a1;have p:=A5 (HB.out.drew.grown d HA.out);have f1:=p.out.frozen0;have c1:=p.out.cell0 rfl)
  | (go_simp;go_at_call 192;refine (HO.out _).mono ?_;rintro e w1 ⟨rfl,rfl⟩)))
 all_goals
  have h5:=(H3.out.drew.app g d a1).swap.setObjP0 (.slice a7 (n+k) a0)
  rw [←J8] at h5
  have HS:=A5 (X18 (l++L7 bs) B (W1c (by rw [T01,←HN.out.1,←HN.out.2]) h5) (by rw [T01,←HN.out.1,←HN.out.2];omega))
  clear h5 g d a1 f1 c1 p
  go_wp2_with fail
  refine HS.out.mono ?_
  rintro e w6 ⟨rfl,hh⟩
  have HE:=A5 hh
  clear hh HS
  go_wp2
  go_end0
  exact ⟨rfl,HE.out⟩
theorem V0b (l:List Nat) (B:C4) (n d:Nat) (h:A4 w0 w (Y2v l B::Rs)) (hl:l.length≤32768) (hn1:1≤n) (hn2:n≤258) (hd1:1≤d) (hd2:d≤l.length):
  Calls Tryz.prog 178 #[.pointer (some ⟨B.b,B.o,none⟩),.int .i64 (n:Int),.int .i64 (d:Int)] w fun e w'=>∃v,e= .returned (.tuple #[v,.int .i64 0])∧A4 w0 w' (B0 5 1 v n (D9 (out l d n))::Y2v (L7 (ext l d n)) B::Rs):=by
 obtain ⟨i,hi,b6,b7,b8⟩:=info_parts Z3y
 obtain ⟨L,hL⟩:∃L,L=l.length:=⟨_,rfl⟩
 have a9:=A5 (X29 l B L h hL)
 have HW:=A5 h
 have z:=A5 hL
 rw [←hL] at hl hd2
 have c7:¬(n:Int) < 1:=by omega
 have c8:¬(258:Int) < (n:Int):=by omega
 have c9:¬(d:Int) < 1:=by omega
 have d0:¬(L:Int) < (d:Int):=by omega
 have d1:¬L < d:=by omega
 have d2:(0:Int)≤(n:Int):=T00 _
 have d3:(0:Int)≤(d:Int):=T00 _
 clear h hL
 go_enter Tryz.func178,Tryz.ntmps178
 go_wp2_with fail
 refine a9.out.mono ?_
 rintro e w1 ⟨rfl,rfl⟩
 go_wp2
 go_loopg [27] (n+2) (fun k t27 wr=>∃j:Nat,j≤n∧n-j < k∧t27= .int .i64 (j:Int)∧Hid (A4 w0 wr (Y2v (ext l d j) B::Rs)))
 case atStart=>exact ⟨0,by omega,by omega,rfl,HW⟩
 case round=>
  obtain ⟨j,hj,hk,rfl,HR⟩:=hrel
  have d4:(0:Int)≤(j:Int):=T00 _
  by_cases f3:j < n
  rotate_left
  ·obtain rfl:n=j:=by omega
   have b0:¬(n:Int) < (n:Int):=by omega
   have HS:=A5 (X18 (ext l d n) B HR.out (by rw [G3,←z.out];omega))
   clear HR
   go_wp2_with fail
   refine HS.out.mono ?_
   rintro e w2 ⟨rfl,hh⟩
   have b3:(L7 (ext l d n)).length=min (L+n) 32768:=by rw [L7,W5,G3,←z.out]
   have a1:(L7 (ext l d n)).drop ((L7 (ext l d n)).length-n)=out l d n:=by
    rw [L7,W0p 32768 _ n (by rw [G3];omega) (by omega),W9r]
   have HT:=V0t (L7 (ext l d n)) B n (n:Int) hh (by omega) hn1 (by omega) (.inl rfl)
   rw [a1] at HT
   have HT:=A5 HT
   clear hh HS b3 a1
   go_wp2_with fail
   refine HT.out.mono ?_
   rintro e w3 ⟨v',rfl,hh⟩
   have HE:=A5 hh
   clear hh HT
   go_wp2
   go_ret2
   exact ⟨_,rfl,HE.out⟩
  have b0:(j:Int) < (n:Int):=by omega
  obtain ⟨v,t⟩:=X06 HR.out
  obtain ⟨m,hm⟩:∃m,m=L+j:=⟨_,rfl⟩
  have r:(ext l d j).length=m:=by rw [G3,←z.out,hm]
  rw [r] at t
  obtain ⟨ao,a6,rfl,f7,f8⟩:=t.swap.own.form
  have y:=t.objp
  have HB:=A5 y
  have HA:=A5 t.apartP
  have H3:=A5 t.swap
  have c0:=y.cell0 rfl
  have f0:=y.frozen0
  have fa:∀o,(wr.alloc o).frozen? ⟨B.b,B.o,none⟩=false:=fun o=>(y.alloc o).frozen0
  have d7:∀o,(wr.alloc o).cell? ⟨B.b,B.o,none⟩=some (.slice ao m a6):=fun o=>(y.alloc o).cell0 rfl
  obtain ⟨p,hp⟩:∃p,p=m-d:=⟨_,rfl⟩
  obtain ⟨x,hx⟩:∃x,(ext l d j)[p]?=some x:=⟨(ext l d j)[p]'(by omega),List.getElem?_eq_getElem _⟩
  have a0:D9 (ext l d j)++D9 [x]=D9 (ext l d (j+1)):=by
   rw [←J8,ext,←z.out,show L+j-d=p by omega,hx];rfl
  obtain ⟨g,a7,rfl,q,_,_⟩:=t.swap.own.site (by omega)
  have e1:=q p (.int .u8 (x:Int)) (by rw [Z3,hx];rfl)
  have e2:∀o,(wr.alloc o).cell? ⟨g,a7+p,none⟩=some (.int .u8 (x:Int)):=fun o=>(E5.cell ((E5.refl wr (fun _=>False)).alloc o) (World.block_lt_of_cell? wr _ e1) (fun h=>h)).trans e1
  have d8:(m:Int)- (d:Int)=(p:Int):=by omega
  have d9:(0:Int)≤(p:Int):=T00 _
  have e0:(0:Int)≤(m:Int):=T00 _
  have e3:(p:Int) < (m:Int):=by omega
  have e4:IntKind.i64.wrap (p:Int)=(p:Int):=IntWalk.i64_in _ (by omega)
  have e5:m≤40000:=by omega
  have b1:=A5 a0
  have HM:=A5 (And.intro hm r)
  clear t y q hx a0 hp hm r
  go_wp2
  go_region_law
   ((refine Z3e _ (by rfl) (.tmp 33) (.tmp 47) 26 (by rfl) 5 i (.int .u8 0) 1 1 Tryz.underlying26 hi b6 b7 b8 (by rfl) (by decide) (.slice (some ⟨g,a7,none⟩) m a6) m (D9 (ext l d j)) (by rfl) (by exact (H3.out.own.alloc _).drew) (.slice (some ⟨wr.heap.size,0,none⟩) 1 1) 1 (D9 [x]) (by rfl) (by exact (Rd.lit _ [_] _ 1 1 (by decide) rfl).drew) (T0 _) (by unfold maxLen;omega) (by omega) ?_;intro b5 a3 w2 f a a4;have s:=A5 ((HB.out.alloc _).drew.grown a HA.out);have f1:=s.out.frozen0;have c1:=s.out.cell0 rfl))
  all_goals
   have h5:=((H3.out.alloc (.cells #[.int .u8 (x:Int)] 5)).drew.app f a a4).swap.setObjP0 (.slice b5 (m+1) a3)
   rw [b1.out] at h5
   have H6:=A5 (W1c (l:=ext l d (j+1)) (by rw [G3,←z.out,HM.out.1];omega) h5)
   clear h5 f a a4 f1 c1 s
   go_wp2
   go_roundg (gk-1)
   case measure=>omega
   case rel=>exact ⟨j+1,by omega,by omega,by go_num,H6⟩
theorem W23 (l:List Nat):(L7 l).length≤32768:=by rw [L7,W5];omega
theorem X5l (l:List Nat):(L7 l).length=min l.length 32768:=W5 _ _
theorem V44 (all bs:List Nat) (B:C4) (v:Value) (n:Nat) (h:A4 w0 w (Z8x all B::Rs)) (hv:Rd w 1 v n (D9 bs)) (hn:n < 2000000000):
  Calls Tryz.prog 172 #[.pointer (some ⟨B.b,B.o,none⟩),v] w fun e w'=>e= .returned (.tuple #[])∧A4 w0 w' (Z8x (all++bs) B::Rs):=by
 have a:=V2f (L7 all) bs B v n h (by have:=W23 all;omega) hv hn
 have e:L7 (L7 all++L7 bs)=L7 (all++bs):=W56 _ _ _
 rw [e] at a
 exact a
theorem W8w (all:List Nat) (B:C4) (n d:Nat) (h:A4 w0 w (Z8x all B::Rs)) (hn1:1≤n) (hn2:n≤258) (hd1:1≤d) (hd2:d≤all.length) (hd3:d≤32768):
  Calls Tryz.prog 178 #[.pointer (some ⟨B.b,B.o,none⟩),.int .i64 (n:Int),.int .i64 (d:Int)] w fun e w'=>∃v,e= .returned (.tuple #[v,.int .i64 0])∧A4 w0 w' (B0 5 1 v n (D9 (out all d n))::Z8x (ext all d n) B::Rs):=by
 have a:d≤(L7 all).length:=by rw [X5l];omega
 have f:=V0b (L7 all) B n d h (W23 all) hn1 hn2 hd1 a
 have g:L7 (ext (L7 all) d n)=L7 (ext all d n):=W5j _ _ _ _ a
 have i:out (L7 all) d n=out all d n:=W35 _ _ _ _ a
 rw [g,i] at f
 exact f
theorem V2g (all:List Nat) (B:C4) (m:Nat) (h:A4 w0 w (Z8x all B::Rs)) (hm:m=min all.length 32768):
  Calls Tryz.prog 177 #[.pointer (some ⟨B.b,B.o,none⟩)] w fun e w'=>e= .returned (.int .i64 (m:Int))∧w=w':=
 X29 (L7 all) B m h (by rw [X5l,hm])
end
def Z04 (w0:World) (S:A6) (size:Nat) (v:Value) (n:Nat) (xs:List Value):Prop:=
 ∀w F,E5 w0 w (fun _=>False)→S.res w F→Rd w size v n xs∧(0 < n→∀k,v.ownBlock=some k→k < w0.heap.size∨F k)
section
variable {w0 w:World} {S:A6} {size:Nat} {v:Value} {n:Nat} {xs:List Value} {Rs:List A6}
theorem Z04.old (h:Rd w0 size v n xs) (hs:0 < size):Z04 w0 S size v n xs:=fun _ _ hm _=>⟨h.kept hm (fun _ _ h=>h),fun hn k hk=> .inl (h.lt hs hn k hk)⟩
theorem Z04.rd (h:Z04 w0 S size v n xs) (hh:A4 w0 w (S::Rs)):Rd w size v n xs:=by
 obtain ⟨F,a,_⟩:=id hh
 exact (h w F hh.mod a).1
def V7o:A6 where
 res:=fun _ F=>∀k,¬F k
 loc:=fun _ _ _ _ h _ _=>h
theorem A4.addNon (h:A4 w0 w Rs):A4 w0 w (V7o::Rs):=h.push _ (fun _=>False) (fun _ h=>h) (E5.refl w _) (fun _ h=>h.elim)
theorem A4.take2 {R:A6} (h:A4 w0 w (R::S::Rs)):∃F F2:Nat→Prop,R.res w F∧S.res w F2∧(∀k,F2 k→¬F k)∧(∀k,F k→w0.heap.size≤k∧k < w.heap.size)∧
  ∀ (w':World) (R':A6) (F':Nat→Prop),R'.res w' F'→E5 w w' F→(∀k,F' k→F k∨w.heap.size≤k)→(∀k,F' k→k < w'.heap.size)→A4 w0 w' (R'::S::Rs):=by
 obtain ⟨F,f,a,d⟩:=h
 obtain ⟨F2,b,g,i⟩:=id d
 refine ⟨F,F2,f,b,fun k hk hf=>(g k hk).2.2 (.inr hf),fun k hk=>⟨(a k hk).1,(a k hk).2.1⟩,fun w' R' F' hR hm hF hlt=>⟨F',hR,fun k hk=>⟨?_,hlt k hk,fun h=>h⟩, ?_⟩⟩
 ·rcases hF k hk with hf | hf
  ·exact (a k hf).1
  exact Nat.le_trans (N3.mod d).size hf
 have b:=(d.more (V:=fun k=>(False∨F k)∨F' k) fun k hk=>by
  rcases hk with hk | hk
  ·exact .inl hk
  rcases hF k hk with hf | hf
  ·exact .inl (.inr hf)
  exact .inr hf).step hm (fun k hk _=>(a k hk).1) (fun k hk _=> .inl (.inr hk))
 exact b.less fun k hk=>by
  rcases hk with hk | hk
  ·exact hk.elim
  exact .inr hk
theorem A4.mid {A B C:A6} (h:A4 w0 w (A::B::C::Rs)):A4 w0 w (A::C::B::Rs):=h.perm ((List.Perm.swap C B Rs).cons A)
theorem A4.mid2 {A B C D:A6} (h:A4 w0 w (A::B::C::D::Rs)):A4 w0 w (A::D::B::C::Rs):=
 h.perm ((((List.Perm.swap D C Rs).cons B).trans (List.Perm.swap D B (C::Rs))).cons A)
theorem A4.mid2' {A B C D:A6} (h:A4 w0 w (A::D::B::C::Rs)):A4 w0 w (A::B::C::D::Rs):=
 h.perm (((List.Perm.swap B D (C::Rs)).trans ((List.Perm.swap C D Rs).cons B)).cons A)
end
structure Y03 (l bs:List Nat) (s c:Nat):Prop where
 fits:s < 2^c
 byt:∀b∈bs,b < 256
 few:c≤39
 is:l=A9 c s++D7 bs
def Y7g (v:Value) (bs:List Nat) (d:Value) (l:List Nat) (s c:Nat):A6 where
 res:=fun w F=>∃bs1,Y03 l bs1 s c∧Own w 5 1 d bs1.length (D9 bs1)∧Own w 5 1 v bs.length (D9 bs)∧(d.ownBlock=v.ownBlock∨d.ownBlock=none)∧∀k,F k↔v.ownBlock=some k
 loc:=fun _ _ _ _ ⟨bs1,h0,h1,h2,h3,h4⟩ hm hS=>⟨bs1,h0,h1.kept hm (fun k hk=>hS k ((h4 k).2 (by
  rcases h3 with h3 | h3
  ·rw [←h3];exact hk
  ·rw [h3] at hk;cases hk))),h2.kept hm (fun k hk=>hS k ((h4 k).2 hk)),h3,h4⟩
section
variable {w0 w:World} {Rs:List A6} {q:C4} {v:Value} {bs l:List Nat}
theorem Z1e (h:A4 w0 w (J9 q v bs l::Rs)):∃ (ao:Option Addr) (n cap s c:Nat),A4 w0 w (Q0 q [.slice ao n cap,.int .u64 (s:Int),.int .i64 (c:Int)]::Y7g v bs (.slice ao n cap) l s c::Rs):=by
 obtain ⟨F,⟨d,⟨a,s,c,⟨o,m,h3,p,r⟩,t,x⟩,y,z,f,g⟩,i,j⟩:=h
 obtain ⟨ao,cap,rfl,_,_⟩:=m.form
 refine ⟨ao,_,cap,s,c,A4.unpair ⟨F,⟨fun k=>k=q.b,fun k=>v.ownBlock=some k,⟨o,fun _=>Iff.rfl⟩,⟨a,⟨p,r,t,x⟩,m,y,f,fun _=>Iff.rfl⟩,fun k hk e=>z (by rw [←show k=q.b from hk];exact e),fun k=>g k⟩,i,j⟩⟩
theorem Z1r {d:Value} {s c:Nat} (h:A4 w0 w (Q0 q [d,.int .u64 (s:Int),.int .i64 (c:Int)]::Y7g v bs d l s c::Rs)):A4 w0 w (J9 q v bs l::Rs):=by
 obtain ⟨F,⟨y,z,i,⟨j,g,n,o,a,m⟩,p,r⟩,t,x⟩:=h.pair
 have f:v.ownBlock≠some q.b:=fun e=>p q.b ((i.2 q.b).2 rfl) ((m q.b).2 e)
 refine ⟨F,⟨d,⟨j,s,c,⟨i.1,n, ?_,g.fits,g.byt⟩,g.few,g.is⟩,o,f,a,fun k=> ?_⟩,t,x⟩
 ·rcases a with a | a
  ·rw [a];exact f
  rw [a];intro e;cases e
 rw [r,i.2,m]
 exact Iff.rfl
theorem W2f {d:Value} {s c:Nat} (h:A4 w0 w (Y7g v bs d l s c::Rs)):∃bs1,Y03 l bs1 s c∧A4 w0 w (B0 5 1 d bs1.length (D9 bs1)::Rs):=by
 obtain ⟨F,⟨bs1,f,g,m,a,b⟩,i,j⟩:=h
 refine ⟨bs1,f,fun k=>d.ownBlock=some k,⟨g,fun _=>Iff.rfl⟩,fun k hk=>i k ((b k).2 ?_),j.less fun k hk=> ?_⟩
 ·rcases a with a | a
  ·rw [←a];exact hk
  rw [a] at hk;cases hk
 rcases hk with hk | hk
 ·exact hk.elim
 refine .inr ((b k).2 ?_)
 rcases a with a | a
 ·rw [←a];exact hk
 rw [a] at hk;cases hk
theorem V0w {d:Value} {s c:Nat} (h:A4 w0 w (Y7g v bs d l s c::Rs)):A4 w0 w (B0 5 1 v bs.length (D9 bs)::Rs):=by
 obtain ⟨F,⟨a,j,k,b,m,f⟩,g,i⟩:=h
 exact ⟨F,⟨b,f⟩,g,i⟩
theorem Y1h {d:Value} {s c:Nat} (hf:Y03 l bs s c) (h:A4 w0 w (B0 5 1 d bs.length (D9 bs)::Rs)):A4 w0 w (Y7g d bs d l s c::Rs):=by
 obtain ⟨F,⟨a,b⟩,f,g⟩:=h
 exact ⟨F,⟨bs,hf,a,a,.inl rfl,b⟩,f,g⟩
end
structure DC where
 wv:Value
 most:Nat
 room:Int
 lv:Value
 st:Nat
 last:Bool
 left:Nat
 dist:Nat
 hA:Nat
 hB:Nat
 hC:Nat
 ht:Option Addr
 hv:Value
 cl:Option Addr
 cd:Option Addr
 fl:Option Addr
 fd:Option Addr
 en:Nat
def DC.post (c:DC):List Value:=[c.wv,.int .i64 (c.most:Int),.int .i64 c.room,c.lv,.int .i64 (c.st:Int),.bool c.last,.int .i64 (c.left:Int),.int .i64 (c.dist:Int),
 .int .i64 (c.hA:Int),.int .i64 (c.hB:Int),.int .i64 (c.hC:Int),.pointer c.ht,c.hv,.pointer c.cl,.pointer c.cd,.pointer c.fl,.pointer c.fd,.int .i64 (c.en:Int)]
def J0 (p:C4) (c:DC):C4:=⟨p.b,p.o,p.pre,c.post++p.post,p.T,p.len⟩
section
variable {w0 w:World} {Rs:List A6} {p:C4} {c:DC} {v:Value} {bs l:List Nat}
theorem W4m {d e f:Value} (h:X7 w (J0 p c) [d,e,f]) (k:Nat) (u:Value) (hv:c.post[k-3]?=some u) (hk:3≤k:=by decide):w.cell? ⟨p.b,p.o+k,none⟩=some u:=by
 have a:(p.pre++([d,e,f]++(c.post++p.post)))[p.o+k]?=some u:=by
  have i:=p.len
  have g:=(List.getElem?_eq_some_iff.1 hv).1
  rw [T05 (by omega),show p.o+k-p.pre.length=k by omega,T05 (by simp only [T09,T0a];omega)]
  rw [List.getElem?_append_left (by simpa using g)]
  exact hv
 exact X6.cell h a
theorem F0 (h:A4 w0 w (J9 (J0 p c) v bs l::Rs)) (k:Nat) (u:Value) (hv:c.post[k-3]?=some u) (hk:3≤k:=by decide):w.cell? ⟨p.b,p.o+k,none⟩=some u:=by
 obtain ⟨F,⟨d,⟨a,s,g,⟨f,_⟩,_⟩,_⟩,_⟩:=h
 exact W4m f k u hv hk
theorem Y4 (h:A4 w0 w (J9 (J0 p c) v bs l::Rs)) (k:Nat):w.frozen? ⟨p.b,p.o+k,none⟩=false:=by
 obtain ⟨F,⟨d,⟨a,s,g,⟨f,_⟩,_⟩,_⟩,_⟩:=h
 exact X6.frozen f _
theorem W6o {d e f:Value} (h:A4 w0 w (Q0 (J0 p c) [d,e,f]::Rs)) (k:Nat) (u:Value) (c':DC) (hc:c'.post=c.post.set (k-3) u) (hk:3≤k∧k≤20:=by decide):A4 w0 (w.setCell ⟨p.b,p.o+k,none⟩ u) (Q0 (J0 p c') [d,e,f]::Rs):=by
 have g:=A4.setObj h (p.o+k) u
 have i:(p.pre++([d,e,f]++(c.post++p.post))).set (p.o+k) u=p.pre++([d,e,f]++(c'.post++p.post)):=by
  have l:=p.len
  have j:c.post.length=18:=rfl
  rw [T0c _ _ (by omega),show p.o+k-p.pre.length=k by omega,T0c _ _ (by simp only [T09,T0a];omega)]
  simp only [T09,T0a]
  rw [List.set_append_left _ _ (by omega),hc]
 have a:A4 w0 (w.setCell ⟨p.b,p.o+k,none⟩ u) (E8 p.b ((p.pre++([d,e,f]++(c.post++p.post))).set (p.o+k) u) p.T::Rs):=g
 rw [i] at a
 exact a
theorem Z2q (h:A4 w0 w (J9 (J0 p c) v bs l::Rs)) (k:Nat) (u:Value) (c':DC) (hc:c'.post=c.post.set (k-3) u) (hk:3≤k∧k≤20:=by decide):A4 w0 (w.setCell ⟨p.b,p.o+k,none⟩ u) (J9 (J0 p c') v bs l::Rs):=by
 obtain ⟨f,n,a,s,g,d⟩:=Z1e h
 exact Z1r (W6o d k u c' hc hk)
def Z8z (p:C4) (c:DC) (d e f:Value):C4:=⟨p.b,p.o+3,p.pre++[d,e,f],c.post.drop 1++p.post,p.T,by rw [T01,p.len];rfl⟩
theorem W19 (p:C4) (c:DC) (d e f:Value) (wv:Value):Q0 (Z8z p c d e f) [wv]=Q0 (J0 p {c with wv:=wv}) [d,e,f]:=by
 unfold Q0 Z8z J0
 simp only [DC.post,T04,List.cons_append,List.nil_append,List.drop_succ_cons,List.drop_zero]
theorem W04 {d e f:Value} {o:List Nat} (h:A4 w0 w (Q0 (J0 p c) [d,e,f]::B0 5 1 c.wv (L7 o).length (D9 (L7 o))::Rs)):A4 w0 w (Z8x o (Z8z p c d e f)::Rs):=by
 refine W1c (v:=c.wv) rfl ?_
 rw [W19]
 exact h
theorem W10 {d e f:Value} {o:List Nat} (h:A4 w0 w (Z8x o (Z8z p c d e f)::Rs)):∃wv,A4 w0 w (Q0 (J0 p {c with wv:=wv}) [d,e,f]::B0 5 1 wv (L7 o).length (D9 (L7 o))::Rs):=by
 obtain ⟨wv,a⟩:=X06 h
 rw [W19] at a
 exact ⟨wv,a⟩
end
section
variable {w0 w:World} {Rs:List A6} {p:C4} {c:DC} {v:Value} {bs l:List Nat}
theorem Y6r (b o:Nat) (n:Int) (h4:w.cell? ⟨b,o+1,none⟩=some (.int .i64 0)):
  Calls Tryz.prog 143 #[.pointer (some ⟨b,o,none⟩),.int .i64 n] w fun e w'=>e= .returned (.tuple #[.int .i64 0,.int .i64 6])∧∃k,w'=w.drewN k:=by
 go_enter Tryz.func143,Tryz.ntmps143
 go_wp2
 go_ret2
 exact ⟨rfl,0,rfl⟩
theorem Y2x (b o:Nat) (n most room:Nat) (hm:0 < most) (h4:w.cell? ⟨b,o+1,none⟩=some (.int .i64 (most:Int))) (h5:w.cell? ⟨b,o+2,none⟩=some (.int .i64 (room:Int))):
  Calls Tryz.prog 143 #[.pointer (some ⟨b,o,none⟩),.int .i64 (n:Int)] w fun e w'=>e= .returned (.tuple #[.int .i64 ((min (min n most) room:Nat):Int),.int .i64 0])∧∃k,w'=w.drewN k:=by
 have p:((most:Int)==0)=false:=by simp;omega
 have q:¬(most:Int)=0:=by omega
 obtain ⟨a,f⟩:∃a,a=min n most:=⟨_,rfl⟩
 obtain ⟨i,g⟩:∃i,i=min a room:=⟨_,rfl⟩
 have d:(if most < n then (most:Int) else (n:Int))=(a:Int):=by split <;> omega
 have j:(if room < a then (room:Int) else (a:Int))=(i:Int):=by split <;> omega
 rw [←f,←g]
 have m:∀l,(Builtin.min_ #[3,3,3] 3 #[.int .i64 (n:Int),.int .i64 (most:Int),.int .i64 (room:Int)]).run Tryz.prog l= .ok (.int .i64 (i:Int)) l:=by
  intro l
  simp [Builtin.min_,Builtin.min2]
  rw [d]
  split <;> omega
 clear f g d j
 go_enter Tryz.func143,Tryz.ntmps143
 go_wp2
 go_quiet (fail)
 go_wp2
 go_ret2
 exact ⟨rfl,_,rfl⟩
theorem X65 (got add:List Nat) (x:Value) (m n:Nat) (h:A4 w0 w (J9 (J0 p c) v bs l::B0 5 1 c.lv n (D9 got)::Rs)) (hx:Rd w 1 x m (D9 add)) (hn:n < 1000000000) (hm:m≤c.most) (hm2:(m:Int)≤c.room) (hm3:m < 1000000000) (hmo:c.most < 4000000000000) (hro:c.room≤9223372036854775807):
  Calls Tryz.prog 173 #[.pointer (some ⟨p.b,p.o+3,none⟩),x] w fun e w'=>e= .returned (.tuple #[])∧∃lv,A4 w0 w' (J9 (J0 p {c with lv:=lv,most:=c.most-m,room:=c.room-m}) v bs l::B0 5 1 lv (n+m) (D9 (got++add))::Rs):=by
 obtain ⟨i,hi,r,s,t⟩:=info_parts Z3y
 obtain ⟨y,most,room,lv,z,d,left,f,hA,hB,hC,ht,hv,cl,cd,fl,fd,en⟩:=c
 dsimp only at h hm hm2 hmo hro⊢
 obtain ⟨xo,a9,rfl,b9,c0⟩:=hx.form
 obtain ⟨ao,q,rfl,c1,c2⟩:=h.swap.own.form
 have HX:=A5 hx
 have HH:=A5 h.swap
 have c6:w.cell? ⟨p.b,p.o+3+3,none⟩=some (.slice ao n q):=F0 h 6 _ rfl
 have b3:(most:Int)- (m:Int)=((most-m:Nat):Int):=by omega
 clear h hx
 go_enter Tryz.func173,Tryz.ntmps173
 go_wp2_with (at_builtin;refine D6 rfl (.tmp 8) (.tmp 9) 26 rfl 5 i (.int .u8 0) 1 1 Tryz.underlying26 hi r s t rfl (by decide) _ n (D9 got) rfl HH.out _ m (D9 add) rfl HX.out (T0 _) (n+m) rfl (by unfold maxLen;omega) (by omega) ?_;intro g a k j;have H2:=A5 j.swap;have b5:k.cell? ⟨p.b,p.o+3+3,none⟩=some (.slice ao n q):=F0 j.swap 6 _ rfl;have c4:k.cell? ⟨p.b,p.o+3+1,none⟩=some (.int .i64 (most:Int)):=F0 j.swap 4 _ rfl;have c5:k.cell? ⟨p.b,p.o+3+2,none⟩=some (.int .i64 room):=F0 j.swap 5 _ rfl;have f4:k.frozen? ⟨p.b,p.o+3+1,none⟩=false:=Y4 j.swap 4;have f5:k.frozen? ⟨p.b,p.o+3+2,none⟩=false:=Y4 j.swap 5;have f6:k.frozen? ⟨p.b,p.o+3+3,none⟩=false:=Y4 j.swap 6)
 go_end0
 rw [J8]
 have h3:=Z2q H2.out 6 (.slice g (n+m) a) ⟨y,most,room,.slice g (n+m) a,z,d,left,f,hA,hB,hC,ht,hv,cl,cd,fl,fd,en⟩ rfl
 have h4:=Z2q h3 4 (.int .i64 ((most-m:Nat):Int)) ⟨y,most-m,room,.slice g (n+m) a,z,d,left,f,hA,hB,hC,ht,hv,cl,cd,fl,fd,en⟩ rfl
 exact ⟨rfl,_,Z2q h4 5 (.int .i64 (room- (m:Int))) ⟨y,most-m,room-m,.slice g (n+m) a,z,d,left,f,hA,hB,hC,ht,hv,cl,cd,fl,fd,en⟩ rfl⟩
theorem W5h (got:List Nat) (n:Nat) (h:A4 w0 w (J9 (J0 p c) v bs l::B0 5 1 c.lv n (D9 got)::Rs)):
  Calls Tryz.prog 80 #[.pointer (some ⟨p.b,p.o+3,none⟩)] w fun e w'=>e= .returned c.lv∧A4 w0 w' (J9 (J0 p {c with lv:= .slice none 0 0}) v bs l::B0 5 1 c.lv n (D9 got)::Rs):=by
 obtain ⟨j,most,a,lv,k,d,left,f,m,q,r,s,t,x,y,fl,z,en⟩:=c
 dsimp only at h⊢
 obtain ⟨ao,g,rfl,a2,a3⟩:=h.swap.own.form
 have i:=A5 h
 have c6:w.cell? ⟨p.b,p.o+3+3,none⟩=some (.slice ao n g):=F0 h 6 _ rfl
 have f6:w.frozen? ⟨p.b,p.o+3+3,none⟩=false:=Y4 h 6
 clear h
 go_enter Tryz.func80,Tryz.ntmps80
 go_wp2
 go_ret
 exact ⟨rfl,Z2q i.out 6 (.slice none 0 0) ⟨j,most,a,.slice none 0 0,k,d,left,f,m,q,r,s,t,x,y,fl,z,en⟩ rfl⟩
theorem X92 (h:A4 w0 w (J9 (J0 p c) v bs l::Rs)):
  Calls Tryz.prog 116 #[.pointer (some ⟨p.b,p.o+3,none⟩)] w fun e w'=>e= .returned (.tuple #[])∧A4 w0 w' (J9 (J0 p {c with wv:= .slice none 0 0}) v bs l::Rs):=by
 obtain ⟨wv,most,a,i,j,d,left,f,k,m,n,q,r,s,t,fl,x,y⟩:=c
 dsimp only at h⊢
 have g:=A5 h
 have z:w.frozen? ⟨p.b,p.o+3,none⟩=false:=Y4 h 3
 have c3:w.cell? ⟨p.b,p.o+3,none⟩=some wv:=F0 h 3 _ rfl
 clear h
 go_enter Tryz.func116,Tryz.ntmps116
 go_wp2
 go_end0
 exact ⟨rfl,Z2q g.out 3 (.slice none 0 0) ⟨.slice none 0 0,most,a,i,j,d,left,f,k,m,n,q,r,s,t,fl,x,y⟩ rfl⟩
theorem W8m {d e f:Value} (o add:List Nat) (x:Value) (m:Nat) (h:A4 w0 w (Z8x o (Z8z p c d e f)::Rs)) (hx:Rd w 1 x m (D9 add)) (hm:m < 2000000000):
  Calls Tryz.prog 172 #[.pointer (some ⟨p.b,p.o+3,none⟩),x] w fun e' w'=>e'= .returned (.tuple #[])∧A4 w0 w' (Z8x (o++add) (Z8z p c d e f)::Rs):=V44 o add (Z8z p c d e f) x m h hx hm
theorem W3t {d e f:Value} (o:List Nat) (n far:Nat) (h:A4 w0 w (Z8x o (Z8z p c d e f)::Rs)) (hn1:1≤n) (hn2:n≤258) (hd1:1≤far) (hd2:far≤o.length) (hd3:far≤32768):
  Calls Tryz.prog 178 #[.pointer (some ⟨p.b,p.o+3,none⟩),.int .i64 (n:Int),.int .i64 (far:Int)] w fun e' w'=>∃x,e'= .returned (.tuple #[x,.int .i64 0])∧A4 w0 w' (B0 5 1 x n (D9 (out o far n))::Z8x (ext o far n) (Z8z p c d e f)::Rs):=W8w o (Z8z p c d e f) n far h hn1 hn2 hd1 hd2 hd3
theorem W89 {d e f:Value} (o:List Nat) (m:Nat) (h:A4 w0 w (Z8x o (Z8z p c d e f)::Rs)) (hm:m=min o.length 32768):
  Calls Tryz.prog 177 #[.pointer (some ⟨p.b,p.o+3,none⟩)] w fun e' w'=>e'= .returned (.int .i64 (m:Int))∧w=w':=V2g o (Z8z p c d e f) m h hm
theorem X4u (o got add:List Nat) (x:Value) (m n:Nat) (h:A4 w0 w (J9 (J0 p c) v bs l::B0 5 1 c.wv (L7 o).length (D9 (L7 o))::B0 5 1 c.lv n (D9 got)::B0 5 1 x m (D9 add)::Rs)) (hn:n < 1000000000) (hm:m≤c.most) (hm2:(m:Int)≤c.room) (hm3:m < 1000000000) (hmo:c.most < 4000000000000) (hro:c.room≤9223372036854775807):
  Calls Tryz.prog 144 #[.pointer (some ⟨p.b,p.o+3,none⟩),x] w fun e w'=>e= .returned (.tuple #[])∧∃wv lv,A4 w0 w' (J9 (J0 p {c with wv:=wv,lv:=lv,most:=c.most-m,room:=c.room-m}) v bs l::B0 5 1 wv (L7 (o++add)).length (D9 (L7 (o++add)))::B0 5 1 lv (n+m) (D9 (got++add))::Rs):=by
 obtain ⟨q,r,d,s,t,h1⟩:=Z1e h
 have i:A4 w0 w (Z8x o (Z8z p c (.slice q r d) (.int .u64 (s:Int)) (.int .i64 (t:Int)))::Y7g v bs (.slice q r d) l s t::B0 5 1 c.lv n (D9 got)::B0 5 1 x m (D9 add)::Rs):=W04 (h1.third.swap)
 have HA:=A5 (W8m o add x m i i.fourth.own.rd (by omega))
 obtain ⟨g,a,rfl,y,z⟩:=i.fourth.own.form
 have HP:Hid (∀f,A4 w0 f (Z8x (o++add) (Z8z p c (.slice q r d) (.int .u64 (s:Int)) (.int .i64 (t:Int)))::Y7g v bs (.slice q r d) l s t::B0 5 1 c.lv n (D9 got)::B0 5 1 (.slice g m a) m (D9 add)::Rs)→
   Calls Tryz.prog 173 #[.pointer (some ⟨p.b,p.o+3,none⟩),.slice g m a] f fun e w'=>e= .returned (.tuple #[])∧∃wv lv,A4 w0 w' (J9 (J0 p {c with wv:=wv,lv:=lv,most:=c.most-m,room:=c.room-m}) v bs l::B0 5 1 wv (L7 (o++add)).length (D9 (L7 (o++add)))::B0 5 1 lv (n+m) (D9 (got++add))::Rs)):=by
  refine A5 fun f j=> ?_
  obtain ⟨wv,k⟩:=W10 j
  have h5:A4 w0 f (J9 (J0 p {c with wv:=wv}) v bs l::B0 5 1 wv (L7 (o++add)).length (D9 (L7 (o++add)))::B0 5 1 c.lv n (D9 got)::B0 5 1 (.slice g m a) m (D9 add)::Rs):=Z1r k.mid
  have h6:=(h5.mid:A4 w0 f (J9 (J0 p {c with wv:=wv}) v bs l::B0 5 1 c.lv n (D9 got)::B0 5 1 wv (L7 (o++add)).length (D9 (L7 (o++add)))::B0 5 1 (.slice g m a) m (D9 add)::Rs))
  refine (X65 (c:={c with wv:=wv}) got add (.slice g m a) m n h6 h5.fourth.own.rd hn hm hm2 hm3 hmo hro).mono ?_
  rintro e w3 ⟨h7,lv,h8⟩
  exact ⟨h7,wv,lv,h8.mid.fourth.drop⟩
 clear h h1 i y z
 go_enter Tryz.func144,Tryz.ntmps144
 go_wp2_with fail
 with_reducible refine HA.out.mono ?_
 rintro e f ⟨rfl,j⟩
 have HQ:=A5 (HP.out f j)
 clear j HA HP
 go_wp2_with fail
 with_reducible refine HQ.out.mono ?_
 rintro e w3 ⟨rfl,wv,lv,k⟩
 have HE:=A5 k
 clear k HQ
 go_wp2
 go_end0
 exact ⟨rfl,wv,lv,HE.out⟩
theorem W8k (o got:List Nat) (n m far:Nat) (h:A4 w0 w (J9 (J0 p c) v bs l::B0 5 1 c.wv (L7 o).length (D9 (L7 o))::B0 5 1 c.lv n (D9 got)::Rs)) (hn:n < 1000000000) (hm:m≤c.most) (hm2:(m:Int)≤c.room) (h1:1≤m) (h258:m≤258) (hd1:1≤far) (hd2:far≤o.length) (hd3:far≤32768) (hmo:c.most < 4000000000000) (hro:c.room≤9223372036854775807):
  Calls Tryz.prog 149 #[.pointer (some ⟨p.b,p.o+3,none⟩),.int .i64 (m:Int),.int .i64 (far:Int)] w fun e w'=>e= .returned (.tuple #[])∧∃wv lv,A4 w0 w' (J9 (J0 p {c with wv:=wv,lv:=lv,most:=c.most-m,room:=c.room-m}) v bs l::B0 5 1 wv (L7 (ext o far m)).length (D9 (L7 (ext o far m)))::B0 5 1 lv (n+m) (D9 (got++out o far m))::Rs):=by
 obtain ⟨g,i,a,s,j,d⟩:=Z1e h
 have r:A4 w0 w (Z8x o (Z8z p c (.slice g i a) (.int .u64 (s:Int)) (.int .i64 (j:Int)))::Y7g v bs (.slice g i a) l s j::B0 5 1 c.lv n (D9 got)::Rs):=W04 (d.third.swap)
 have t:=A5 (W3t o m far r h1 h258 hd1 hd2 hd3)
 have y:Hid (∀f x,A4 w0 f (B0 5 1 x m (D9 (out o far m))::Z8x (ext o far m) (Z8z p c (.slice g i a) (.int .u64 (s:Int)) (.int .i64 (j:Int)))::Y7g v bs (.slice g i a) l s j::B0 5 1 c.lv n (D9 got)::Rs)→
   Calls Tryz.prog 173 #[.pointer (some ⟨p.b,p.o+3,none⟩),x] f fun e w'=>e= .returned (.tuple #[])∧∃wv lv,A4 w0 w' (J9 (J0 p {c with wv:=wv,lv:=lv,most:=c.most-m,room:=c.room-m}) v bs l::B0 5 1 wv (L7 (ext o far m)).length (D9 (L7 (ext o far m)))::B0 5 1 lv (n+m) (D9 (got++out o far m))::Rs)):=by
  refine A5 fun f x d=> ?_
  obtain ⟨wv,k⟩:=W10 d.swap
  have q:A4 w0 f (Q0 (J0 p {c with wv:=wv}) [.slice g i a,.int .u64 (s:Int),.int .i64 (j:Int)]::Y7g v bs (.slice g i a) l s j::B0 5 1 c.lv n (D9 got)::B0 5 1 wv (L7 (ext o far m)).length (D9 (L7 (ext o far m)))::B0 5 1 x m (D9 (out o far m))::Rs):=
   k.perm (List.Perm.cons _ ((T0d (l₁:=[_,_])).trans (List.Perm.cons _ ((T0d (l₁:=[_,_])).trans (List.Perm.cons _ (List.Perm.refl _))))))
  have z:=Z1r q
  refine (X65 (c:={c with wv:=wv}) got (out o far m) x m n z z.fourth.own.rd hn hm hm2 (by omega) hmo hro).mono ?_
  rintro e w3 ⟨h7,lv,h8⟩
  exact ⟨h7,wv,lv,h8.mid.fourth.drop⟩
 clear h d r
 go_enter Tryz.func149,Tryz.ntmps149
 go_wp2_with fail
 with_reducible refine t.out.mono ?_
 rintro e f ⟨x,rfl,d⟩
 obtain ⟨xo,a1,rfl,_,_⟩:=d.own.form
 have HQ:=A5 (y.out f _ d)
 clear d t y
 go_wp2_with fail
 with_reducible refine HQ.out.mono ?_
 rintro e w3 ⟨rfl,wv,lv,k⟩
 have HE:=A5 k
 clear k HQ
 go_wp2
 go_end0
 exact ⟨rfl,wv,lv,HE.out⟩
end
end Go.Proofs.YtbkbkmgogbgofaaGreatDoor
