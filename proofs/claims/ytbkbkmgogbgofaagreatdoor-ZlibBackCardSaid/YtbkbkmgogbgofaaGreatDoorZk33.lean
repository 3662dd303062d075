/- The claim's texts, put together and shortened by a program (names, spaces). -/
import Derived.Test.YtbkbkmgogbgofaaGreatDoorZk32
import Derived.Test.YtbkbkmgogbgofaaGreatDoorZk31
open List renaming length_append→T00,append_nil→T02,length→T03,length_cons→T04,append_assoc→T05,length_drop→T06,length_nil→T08,getElem?_map→T09,take_of_length_le→T0a,mem_of_mem_drop→T0b,eq_nil_of_length_eq_zero→T0c,cons_append→T0e
open Nat renaming zero_le→T01,le_refl→T07
open Int renaming natCast_nonneg→T0d
namespace Go.Proofs.YtbkbkmgogbgofaaGreatDoor
set_option maxRecDepth 100000
set_option maxHeartbeats 6400000
open Go.RowKit
section
variable {w0 w:World} {Rs:List A6} {D B M n:Nat} {o l:List Nat} {iv:Value} {cl:Bool} {most er sm:Nat} {s:DSt}
def V52 (w0 w':World) (Rs:List A6) (D:Nat) (o l:List Nat) (iv:Value) (cl:Bool) (most er:Nat) (e:Ending):Prop:=
 (l.length < 4∧e= .returned (.int .i64 5)∧A4 w0 w' (zdT D iv cl most 2 er none (K6 1 o)::B0 5 1 iv l.length (D9 l)::Rs))∨
 (4≤l.length∧l.take 4≠adB o∧e= .returned (.int .i64 4)∧A4 w0 w' (zdT D (.slice none 0 0) cl most 4 4 none (K6 1 o)::Rs))∨
 (4≤l.length∧l.take 4=adB o∧e= .returned (.int .i64 0)∧∃iv',A4 w0 w' (zdT D iv' cl most 3 er none (K6 1 o)::B0 5 1 iv' (l.drop 4).length (D9 (l.drop 4))::Rs))
theorem W3i (h:A4 w0 w (zdT D iv cl most 2 er none (K6 1 o)::B0 5 1 iv l.length (D9 l)::Rs)) (hb:∀b∈l,b < 256) (hl:l.length < 1000000000):
  Calls Tryz.prog 44 #[.pointer (some ⟨D,0,none⟩)] w fun e w'=>V52 w0 w' Rs D o l iv cl most er e:=by
 obtain ⟨i0,a8,d5,a9,d7⟩:=info_parts Z1o
 have d:=h.drop.own
 obtain ⟨k,a,rfl,s,_⟩:=d.form
 have r:adB o=beB (K6 1 o):=rfl
 unfold V52
 generalize K6 1 o=q at h r⊢
 have c0:=F7 h 0 _ rfl
 have c6:=F7 h 6 _ rfl
 obtain ⟨n,hn⟩:∃n,n=l.length:=⟨_,rfl⟩
 rw [←hn] at h d s c0 hl⊢
 by_cases h8:n < 4
 ·have hI:(n:Int) < 4:=by omega
  have H:=A5 h
  have t:=A5 h8
  clear h d hn h8
  go_enter Tryz.func44,Tryz.ntmps44
  go_wp2
  go_ret
  exact .inl ⟨t.out,rfl,H.out⟩
 have hI:¬(n:Int) < 4:=by omega
 have b3:=fun wg=>O0 (P:=Tryz.prog) (w:=wg) 26 5 i0 1 Tryz.underlying26 a8 a9 k n a 0 4 none (some (.int .i64 4)) rfl ⟨_,rfl⟩ (T01 _) (by omega)
 rw [Z14 k 4 a 1 d.spotless] at b3
 have HP:=A5 (X64 (.slice none 0 0) 0 q [] (by decide) (h.drew.nil 5 1))
 have a5:∀y w3,A4 w0 w3 (B0 5 1 y (0+4) (D9 ([]++beB q))::zdT D (.slice k n a) cl most 2 er none q::B0 5 1 (.slice k n a) n (D9 l)::Rs)→_:=fun y w3 g=>
  V4c (.slice k 4 a) y (l.take 4) (beB q) 4 4 (by
   have hr:=(g.third.own.rd).front (H:=4) (by omega)
   rw [Nat.mul_one] at hr
   simp only [D9,←List.map_take] at hr⊢
   exact hr) g.own.rd (fun b hb'=>hb b (List.mem_of_mem_take hb')) (X2d q)
 have p:=A5 a5
 have b5:=d.cut (L:=4) (by omega) (T07 n)
 have i:=Z3u k 4 n a 1 n
 have a6:=fun wg=>O0 (P:=Tryz.prog) (w:=wg) 26 5 i0 1 Tryz.underlying26 a8 a9 k n a 4 n (some (.int .i64 4)) none ⟨_,rfl⟩ rfl (by omega) s
 have t:=A5 (And.intro (show 4≤n by omega) (And.intro hn hb))
 have b6:∃a1 m,sliced k 4 n a 1= .slice a1 m (a-4)∧m=(l.drop 4).length:=by
  unfold sliced
  exact ⟨_,_,rfl,by rw [T06,←hn]⟩
 obtain ⟨a1,m,a2,hm⟩:=b6
 rw [a2] at a6 i
 have b7:=A5 i
 have b8:=A5 a2
 have HM:=A5 hm
 clear a5 d hn h8 hb b5 i a2 hm
 rw [r]
 by_cases f:l.take 4=beB q
 ·rw [decide_eq_true f] at p
  have HE:=A5 f
  clear f h
  go_enter Tryz.func44,Tryz.ntmps44
  go_wp2
  go_region_held3 (fun w'=>w'.cell? ⟨D,0,none⟩=some (.slice k n a)∧w'.cell? ⟨D,6,none⟩=some (.int .u32 (q:Int))) (first | exact ⟨c0,c6⟩ | exact ⟨d0,d6⟩ | go_keep)
   ((first
    | (go_at_call 21;refine HP.out.mono ?_;rintro e w3 ⟨y,rfl,g⟩;have d0:=F7 g.drop 0 _ rfl;have d6:=F7 g.drop 6 _ rfl;have x:=A5 g;clear g)
    | (go_at_call 70;refine (p.out _ _ x.out).mono ?_;rintro e w4 ⟨rfl,rfl⟩)))
  all_goals
   have h4:=x.out.drop
   have j:=h4.drop.own
   have z:=j.cut (L:=4) t.out.1 (T07 n)
   rw [b8.out,X7j,T0a (by have:=t.out.2.1;rw [T06];omega)] at z
   have h5:=(h4.swap.recut z b7.out).swap
   have k0:=F7 h5 0 _ rfl
   have m0:=X5 h5 0
   have h6:=Z18 h5 0 (.slice a1 m (a-4)) (Z7 (.slice a1 m (a-4)) cl most 2 er none q) rfl
   have k3:=F7 h6 3 _ rfl
   have m3:=X5 h6 3
   have H7:=A5 (Z18 h6 3 (.int .i64 3) (Z7 (.slice a1 m (a-4)) cl most 3 er none q) rfl)
   clear h4 j z h5 h6 x
   go_wp2
   go_ret
   refine .inr (.inr ⟨t.out.1,HE.out,rfl,.slice a1 m (a-4), ?_⟩)
   have h8:=H7.out
   rw [show n-4=(l.drop 4).length by rw [T06,←t.out.2.1]] at h8
   exact h8
 rw [decide_eq_false f] at p
 have HE:=A5 f
 clear f h a6
 go_enter Tryz.func44,Tryz.ntmps44
 go_wp2
 go_region_held3 (fun w'=>w'.cell? ⟨D,0,none⟩=some (.slice k n a)∧w'.cell? ⟨D,6,none⟩=some (.int .u32 (q:Int))) (first | exact ⟨c0,c6⟩ | exact ⟨d0,d6⟩ | go_keep)
  ((first
   | (go_at_call 21;refine HP.out.mono ?_;rintro e w3 ⟨y,rfl,g⟩;have d0:=F7 g.drop 0 _ rfl;have d6:=F7 g.drop 6 _ rfl;have x:=A5 g;clear g)
   | (go_at_call 70;refine (p.out _ _ x.out).mono ?_;rintro e w4 ⟨rfl,rfl⟩)))
 all_goals
  have HF:=A5 (Z5q 4 4 rfl x.out.drop)
  clear x
  go_wp2_with fail
  with_reducible refine HF.out.mono ?_
  rintro e w5 ⟨rfl,h5⟩
  have H5:=A5 h5.swap.drop
  clear h5 HF
  go_wp2
  go_ret
  exact .inr (.inl ⟨t.out.1,HE.out,rfl,H5.out⟩)
def V55 (w0 w':World) (Rs:List A6) (D B M n:Nat) (o:List Nat) (cl:Bool) (most er:Nat) (s:DSt) (e:Ending):Prop:=
 ∃ (t:List Nat) (e1:Nat) (s':DSt),Z7o M n s t e1 s'∧
  (
  (t≠[]∧∃x,e= .returned (.tuple #[x,.int .i64 0])∧A4 w0 w' (B0 5 1 x t.length (D9 t)::zdT D (.slice none 0 0) cl most 1 er (some ⟨B,0,none⟩) (K6 1 (o++t))::Z20 (Y0q B) M s'::Rs))∨
  (t=[]∧e1=5∧e= .returned (.tuple #[.slice none 0 0,.int .i64 5])∧A4 w0 w' (zdT D (.slice none 0 0) cl most 1 er (some ⟨B,0,none⟩) (K6 1 o)::Z20 (Y0q B) M s'::Rs))∨
  (t=[]∧(e1≠5∧e1≠8∧e1≠0)∧e= .returned (.tuple #[.slice none 0 0,.int .i64 (e1:Int)])∧A4 w0 w' (zdT D (.slice none 0 0) cl most 4 e1 none (K6 1 o)::Rs))∨
  (t=[]∧e1=8∧∃l2 iv',s'= .fin 8 l2∧(isBits l2∧l2.length < Y5)∧e= .returned (.tuple #[.slice none 0 0,.int .i64 0])∧A4 w0 w' (zdT D iv' cl most 2 er none (K6 1 o)::B0 5 1 iv' (Q9 l2).length (D9 (Q9 l2))::Rs)))
theorem X7f (hn:0 < n) (hn2:n≤9223372036854775807) (hGl:Y9 w0) (h:A4 w0 w (zdT D (.slice none 0 0) cl most 1 er (some ⟨B,0,none⟩) (K6 1 o)::Z20 (Y0q B) M s::Rs))
  (hml:∀t er s',Z7o M n s t er s'→(∀b∈t,b < 256)∧t.length < 1000000000):
  Calls Tryz.prog 43 #[.pointer (some ⟨D,0,none⟩),.int .i64 (n:Int)] w fun e w'=>V55 w0 w' Rs D B M n o cl most er s e:=by
 have c5:=F7 h 5 _ rfl
 have HT:Hid (Calls Tryz.prog 68 #[.pointer (some ⟨B,0,none⟩),.int .i64 (n:Int)] w _):=A5 (W38 (p:=Y0q B) hn hn2 hGl h.swap)
 have z:=A5 (And.intro hn hml)
 have HQ:=A5 (fun t=>(Y1l 1 o t).symm)
 have a2:=A5 (Y5b o)
 clear h hml
 unfold V55
 obtain ⟨q,hq⟩:∃q,q=K6 1 o:=⟨_,rfl⟩
 rw [←hq] at HT HQ a2⊢
 clear hq
 go_enter Tryz.func43,Tryz.ntmps43
 go_wp2_with fail
 with_reducible refine HT.out.mono ?_
 rintro e w2 ⟨x,t,j,s',rfl,k,l⟩
 clear HT
 obtain ⟨ao,a5,rfl,d,_⟩:=l.own.form
 obtain ⟨g,i⟩:=z.out.2 t j s' k
 by_cases ht:t=[]
 rotate_left
 ·have a4:0 < t.length:=List.length_pos_iff.2 ht
  have HA:=A5 (Y9b q (.slice ao t.length a5) t w2 a2.out l.own.rd g i)
  have f:A4 w0 w2 (zdT D (.slice none 0 0) cl most 1 er (some ⟨B,0,none⟩) q::Z20 (Y0q B) M s'::B0 5 1 (.slice ao t.length a5) t.length (D9 t)::Rs):=l.third.mid
  have a:=A5 (And.intro k ht)
  have d6:=F7 f 6 _ rfl
  have f6:=X5 f 6
  have H5:=A5 (Z18 f 6 (.int .u32 (K6 q t:Nat)) (Z7 (.slice none 0 0) cl most 1 er (some ⟨B,0,none⟩) (K6 1 (o++t))) (by rw [←HQ.out t];rfl))
  obtain ⟨T,y⟩:∃T,T=t.length:=⟨_,rfl⟩
  rw [←y] at HA H5 a4⊢
  have c7:(0:Int) < (T:Int):=by omega
  have HE:=A5 y
  clear k l f z g i d ht y a4
  go_wp2_with fail
  with_reducible refine HA.out.mono ?_
  rintro e w3 ⟨rfl,rfl⟩
  clear HA
  go_wp2
  go_ret2
  refine ⟨t,j,s',a.out.1,.inl ⟨a.out.2,_,rfl, ?_⟩⟩
  have h6:=H5.out
  rw [←HE.out]
  exact h6.third
 subst ht
 rw [T08] at l d
 have f:A4 w0 w2 (zdT D (.slice none 0 0) cl most 1 er (some ⟨B,0,none⟩) q::Z20 (Y0q B) M s'::Rs):=l.drop.swap
 rcases k.none z.out.1 with ⟨rfl,_⟩ | ⟨l2,rfl⟩
 ·have a:=A5 k
  have H3:=A5 f
  clear k l f z g i d
  go_wp2
  go_ret2
  exact ⟨[],5,_,a.out,.inr (.inl ⟨rfl,rfl,rfl,H3.out⟩)⟩
 obtain ⟨hk,r⟩:=X4d f.drop
 by_cases h8:j=8
 ·subst h8
  have HR:Hid (Calls Tryz.prog 69 #[.pointer (some ⟨B,0,none⟩)] w2 _):=A5 (V1y (p:=Y0q B) 8 l2 f.swap)
  have a:=A5 (And.intro k r)
  have d5:=F7 f 5 _ rfl
  clear k l f z g i d hk r
  go_wp2_with fail
  with_reducible refine HR.out.mono ?_
  rintro e w3 ⟨x3,rfl,h4⟩
  obtain ⟨xo,xc,rfl,_,_⟩:=h4.own.form
  have m:A4 w0 w3 (zdT D (.slice none 0 0) cl most 1 er (some ⟨B,0,none⟩) q::B0 5 1 (.slice xo (Q9 l2).length xc) (Q9 l2).length (D9 (Q9 l2))::Rs):=h4.third.third.drop
  have k0:=F7 m 0 _ rfl
  have m0:=X5 m 0
  have h6:=Z18 m 0 (.slice xo (Q9 l2).length xc) (Z7 (.slice xo (Q9 l2).length xc) cl most 1 er (some ⟨B,0,none⟩) q) rfl
  have k5:=F7 h6 5 _ rfl
  have m5:=X5 h6 5
  have h7:=Z18 h6 5 (.pointer none) (Z7 (.slice xo (Q9 l2).length xc) cl most 1 er none q) rfl
  have k3:=F7 h7 3 _ rfl
  have m3:=X5 h7 3
  have H8:=A5 (Z18 h7 3 (.int .i64 2) (Z7 (.slice xo (Q9 l2).length xc) cl most 2 er none q) rfl)
  clear h4 m h6 h7 HR
  go_wp2
  go_ret2
  exact ⟨[],8,_,a.out.1,.inr (.inr (.inr ⟨rfl,rfl,l2,_,rfl,a.out.2,rfl,H8.out⟩))⟩
 have m:j≠5:=by omega
 have c3:¬(j:Int)=5:=by omega
 have c4:¬(j:Int)=8:=by omega
 have a3:=A5 (Z5q j j rfl f)
 have a:=A5 (And.intro k (And.intro m (And.intro h8 (show j≠0 by omega))))
 clear k l f z g i d m h8 hk r
 go_wp2_with fail
 with_reducible refine a3.out.mono ?_
 rintro e w3 ⟨rfl,h4⟩
 have H4:=A5 (h4.swap.drop)
 clear h4 a3
 go_wp2
 go_ret2
 exact ⟨[],j,_,a.out.1,.inr (.inr (.inl ⟨rfl,a.out.2,rfl,H4.out⟩))⟩
end
section
variable {w0 w:World} {Rs:List A6} {D:Nat} {iv:Value} {cl:Bool} {most er sm:Nat} {sp:Option Addr} {R:Value→Int→World→Prop}
theorem Y7t (n:Int) (h:A4 w0 w (zdT D iv cl most 0 er sp sm::Rs)) (hc:Calls Tryz.prog 42 #[.pointer (some ⟨D,0,none⟩)] w fun e w'=>∃k,e= .returned (.int .i64 k)∧R (.slice none 0 0) k w'):
  Calls Tryz.prog 25 #[.pointer (some ⟨D,0,none⟩),.int .i64 n] w fun e w'=>∃x k,e= .returned (.tuple #[x,.int .i64 k])∧R x k w':=by
 have f:=F7 h 3 _ rfl
 have a:=A5 hc
 clear h hc
 go_enter Tryz.func25,Tryz.ntmps25
 go_wp2_with fail
 with_reducible refine a.out.mono ?_
 rintro e g ⟨k,rfl,b⟩
 have d:=A5 b
 clear b a
 go_wp2
 go_ret2
 exact ⟨_,_,rfl,d.out⟩
theorem W02 (n:Int) (h:A4 w0 w (zdT D iv cl most 1 er sp sm::Rs)) (hc:Calls Tryz.prog 43 #[.pointer (some ⟨D,0,none⟩),.int .i64 n] w fun e w'=>∃x k,e= .returned (.tuple #[x,.int .i64 k])∧R x k w'):
  Calls Tryz.prog 25 #[.pointer (some ⟨D,0,none⟩),.int .i64 n] w fun e w'=>∃x k,e= .returned (.tuple #[x,.int .i64 k])∧R x k w':=by
 have f:=F7 h 3 _ rfl
 have a:=A5 hc
 clear h hc
 go_enter Tryz.func25,Tryz.ntmps25
 go_wp2_with fail
 with_reducible refine a.out.mono ?_
 rintro e g ⟨x,k,rfl,b⟩
 have d:=A5 b
 clear b a
 go_wp2
 go_ret2
 exact ⟨_,_,rfl,d.out⟩
theorem W0o (n:Int) (h:A4 w0 w (zdT D iv cl most 2 er sp sm::Rs)) (hc:Calls Tryz.prog 44 #[.pointer (some ⟨D,0,none⟩)] w fun e w'=>∃k,e= .returned (.int .i64 k)∧R (.slice none 0 0) k w'):
  Calls Tryz.prog 25 #[.pointer (some ⟨D,0,none⟩),.int .i64 n] w fun e w'=>∃x k,e= .returned (.tuple #[x,.int .i64 k])∧R x k w':=by
 have f:=F7 h 3 _ rfl
 have a:=A5 hc
 clear h hc
 go_enter Tryz.func25,Tryz.ntmps25
 go_wp2_with fail
 with_reducible refine a.out.mono ?_
 rintro e g ⟨k,rfl,b⟩
 have d:=A5 b
 clear b a
 go_wp2
 go_ret2
 exact ⟨_,_,rfl,d.out⟩
theorem X8p (n:Int) (h:A4 w0 w (zdT D iv cl most 3 er sp sm::Rs)) (hc:Calls Tryz.prog 45 #[.pointer (some ⟨D,0,none⟩)] w fun e w'=>∃k,e= .returned (.int .i64 k)∧R (.slice none 0 0) k w'):
  Calls Tryz.prog 25 #[.pointer (some ⟨D,0,none⟩),.int .i64 n] w fun e w'=>∃x k,e= .returned (.tuple #[x,.int .i64 k])∧R x k w':=by
 have f:=F7 h 3 _ rfl
 have a:=A5 hc
 clear h hc
 go_enter Tryz.func25,Tryz.ntmps25
 go_wp2_with fail
 with_reducible refine a.out.mono ?_
 rintro e g ⟨k,rfl,b⟩
 have d:=A5 b
 clear b a
 go_wp2
 go_ret2
 exact ⟨_,_,rfl,d.out⟩
theorem X8z (n:Int) (h:A4 w0 w (zdT D iv cl most 4 er sp sm::Rs)):
  Calls Tryz.prog 25 #[.pointer (some ⟨D,0,none⟩),.int .i64 n] w fun e w'=>∃x k,e= .returned (.tuple #[x,.int .i64 k])∧x= .slice none 0 0∧k=(er:Int)∧A4 w0 w' (zdT D iv cl most 4 er sp sm::Rs):=by
 have a:=F7 h 3 _ rfl
 have b:=F7 h 4 _ rfl
 have H:=A5 h.drew
 clear h
 go_enter Tryz.func25,Tryz.ntmps25
 go_wp2
 go_region
 all_goals
  go_wp2
  go_ret2
  exact ⟨_,_,rfl,rfl,rfl,H.out⟩
end
inductive ZSt where
 | hdr (l:List Nat)
 | str (B:Nat) (s:DSt) (o:List Nat)
 | tot (o l:List Nat)
 | fin (o l:List Nat)
 | bad (e sm:Nat)
def zL (D:Nat) (cl:Bool) (M:Nat) (iv:Value):ZSt→List A6
 | .hdr l=>[zdT D iv cl M 0 0 none 0,B0 5 1 iv l.length (D9 l)]
 | .str B s o=>[zdT D (.slice none 0 0) cl M 1 0 (some ⟨B,0,none⟩) (K6 1 o),Z20 (Y0q B) M s]
 | .tot o l=>[zdT D iv cl M 2 0 none (K6 1 o),B0 5 1 iv l.length (D9 l)]
 | .fin o l=>[zdT D iv cl M 3 0 none (K6 1 o),B0 5 1 iv l.length (D9 l)]
 | .bad e sm=>[zdT D (.slice none 0 0) cl M 4 e none sm]
def zT (D:Nat) (cl:Bool) (M:Nat) (st:ZSt):A6:=exT fun iv:Value=>Z0g (zL D cl M iv st)
def ZOk:ZSt→Prop
 | .hdr l=>(∀b∈l,b < 256)∧l.length < 1000000
 | .str _ _ _=>True
 | .tot _ l=>(∀b∈l,b < 256)∧l.length < 1000000000
 | .fin _ _=>True
 | .bad e _=>e≠0
def Y25 (cl:Bool) (M:Nat):ZSt→List Nat→Nat→Prop
 | .hdr l,out,e=>zhd l=5∧out=[]∧e=5
 | .str _ s o,out,e=>X6z cl M o s out e
 | .tot o l,out,e=>out=[]∧e=Z44 cl o l
 | .fin _ l,out,e=>out=[]∧e=Z4w cl l
 | .bad e0 _,out,e=>out=[]∧e=e0
def zmu:ZSt→Nat
 | .hdr _=>0
 | .str _ _ _=>3
 | .tot _ _=>2
 | .fin _ _=>1
 | .bad _ _=>0
inductive W8r (n:Nat) (cl:Bool) (M:Nat) (st:ZSt) (out:List Nat) (e:Nat):List Nat→Nat→ZSt→Prop
 | on {t out':List Nat} {st':ZSt} (ht:t.length≤n) (ho:out=t++out') (hc:Y25 cl M st' out' e) (hk:ZOk st') (hmu:zmu st'+(n-t.length) < zmu st+n):W8r n cl M st out e t 0 st'
 | off {st':ZSt} (ho:out=[]) (hc:Y25 cl M st' [] e) (hk:ZOk st') (he:e≠0):W8r n cl M st out e [] e st'
theorem S8.leZ {M:Nat} {p p':Ph} {l l' o o':List Nat} (h:S8 M p l o p' l' o') (ho:o.length≤M):o'.length≤M:=by
 induction h with
 | refl=>exact ho
 | step hs _ ih=>
  refine ih ?_
  rcases Nat.lt_or_ge M _ with h1 | h1
  ·have a:=(X0n (T07 M) hs).2 h1 ho
   rw [hs] at a
   cases a
  exact h1
section
variable {w0 w:World} {Rs:List A6} {D n M:Nat} {out:List Nat} {e:Nat} {cl:Bool} {st:ZSt}
theorem X27 (h:A4 w0 w (zT D cl M st::Rs)):∃iv,A4 w0 w (zL D cl M iv st++Rs):=by
 obtain ⟨p,a⟩:=h.ex
 exact ⟨p,a.unall⟩
theorem S3 (iv:Value) (h:A4 w0 w (zL D cl M iv st++Rs)):A4 w0 w (zT D cl M st::Rs):=
 A4.mk (R:=fun iv:Value=>Z0g (zL D cl M iv st)) iv (A4.all h)
theorem Z7o.facts {s s':DSt} {t:List Nat} {er:Nat} (h:Z7o M n s t er s') (hm:∀ph l o,s= .run ph l o→o.length≤M∧MOk ph l o):(∀b∈t,b < 256)∧t.length≤M:=by
 cases s with
 | fin e l=>rw [h.1];exact ⟨(fun b hb=>by cases hb),T01 _⟩
 | run ph l o=>
  obtain ⟨f,g⟩:=hm _ _ _ rfl
  have h:Z29 M ph l o (n:Int) t er s':=h
  have a:∀ {ph':Ph} {l':List Nat},S8 M ph l o ph' l' (o++t)→(∀b∈t,b < 256)∧t.length≤M:=fun hr=>by
   have d:=hr.leZ f
   rw [T00] at d
   exact ⟨fun b hb=>(g.reach hr).1.byt b (List.mem_append_right _ hb),by omega⟩
  cases h with
  | full _ hr=>exact a hr
  | wait _ hr _=>exact a hr
  | fin _ hr _ _ _=>exact a hr
theorem W6r (cl:Bool) (l:List Nat):Z4w cl l≠0:=by
 unfold Z4w
 split
 ·split <;> decide
 decide
def X3u (w0 w':World) (Rs:List A6) (D n:Nat) (cl:Bool) (M:Nat) (st:ZSt) (out:List Nat) (e:Nat) (x:Value) (k:Int):Prop:=
 ∃ (t:List Nat) (er:Nat) (st':ZSt),k=(er:Int)∧W8r n cl M st out e t er st'∧A4 w0 w' (B0 5 1 x t.length (D9 t)::zT D cl M st'::Rs)
theorem W69 (hG:Y9 w0) (hn:0 < n) (hn2:n≤9223372036854775807) (hM:M < 100000000) (h:A4 w0 w (zT D cl M st::Rs)) (hok:ZOk st) (hc:Y25 cl M st out e):
  Calls Tryz.prog 25 #[.pointer (some ⟨D,0,none⟩),.int .i64 (n:Int)] w fun en w'=>∃x k,en= .returned (.tuple #[x,.int .i64 k])∧X3u w0 w' Rs D n cl M st out e x k:=by
 obtain ⟨g,d⟩:=X27 h
 cases st with
 | hdr l=>
  have d:A4 w0 w (zdT D g cl M 0 0 none 0::B0 5 1 g l.length (D9 l)::Rs):=d
  obtain ⟨hz,rfl,rfl⟩:zhd l=5∧out=[]∧e=5:=hc
  obtain ⟨i,j⟩:(∀b∈l,b < 256)∧l.length < 1000000:=hok
  refine Y7t (R:=fun x k w'=>X3u w0 w' Rs D n cl M (.hdr l) [] 5 x k) n d ((Y9h d i j (by unfold Y5;omega)).mono ?_)
  rintro en w' ⟨rfl,⟨_,a⟩ | ⟨h0,_⟩ | ⟨h0,_⟩⟩
  ·rw [hz]
   exact ⟨5,rfl,[],5,.hdr l,rfl,.off rfl ⟨hz,rfl,rfl⟩ ⟨i,j⟩ (by decide),(S3 g (show A4 w0 w' (_::_::Rs) from a)).nil 5 1⟩
  ·omega
  omega
 | str B s o=>
  have d:A4 w0 w (zdT D (.slice none 0 0) cl M 1 0 (some ⟨B,0,none⟩) (K6 1 o)::Z20 (Y0q B) M s::Rs):=d
  have hc:X6z cl M o s out e:=hc
  have hm:∀ph l ob,s= .run ph l ob→ob.length≤M∧MOk ph l ob:=fun ph l ob hs=>by
   subst hs
   obtain ⟨a,z,_⟩:=W05 d.drop
   exact ⟨a,z⟩
  refine W02 (R:=fun x k w'=>X3u w0 w' Rs D n cl M (.str B s o) out e x k) n d ((X7f hn hn2 hG d (fun t er s' r=> ?_)).mono ?_)
  ·obtain ⟨a,z⟩:=r.facts hm
   exact ⟨a,by omega⟩
  rintro en w' ⟨t,e1,s',r,p⟩
  obtain ⟨out',f,m⟩:=r.come hc (fun ph l ob hs=>(hm ph l ob hs).2)
  rcases p with ⟨ht,x,rfl,a⟩ | ⟨rfl,rfl,rfl,a⟩ | ⟨rfl,⟨h5,h8,h0⟩,rfl,a⟩ | ⟨rfl,rfl,l2,q,rfl,hfin,rfl,a⟩
  ·have b1:0 < t.length:=List.length_pos_iff.2 ht
   have a4:=r.short hn
   refine ⟨x,0,rfl,t,0,.str B s' (o++t),rfl,.on a4 f m trivial (by show 3+(n-t.length) < 3+n;omega), ?_⟩
   exact (S3 (.slice none 0 0) (show A4 w0 w' (_::_::_::Rs) from a.swap.mid)).swap
  ·rw [T02] at m
   have hh:out'=[]∧e=5∧X6z cl M o s' [] 5:=by
    rcases r.none hn with ⟨_,ph,l,ob,rfl,hs⟩ | ⟨l2,rfl⟩
    ·obtain ⟨rfl,y⟩:=m
     obtain ⟨_,rfl,rfl⟩:=y.err (L:=[]) hs
     exact ⟨rfl,rfl,rfl,y⟩
    have:=(X4d a.drop).1
    omega
   obtain ⟨rfl,rfl,a7⟩:=hh
   subst f
   exact ⟨_,5,rfl,[],5,.str B s' o,rfl,.off rfl a7 trivial (by decide),(S3 (.slice none 0 0) (show A4 w0 w' (_::_::Rs) from a)).nil 5 1⟩
  ·rcases r.none hn with ⟨h9,_⟩ | ⟨l2,rfl⟩
   ·exact absurd h9 h5
   obtain ⟨rfl,hF⟩:W6u cl e1 l2 (o++[]) out' e:=m
   obtain rfl:e=e1:=by
    rcases hF with ⟨_,h⟩ | ⟨h,_⟩
    ·exact h
    exact absurd h h8
   subst f
   exact ⟨_,(e:Int),rfl,[],e,.bad e (K6 1 o),rfl,.off rfl ⟨rfl,rfl⟩ h0 h0,(S3 g (show A4 w0 w' (_::Rs) from a)).nil 5 1⟩
  obtain ⟨rfl,hF⟩:W6u cl 8 l2 (o++[]) out' e:=m
  rw [T02] at hF
  have a5:e=Z44 cl o (Q9 l2):=by
   rcases hF with ⟨h,_⟩ | ⟨_,h⟩
   ·exact absurd rfl h
   exact h
  subst f
  refine ⟨_,0,rfl,[],0,.tot o (Q9 l2),rfl,.on (out':=[]) (T01 _) rfl ⟨rfl,a5⟩ ⟨?_, ?_⟩ (by show 2+(n-0) < 3+n;omega),(S3 q (show A4 w0 w' (_::_::Rs) from a)).nil 5 1⟩
  ·exact Z69 _ fun b hb=>hfin.1 b (T0b hb)
  have h6:=hfin.2
  unfold Q9
  rw [O7,T06]
  unfold Y5 at h6
  omega
 | tot o l=>
  have d:A4 w0 w (zdT D g cl M 2 0 none (K6 1 o)::B0 5 1 g l.length (D9 l)::Rs):=d
  obtain ⟨rfl,rfl⟩:out=[]∧e=Z44 cl o l:=hc
  obtain ⟨i,j⟩:(∀b∈l,b < 256)∧l.length < 1000000000:=hok
  refine W0o (R:=fun x k w'=>X3u w0 w' Rs D n cl M (.tot o l) [] (Z44 cl o l) x k) n d ((W3i d i j).mono ?_)
  unfold Z44
  rintro en w' (⟨h4,rfl,a⟩ | ⟨h4,hx,rfl,a⟩ | ⟨h4,hx,rfl,q,a⟩)
  ·rw [if_pos h4]
   exact ⟨5,rfl,[],5,.tot o l,rfl,.off rfl ⟨rfl,by unfold Z44;rw [if_pos h4]⟩ ⟨i,j⟩ (by decide),(S3 g (show A4 w0 w' (_::_::Rs) from a)).nil 5 1⟩
  ·rw [if_neg (by omega),if_neg hx]
   exact ⟨4,rfl,[],4,.bad 4 (K6 1 o),rfl,.off rfl ⟨rfl,rfl⟩ (show (4:Nat)≠0 by decide) (by decide),(S3 g (show A4 w0 w' (_::Rs) from a)).nil 5 1⟩
  rw [if_neg (by omega),if_pos hx]
  exact ⟨0,rfl,[],0,.fin o (l.drop 4),rfl,.on (out':=[]) (T01 _) rfl ⟨rfl,rfl⟩ trivial (by show 1+(n-0) < 2+n;omega),(S3 q (show A4 w0 w' (_::_::Rs) from a)).nil 5 1⟩
 | fin o l=>
  have d:A4 w0 w (zdT D g cl M 3 0 none (K6 1 o)::B0 5 1 g l.length (D9 l)::Rs):=d
  obtain ⟨rfl,rfl⟩:out=[]∧e=Z4w cl l:=hc
  refine X8p (R:=fun x k w'=>X3u w0 w' Rs D n cl M (.fin o l) [] (Z4w cl l) x k) n d ((W50 d).mono ?_)
  rintro en w' ⟨rfl,⟨rfl,a⟩ | ⟨hl,a⟩⟩
  ·exact ⟨_,rfl,[],_,.fin o [],rfl,.off rfl ⟨rfl,rfl⟩ trivial (W6r _ _),(S3 g (show A4 w0 w' (_::_::Rs) from a)).nil 5 1⟩
  have z:Z4w cl l=2:=by unfold Z4w;rw [if_neg hl]
  rw [z]
  exact ⟨_,rfl,[],_,.bad 2 (K6 1 o),rfl,.off rfl ⟨rfl,rfl⟩ (show (2:Nat)≠0 by decide) (by decide),(S3 g (show A4 w0 w' (_::Rs) from a)).nil 5 1⟩
 | bad e0 sm=>
  have d:A4 w0 w (zdT D (.slice none 0 0) cl M 4 e0 none sm::Rs):=d
  obtain ⟨rfl,rfl⟩:out=[]∧e=e0:=hc
  refine (X8z n d).mono ?_
  rintro en w' ⟨x,k,rfl,rfl,rfl,a⟩
  exact ⟨_,_,rfl,[],e,.bad e sm,rfl,.off rfl ⟨rfl,rfl⟩ hok hok,(S3 g (show A4 w0 w' (_::Rs) from a)).nil 5 1⟩
end
def TkZ (w0 wr:World) (Rs:List A6) (D n:Nat) (cl:Bool) (M:Nat) (out:List Nat) (e g:Nat) (v:Value) (t:List Nat) (er:Nat):Prop:=
 ∃ (st:ZSt) (out':List Nat),out=t++out'∧t.length≤n∧Y25 cl M st out' e∧ZOk st∧A4 w0 wr (B0 5 1 v t.length (D9 t)::zT D cl M st::Rs)∧
  (er=0∧zmu st+(n-t.length) < g∨er=e∧er≠0∧out'=[]∧0 < g∧t.length < n)
def X4b (w0 w':World) (Rs:List A6) (D n:Nat) (cl:Bool) (M:Nat) (out:List Nat) (e:Nat) (en:Ending):Prop:=
 ∃ (x:Value) (t:List Nat) (er:Nat) (st:ZSt) (out':List Nat),en= .returned (.tuple #[x,.int .i64 (er:Int)])∧out=t++out'∧Y25 cl M st out' e∧ZOk st∧
  A4 w0 w' (B0 5 1 x t.length (D9 t)::zT D cl M st::Rs)∧(er=0∧t.length=n∨t.length < n∧out'=[]∧er=if t=[] then e else 5)
section
variable {w0 w:World} {Rs:List A6} {D n M:Nat} {out:List Nat} {e:Nat} {cl:Bool} {st:ZSt}
theorem W08 (hG:Y9 w0) (hn2:n≤9223372036854775807) (hM:M < 100000000) (h:A4 w0 w (zT D cl M st::Rs)) (hok:ZOk st) (hc:Y25 cl M st out e) (ho:out.length < 100000000):
  Calls Tryz.prog 26 #[.int .i64 (n:Int),.func (.func 25) #[.pointer (some ⟨D,0,none⟩)] #[]] w fun en w'=>X4b w0 w' Rs D n cl M out e en:=by
 obtain ⟨i0,c0,c1,c2,c3⟩:=info_parts Z1o
 have d2:1000000000≤maxLen:=by decide
 have H0:Hid (TkZ w0 w Rs D n cl M out e (zmu st+n+1) (.slice none 0 0) [] 0):=
  A5 ⟨st,out,rfl,T01 _,hc,hok,h.nil _ 1,.inl ⟨rfl,by simp⟩⟩
 have HO:=A5 (And.intro hG (And.intro hn2 (And.intro ho hM)))
 clear h hok hc hn2 hG ho hM
 go_enter Tryz.func26,Tryz.ntmps26
 go_wp2
 go_loopg [6,7] (zmu st+n+1) (fun g t6 t7 wr=>∃ (ao:Option Addr) (y:Nat) (t:List Nat) (er:Nat),t6= .slice ao t.length y∧t7= .int .i64 (er:Int)∧Hid (TkZ w0 wr Rs D n cl M out e g (.slice ao t.length y) t er))
 case atStart=>exact ⟨none,0,[],0,rfl,rfl,H0⟩
 case round=>
  obtain ⟨ao,y,t,er,rfl,rfl,HT⟩:=hrel
  obtain ⟨z,b0,a,o,b,d,h1,a1⟩:=HT.out
  clear HT H0
  have l:t.length < 100000000:=by
   have:=congrArg T03 a
   have:=HO.out.2.2.1
   rw [T00] at*
   omega
  obtain ⟨T,i⟩:∃T,T=t.length:=⟨_,rfl⟩
  rw [←i] at h1⊢
  rcases a1 with ⟨rfl,hg⟩ | ⟨rfl,he0,rfl,hg,f⟩
  ·by_cases a7:T < n
   rotate_left
   ·obtain rfl:T=n:=by omega
    have a5:¬(T:Int) < (T:Int):=by omega
    have H1:=A5 h1
    have p:=A5 (And.intro a (And.intro b (And.intro d i)))
    clear a o b d h1 hg i l a7
    go_wp2
    go_ret2
    obtain ⟨a,b,d,i⟩:=p.out
    have j:=H1.out
    rw [i] at j⊢
    exact ⟨_,t,0,z,b0,rfl,a,b,d,j,.inl ⟨rfl,rfl⟩⟩
   have a5:(T:Int) < (n:Int):=by omega
   obtain ⟨q,hq⟩:∃q,q=n-T:=⟨_,rfl⟩
   have d3:(n:Int)- (T:Int)=(q:Int):=by omega
   have d4:IntKind.i64.wrap (q:Int)=(q:Int):=IntWalk.i64_in _ (by have:=HO.out.2.1;omega)
   have HS:=A5 (W69 (n:=q) HO.out.1 (by omega) (by have:=HO.out.2.1;omega) HO.out.2.2.2 h1.swap d b)
   have d5:0 < gk:=by omega
   have p:=A5 (And.intro a (And.intro o (And.intro hg (And.intro i (And.intro hq l)))))
   clear a o b d h1 hg i hq l a7
   go_wp2_with fail
   with_reducible refine HS.out.mono ?_
   rintro en w2 ⟨x,k,rfl,s,b8,a8,rfl,hR,j⟩
   obtain ⟨xo,xc,rfl,c5,_⟩:=j.own.form
   have a6:s.length≤q∧s.length < 100000000:=by
    have h3:=congrArg T03 p.out.1
    have h4:=HO.out.2.2.1
    rw [T00] at h3
    cases hR with
    | on ht ho hc hk hmu=>
     have h5:=congrArg T03 ho
     rw [T00] at h5
     exact ⟨ht,by omega⟩
    | off _ _ _ _=>exact ⟨T01 _,by decide⟩
   obtain ⟨K,hK⟩:∃K,K=T+s.length:=⟨_,rfl⟩
   have d8:K < 1000000000:=by have:=p.out.2.2.2.2.2;have:=p.out.2.2.2.1;omega
   have H3:=A5 j.third
   have HX:=A5 (j.own.rd)
   have HR:=A5 hR
   have HK:=A5 hK
   have b2:=A5 a6
   clear j hR hK HS a6 c5
   go_wp2_with ((with_reducible show wpList _ _ _ (⟨some 28,_,_,_,_,_⟩::_) _ _);go_must (refine D6 rfl (.tmp 26) (.tmp 27) 26 rfl 5 i0 (.int .u8 0) 1 1 Tryz.underlying26 c0 c1 c2 c3 rfl (by decide) _ T (D9 t) rfl H3.out _ s.length (D9 s) rfl HX.out (T0 _) K HK.out (by omega) (by omega) ?_);intro yo yc w7 h7;have H7:=A5 h7;clear h7)
   go_roundg (gk-1)
   case measure=>omega
   case rel=>
    obtain ⟨a,o,hg,i,hq,l⟩:=p.out
    have m:K=(t++s).length:=by rw [HK.out,T00,i]
    have hE:=b2.out.1
    refine ⟨yo,yc,t++s,b8,by rw [←m],rfl,A5 ?_⟩
    rw [←m]
    have h9:=H7.out
    rw [←J8,m] at h9
    have b4:=HR.out
    cases b4 with
    | on ht ho hc hk hmu=>
     rename_i a9
     subst ho
     refine ⟨a8,a9,by rw [a,T05],by rw [T00];omega,hc,hk, ?_,.inl ⟨rfl, ?_⟩⟩
     ·rw [m]
      exact h9.swap.drop
     rw [T00];omega
    | off ho hc hk he=>
     subst ho
     refine ⟨a8,[],by rw [a];simp,by rw [T02];omega,hc,hk, ?_,.inr ⟨rfl,he,rfl, ?_, ?_⟩⟩
     ·rw [m]
      exact h9.swap.drop
     ·omega
     rw [T02];omega
  have e3:¬(er:Int)=0:=by omega
  have e4:((er:Int) != 0)=true:=by simp;omega
  have H1:=A5 h1
  have p:=A5 (And.intro a (And.intro b (And.intro d (And.intro i f))))
  clear a o b d h1 hg l f
  by_cases r:T=0
  ·have b5:¬(0:Int) < (T:Int):=by omega
   have HN:=A5 (T0c (i.symm.trans r))
   clear r i
   go_wp2
   go_ret2
   obtain ⟨a,b,d,i,f⟩:=p.out
   have j:=H1.out
   rw [i] at j⊢
   exact ⟨_,t,er,z,[],rfl,a,b,d,j,.inr ⟨f,rfl,by rw [if_pos HN.out]⟩⟩
  have b5:(0:Int) < (T:Int):=by omega
  have HN:=A5 (show t≠[] from fun h=>r (by rw [i,h];rfl))
  clear r i
  go_wp2
  go_ret2
  obtain ⟨a,b,d,i,f⟩:=p.out
  have j:=H1.out
  rw [i] at j⊢
  exact ⟨_,t,5,z,[],rfl,a,b,d,j,.inr ⟨f,rfl,by rw [if_neg HN.out]⟩⟩
theorem W3s (hG:Y9 w0) (hn2:n≤9223372036854775807) (hM:M < 100000000) (h:A4 w0 w (zT D cl M st::Rs)) (hok:ZOk st) (hc:Y25 cl M st out e) (ho:out.length < 100000000):
  Calls Tryz.prog 14 #[.pointer (some ⟨D,0,none⟩),.int .i64 (n:Int)] w fun en w'=>X4b w0 w' Rs D n cl M out e en:=by
 have d:=A5 (W08 hG hn2 hM h hok hc ho)
 clear h hok hc
 go_enter Tryz.func14,Tryz.ntmps14
 go_wp2_with fail
 with_reducible refine d.out.mono ?_
 rintro en j ⟨x,t,i,b,a,rfl,f⟩
 have g:=A5 f
 clear f d
 go_wp2
 go_ret2
 exact ⟨x,t,i,b,a,rfl,g.out⟩
end
def V17 (M:Nat) (l:List Nat) (st:ZSt):Prop:=ZOk st∧∀cl out e,Z42 cl M l out e→Y25 cl M st out e
def FdZ (w0 wr:World) (Rs:List A6) (D M:Nat) (l:List Nat) (n g:Nat):Prop:=
 (g=2∧∃ (yo:Option Addr) (yc:Nat),A4 w0 wr (zdT D (.slice yo n yc) false M 0 0 none 0::B0 5 1 (.slice yo n yc) n (D9 l)::Rs))∨
 (g=1∧∃B,V17 M l (.str B (.run .hd (D7 (l.drop 2)) []) [])∧A4 w0 wr (zdT D (.slice none 0 0) false M 1 0 (some ⟨B,0,none⟩) 1::Z20 (Y0q B) M (.run .hd (D7 (l.drop 2)) [])::Rs))
section
variable {w0 w:World} {Rs:List A6} {D n M:Nat} {l:List Nat} {cl:Bool} {st:ZSt}
theorem V2n (B:Nat) (h:A4 w0 w (zdT D (.slice none 0 0) cl M 1 0 (some ⟨B,0,none⟩) 1::Z20 (Y0q B) M (.run .hd (D7 (l.drop 2)) [])::Rs)):A4 w0 w (zT D cl M (.str B (.run .hd (D7 (l.drop 2)) []) [])::Rs):=
 S3 (.slice none 0 0) (show A4 w0 w (zdT D (.slice none 0 0) cl M 1 0 (some ⟨B,0,none⟩) (K6 1 [])::_::Rs) by rw [show K6 1 []=1 by decide];exact h)
theorem W0b {yo:Option Addr} {yc:Nat} (hb:∀b∈l,b < 256) (hl:l.length < 1000000) (hM:M < 100000000) (hn:n=l.length)
  (h:A4 w0 w (zdT D (.slice yo n yc) false M 0 0 none 0::B0 5 1 (.slice yo n yc) n (D9 l)::Rs)):
  Calls Tryz.prog 25 #[.pointer (some ⟨D,0,none⟩),.int .i64 0] w fun en w'=>∃k:Nat,en= .returned (.tuple #[.slice none 0 0,.int .i64 (k:Int)])∧
   (0 < k∧(∃st,V17 M l st∧A4 w0 w' (zT D false M st::Rs))∨k=0∧∃B,V17 M l (.str B (.run .hd (D7 (l.drop 2)) []) [])∧A4 w0 w' (zdT D (.slice none 0 0) false M 1 0 (some ⟨B,0,none⟩) 1::Z20 (Y0q B) M (.run .hd (D7 (l.drop 2)) [])::Rs)):=by
 subst hn
 refine (Y7t (R:=fun x k w'=>x= .slice none 0 0∧X10 w0 w' Rs D l (.slice yo l.length yc) false M 0 0 (.returned (.int .i64 k))) 0 h ((Y9h h hb hl (by unfold Y5;omega)).mono ?_)).mono ?_
 ·rintro en w' a
  obtain ⟨rfl,_⟩:=id a
  exact ⟨_,rfl,rfl,a⟩
 rintro en w' ⟨x,k,rfl,rfl,d,a⟩
 obtain rfl:k=(zhd l:Nat):=by cases d;rfl
 refine ⟨zhd l,rfl, ?_⟩
 rcases a with ⟨hz,h2⟩ | ⟨hz,h2⟩ | ⟨hz,B,h2⟩
 ·refine .inl ⟨by omega,.hdr l,⟨⟨hb,hl⟩,fun cl out e hg=> ?_⟩,S3 (.slice yo l.length yc) (show A4 w0 w' (_::_::Rs) from h2)⟩
  rcases hg with ⟨_,rfl,rfl⟩ | ⟨h0,_⟩
  ·exact ⟨hz,rfl,hz⟩
  omega
 ·refine .inl ⟨by omega,.bad 2 0,⟨(show (2:Nat)≠0 by decide),fun cl out e hg=> ?_⟩,S3 (.slice none 0 0) (show A4 w0 w' (_::Rs) from h2)⟩
  rcases hg with ⟨_,rfl,rfl⟩ | ⟨h0,_⟩
  ·exact ⟨rfl,hz⟩
  omega
 refine .inr ⟨hz,B,⟨trivial,fun cl out e hg=> ?_⟩,h2⟩
 rcases hg with ⟨h0,_⟩ | ⟨_,hg⟩
 ·omega
 exact ⟨rfl,hg⟩
theorem Y90 (v:Value) (l:List Nat) (h:A4 w0 w (zT D false M (.hdr [])::Rs)) (hv:∀w',A4 w0 w' Rs→Rd w' 1 v l.length (D9 l)) (hb:∀b∈l,b < 256) (hl:l.length < 1000000) (hM:M < 100000000):
  Calls Tryz.prog 12 #[.pointer (some ⟨D,0,none⟩),v] w fun en w'=>en= .returned (.tuple #[])∧∃st,V17 M l st∧A4 w0 w' (zT D false M st::Rs):=by
 obtain ⟨i0,y,z,a0,a1⟩:=info_parts Z1o
 have a9:1000000000≤maxLen:=by decide
 obtain ⟨iv,a⟩:=X27 h
 have a:A4 w0 w (zdT D iv false M 0 0 none 0::B0 5 1 iv 0 (D9 [])::Rs):=a
 obtain ⟨vo,vc,rfl,b7,_⟩:=(hv w a.drop.drop).form
 obtain ⟨ao,b8,rfl,a8,_⟩:=a.drop.own.form
 have c0:=F7 a 0 _ rfl
 have c1:=F7 a 1 _ rfl
 have p:=F7 a 3 _ rfl
 have q:=A5 (hv w a.drop.drop)
 obtain ⟨n,s⟩:∃n,n=l.length:=⟨_,rfl⟩
 rw [←s] at q⊢
 have H1:=A5 a.swap
 have m:=A5 (And.intro hb (And.intro hl (And.intro hM s)))
 have b2:n < 1000000:=by omega
 clear h a hv hb hl hM s
 go_enter Tryz.func12,Tryz.ntmps12
 go_wp2_with ((with_reducible show wpList _ _ _ (⟨some 38,_,_,_,_,_⟩::_) _ _);go_must (refine D6 rfl (.tmp 36) (.tmp 37) 26 rfl 5 i0 (.int .u8 0) 1 1 Tryz.underlying26 y z a0 a1 rfl (by decide) _ 0 (D9 []) rfl H1.out _ n (D9 l) rfl q.out (T0 _) n (by omega) (by omega) (by omega) ?_);intro t x w2 h2;have o:=h2.swap;have d0:=F7 o 0 _ rfl;have e0:=X5 o 0;have h4:=Z18 o 0 (.slice t n x) (Z7 (.slice t n x) false M 0 0 none 0) rfl;have H4:=A5 h4;clear h2 o h4)
 have H5:Hid (FdZ w0 _ Rs D M l n 2):=A5 (.inl ⟨rfl,t,x,H4.out⟩)
 clear H4 H1 q c0 c1 p d0 e0
 go_loopg [4,5] 2 (fun g t4 t5 wr=>Hid (FdZ w0 wr Rs D M l n g))
 case atStart=>exact H5
 case round=>
  clear H5
  rcases hrel.out with ⟨rfl,yo2,yc2,i⟩ | ⟨rfl,B,f,i⟩
  ·have p:=F7 i 3 _ rfl
   have r:=A5 (W0b m.out.1 m.out.2.1 m.out.2.2.1 m.out.2.2.2 i)
   clear i hrel
   go_wp2_with fail
   with_reducible refine r.out.mono ?_
   rintro en w4 ⟨k,rfl,⟨b5,st,f,j⟩ | ⟨rfl,B,f,j⟩⟩
   ·have d:=A5 (And.intro f j)
    clear f j r
    go_wp2
    refine bodyPost_ret (results_none rfl _ _ _) rfl ?_
    exact ⟨rfl,st,d.out.1,d.out.2⟩
   have d:=A5 (And.intro f j)
   clear f j r
   go_wp2
   go_roundg 1
   case measure=>omega
   case rel=>exact A5 (.inr ⟨rfl,B,d.out.1,d.out.2⟩)
  have p:=F7 i 3 _ rfl
  have d:=A5 (And.intro f (V2n B i))
  clear f i hrel
  go_wp2
  go_end0
  exact ⟨rfl,_,d.out.1,d.out.2⟩
theorem W49 (h:A4 w0 w Rs):A4 w0 (w.alloc (.cells #[.slice none 0 0,.bool false,.int .i64 (M:Int),.int .i64 0,.int .i64 0,.pointer none,.int .u32 0] 61)) (zT w.heap.size false M (.hdr [])::Rs):=by
 have a:A4 w0 _ (zdT w.heap.size (.slice none 0 0) false M 0 0 none 0::Rs):=h.newObj [.slice none 0 0,.bool false,.int .i64 (M:Int),.int .i64 0,.int .i64 0,.pointer none,.int .u32 0] 61
 exact S3 (.slice none 0 0) (show A4 w0 _ (_::_::Rs) from (a.nil 5 1).swap)
theorem X45 (Mi:Int) (hM:Mi=(M:Int)) (h:A4 w0 w Rs):Calls Tryz.prog 11 #[.int .i64 Mi] w fun e w'=>∃D:Nat,e= .returned (.pointer (some ⟨D,0,none⟩))∧A4 w0 w' (zT D false M (.hdr [])::Rs):=by
 subst hM
 have H:=A5 (W49 (M:=M) h)
 clear h
 go_enter Tryz.func11,Tryz.ntmps11
 go_wp2
 go_ret
 exact ⟨_,rfl,H.out⟩
theorem W3v (h:A4 w0 w (zT D cl M st::Rs)):Calls Tryz.prog 13 #[.pointer (some ⟨D,0,none⟩)] w fun e w'=>e= .returned (.tuple #[])∧A4 w0 w' (zT D true M st::Rs):=by
 obtain ⟨a,b⟩:=X27 h
 cases st with
 | hdr l=>exact (Z7e (show A4 w0 w (zdT _ _ _ _ _ _ _ _::_) from b)).mono fun _ _ ⟨h2,h3⟩=>⟨h2,S3 a h3⟩
 | str B s o=>exact (Z7e (show A4 w0 w (zdT _ _ _ _ _ _ _ _::_) from b)).mono fun _ _ ⟨h2,h3⟩=>⟨h2,S3 a h3⟩
 | tot o l=>exact (Z7e (show A4 w0 w (zdT _ _ _ _ _ _ _ _::_) from b)).mono fun _ _ ⟨h2,h3⟩=>⟨h2,S3 a h3⟩
 | fin o l=>exact (Z7e (show A4 w0 w (zdT _ _ _ _ _ _ _ _::_) from b)).mono fun _ _ ⟨h2,h3⟩=>⟨h2,S3 a h3⟩
 | bad e sm=>exact (Z7e (show A4 w0 w (zdT _ _ _ _ _ _ _ _::_) from b)).mono fun _ _ ⟨h2,h3⟩=>⟨h2,S3 a h3⟩
def ZAt (w0 w:World) (Rs:List A6) (D:Nat) (out:List Nat) (e:Nat):Prop:=∃cl M st,M < 100000000∧Y25 cl M st out e∧ZOk st∧A4 w0 w (zT D cl M st::Rs)
theorem Y6i {out:List Nat} {e:Nat} (hG:Y9 w0) (n:Nat) (ni:Int) (hni:ni=(n:Int)) (hn2:n≤9223372036854775807) (h:ZAt w0 w Rs D out e) (ho:out.length < 100000000):
  Calls Tryz.prog 14 #[.pointer (some ⟨D,0,none⟩),.int .i64 ni] w fun en w'=>∃ (x:Value) (t:List Nat) (er:Nat) (out':List Nat),en= .returned (.tuple #[x,.int .i64 (er:Int)])∧out=t++out'∧
   (er=0∧t.length=n∨t.length < n∧out'=[]∧er=if t=[] then e else 5)∧ZAt w0 w' (B0 5 1 x t.length (D9 t)::Rs) D out' e:=by
 subst hni
 obtain ⟨l,M,p,j,m,i,o⟩:=h
 refine (W3s hG hn2 j o i m ho).mono ?_
 rintro en w' ⟨x,t,er,d,out',rfl,f,g,b,k,a⟩
 exact ⟨x,t,er,out',rfl,f,a,l,M,d,j,g,b,k.swap⟩
end
theorem W8a:I7 I5 ((D7 [3,0,0,0,0,1]).drop 3)=(256,7,0):=by
 have h:=X4z (Y0v Z11.1) (k:=256) ⟨7,by kernel_rfl,by decide⟩ (post:=(D7 [3,0,0,0,0,1]).drop 10) (fun b hb=>M8 _ b (T0b hb))
 rw [show E0 I5 256++(D7 [3,0,0,0,0,1]).drop 10=(D7 [3,0,0,0,0,1]).drop 3 by decide+kernel] at h
 exact h
theorem W5w (M:Nat):Z2 M .hd (D7 [3,0,0,0,0,1]) [] 8 ((D7 [3,0,0,0,0,1]).drop 10) []:=by
 refine .go (p1:= .tok true I5 G7) (l1:=(D7 [3,0,0,0,0,1]).drop 3) (o1:=[]) (by kernel_rfl) (.done ?_)
 show Z5p M true I5 G7 _ [] (I7 I5 ((D7 [3,0,0,0,0,1]).drop 3))=_
 rw [W8a]
 rfl
theorem W9x:Z42 true 5 [120,156,3,0,0,0,0,1] [] 8:= .inr ⟨by decide,8,_,W5w 5,.inr ⟨rfl,by
 rw [show Q9 ((D7 [3,0,0,0,0,1]).drop 10)=[0,0,0,1] by decide+kernel]
 decide+kernel⟩⟩
section
variable {w0 w:World} {Rs:List A6} {D M:Nat} {st:ZSt} {l out:List Nat} {e:Nat}
theorem W26 (hM:M < 100000000) (hF:V17 M l st) (hg:Z42 true M l out e) (h:A4 w0 w (zT D false M st::Rs)):
  Calls Tryz.prog 13 #[.pointer (some ⟨D,0,none⟩)] w fun en w'=>en= .returned (.tuple #[])∧ZAt w0 w' Rs D out e:=
 (W3v h).mono fun _ _ ⟨h1,h2⟩=>⟨h1,true,M,st,hM,hF.2 _ _ _ hg,hF.1,h2⟩
theorem ZAt.held (h:ZAt w0 w Rs D out e):∃T,A4 w0 w (T::Rs):=by
 obtain ⟨_,_,_,_,_,_,h⟩:=h
 exact ⟨_,h⟩
theorem Z77 (hG:Y9 w0) (h:A4 w0 w Rs):
  Calls Tryz.prog 6 #[] w fun e w'=>e= .returned (.bool true)∧A4 w0 w' Rs:=by
 have b:=A5 (X45 (M:=5) 5 rfl h)
 have r:=A5 hG
 clear h hG
 go_enter Tryz.func6,Tryz.ntmps6
 go_wp2_with fail
 with_reducible refine b.out.mono ?_
 rintro e a ⟨D,rfl,j⟩
 have d:A4 w0 (a.alloc (.cells #[.int .u8 120,.int .u8 156,.int .u8 3,.int .u8 0,.int .u8 0,.int .u8 0,.int .u8 0,.int .u8 1] 5)) (B0 5 1 (.slice (some ⟨a.heap.size,0,none⟩) 8 8) 8 (D9 [120,156,3,0,0,0,0,1])::_):=j.lit 5 1 (D9 [120,156,3,0,0,0,0,1]) 8 (by decide) rfl
 have f:=A5 (Y90 (M:=5) (.slice (some ⟨a.heap.size,0,none⟩) 8 8) [120,156,3,0,0,0,0,1] d.swap (fun w' h=>h.own.rd) (by decide) (by decide) (by decide))
 clear j d b
 go_wp2_with fail
 with_reducible refine f.out.mono ?_
 rintro e z ⟨rfl,st,k,l⟩
 have g:=A5 (W26 (by decide) k W9x l)
 clear k l f
 go_wp2_with fail
 with_reducible refine g.out.mono ?_
 rintro e w4 ⟨rfl,m⟩
 have i:=A5 (Y6i r.out 1 1 rfl (by decide) m (by decide))
 clear m g
 go_wp2_with fail
 with_reducible refine i.out.mono ?_
 rintro e w5 ⟨x,t,y,o2,rfl,n,o,p⟩
 obtain rfl:t=[]:=(List.append_eq_nil_iff.1 n.symm).1
 obtain rfl:y=8:=by
  rcases o with ⟨_,h1⟩ | ⟨_,_,h1⟩
  ·cases h1
  rwa [if_pos rfl] at h1
 obtain ⟨T,q⟩:=p.held
 have s:=A5 q.drop.drop.drop
 clear p q i n o
 go_wp2
 go_ret
 exact ⟨rfl,s.out⟩
end
def V71 (w0 wr:World) (B:Nat) (fv av:Value) (nf na i:Nat):Prop:=
 ∃ (x:List Nat) (s:O6 U5) (H O Fl:List Nat),O4 K5 x s (D7 O) 0∧(∀b∈O,b < 256)∧Fl++H=120::156::O∧nf=Fl.length∧na=x.length∧x.length≤2000*i∧
  A4 w0 wr [zeT B x s H,B0 5 1 fv nf (D9 Fl),B0 5 1 av na (D9 x)]
theorem W28 {w0 w:World} {Rs:List A6} (h:A4 w0 w Rs) (v u:Value) (a:List Nat) (n:Nat) (hn:n=a.length) (hv:Rd w 1 v n (D9 a)) (hu:Rd w 1 u n (D9 a)) (hal:n < 8000000000):
  Calls Tryz.prog 15 #[v,u] w fun e w'=>e= .returned (.bool true)∧A4 w0 w' Rs:=by
 subst hn
 exact W46 h v u a a rfl hv hu hal
theorem X4h {S x:List Nat} {N:Nat} (hS:W84 S x) (hN:x.length≤N):Z42 true N (X05 S x) x 8:=by
 have a:=X83 hS hN (X2d (K6 1 x)) true
 have d:(adB x).length=4:=Y01 (K6 1 x)
 have b:Z44 true x (adB x)=8:=by
  unfold Z44
  rw [if_neg (by omega),T0a (by omega),if_pos rfl,List.drop_of_length_le (by omega)]
  rfl
 rw [←b]
 exact a
theorem X9q (tv:Value) (T:List (List Nat×Value)) (K8:Int) (w:World) (HL:Y4v w) (HO:Z4p w) (HG:Y9 w) (hT:W1f w tv T):
  Calls Tryz.prog 3 #[tv,.int .i64 K8] w fun e w'=>e= .returned (.bool true)∧Below w.heap.size w w':=by
 obtain ⟨i0,c5,c6,c7,c8⟩:=info_parts Z1o
 have e3:=A5 (show 1000000000≤maxLen by decide)
 have p6:most=16777216:=rfl
 obtain ⟨m8,tc,rfl,m9,_⟩:=hT.1.form
 obtain ⟨nt,e9⟩:∃n,n=T.length:=⟨_,rfl⟩
 have n3:(0:Int)≤(nt:Int):=T0d _
 rw [←e9]
 have HN:=A5 (W4i K8 HL (A4.start w))
 have HV:=A5 (And.intro hT e9)
 have m:=A5 (And.intro HO HG)
 clear hT e9 HL HO HG m9
 by_cases e8:nt≤10
 rotate_left
 ·have f8:(10:Int) < (nt:Int):=by omega
  go_enter Tryz.func3,Tryz.ntmps3
  go_wp2_with fail
  with_reducible refine HN.out.mono ?_
  rintro l w2 ⟨B,rfl,h2⟩
  have HA:=A5 (Z77 m.out.2 h2)
  clear h2 HN
  go_wp2_with fail
  with_reducible refine HA.out.mono ?_
  rintro l w3 ⟨rfl,h3⟩
  have i5:=A5 (Z77 m.out.2 h3)
  clear h3 HA
  go_wp2_with fail
  with_reducible refine i5.out.mono ?_
  rintro l w4 ⟨rfl,r⟩
  have H4:=A5 r.mod.toBelow
  clear r i5
  go_wp2
  go_ret
  exact ⟨rfl,H4.out⟩
 have f8:¬(10:Int) < (nt:Int):=by omega
 go_enter Tryz.func3,Tryz.ntmps3
 go_wp2_with fail
 with_reducible refine HN.out.mono ?_
 rintro l w2 ⟨B,rfl,h2⟩
 have HA:=A5 (Z77 m.out.2 h2)
 clear h2 HN
 go_wp2_with fail
 with_reducible refine HA.out.mono ?_
 rintro l w3 ⟨rfl,h3⟩
 have H0:Hid (V71 w w3 B (.slice none 0 0) (.slice none 0 0) 0 0 0):=A5 ⟨[],_,[120,156],[],[],W4o K8 Z50,(fun b hb=>by cases hb),rfl,rfl,rfl,T01 _,((h3.nil _ 1).nil _ 1).third⟩
 clear h3 HA
 go_wp2
 go_loopg [6,7,8] (11) (fun g t6 t7 t8 wr=>∃ (i nf k:Nat) (fo:Option Addr) (fc:Nat) (ao:Option Addr) (ac:Nat),t6= .slice fo nf fc∧t7= .slice ao k ac∧t8= .int .i64 (i:Int)∧g=11-i∧i≤10∧Hid (V71 w wr B (.slice fo nf fc) (.slice ao k ac) nf k i))
 case atStart=>exact ⟨0,0,0,none,0,none,0,rfl,rfl,rfl,rfl,by decide,H0⟩
 case round=>
  obtain ⟨i,nf,k,fo,fc,ao,ac,rfl,rfl,rfl,rfl,p2,HB⟩:=hrel
  clear H0
  have n5:(0:Int)≤(i:Int):=T0d _
  by_cases hit:i < nt
  ·have g0:(i:Int) < (nt:Int):=by omega
   have g1:i < T.length:=by have:=HV.out.2;omega
   obtain ⟨b,bv,f5⟩:∃b bv,T[i]=(b,bv):=⟨_,_,rfl⟩
   obtain ⟨i6,f1⟩:(∀c∈b,c < 256)∧Rd w 1 bv b.length (D9 b):=by
    have:=HV.out.1.2 T[i] (List.getElem_mem _)
    rw [f5] at this
    exact this
   obtain ⟨bo,bc,rfl,r7,_⟩:=f1.form
   have g2:Hid (Rd w 1 (.slice m8 nt tc) nt (T.map Prod.snd)):=A5 (by rw [HV.out.2];exact HV.out.1.1)
   obtain ⟨tg,k0,rfl,_⟩:=g2.out.spot (by omega)
   have b5:Hid (∀w' Rs,A4 w w' Rs→w'.cell? ⟨tg,k0+i,none⟩=some (.slice bo b.length bc)):=A5 (fun w' Rs h=>by
    obtain ⟨g',o',he,j⟩:=(h.old g2.out).spot (by omega)
    simp only [Option.some.injEq,Addr.mk.injEq,and_true] at he
    obtain ⟨rfl,rfl⟩:=he
    refine j i _ ?_
    rw [T09,List.getElem?_eq_getElem g1,f5]
    rfl)
   obtain ⟨q,hq⟩:∃q,q=b.length:=⟨_,rfl⟩
   have f:=A5 (And.intro i6 (And.intro f1 hq))
   rw [←hq] at b5
   clear i6 f1 f5 hq g1
   obtain ⟨x,s,H,O,Fl,hI,hO,hF,a1,a2,a9,r⟩:=HB.out
   have c1:=b5.out _ _ r
   by_cases m4:q≤2000
   rotate_left
   ·have g3:(2000:Int) < (q:Int):=by omega
    have H5:=A5 r.mod.toBelow
    clear hI hO hF a1 a2 a9 r HB m4
    go_wp2
    go_ret
    exact ⟨rfl,H5.out⟩
   have g3:¬(2000:Int) < (q:Int):=by omega
   have HW:=A5 (X6g r m.out.1 hI (by decide) f.out.2.1 f.out.1 (by have:=f.out.2.2;omega))
   rw [←f.out.2.2] at HW
   have e4:=W4l (F:=I0 D2) Z50 Y3r hI b f.out.1 (by have:=f.out.2.2;omega)
   have b6:(x++b).length=k+q:=by rw [T00,←a2,f.out.2.2]
   have a:=A5 (And.intro e4 (And.intro hO (And.intro hF (And.intro a1 (And.intro b6 a9)))))
   have n6:k+q≤20000:=by omega
   have n7:nf≤200000:=by
    have z:=congrArg T03 hF
    have h6:=(Y45 hI hO).2.2
    rw [T00,T04,T04] at z
    omega
   have p:k+q≤maxLen:=by have:=e3.out;omega
   generalize Z1d K5 (I0 D2) s b=s2 at HW a e4
   clear hI hO hF a1 a2 a9 r HB e4 b6
   go_wp2_with fail
   with_reducible refine HW.out.mono ?_
   rintro l w5 ⟨rfl,z⟩
   have c2:=b5.out _ _ z
   by_cases o7:i%2=1
   rotate_left
   ·have a5:¬(i:Int).tmod 2=1:=by
     show ¬((i%2:Nat):Int)=1
     omega
    have l9:((i:Int).tmod 2==1)=false:=by simpa using a5
    have a7:=A5 (z.old f.out.2.1)
    rw [←f.out.2.2] at a7
    have H7:=A5 z.third
    clear z HW
    go_wp2_with (first
     | ((with_reducible show wpList _ _ _ (⟨some 65,_,_,_,_,_⟩::_) _ _);go_must (refine D6 rfl (.tmp 60) (.tmp 64) 26 rfl 5 i0 (.int .u8 0) 1 1 Tryz.underlying26 c5 c6 c7 c8 rfl (by decide) _ k (D9 x) rfl H7.out _ q (D9 b) rfl a7.out (T0 _) (k+q) rfl p (by omega) ?_);intro po pc w8 h8;rw [←J8] at h8;have H8:=A5 h8;clear h8)
     | fail)
    go_roundg (11- (i+1))
    case measure=>omega
    case rel=>
     refine ⟨i+1,nf,k+q,fo,fc,po,pc,rfl,rfl,by push_cast;rfl,rfl,by omega,A5 ⟨x++b,s2,H,O,Fl,a.out.1,a.out.2.1,a.out.2.2.1,a.out.2.2.2.1,a.out.2.2.2.2.1.symm, ?_,H8.out.swap.mid⟩⟩
     have:=a.out.2.2.2.2.1
     have:=a.out.2.2.2.2.2
     have:=f.out.2.2
     rw [T00]
     omega
   have a5:(i:Int).tmod 2=1:=by
    show ((i%2:Nat):Int)=1
    omega
   obtain ⟨i7,i8,n1⟩:=Y45 a.out.1 a.out.2.1
   have l8:H.length≤200002:=by
    have h6:=congrArg T03 a.out.2.2.1
    have:=a.out.2.2.2.2.1
    rw [T00,T04,T04] at h6
    omega
   have b6:=a.out.2.2.2.2.1
   have HT:=A5 (X3t z (by omega))
   have e5:(Fl++(H++D4 s2.acc))++[]=120::156::(O++D4 s2.acc):=by rw [T02,←T05,a.out.2.2.1];rfl
   have a0:(H++D4 s2.acc).length=H.length+(D4 s2.acc).length:=T00
   obtain ⟨D,hD⟩:∃D,D=H++D4 s2.acc:=⟨_,rfl⟩
   obtain ⟨dn,o⟩:∃dn,dn=D.length:=⟨_,rfl⟩
   rw [←hD] at e5 a0 HT
   rw [←o] at a0 HT
   have b7:=A5 (And.intro i7 (And.intro i8 (And.intro e5 o)))
   have n8:dn≤500000:=by omega
   have g4:nf+dn≤maxLen:=by have:=e3.out;omega
   clear i7 i8 n1 e5 z HW l8 b6 a0 hD o
   go_wp2_with fail
   with_reducible refine HT.out.mono ?_
   rintro l w6 ⟨d,rfl,h6⟩
   obtain ⟨dO,dc,rfl,_,_⟩:=h6.own.form
   have b8:=A5 h6.own.rd
   have H6:=A5 h6.third
   clear h6 HT
   go_wp2_with (first
    | ((with_reducible show wpList _ _ _ (⟨some 59,_,_,_,_,_⟩::_) _ _);go_must (refine D6 rfl (.tmp 56) (.tmp 58) 26 rfl 5 i0 (.int .u8 0) 1 1 Tryz.underlying26 c5 c6 c7 c8 rfl (by decide) _ nf (D9 Fl) rfl H6.out _ dn (D9 D) rfl b8.out (T0 _) (nf+dn) rfl g4 (by omega) ?_);intro qo qc w7 h7;rw [←J8] at h7;have c3:=b5.out _ _ h7;have a7:=A5 (h7.old f.out.2.1);rw [←f.out.2.2] at a7;have H7:=A5 h7.fourth;clear h7)
    | ((with_reducible show wpList _ _ _ (⟨some 65,_,_,_,_,_⟩::_) _ _);go_must (refine D6 rfl (.tmp 60) (.tmp 64) 26 rfl 5 i0 (.int .u8 0) 1 1 Tryz.underlying26 c5 c6 c7 c8 rfl (by decide) _ k (D9 x) rfl H7.out _ q (D9 b) rfl a7.out (T0 _) (k+q) rfl p (by omega) ?_);intro po pc w8 h8;rw [←J8] at h8;have H8:=A5 h8;clear h8)
    | fail)
   go_roundg (11- (i+1))
   case measure=>omega
   case rel=>
    refine ⟨i+1,nf+dn,k+q,qo,qc,po,pc,rfl,rfl,by push_cast;rfl,rfl,by omega,A5 ⟨x++b,_,[],_,Fl++D,b7.out.1,b7.out.2.1,b7.out.2.2.1, ?_,a.out.2.2.2.2.1.symm, ?_, ?_⟩⟩
    ·rw [T00,←a.out.2.2.2.1,←b7.out.2.2.2]
    ·have:=a.out.2.2.2.2.1
     have:=a.out.2.2.2.2.2
     have:=f.out.2.2
     rw [T00]
     omega
    exact H8.out.fourth.mid.fourth.drop
  have g0:¬(i:Int) < (nt:Int):=by omega
  obtain ⟨x,s,H,O,Fl,hI,hO,hF,a1,a2,a9,r⟩:=HB.out
  have g5:x.length≤20000:=by omega
  obtain ⟨hS,k1⟩:=X3c (F:=I0 D2) Z50 Y3r hI hO (by omega)
  have g6:(O++D4 (L3 K5 (I0 D2) s)).length=O.length+(D4 (L3 K5 (I0 D2) s)).length:=T00
  have m0:nf+H.length=O.length+2:=by
   have z:=congrArg T03 hF
   rw [T00,T04,T04] at z
   omega
  have HC:=A5 (X4v r m.out.1 hI (by decide) (by omega) (by omega))
  generalize L3 K5 (I0 D2) s=C at HC hS k1 g6
  have g7:(adB x).length=4:=Y01 (K6 1 x)
  have hZ:Fl++(H++D4 C++adB x)=X05 (O++D4 C) x:=by
   rw [T05,←T05 Fl,hF]
   unfold X05
   rw [T0e,T0e,T05]
  have a0:(H++D4 C++adB x).length=H.length+(D4 C).length+4:=by rw [T00,T00,g7]
  obtain ⟨D1,k3⟩:∃D1,D1=H++D4 C++adB x:=⟨_,rfl⟩
  obtain ⟨dn,o⟩:∃dn,dn=D1.length:=⟨_,rfl⟩
  rw [←k3] at HC hZ a0
  have g9:=X1i (O++D4 C) x
  obtain ⟨Z,d1⟩:∃Z,Z=X05 (O++D4 C) x:=⟨_,rfl⟩
  have hE:=X4h (N:=1048576) hS (by omega)
  have i1:Z[0]?=some 120∧Z[1]?=some 156:=by rw [d1];exact ⟨rfl,rfl⟩
  have i2:∀c∈Z,c < 256:=by rw [d1];exact W39 hS (V40 x)
  rw [←d1] at hZ g9 hE
  obtain ⟨nz,f3⟩:∃nz,nz=nf+dn:=⟨_,rfl⟩
  have d3:nz=Z.length:=by rw [←hZ,T00,←a1,←o,f3]
  have a8:6≤nz∧nz < 100000:=by omega
  have p:nz≤maxLen:=by have:=e3.out;omega
  have a:=A5 (And.intro hE (And.intro i1 (And.intro i2 (And.intro d3 (And.intro f3 (And.intro a2 (And.intro g5 (And.intro hZ o))))))))
  have d4:D1.length < 90000000:=by omega
  have m2:=A5 d4
  have n9:=a8.1
  have o0:=a8.2
  clear hI hO hF a9 r HB hS k1 g6 m0 g7 hZ a0 k3 o g9 d1 hE i1 i2 d3 f3 a2 g5 d4 a8 a1
  go_wp2_with fail
  with_reducible refine HC.out.mono ?_
  rintro l w4 ⟨rfl,z⟩
  have HW:=A5 (X4s z)
  clear z HC
  go_wp2_with fail
  with_reducible refine HW.out.mono ?_
  rintro l w5 ⟨rfl,h6⟩
  have HT:=A5 (X6f h6 (by rw [Y76,T08];have:=m2.out;omega))
  rw [Y76,T02,←a.out.2.2.2.2.2.2.2.2] at HT
  clear h6 HW
  go_wp2_with fail
  with_reducible refine HT.out.mono ?_
  rintro l w6 ⟨d,rfl,h7⟩
  obtain ⟨dO,dc,rfl,_,_⟩:=h7.own.form
  have b8:=A5 h7.own.rd
  have H7:=A5 h7.third
  clear h7 HT
  go_wp2_with (first
   | ((with_reducible show wpList _ _ _ (⟨some 77,_,_,_,_,_⟩::_) _ _);go_must (refine D6 rfl (.tmp 74) (.tmp 76) 26 rfl 5 i0 (.int .u8 0) 1 1 Tryz.underlying26 c5 c6 c7 c8 rfl (by decide) _ nf (D9 Fl) rfl H7.out _ dn (D9 D1) rfl b8.out (T0 _) nz a.out.2.2.2.2.1 p (by omega) ?_);intro qo qc w7 h8;rw [←J8,a.out.2.2.2.2.2.2.2.1] at h8;have H8:=A5 h8;clear h8)
   | fail)
  have HU:=A5 (W0d (.slice qo nz qc) nz Z 1048576 1048576 rfl a.out.2.2.2.1 H8.out (fun w' hh=>hh.own.rd) a.out.2.2.1 (by rw [←a.out.2.2.2.1];omega) (by decide))
  clear H7 b8
  go_wp2_with fail
  with_reducible refine HU.out.mono ?_
  rintro l w8 ⟨y,x1,e1,rfl,hg,h9⟩
  obtain ⟨k4,rfl⟩:=hg.det a.out.1
  rw [k4] at h9
  obtain ⟨yo,yc,rfl,_,_⟩:=h9.own.form
  have HD:=A5 (X45 (M:=1048576) 1048576 rfl h9)
  clear hg k4 h9 HU H8
  go_wp2_with fail
  with_reducible refine HD.out.mono ?_
  rintro l w9 ⟨X,rfl,e8⟩
  have e6:=A5 (Y90 (.slice qo Z.length qc) Z e8 (fun w' hh=>by rw [←a.out.2.2.2.1];exact hh.swap.own.rd) a.out.2.2.1 (by rw [←a.out.2.2.2.1];omega) (by decide))
  rw [←a.out.2.2.2.1] at e6
  clear e8 HD
  go_wp2_with fail
  with_reducible refine e6.out.mono ?_
  rintro l q6 ⟨rfl,st,i9,j0⟩
  have i3:=A5 (W26 (by decide) i9 a.out.1 j0)
  clear i9 j0 e6
  go_wp2_with fail
  with_reducible refine i3.out.mono ?_
  rintro l q7 ⟨rfl,j1⟩
  have HT:=A5 (Y6i m.out.2 k (k:Int) rfl (by have:=a.out.2.2.2.2.2.1;have:=a.out.2.2.2.2.2.2.1;omega) j1 (by have:=a.out.2.2.2.2.2.2.1;omega))
  clear j1 i3
  go_wp2_with fail
  with_reducible refine HT.out.mono ?_
  rintro l q8 ⟨x3,t,er,o1,rfl,b9,j2,f4⟩
  obtain ⟨rfl,rfl,rfl⟩:x=t∧o1=[]∧er=0:=by
   have h3:=congrArg T03 b9
   rw [T00] at h3
   have hq:=a.out.2.2.2.2.2.1
   rcases j2 with ⟨h0,h1⟩ | ⟨h1,h2,_⟩
   ·have r:o1=[]:=T0c (by omega)
    rw [r,T02] at b9
    exact ⟨b9,r,h0⟩
   rw [h2,T08] at h3
   omega
  have e7:=A5 (Y6i m.out.2 1 1 rfl (by decide) f4 (by decide))
  obtain ⟨xo,xc,rfl⟩:∃xo xc,x3= .slice xo x.length xc:=by
   obtain ⟨_,n2⟩:=f4.held
   obtain ⟨xo,xc,c0,_,_⟩:=n2.swap.own.form
   exact ⟨xo,xc,c0⟩
  rw [←a.out.2.2.2.2.2.1] at e7⊢
  clear f4 HT b9 j2
  go_wp2_with fail
  with_reducible refine e7.out.mono ?_
  rintro l j3 ⟨x4,t2,m7,o2,rfl,j4,j5,c0⟩
  obtain ⟨rfl,rfl⟩:t2=[]∧m7=8:=by
   obtain ⟨h1,_⟩:=List.append_eq_nil_iff.1 j4.symm
   subst h1
   rcases j5 with ⟨_,h1⟩ | ⟨_,_,h1⟩
   ·cases h1
   exact ⟨rfl,by rw [if_pos rfl] at h1;exact h1⟩
  obtain ⟨TT,b1⟩:=c0.held
  clear c0 e7 j4 j5
  obtain ⟨gz,e2,rfl,j⟩:=(b1.drop.drop.drop.drop.own.rd).spot (by omega)
  have e0:j3.cell? ⟨gz,e2,none⟩=some (.int .u8 120):=j 0 _ (by unfold D9;rw [T09,a.out.2.1.1];rfl)
  have e1:j3.cell? ⟨gz,e2+1,none⟩=some (.int .u8 156):=j 1 _ (by unfold D9;rw [T09,a.out.2.1.2];rfl)
  have o6:(1:Int) < (nz:Int):=by omega
  have d6:k < 8000000000:=by have:=a.out.2.2.2.2.2.1;have:=a.out.2.2.2.2.2.2.1;omega
  have i4:=A5 (W28 b1 (.slice yo k yc) (.slice ao k ac) x k a.out.2.2.2.2.2.1 b1.fourth.own.rd b1.drop.drop.drop.drop.drop.drop.drop.own.rd d6)
  clear b1 j
  go_wp2_with fail
  with_reducible refine i4.out.mono ?_
  rintro l r2 ⟨rfl,c4⟩
  have d7:=A5 (W28 c4 (.slice xo k xc) (.slice ao k ac) x k a.out.2.2.2.2.2.1 c4.third.own.rd c4.drop.drop.drop.drop.drop.drop.drop.own.rd d6)
  clear c4 i4 e0 e1
  go_wp2_with fail
  with_reducible refine d7.out.mono ?_
  rintro l r3 ⟨rfl,j6⟩
  have m3:=A5 j6.mod.toBelow
  clear j6 d7
  go_wp2
  go_ret
  exact ⟨rfl,m3.out⟩
theorem X5b (tv:Value) (l:List (List Int)) (K8:Int) (w:World) (hL:Y4v w∧Z4p w∧Y9 w) (hg:Y5h.good w [tv] l) (_:(Lit.int .i64 K8).wf=true):
  Calls Tryz.prog 3 #[tv,.int .i64 K8] w fun e w'=>e= .returned (.bool true)∧Below w.heap.size w w':=by
 obtain ⟨T,_,a⟩:=V04 hg
 exact X9q tv T K8 w hL.1 hL.2.1 hL.2.2 a
end Go.Proofs.YtbkbkmgogbgofaaGreatDoor
