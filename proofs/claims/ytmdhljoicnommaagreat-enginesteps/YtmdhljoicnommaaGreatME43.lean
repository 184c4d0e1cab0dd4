/-
  J9LeavesC
  J9LeavesD
  J9Leaves
  J9AsksA
  J9AsksB
  J9AsksC
  J9AsksD
  J9Asks
-/
import Derived.Test.YtmdhljoicnommaaGreatME32
import Derived.Test.YtmdhljoicnommaaGreatME42
namespace Go.Proofs.YtmdhljoicnommaaGreat
set_option maxHeartbeats 12800000
open Go.RowKit
set_option linter.unusedVariables false
set_option maxRecDepth 100000
set_option linter.unusedSimpArgs false
theorem qYp (o:Option (Int×Int)):qBh o=.tuple #[.agg #[U8 (o.getD (0,0)).1,U8 (o.getD (0,0)).2],.bool o.isSome]:=by cases o<;>rfl
theorem yDq {op a A b B:Int}(g:W64 a)(hA:W64 A)(d:W64 b)(k:W64 B){lo hi:Int}{c:Bool}(i:Hid ((doR op a A b B).getD (0,0)=(lo,hi)))(l:Hid ((doR op a A b B).isSome=c))(w:World) :
  Cl 143 #[I4 op,.agg #[U8 a,U8 A],.agg #[U8 b,U8 B]] w fun e f=>e=.returned (.tuple #[.agg #[U8 lo,U8 hi],.bool c])/\Bw w f:=by
 have:=yYw xBm op a A b B w g hA d k;rw [qYp,i.out,l.out] at this;exact this
theorem qTy {i:In}{s:St}(d:∀ t∈s,W64 t.lo/\W64 t.hi)(g:s.length=8)(f:i.b=8∨(0<=i.b/\i.b<=7)):W64 (qBa i s).lo/\W64 (qBa i s).hi:=by
 unfold qBa
 by_cases c:i.b=8
 ·rw [if_pos c];exact ⟨qRk _,qRk _⟩
 ·rw [if_neg c]
  have a:i.b.toNat<s.length:=by omega
  unfold qBg;rw [List.getD_eq_getElem?_getD,List.getElem?_eq_getElem a];exact d _ (List.getElem_mem a)
theorem qUe {s:St}(b:∀ t∈s,W64 t.lo/\W64 t.hi)(c:s.length=8){r:Nat}(d:r<8):W64 (s.getD r Ty.nil).lo/\W64 (s.getD r Ty.nil).hi:=by
 have a:r<s.length:=by omega
 rw [List.getD_eq_getElem?_getD,List.getElem?_eq_getElem a];exact b _ (List.getElem_mem a)
theorem below_dr' {B:Nat}{w Z:World}(h:Below B w Z):Below B w Z.drew:=⟨h.os,h.tape,h.output,h.size,h.block⟩
theorem qQp (c a b d:Int):∀ w:World,(Instr.field 153 (.agg #[I4 c,U8 a,U8 b,I4 d]) 1).run Tryz.prog w=.ok (.agg #[U8 a,U8 b]) w:=fun w=>rfl
theorem SeesT.at8 {w:World}{sb i c:Nat}{s:St}(h:SeesT w (.slice (some ⟨sb,i,none⟩) 8 c) s)(g:s.length=8){r:Nat}(z:r<8):AtT w sb (i+r*4) (s.getD r Ty.nil)/\sb<w.heap.size/\8<=c/\c<=9223372036854775807:=by
 obtain ⟨a,cap,e,A,y,_,o⟩:=h;obtain ⟨b,off,rfl,l,f⟩:=o (fun e=>by rw [e] at g;simp at g);injection e with d B n;injection d with d;injection d with u k;subst u k n;unfold maxLen at y;exact ⟨f r (by omega),l,by omega,by omega⟩
theorem yDm (vm:Value)(cb co N ccap p:Nat)(op d a b P:Int)(sb so a7:Nat)(s:St)(ar:Bool)(w:World)(bf:cb<w.heap.size)(b8:At w cb (co+p*5) ⟨op,d,a,b,P⟩)(bm:p<N)(hN:N<=ccap)(bl:ccap<=9223372036854775807)(hs:SeesT w (.slice (some ⟨sb,so,none⟩) 8 a7) s)(X:s.length=8)(bh:1<=op/\op<=10)(hd:0<=d/\d<=7)(ha:0<=a/\a<=7)(hb:b=8∨(0<=b/\b<=7))(hw:∀ t∈s,W64 t.lo/\W64 t.hi) :
  Cl 121 #[.agg #[vm,.slice (some ⟨cb,co,none⟩) N ccap],I4 p,.slice (some ⟨sb,so,none⟩) 8 a7,.bool ar] w fun e r=>∃ u,e=.returned (.tuple #[u,.bool true])/\r.ownsRow w.heap.size 153 4 u 8 (qAo (s.set d.toNat (doT op (qBg s a) (qBa ⟨op,d,a,b,P⟩ s))))/\Bw w r:=by
 obtain ⟨c,rfl⟩:=Int.eq_ofNat_of_zero_le hd.1
 have a4:c<8:=by omega
 have bi:(c:Int)<8:=by omega
 have bg:(0:Int)<=c:=by omega
 obtain ⟨an,rfl⟩:=Int.eq_ofNat_of_zero_le ha.1
 have ax:an<8:=by omega
 have bo:(an:Int)<8:=by omega
 have bq:(0:Int)<=an:=by omega
 obtain ⟨i0,hi,b9,ba,b5⟩:=qEk;obtain ⟨m0,m1,m2,m3,m4⟩:=b8;simp only at m0 m1 m2 m3 m4;obtain ⟨Z,HZ,au,ac,bn⟩:∃ Z,Hid (Z=(w.alloc (.cells #[vm,.slice (some ⟨cb,co,none⟩) N ccap] 25)).alloc (qBr op c an b P))/\Box Z (w.heap.size+1) op c an b P/\Bw w Z/\Z.heap.size=w.heap.size+2 :=
  ⟨_,rfl,⟨by go_cell,by go_cell,by go_cell,by go_cell,by go_cell⟩,by go_grown,by simp⟩
 have b1:Hid (SeesT Z (.slice (some ⟨sb,so,none⟩) 8 a7) s):=hs.below ac
 have br:s≠[]:=fun e=>by rw [e] at X;simp at X
 clear hs;obtain ⟨tk,tl,th,tm,HT⟩:∃ k lo hi m,Hid (qBa ⟨op,c,an,b,P⟩ s=⟨k,lo,hi,m⟩):=⟨_,_,_,_,rfl⟩;obtain ⟨ak,al,ah,am,HA⟩:∃ k lo hi m,Hid (s.getD an Ty.nil=⟨k,lo,hi,m⟩):=⟨_,_,_,_,rfl⟩;have b7:Hid (qBg s (an:Int)=⟨ak,al,ah,am⟩):=HA.out;have we:=qTy (i:=⟨op,c,an,b,P⟩) hw X hb;rw [HT.out] at we;have wa:=qUe hw X ax;rw [HA.out] at wa;have K:Hid ((W64 tl/\W64 th)/\(W64 al/\W64 ah)):=⟨we,wa⟩;rw [HT.out,b7.out];obtain ⟨n,o,HJ⟩:∃ x y,Hid ((doR op al ah tl th).getD (0,0)=(x,y)):=⟨_,_,rfl⟩;obtain ⟨jb,ao⟩:∃ x,Hid ((doR op al ah tl th).isSome=x):=⟨_,rfl⟩
 have HE:Hid (doT op ⟨ak,al,ah,am⟩ ⟨tk,tl,th,tm⟩=⟨1,n,o,0⟩):=by show _=_;unfold doT;rw [HJ.out];rfl
 rw [HE.out]
 have b6:Hid (qAv op=true):=by show _=_;unfold qAv;simp;omega
 have be:(op==0)=false:=by simp;omega
 clear hw we wa;go_enter Tryz.func121,Tryz.ntmps121
 go_wp2_with (first
  | (at_builtin;rw [<- HZ.out];go_must (refine qCc rfl (.tmp 26) (.tmp 27) 124 rfl Z.heap.size 153 i0 (tyV Ty.nil) Tryz.underlying124 hi b9 ba b5 rfl _ [] rfl (qGw Z Z.heap.size (w.heap.size+1+1) (Nat.le_refl _) (by omega)) _ s rfl (b1.out.below ((Below.refl _ _).alloc (Nat.le_refl _) _)) (by rw [X];unfold maxLen;simp) (by rw [X];simp) (by simp) ?_);intro v3 f S aw;go_must (have a6:Bw Z f:=((Below.refl _ _).alloc (Nat.le_refl _) _).grown aw (by simp) (fun j hj=>by (have bc:w.heap.size+1+1=j:=Option.some.inj hj);omega);rw [List.nil_append,X] at S;obtain ⟨g,c3,rfl,ag,bk,bp⟩:=qEm S;have ai:=Box.below au a6 (by omega);obtain ⟨x0,x1,x2,x3,x4⟩:=id ai;have aq:Hid (SeesT f (.slice (some ⟨sb,so,none⟩) 8 a7) s):=b1.out.below a6;have ae:=a6.size;clear aw))
  | (go_at_call 67;go_must (refine (qCu _ _).mono ?_);rintro e r ⟨rfl,rfl⟩;rw [b6.out]))
 obtain ⟨a5,ay,bj,bd⟩:=aq.out.at8 X ax;rw [HA.out] at a5;have b4:(Box f (w.heap.size+1) op c an b P/\f.cell? ⟨sb,so+an*4+1,none⟩=some (U8 al)/\f.cell? ⟨sb,so+an*4+2,none⟩=some (U8 ah)):=⟨ai,a5.2.1,a5.2.2.1⟩
 have Q:Hid (∀ r:World,Bw f r->(Box r (w.heap.size+1) op c an b P/\r.cell? ⟨sb,so+an*4+1,none⟩=some (U8 al)/\r.cell? ⟨sb,so+an*4+2,none⟩=some (U8 ah))):=fun r ad=>⟨Box.below ai ad (by omega),(ad.cell (p:=⟨sb,so+an*4+1,none⟩) ay).trans a5.2.1,(ad.cell (p:=⟨sb,so+an*4+2,none⟩) ay).trans a5.2.2.1⟩
 have bb:=qQp tk tl th tm;clear a5
 go_region_held3 (fun r=>(r.cell? ⟨w.heap.size+1,0,none⟩=some (I4 op)/\r.cell? ⟨w.heap.size+1,1,none⟩=some (I4 c)/\r.cell? ⟨w.heap.size+1,2,none⟩=some (I4 an)/\r.cell? ⟨w.heap.size+1,3,none⟩=some (I4 b)/\r.cell? ⟨w.heap.size+1,4,none⟩=some (I4 P))/\r.cell? ⟨sb,so+an*4+1,none⟩=some (U8 al)/\r.cell? ⟨sb,so+an*4+2,none⟩=some (U8 ah))
  (first
   | (with_reducible exact aj)
   | (with_reducible exact az)
   | (with_reducible refine Q.out _ ?_;exact qAb (qAb z (Nat.le_refl _)) (Nat.le_refl _))
   | (with_reducible refine Q.out _ ?_;exact qAb z (Nat.le_refl _))
   | (with_reducible refine Q.out _ ?_;exact qAb (qAb z a1) a1)
   | (with_reducible refine Q.out _ ?_;exact qAb z a1)
   | (with_reducible refine Q.out _ ?_;exact qAb (qAb (z.alloc T _) T) T)
   | (with_reducible refine Q.out _ ?_;exact qAb (z.alloc T _) T)
   | (with_reducible refine Q.out _ ?_;exact z.alloc T _)
   | (with_reducible refine Q.out _ ?_;exact V.alloc a1 _)
   | (with_reducible refine Q.out _ ?_;exact below_dr' ((Below.refl _ _).alloc (Nat.le_refl _) _))
   | exact b4)
  (first
   | (go_at_call 87;refine (qDh (i:=⟨op,c,an,b,P⟩) (w:=f.drew) (aq.out) X hb HT).mono ?_;rintro e D ⟨rfl,R⟩;(have V:Bw f D:=qAg R);have az:=Q.out _ V;have a1:=V.size;clear R)
   | (go_at_call 87;refine (qDh (i:=⟨op,c,an,b,P⟩) (w:=(f.alloc (spO 0 0)).drew) (aq.out.below (below_dr' ((Below.refl _ _).alloc (Nat.le_refl _) _))) X hb HT).mono ?_;rintro e D ⟨rfl,ap⟩;(have R:=qAg ap);(have av:Bx D f.heap.size 0 0:=Bx.below (w:=f.alloc (spO 0 0)) (B:=(f.alloc (spO 0 0)).heap.size) ⟨⟨by go_cell,by go_cell⟩,by go_simp,by go_simp⟩ R (by simp));(have V:Bw f D:=((Below.refl f.heap.size f).alloc (Nat.le_refl _) _).trans (Below.mono (B:=(f.alloc (spO 0 0)).heap.size) R (by simp)));have az:=Q.out _ V;have a1:=V.size;(have b3:f.heap.size<D.heap.size:=by (have:=R.size);simp at this;omega);clear R ap)
   | (go_at_call 143;(have hq:=av;clear hq);refine (yDq K.out.2.1 K.out.2.2 K.out.1.1 K.out.1.2 HJ ao _).mono ?_;rintro e A ⟨rfl,F⟩;(have af:=Bx.below av F b3);(have z:Bw f A:=V.trans (F.mono a1));obtain ⟨⟨n0,n1⟩,n2,n3⟩:=id af;have aj:=Q.out _ z;have T:=z.size;(have b2:f.heap.size<A.heap.size:=by (have:=F.size);omega);clear F)
   | (go_at_call 143;refine (yDq K.out.2.1 K.out.2.2 K.out.1.1 K.out.1.2 HJ ao _).mono (w:=D.alloc (spO 0 0)) ?_;rintro e A ⟨rfl,F⟩;(have af:Bx A D.heap.size 0 0:=Bx.below (w:=D.alloc (spO 0 0)) ⟨⟨by go_cell,by go_cell⟩,by go_simp,by go_simp⟩ F (by simp));(have z:Bw f A:=(V.alloc a1 _).trans (F.mono (by simp;omega)));obtain ⟨⟨n0,n1⟩,n2,n3⟩:=id af;have aj:=Q.out _ z;have T:=z.size;(have b2:D.heap.size<A.heap.size:=by (have:=F.size);simp at this;omega);clear F)
   | (go_at_call 143;refine (yDq K.out.2.1 K.out.2.2 K.out.1.1 K.out.1.2 HJ ao _).mono ?_;rintro e A ⟨rfl,F⟩;(have z:Bw f A:=V.trans (F.mono a1));have aj:=Q.out _ z;have T:=z.size;clear F))
 all_goals first
  | (
   obtain ⟨Y,HY,ab,L,a2⟩:∃ Y,Hid (Y=(A.setCell ⟨f.heap.size,0,none⟩ (U8 n)).setCell ⟨f.heap.size,1,none⟩ (U8 o))/\(Y.cell? ⟨f.heap.size,0,none⟩=some (U8 n)/\Y.cell? ⟨f.heap.size,1,none⟩=some (U8 o))/\Bw f Y/\(f.heap.size<=f.heap.size/\f.heap.size<Y.heap.size):=⟨_,rfl,qAp n0 n1,qAb (qAb z (by omega)) (by omega),by omega,by first|omega|(simp;done)|(simp;omega)|(simp [World.setCell];omega)⟩;rw [<- HY.out];go_wp2;have a8:=(Q.out _ L).1;have a3:=L.size;have I:Y.cell? ⟨w.heap.size+1,1,none⟩=some (I4 c)/\Y.cell? ⟨f.heap.size,0,none⟩=some (U8 n)/\Y.cell? ⟨f.heap.size,1,none⟩=some (U8 o):=⟨a8.2.1,ab⟩
   go_region_held3 (fun r=>r.cell? ⟨w.heap.size+1,1,none⟩=some (I4 c)/\r.cell? ⟨f.heap.size,0,none⟩=some (U8 n)/\r.cell? ⟨f.heap.size,1,none⟩=some (U8 o))
    (first|with_reducible exact a0|with_reducible exact U.out E a0|exact I)
    (first
     | (go_at_call 123;refine (qIm n o Y.drew).mono ?_;rintro e E ⟨rfl,M⟩;(have J:Bw Y E:=qAg M);(have O:Bw f E:=L.trans (J.mono a3));(have a0:E.cell? ⟨w.heap.size+1,1,none⟩=some (I4 c)/\E.cell? ⟨f.heap.size,0,none⟩=some (U8 n)/\E.cell? ⟨f.heap.size,1,none⟩=some (U8 o):=⟨(J.cell (p:=⟨w.heap.size+1,1,none⟩) (show w.heap.size+1<Y.heap.size by omega)).trans I.1,(J.cell (p:=⟨f.heap.size,0,none⟩) a2.2).trans I.2.1,(J.cell (p:=⟨f.heap.size,1,none⟩) a2.2).trans I.2.2⟩);have l:=qCn S O (Nat.le_refl _);obtain ⟨y0,y1,y2,y3,q0,q1,q2,q3⟩:=qFk l a4;have f0:=l.frozenAt (c*4);have f1:=l.frozenAt (c*4+1);have f2:=l.frozenAt (c*4+2);have f3:=l.frozenAt (c*4+3);(have a9:Hid ((setT E g (c*4) ⟨1,n,o,0⟩).ownsRow Z.heap.size 153 4 (.slice (some ⟨g,0,none⟩) 8 c3) 8 (qAo (s.set c ⟨1,n,o,0⟩))):=(qGp l c (by rw [X];exact a4) ⟨1,n,o,0⟩).1);(have aa:Hid (Bw Z (setT E g (c*4) ⟨1,n,o,0⟩)):=qAz (a6.trans (O.mono ae)) ag.1);(have U:Hid (∀ G:World,(G.cell? ⟨w.heap.size+1,1,none⟩=some (I4 c)/\G.cell? ⟨f.heap.size,0,none⟩=some (U8 n)/\G.cell? ⟨f.heap.size,1,none⟩=some (U8 o))->((setT G g (c*4) ⟨1,n,o,0⟩).cell? ⟨w.heap.size+1,1,none⟩=some (I4 c)/\(setT G g (c*4) ⟨1,n,o,0⟩).cell? ⟨f.heap.size,0,none⟩=some (U8 n)/\(setT G g (c*4) ⟨1,n,o,0⟩).cell? ⟨f.heap.size,1,none⟩=some (U8 o))):=fun G hh=>⟨(qBq (by omega)).trans hh.1,(qBq (by omega)).trans hh.2.1,(qBq (by omega)).trans hh.2.2⟩);clear M l))
   go_wp2;go_ret2
   exact ⟨_,rfl,qCe a9.out (by omega),ac.trans (aa.out.mono (by omega))⟩)
  | (
   obtain ⟨Y,HY,ab,L,a2⟩:∃ Y,Hid (Y=(A.setCell ⟨D.heap.size,0,none⟩ (U8 n)).setCell ⟨D.heap.size,1,none⟩ (U8 o))/\(Y.cell? ⟨D.heap.size,0,none⟩=some (U8 n)/\Y.cell? ⟨D.heap.size,1,none⟩=some (U8 o))/\Bw f Y/\(f.heap.size<=D.heap.size/\D.heap.size<Y.heap.size):=⟨_,rfl,qAp n0 n1,qAb (qAb z (by omega)) (by omega),by omega,by first|omega|(simp;done)|(simp;omega)|(simp [World.setCell];omega)⟩;rw [<- HY.out];go_wp2;have a8:=(Q.out _ L).1;have a3:=L.size;have I:Y.cell? ⟨w.heap.size+1,1,none⟩=some (I4 c)/\Y.cell? ⟨D.heap.size,0,none⟩=some (U8 n)/\Y.cell? ⟨D.heap.size,1,none⟩=some (U8 o):=⟨a8.2.1,ab⟩
   go_region_held3 (fun r=>r.cell? ⟨w.heap.size+1,1,none⟩=some (I4 c)/\r.cell? ⟨D.heap.size,0,none⟩=some (U8 n)/\r.cell? ⟨D.heap.size,1,none⟩=some (U8 o))
    (first|with_reducible exact a0|with_reducible exact U.out E a0|exact I)
    (first
     | (go_at_call 123;refine (qIm n o Y.drew).mono ?_;rintro e E ⟨rfl,M⟩;(have J:Bw Y E:=qAg M);(have O:Bw f E:=L.trans (J.mono a3));(have a0:E.cell? ⟨w.heap.size+1,1,none⟩=some (I4 c)/\E.cell? ⟨D.heap.size,0,none⟩=some (U8 n)/\E.cell? ⟨D.heap.size,1,none⟩=some (U8 o):=⟨(J.cell (p:=⟨w.heap.size+1,1,none⟩) (show w.heap.size+1<Y.heap.size by omega)).trans I.1,(J.cell (p:=⟨D.heap.size,0,none⟩) a2.2).trans I.2.1,(J.cell (p:=⟨D.heap.size,1,none⟩) a2.2).trans I.2.2⟩);have l:=qCn S O (Nat.le_refl _);obtain ⟨y0,y1,y2,y3,q0,q1,q2,q3⟩:=qFk l a4;have f0:=l.frozenAt (c*4);have f1:=l.frozenAt (c*4+1);have f2:=l.frozenAt (c*4+2);have f3:=l.frozenAt (c*4+3);(have a9:Hid ((setT E g (c*4) ⟨1,n,o,0⟩).ownsRow Z.heap.size 153 4 (.slice (some ⟨g,0,none⟩) 8 c3) 8 (qAo (s.set c ⟨1,n,o,0⟩))):=(qGp l c (by rw [X];exact a4) ⟨1,n,o,0⟩).1);(have aa:Hid (Bw Z (setT E g (c*4) ⟨1,n,o,0⟩)):=qAz (a6.trans (O.mono ae)) ag.1);(have U:Hid (∀ G:World,(G.cell? ⟨w.heap.size+1,1,none⟩=some (I4 c)/\G.cell? ⟨D.heap.size,0,none⟩=some (U8 n)/\G.cell? ⟨D.heap.size,1,none⟩=some (U8 o))->((setT G g (c*4) ⟨1,n,o,0⟩).cell? ⟨w.heap.size+1,1,none⟩=some (I4 c)/\(setT G g (c*4) ⟨1,n,o,0⟩).cell? ⟨D.heap.size,0,none⟩=some (U8 n)/\(setT G g (c*4) ⟨1,n,o,0⟩).cell? ⟨D.heap.size,1,none⟩=some (U8 o))):=fun G hh=>⟨(qBq (by omega)).trans hh.1,(qBq (by omega)).trans hh.2.1,(qBq (by omega)).trans hh.2.2⟩);clear M l))
   go_wp2;go_ret2
   exact ⟨_,rfl,qCe a9.out (by omega),ac.trans (aa.out.mono (by omega))⟩)
  | (
   obtain ⟨Y,HY,ab,L,a2⟩:∃ Y,Hid (Y=A.alloc (spO n o))/\(Y.cell? ⟨A.heap.size,0,none⟩=some (U8 n)/\Y.cell? ⟨A.heap.size,1,none⟩=some (U8 o))/\Bw f Y/\(f.heap.size<=A.heap.size/\A.heap.size<Y.heap.size):=⟨_,rfl,⟨by go_cell,by go_cell⟩,z.alloc T _,by omega,by first|omega|(simp;done)|(simp;omega)|(simp [World.setCell];omega)⟩;rw [<- HY.out];go_wp2;have a8:=(Q.out _ L).1;have a3:=L.size;have I:Y.cell? ⟨w.heap.size+1,1,none⟩=some (I4 c)/\Y.cell? ⟨A.heap.size,0,none⟩=some (U8 n)/\Y.cell? ⟨A.heap.size,1,none⟩=some (U8 o):=⟨a8.2.1,ab⟩
   go_region_held3 (fun r=>r.cell? ⟨w.heap.size+1,1,none⟩=some (I4 c)/\r.cell? ⟨A.heap.size,0,none⟩=some (U8 n)/\r.cell? ⟨A.heap.size,1,none⟩=some (U8 o))
    (first|with_reducible exact a0|with_reducible exact U.out E a0|exact I)
    (first
     | (go_at_call 123;refine (qIm n o Y.drew).mono ?_;rintro e E ⟨rfl,M⟩;(have J:Bw Y E:=qAg M);(have O:Bw f E:=L.trans (J.mono a3));(have a0:E.cell? ⟨w.heap.size+1,1,none⟩=some (I4 c)/\E.cell? ⟨A.heap.size,0,none⟩=some (U8 n)/\E.cell? ⟨A.heap.size,1,none⟩=some (U8 o):=⟨(J.cell (p:=⟨w.heap.size+1,1,none⟩) (show w.heap.size+1<Y.heap.size by omega)).trans I.1,(J.cell (p:=⟨A.heap.size,0,none⟩) a2.2).trans I.2.1,(J.cell (p:=⟨A.heap.size,1,none⟩) a2.2).trans I.2.2⟩);have l:=qCn S O (Nat.le_refl _);obtain ⟨y0,y1,y2,y3,q0,q1,q2,q3⟩:=qFk l a4;have f0:=l.frozenAt (c*4);have f1:=l.frozenAt (c*4+1);have f2:=l.frozenAt (c*4+2);have f3:=l.frozenAt (c*4+3);(have a9:Hid ((setT E g (c*4) ⟨1,n,o,0⟩).ownsRow Z.heap.size 153 4 (.slice (some ⟨g,0,none⟩) 8 c3) 8 (qAo (s.set c ⟨1,n,o,0⟩))):=(qGp l c (by rw [X];exact a4) ⟨1,n,o,0⟩).1);(have aa:Hid (Bw Z (setT E g (c*4) ⟨1,n,o,0⟩)):=qAz (a6.trans (O.mono ae)) ag.1);(have U:Hid (∀ G:World,(G.cell? ⟨w.heap.size+1,1,none⟩=some (I4 c)/\G.cell? ⟨A.heap.size,0,none⟩=some (U8 n)/\G.cell? ⟨A.heap.size,1,none⟩=some (U8 o))->((setT G g (c*4) ⟨1,n,o,0⟩).cell? ⟨w.heap.size+1,1,none⟩=some (I4 c)/\(setT G g (c*4) ⟨1,n,o,0⟩).cell? ⟨A.heap.size,0,none⟩=some (U8 n)/\(setT G g (c*4) ⟨1,n,o,0⟩).cell? ⟨A.heap.size,1,none⟩=some (U8 o))):=fun G hh=>⟨(qBq (by omega)).trans hh.1,(qBq (by omega)).trans hh.2.1,(qBq (by omega)).trans hh.2.2⟩);clear M l))
   go_wp2;go_ret2
   exact ⟨_,rfl,qCe a9.out (by omega),ac.trans (aa.out.mono (by omega))⟩)
theorem qNk {op a A b B:Int}{h:Bool}(g:W64 a)(hA:W64 A)(d:W64 b)(k:W64 B){lo hi:Int}{c:Bool}(i:Hid ((qDb op a A b B h).getD (0,0)=(lo,hi)))(l:Hid ((qDb op a A b B h).isSome=c))(w:World) :
  Cl 145 #[I4 op,.agg #[U8 a,U8 A],.agg #[U8 b,U8 B],.bool h] w fun e f=>e=.returned (.tuple #[.agg #[U8 lo,U8 hi],.bool c])/\Bw w f:=by
 have:=yEo op a A b B h w g hA d k;rw [qYp,i.out,l.out] at this;exact this
theorem qWl (vm:Value)(cb co N ccap p:Nat)(op d a b n:Int)(sb E L:Nat)(s:St)(F:Bool)(w:World)(ax:cb<w.heap.size)(ai:At w cb (co+p*5) ⟨op,d,a,b,n⟩)(b6:p<N)(hN:N<=ccap)(b4:ccap<=9223372036854775807)(hs:SeesT w (.slice (some ⟨sb,E,none⟩) 8 L) s)(G:s.length=8)(ay:16<=op/\op<=19)(ha:0<=a/\a<=7)(hb:b=8∨(0<=b/\b<=7))(hw:∀ t∈s,W64 t.lo/\W64 t.hi)(hq:Hid (qDb op (qBg s a).lo (qBg s a).hi (qBa ⟨op,d,a,b,n⟩ s).lo (qBa ⟨op,d,a,b,n⟩ s).hi F=none)) :
  Cl 121 #[.agg #[vm,.slice (some ⟨cb,co,none⟩) N ccap],I4 p,.slice (some ⟨sb,E,none⟩) 8 L,.bool F] w fun e r=>e=.returned (.tuple #[.slice none 0 0,.bool false])/\Bw w r:=by
 obtain ⟨an,rfl⟩:=Int.eq_ofNat_of_zero_le ha.1
 have a6:an<8:=by omega
 have b8:(an:Int)<8:=by omega
 have ba:(0:Int)<=an:=by omega
 obtain ⟨i0,hi,aj,ao,ae⟩:=qEk;obtain ⟨m0,m1,m2,m3,m4⟩:=ai;simp only at m0 m1 m2 m3 m4;obtain ⟨Z,HZ,a3,S,b7⟩:∃ Z,Hid (Z=(w.alloc (.cells #[vm,.slice (some ⟨cb,co,none⟩) N ccap] 25)).alloc (qBr op d an b n))/\Box Z (w.heap.size+1) op d an b n/\Bw w Z/\Z.heap.size=w.heap.size+2 :=
  ⟨_,rfl,⟨by go_cell,by go_cell,by go_cell,by go_cell,by go_cell⟩,by go_grown,by simp⟩
 have a9:Hid (SeesT Z (.slice (some ⟨sb,E,none⟩) 8 L) s):=hs.below S
 have bb:s≠[]:=fun e=>by rw [e] at G;simp at G
 clear hs;obtain ⟨tk,tl,th,tm,HT⟩:∃ k lo hi m,Hid (qBa ⟨op,d,an,b,n⟩ s=⟨k,lo,hi,m⟩):=⟨_,_,_,_,rfl⟩;obtain ⟨ak,Q,P,am,HA⟩:∃ k lo hi m,Hid (s.getD an Ty.nil=⟨k,lo,hi,m⟩):=⟨_,_,_,_,rfl⟩;have ag:Hid (qBg s (an:Int)=⟨ak,Q,P,am⟩):=HA.out;have we:=qTy (i:=⟨op,d,an,b,n⟩) hw G hb;rw [HT.out] at we;have wa:=qUe hw G a6;rw [HA.out] at wa;have o:Hid ((W64 tl/\W64 th)/\(W64 Q/\W64 P)):=⟨we,wa⟩;have O:=hq.out;rw [HT.out,ag.out] at O;simp only at O
 have HJ:Hid ((qDb op Q P tl th F).getD (0,0)=(0,0)):=by show _=_;rw [O];rfl
 have a0:Hid ((qDb op Q P tl th F).isSome=false):=by show _=_;rw [O];rfl
 have af:Hid (qAv op=false):=by show _=_;unfold qAv;simp;omega
 have ad:Hid (qBw op=true):=by show _=_;unfold qBw;simp;omega
 have au:(op==0)=false:=by simp;omega
 have b5:(op==11)=false:=by simp;omega
 have aw:(op==13)=false:=by simp;omega
 have az:(op==14)=false:=by simp;omega
 have av:(op==21)=false:=by simp;omega
 clear hw we wa hq O;go_enter Tryz.func121,Tryz.ntmps121
 go_wp2_with (first
  | (at_builtin;rw [<- HZ.out];go_must (refine qCc rfl (.tmp 26) (.tmp 27) 124 rfl Z.heap.size 153 i0 (tyV Ty.nil) Tryz.underlying124 hi aj ao ae rfl _ [] rfl (qGw Z Z.heap.size (w.heap.size+1+1) (Nat.le_refl _) (by omega)) _ s rfl (a9.out.below ((Below.refl _ _).alloc (Nat.le_refl _) _)) (by rw [G];unfold maxLen;simp) (by rw [G];simp) (by simp) ?_);intro v3 c R a5;go_must (have J:Bw Z c:=((Below.refl _ _).alloc (Nat.le_refl _) _).grown a5 (by simp) (fun j hj=>by (have aq:w.heap.size+1+1=j:=Option.some.inj hj);omega);rw [List.nil_append,G] at R;obtain ⟨g,c3,rfl,b2,b3,b9⟩:=qEm R;have X:=Box.below a3 J (by omega);obtain ⟨x0,x1,x2,x3,x4⟩:=id X;have a2:Hid (SeesT c (.slice (some ⟨sb,E,none⟩) 8 L) s):=a9.out.below J;have U:=J.size;clear a5))
  | (go_at_call 67;go_must (refine (qCu _ _).mono ?_);rintro e r ⟨rfl,rfl⟩;rw [af.out])
  | (go_at_call 64;go_must (refine (qCx _ _).mono ?_);rintro e r ⟨rfl,rfl⟩;rw [ad.out]))
 obtain ⟨I,a7,b1,ar⟩:=a2.out.at8 G a6;rw [HA.out] at I;have ac:(Box c (w.heap.size+1) op d an b n/\c.cell? ⟨sb,E+an*4+1,none⟩=some (U8 Q)/\c.cell? ⟨sb,E+an*4+2,none⟩=some (U8 P)):=⟨X,I.2.1,I.2.2.1⟩
 have z:Hid (∀ r:World,Bw c r->(Box r (w.heap.size+1) op d an b n/\r.cell? ⟨sb,E+an*4+1,none⟩=some (U8 Q)/\r.cell? ⟨sb,E+an*4+2,none⟩=some (U8 P))):=fun r T=>⟨Box.below X T (by omega),(T.cell (p:=⟨sb,E+an*4+1,none⟩) a7).trans I.2.1,(T.cell (p:=⟨sb,E+an*4+2,none⟩) a7).trans I.2.2.1⟩
 have ap:=qQp tk tl th tm;clear I
 go_region_held3 (fun r=>(r.cell? ⟨w.heap.size+1,0,none⟩=some (I4 op)/\r.cell? ⟨w.heap.size+1,1,none⟩=some (I4 d)/\r.cell? ⟨w.heap.size+1,2,none⟩=some (I4 an)/\r.cell? ⟨w.heap.size+1,3,none⟩=some (I4 b)/\r.cell? ⟨w.heap.size+1,4,none⟩=some (I4 n))/\r.cell? ⟨sb,E+an*4+1,none⟩=some (U8 Q)/\r.cell? ⟨sb,E+an*4+2,none⟩=some (U8 P))
  (first
   | (with_reducible exact Y)
   | (with_reducible exact a8)
   | (with_reducible refine z.out _ ?_;exact qAb (qAb f (Nat.le_refl _)) (Nat.le_refl _))
   | (with_reducible refine z.out _ ?_;exact qAb f (Nat.le_refl _))
   | (with_reducible refine z.out _ ?_;exact qAb (qAb f D) D)
   | (with_reducible refine z.out _ ?_;exact qAb f D)
   | (with_reducible refine z.out _ ?_;exact qAb (qAb (f.alloc y _) y) y)
   | (with_reducible refine z.out _ ?_;exact qAb (f.alloc y _) y)
   | (with_reducible refine z.out _ ?_;exact f.alloc y _)
   | (with_reducible refine z.out _ ?_;exact A.alloc D _)
   | (with_reducible refine z.out _ ?_;exact below_dr' ((Below.refl _ _).alloc (Nat.le_refl _) _))
   | exact ac)
  (first
   | (go_at_call 87;refine (qDh (i:=⟨op,d,an,b,n⟩) (w:=c.drew) (a2.out) G hb HT).mono ?_;rintro e K ⟨rfl,u⟩;(have A:Bw c K:=qAg u);have a8:=z.out _ A;have D:=A.size;clear u)
   | (go_at_call 87;refine (qDh (i:=⟨op,d,an,b,n⟩) (w:=(c.alloc (spO 0 0)).drew) (a2.out.below (below_dr' ((Below.refl _ _).alloc (Nat.le_refl _) _))) G hb HT).mono ?_;rintro e K ⟨rfl,a1⟩;(have u:=qAg a1);(have a4:Bx K c.heap.size 0 0:=Bx.below (w:=c.alloc (spO 0 0)) (B:=(c.alloc (spO 0 0)).heap.size) ⟨⟨by go_cell,by go_cell⟩,by go_simp,by go_simp⟩ u (by simp));(have A:Bw c K:=((Below.refl c.heap.size c).alloc (Nat.le_refl _) _).trans (Below.mono (B:=(c.alloc (spO 0 0)).heap.size) u (by simp)));have a8:=z.out _ A;have D:=A.size;(have ab:c.heap.size<K.heap.size:=by (have:=u.size);simp at this;omega);clear u a1)
   | (go_at_call 145;(have hq:=a4;clear hq);refine (qNk o.out.2.1 o.out.2.2 o.out.1.1 o.out.1.2 HJ a0 _).mono ?_;rintro e M ⟨rfl,l⟩;(have V:=Bx.below a4 l ab);(have f:Bw c M:=A.trans (l.mono D));obtain ⟨⟨n0,n1⟩,n2,n3⟩:=id V;have Y:=z.out _ f;have y:=f.size;(have aa:c.heap.size<M.heap.size:=by (have:=l.size);omega);clear l)
   | (go_at_call 145;refine (qNk o.out.2.1 o.out.2.2 o.out.1.1 o.out.1.2 HJ a0 _).mono (w:=K.alloc (spO 0 0)) ?_;rintro e M ⟨rfl,l⟩;(have V:Bx M K.heap.size 0 0:=Bx.below (w:=K.alloc (spO 0 0)) ⟨⟨by go_cell,by go_cell⟩,by go_simp,by go_simp⟩ l (by simp));(have f:Bw c M:=(A.alloc D _).trans (l.mono (by simp;omega)));obtain ⟨⟨n0,n1⟩,n2,n3⟩:=id V;have Y:=z.out _ f;have y:=f.size;(have aa:K.heap.size<M.heap.size:=by (have:=l.size);simp at this;omega);clear l)
   | (go_at_call 145;refine (qNk o.out.2.1 o.out.2.2 o.out.1.1 o.out.1.2 HJ a0 _).mono ?_;rintro e M ⟨rfl,l⟩;(have f:Bw c M:=A.trans (l.mono D));have Y:=z.out _ f;have y:=f.size;clear l))
 all_goals first
  | (
   go_wp2;go_ret2
   exact ⟨rfl,S.trans ((J.trans (Below.mono (B:=c.heap.size) (qAb (qAb f (by omega)) (by omega)) U)).mono (by omega))⟩)
  | (
   go_wp2;go_ret2
   exact ⟨rfl,S.trans ((J.trans (Below.mono (B:=c.heap.size) (qAb (qAb f (by omega)) (by omega)) U)).mono (by omega))⟩)
  | (
   go_wp2;go_ret2
   exact ⟨rfl,S.trans ((J.trans (Below.mono (B:=c.heap.size) (f.alloc y _) U)).mono (by omega))⟩)
theorem qUw (vm:Value)(cb co N ccap p:Nat)(op d a b I:Int)(sb so a6:Nat)(s:St)(a2:Bool)(w:World)(bg:cb<w.heap.size)(b7:At w cb (co+p*5) ⟨op,d,a,b,I⟩)(bn:p<N)(hN:N<=ccap)(bl:ccap<=9223372036854775807)(hs:SeesT w (.slice (some ⟨sb,so,none⟩) 8 a6) s)(U:s.length=8)(bh:16<=op/\op<=19)(ha:0<=a/\a<=7)(hb:b=8∨(0<=b/\b<=7))(hw:∀ t∈s,W64 t.lo/\W64 t.hi)(l n:Int)(hq:Hid (qDb op (qBg s a).lo (qBg s a).hi (qBa ⟨op,d,a,b,I⟩ s).lo (qBa ⟨op,d,a,b,I⟩ s).hi a2=some (l,n))) :
  Cl 121 #[.agg #[vm,.slice (some ⟨cb,co,none⟩) N ccap],I4 p,.slice (some ⟨sb,so,none⟩) 8 a6,.bool a2] w fun e o=>∃ u,e=.returned (.tuple #[u,.bool true])/\o.ownsRow w.heap.size 153 4 u 8 (qAo (s.set a.toNat (qHk l n)))/\Bw w o:=by
 obtain ⟨an,rfl⟩:=Int.eq_ofNat_of_zero_le ha.1
 have X:an<8:=by omega
 have bp:(an:Int)<8:=by omega
 have br:(0:Int)<=an:=by omega
 obtain ⟨i0,hi,b8,b9,b4⟩:=qEk;obtain ⟨m0,m1,m2,m3,m4⟩:=b7;simp only at m0 m1 m2 m3 m4;obtain ⟨Z,HZ,ar,ac,bo⟩:∃ Z,Hid (Z=(w.alloc (.cells #[vm,.slice (some ⟨cb,co,none⟩) N ccap] 25)).alloc (qBr op d an b I))/\Box Z (w.heap.size+1) op d an b I/\Bw w Z/\Z.heap.size=w.heap.size+2 :=
  ⟨_,rfl,⟨by go_cell,by go_cell,by go_cell,by go_cell,by go_cell⟩,by go_grown,by simp⟩
 have ay:Hid (SeesT Z (.slice (some ⟨sb,so,none⟩) 8 a6) s):=hs.below ac
 have bs:s≠[]:=fun e=>by rw [e] at U;simp at U
 clear hs;obtain ⟨tk,tl,th,tm,HT⟩:∃ k lo hi m,Hid (qBa ⟨op,d,an,b,I⟩ s=⟨k,lo,hi,m⟩):=⟨_,_,_,_,rfl⟩;obtain ⟨ak,al,ah,am,HA⟩:∃ k lo hi m,Hid (s.getD an Ty.nil=⟨k,lo,hi,m⟩):=⟨_,_,_,_,rfl⟩;have b6:Hid (qBg s (an:Int)=⟨ak,al,ah,am⟩):=HA.out;have we:=qTy (i:=⟨op,d,an,b,I⟩) hw U hb;rw [HT.out] at we;have wa:=qUe hw U X;rw [HA.out] at wa;have J:Hid ((W64 tl/\W64 th)/\(W64 al/\W64 ah)):=⟨we,wa⟩;have a8:=hq.out;rw [HT.out,b6.out] at a8;simp only at a8
 have HJ:Hid ((qDb op al ah tl th a2).getD (0,0)=(l,n)):=by show _=_;rw [a8];rfl
 have ao:Hid ((qDb op al ah tl th a2).isSome=true):=by show _=_;rw [a8];rfl
 have HE:Hid (qHk l n=⟨1,l,n,0⟩):=show qHk l n=⟨1,l,n,0⟩ from rfl
 rw [HE.out]
 have b5:Hid (qAv op=false):=by show _=_;unfold qAv;simp;omega
 have b3:Hid (qBw op=true):=by show _=_;unfold qBw;simp;omega
 have bd:(op==0)=false:=by simp;omega
 have bm:(op==11)=false:=by simp;omega
 have bf:(op==13)=false:=by simp;omega
 have bi:(op==14)=false:=by simp;omega
 have be:(op==21)=false:=by simp;omega
 clear hw we wa hq a8;go_enter Tryz.func121,Tryz.ntmps121
 go_wp2_with (first
  | (at_builtin;rw [<- HZ.out];go_must (refine qCc rfl (.tmp 26) (.tmp 27) 124 rfl Z.heap.size 153 i0 (tyV Ty.nil) Tryz.underlying124 hi b8 b9 b4 rfl _ [] rfl (qGw Z Z.heap.size (w.heap.size+1+1) (Nat.le_refl _) (by omega)) _ s rfl (ay.out.below ((Below.refl _ _).alloc (Nat.le_refl _) _)) (by rw [U];unfold maxLen;simp) (by rw [U];simp) (by simp) ?_);intro v3 c Q av;go_must (have a5:Bw Z c:=((Below.refl _ _).alloc (Nat.le_refl _) _).grown av (by simp) (fun j hj=>by (have bb:w.heap.size+1+1=j:=Option.some.inj hj);omega);rw [List.nil_append,U] at Q;obtain ⟨g,c3,rfl,ag,bk,bq⟩:=qEm Q;have ai:=Box.below ar a5 (by omega);obtain ⟨x0,x1,x2,x3,x4⟩:=id ai;have aq:Hid (SeesT c (.slice (some ⟨sb,so,none⟩) 8 a6) s):=ay.out.below a5;have ae:=a5.size;clear av))
  | (go_at_call 67;go_must (refine (qCu _ _).mono ?_);rintro e o ⟨rfl,rfl⟩;rw [b5.out])
  | (go_at_call 64;go_must (refine (qCx _ _).mono ?_);rintro e o ⟨rfl,rfl⟩;rw [b3.out]))
 obtain ⟨a4,aw,bj,bc⟩:=aq.out.at8 U X;rw [HA.out] at a4;have b2:(Box c (w.heap.size+1) op d an b I/\c.cell? ⟨sb,so+an*4+1,none⟩=some (U8 al)/\c.cell? ⟨sb,so+an*4+2,none⟩=some (U8 ah)):=⟨ai,a4.2.1,a4.2.2.1⟩
 have O:Hid (∀ o:World,Bw c o->(Box o (w.heap.size+1) op d an b I/\o.cell? ⟨sb,so+an*4+1,none⟩=some (U8 al)/\o.cell? ⟨sb,so+an*4+2,none⟩=some (U8 ah))):=fun o ad=>⟨Box.below ai ad (by omega),(ad.cell (p:=⟨sb,so+an*4+1,none⟩) aw).trans a4.2.1,(ad.cell (p:=⟨sb,so+an*4+2,none⟩) aw).trans a4.2.2.1⟩
 have ba:=qQp tk tl th tm;clear a4
 go_region_held3 (fun o=>(o.cell? ⟨w.heap.size+1,0,none⟩=some (I4 op)/\o.cell? ⟨w.heap.size+1,1,none⟩=some (I4 d)/\o.cell? ⟨w.heap.size+1,2,none⟩=some (I4 an)/\o.cell? ⟨w.heap.size+1,3,none⟩=some (I4 b)/\o.cell? ⟨w.heap.size+1,4,none⟩=some (I4 I))/\o.cell? ⟨sb,so+an*4+1,none⟩=some (U8 al)/\o.cell? ⟨sb,so+an*4+2,none⟩=some (U8 ah))
  (first
   | (with_reducible exact aj)
   | (with_reducible exact ax)
   | (with_reducible refine O.out _ ?_;exact qAb (qAb r (Nat.le_refl _)) (Nat.le_refl _))
   | (with_reducible refine O.out _ ?_;exact qAb r (Nat.le_refl _))
   | (with_reducible refine O.out _ ?_;exact qAb (qAb r a0) a0)
   | (with_reducible refine O.out _ ?_;exact qAb r a0)
   | (with_reducible refine O.out _ ?_;exact qAb (qAb (r.alloc R _) R) R)
   | (with_reducible refine O.out _ ?_;exact qAb (r.alloc R _) R)
   | (with_reducible refine O.out _ ?_;exact r.alloc R _)
   | (with_reducible refine O.out _ ?_;exact T.alloc a0 _)
   | (with_reducible refine O.out _ ?_;exact below_dr' ((Below.refl _ _).alloc (Nat.le_refl _) _))
   | exact b2)
  (first
   | (go_at_call 87;refine (qDh (i:=⟨op,d,an,b,I⟩) (w:=c.drew) (aq.out) U hb HT).mono ?_;rintro e z ⟨rfl,P⟩;(have T:Bw c z:=qAg P);have ax:=O.out _ T;have a0:=T.size;clear P)
   | (go_at_call 87;refine (qDh (i:=⟨op,d,an,b,I⟩) (w:=(c.alloc (spO 0 0)).drew) (aq.out.below (below_dr' ((Below.refl _ _).alloc (Nat.le_refl _) _))) U hb HT).mono ?_;rintro e z ⟨rfl,ap⟩;(have P:=qAg ap);(have au:Bx z c.heap.size 0 0:=Bx.below (w:=c.alloc (spO 0 0)) (B:=(c.alloc (spO 0 0)).heap.size) ⟨⟨by go_cell,by go_cell⟩,by go_simp,by go_simp⟩ P (by simp));(have T:Bw c z:=((Below.refl c.heap.size c).alloc (Nat.le_refl _) _).trans (Below.mono (B:=(c.alloc (spO 0 0)).heap.size) P (by simp)));have ax:=O.out _ T;have a0:=T.size;(have b1:c.heap.size<z.heap.size:=by (have:=P.size);simp at this;omega);clear P ap)
   | (go_at_call 145;(have hq:=au;clear hq);refine (qNk J.out.2.1 J.out.2.2 J.out.1.1 J.out.1.2 HJ ao _).mono ?_;rintro e y ⟨rfl,D⟩;(have af:=Bx.below au D b1);(have r:Bw c y:=T.trans (D.mono a0));obtain ⟨⟨n0,n1⟩,n2,n3⟩:=id af;have aj:=O.out _ r;have R:=r.size;(have az:c.heap.size<y.heap.size:=by (have:=D.size);omega);clear D)
   | (go_at_call 145;refine (qNk J.out.2.1 J.out.2.2 J.out.1.1 J.out.1.2 HJ ao _).mono (w:=z.alloc (spO 0 0)) ?_;rintro e y ⟨rfl,D⟩;(have af:Bx y z.heap.size 0 0:=Bx.below (w:=z.alloc (spO 0 0)) ⟨⟨by go_cell,by go_cell⟩,by go_simp,by go_simp⟩ D (by simp));(have r:Bw c y:=(T.alloc a0 _).trans (D.mono (by simp;omega)));obtain ⟨⟨n0,n1⟩,n2,n3⟩:=id af;have aj:=O.out _ r;have R:=r.size;(have az:z.heap.size<y.heap.size:=by (have:=D.size);simp at this;omega);clear D)
   | (go_at_call 145;refine (qNk J.out.2.1 J.out.2.2 J.out.1.1 J.out.1.2 HJ ao _).mono ?_;rintro e y ⟨rfl,D⟩;(have r:Bw c y:=T.trans (D.mono a0));have aj:=O.out _ r;have R:=r.size;clear D))
 all_goals first
  | (
   obtain ⟨Y,HY,ab,K,a1⟩:∃ Y,Hid (Y=(y.setCell ⟨c.heap.size,0,none⟩ (U8 l)).setCell ⟨c.heap.size,1,none⟩ (U8 n))/\(Y.cell? ⟨c.heap.size,0,none⟩=some (U8 l)/\Y.cell? ⟨c.heap.size,1,none⟩=some (U8 n))/\Bw c Y/\(c.heap.size<=c.heap.size/\c.heap.size<Y.heap.size):=⟨_,rfl,qAp n0 n1,qAb (qAb r (by omega)) (by omega),by omega,by first|omega|(simp;done)|(simp;omega)|(simp [World.setCell];omega)⟩;rw [<- HY.out];go_wp2;have a7:=(O.out _ K).1;have a3:=K.size;have F:Y.cell? ⟨w.heap.size+1,2,none⟩=some (I4 an)/\Y.cell? ⟨c.heap.size,0,none⟩=some (U8 l)/\Y.cell? ⟨c.heap.size,1,none⟩=some (U8 n):=⟨a7.2.2.1,ab⟩
   go_region_held3 (fun o=>o.cell? ⟨w.heap.size+1,2,none⟩=some (I4 an)/\o.cell? ⟨c.heap.size,0,none⟩=some (U8 l)/\o.cell? ⟨c.heap.size,1,none⟩=some (U8 n))
    (first|with_reducible exact V|with_reducible exact S.out A V|exact F)
    (first
     | (go_at_call 123;refine (qIm l n Y.drew).mono ?_;rintro e A ⟨rfl,L⟩;(have G:Bw Y A:=qAg L);(have M:Bw c A:=K.trans (G.mono a3));(have V:A.cell? ⟨w.heap.size+1,2,none⟩=some (I4 an)/\A.cell? ⟨c.heap.size,0,none⟩=some (U8 l)/\A.cell? ⟨c.heap.size,1,none⟩=some (U8 n):=⟨(G.cell (p:=⟨w.heap.size+1,2,none⟩) (show w.heap.size+1<Y.heap.size by omega)).trans F.1,(G.cell (p:=⟨c.heap.size,0,none⟩) a1.2).trans F.2.1,(G.cell (p:=⟨c.heap.size,1,none⟩) a1.2).trans F.2.2⟩);have f:=qCn Q M (Nat.le_refl _);obtain ⟨y0,y1,y2,y3,q0,q1,q2,q3⟩:=qFk f X;have f0:=f.frozenAt (an*4);have f1:=f.frozenAt (an*4+1);have f2:=f.frozenAt (an*4+2);have f3:=f.frozenAt (an*4+3);(have a9:Hid ((setT A g (an*4) ⟨1,l,n,0⟩).ownsRow Z.heap.size 153 4 (.slice (some ⟨g,0,none⟩) 8 c3) 8 (qAo (s.set an ⟨1,l,n,0⟩))):=(qGp f an (by rw [U];exact X) ⟨1,l,n,0⟩).1);(have aa:Hid (Bw Z (setT A g (an*4) ⟨1,l,n,0⟩)):=qAz (a5.trans (M.mono ae)) ag.1);(have S:Hid (∀ E:World,(E.cell? ⟨w.heap.size+1,2,none⟩=some (I4 an)/\E.cell? ⟨c.heap.size,0,none⟩=some (U8 l)/\E.cell? ⟨c.heap.size,1,none⟩=some (U8 n))->((setT E g (an*4) ⟨1,l,n,0⟩).cell? ⟨w.heap.size+1,2,none⟩=some (I4 an)/\(setT E g (an*4) ⟨1,l,n,0⟩).cell? ⟨c.heap.size,0,none⟩=some (U8 l)/\(setT E g (an*4) ⟨1,l,n,0⟩).cell? ⟨c.heap.size,1,none⟩=some (U8 n))):=fun E hh=>⟨(qBq (by omega)).trans hh.1,(qBq (by omega)).trans hh.2.1,(qBq (by omega)).trans hh.2.2⟩);clear L f))
   go_wp2;go_ret2
   exact ⟨_,rfl,qCe a9.out (by omega),ac.trans (aa.out.mono (by omega))⟩)
  | (
   obtain ⟨Y,HY,ab,K,a1⟩:∃ Y,Hid (Y=(y.setCell ⟨z.heap.size,0,none⟩ (U8 l)).setCell ⟨z.heap.size,1,none⟩ (U8 n))/\(Y.cell? ⟨z.heap.size,0,none⟩=some (U8 l)/\Y.cell? ⟨z.heap.size,1,none⟩=some (U8 n))/\Bw c Y/\(c.heap.size<=z.heap.size/\z.heap.size<Y.heap.size):=⟨_,rfl,qAp n0 n1,qAb (qAb r (by omega)) (by omega),by omega,by first|omega|(simp;done)|(simp;omega)|(simp [World.setCell];omega)⟩;rw [<- HY.out];go_wp2;have a7:=(O.out _ K).1;have a3:=K.size;have F:Y.cell? ⟨w.heap.size+1,2,none⟩=some (I4 an)/\Y.cell? ⟨z.heap.size,0,none⟩=some (U8 l)/\Y.cell? ⟨z.heap.size,1,none⟩=some (U8 n):=⟨a7.2.2.1,ab⟩
   go_region_held3 (fun o=>o.cell? ⟨w.heap.size+1,2,none⟩=some (I4 an)/\o.cell? ⟨z.heap.size,0,none⟩=some (U8 l)/\o.cell? ⟨z.heap.size,1,none⟩=some (U8 n))
    (first|with_reducible exact V|with_reducible exact S.out A V|exact F)
    (first
     | (go_at_call 123;refine (qIm l n Y.drew).mono ?_;rintro e A ⟨rfl,L⟩;(have G:Bw Y A:=qAg L);(have M:Bw c A:=K.trans (G.mono a3));(have V:A.cell? ⟨w.heap.size+1,2,none⟩=some (I4 an)/\A.cell? ⟨z.heap.size,0,none⟩=some (U8 l)/\A.cell? ⟨z.heap.size,1,none⟩=some (U8 n):=⟨(G.cell (p:=⟨w.heap.size+1,2,none⟩) (show w.heap.size+1<Y.heap.size by omega)).trans F.1,(G.cell (p:=⟨z.heap.size,0,none⟩) a1.2).trans F.2.1,(G.cell (p:=⟨z.heap.size,1,none⟩) a1.2).trans F.2.2⟩);have f:=qCn Q M (Nat.le_refl _);obtain ⟨y0,y1,y2,y3,q0,q1,q2,q3⟩:=qFk f X;have f0:=f.frozenAt (an*4);have f1:=f.frozenAt (an*4+1);have f2:=f.frozenAt (an*4+2);have f3:=f.frozenAt (an*4+3);(have a9:Hid ((setT A g (an*4) ⟨1,l,n,0⟩).ownsRow Z.heap.size 153 4 (.slice (some ⟨g,0,none⟩) 8 c3) 8 (qAo (s.set an ⟨1,l,n,0⟩))):=(qGp f an (by rw [U];exact X) ⟨1,l,n,0⟩).1);(have aa:Hid (Bw Z (setT A g (an*4) ⟨1,l,n,0⟩)):=qAz (a5.trans (M.mono ae)) ag.1);(have S:Hid (∀ E:World,(E.cell? ⟨w.heap.size+1,2,none⟩=some (I4 an)/\E.cell? ⟨z.heap.size,0,none⟩=some (U8 l)/\E.cell? ⟨z.heap.size,1,none⟩=some (U8 n))->((setT E g (an*4) ⟨1,l,n,0⟩).cell? ⟨w.heap.size+1,2,none⟩=some (I4 an)/\(setT E g (an*4) ⟨1,l,n,0⟩).cell? ⟨z.heap.size,0,none⟩=some (U8 l)/\(setT E g (an*4) ⟨1,l,n,0⟩).cell? ⟨z.heap.size,1,none⟩=some (U8 n))):=fun E hh=>⟨(qBq (by omega)).trans hh.1,(qBq (by omega)).trans hh.2.1,(qBq (by omega)).trans hh.2.2⟩);clear L f))
   go_wp2;go_ret2
   exact ⟨_,rfl,qCe a9.out (by omega),ac.trans (aa.out.mono (by omega))⟩)
  | (
   obtain ⟨Y,HY,ab,K,a1⟩:∃ Y,Hid (Y=y.alloc (spO l n))/\(Y.cell? ⟨y.heap.size,0,none⟩=some (U8 l)/\Y.cell? ⟨y.heap.size,1,none⟩=some (U8 n))/\Bw c Y/\(c.heap.size<=y.heap.size/\y.heap.size<Y.heap.size):=⟨_,rfl,⟨by go_cell,by go_cell⟩,r.alloc R _,by omega,by first|omega|(simp;done)|(simp;omega)|(simp [World.setCell];omega)⟩;rw [<- HY.out];go_wp2;have a7:=(O.out _ K).1;have a3:=K.size;have F:Y.cell? ⟨w.heap.size+1,2,none⟩=some (I4 an)/\Y.cell? ⟨y.heap.size,0,none⟩=some (U8 l)/\Y.cell? ⟨y.heap.size,1,none⟩=some (U8 n):=⟨a7.2.2.1,ab⟩
   go_region_held3 (fun o=>o.cell? ⟨w.heap.size+1,2,none⟩=some (I4 an)/\o.cell? ⟨y.heap.size,0,none⟩=some (U8 l)/\o.cell? ⟨y.heap.size,1,none⟩=some (U8 n))
    (first|with_reducible exact V|with_reducible exact S.out A V|exact F)
    (first
     | (go_at_call 123;refine (qIm l n Y.drew).mono ?_;rintro e A ⟨rfl,L⟩;(have G:Bw Y A:=qAg L);(have M:Bw c A:=K.trans (G.mono a3));(have V:A.cell? ⟨w.heap.size+1,2,none⟩=some (I4 an)/\A.cell? ⟨y.heap.size,0,none⟩=some (U8 l)/\A.cell? ⟨y.heap.size,1,none⟩=some (U8 n):=⟨(G.cell (p:=⟨w.heap.size+1,2,none⟩) (show w.heap.size+1<Y.heap.size by omega)).trans F.1,(G.cell (p:=⟨y.heap.size,0,none⟩) a1.2).trans F.2.1,(G.cell (p:=⟨y.heap.size,1,none⟩) a1.2).trans F.2.2⟩);have f:=qCn Q M (Nat.le_refl _);obtain ⟨y0,y1,y2,y3,q0,q1,q2,q3⟩:=qFk f X;have f0:=f.frozenAt (an*4);have f1:=f.frozenAt (an*4+1);have f2:=f.frozenAt (an*4+2);have f3:=f.frozenAt (an*4+3);(have a9:Hid ((setT A g (an*4) ⟨1,l,n,0⟩).ownsRow Z.heap.size 153 4 (.slice (some ⟨g,0,none⟩) 8 c3) 8 (qAo (s.set an ⟨1,l,n,0⟩))):=(qGp f an (by rw [U];exact X) ⟨1,l,n,0⟩).1);(have aa:Hid (Bw Z (setT A g (an*4) ⟨1,l,n,0⟩)):=qAz (a5.trans (M.mono ae)) ag.1);(have S:Hid (∀ E:World,(E.cell? ⟨w.heap.size+1,2,none⟩=some (I4 an)/\E.cell? ⟨y.heap.size,0,none⟩=some (U8 l)/\E.cell? ⟨y.heap.size,1,none⟩=some (U8 n))->((setT E g (an*4) ⟨1,l,n,0⟩).cell? ⟨w.heap.size+1,2,none⟩=some (I4 an)/\(setT E g (an*4) ⟨1,l,n,0⟩).cell? ⟨y.heap.size,0,none⟩=some (U8 l)/\(setT E g (an*4) ⟨1,l,n,0⟩).cell? ⟨y.heap.size,1,none⟩=some (U8 n))):=fun E hh=>⟨(qBq (by omega)).trans hh.1,(qBq (by omega)).trans hh.2.1,(qBq (by omega)).trans hh.2.2⟩);clear L f))
   go_wp2;go_ret2
   exact ⟨_,rfl,qCe a9.out (by omega),ac.trans (aa.out.mono (by omega))⟩)
def yXi (w:World) (o:Option St) (e:Ending) (w':World):Prop:=Below w.heap.size w w'/\match o with
 | none=>e=.returned (.tuple #[.slice none 0 0,.bool false])
 | some s'=>∃ u,e=.returned (.tuple #[u,.bool true])/\w'.ownsRow w.heap.size 153 4 u 8 (qAo s')
theorem yJh (vm P vs:Value)(xs:List In)(p:Nat)(s:St)(c:Bool)(w:World)(S:SeesI w P xs)(B:p<xs.length)(N:SeesT w vs s)(A:s.length=8)(L:∀ t∈s,W64 t.lo/\W64 t.hi)(D:(nth xs p).right=true) :
  Cl 121 #[.agg #[vm,P],I4 p,vs,.bool c] w (yXi w (qBp (nth xs p) s c)):=by
 obtain ⟨X,cap,rfl,g,K,_,I⟩:=S;obtain ⟨cb,co,rfl,y,O⟩:=I (fun e=>by rw [e] at B;simp at B);obtain ⟨V,f,rfl,R,Q,T,G⟩:=id N;obtain ⟨sb,E,rfl,U,_⟩:=G (fun e=>by rw [e] at A;simp at A);have hA:=O p B;unfold maxLen at K
 have r:SeesT w (.slice (some ⟨sb,E,none⟩) 8 f) s:=by have:=N;rw [A] at this;exact this
 rw [A];have M:xs.getD p In.nil=nth xs p:=rfl;rw [M] at hA;have h0:0<=(nth xs p).op/\(nth xs p).op<=22:=qDm D
 generalize nth xs p=i at *
 obtain ⟨op,d,a,b,n⟩:=i;simp only at h0;unfold qBp;simp only
 by_cases c0:op=0
 ·subst c0;rw [if_pos rfl];have z:=qDq D (.inl (show (0:Int)<=12 by decide))
  exact (yKm vm cb co xs.length cap p d a b n sb E f s c w y hA B g (by omega) r A (qCy D (.inl (show (0:Int)<=11 by decide))) z.2).mono fun e F ⟨u,l,k,o⟩=>⟨o,u,l,k⟩
 rw [if_neg c0]
 by_cases c1:1<=op/\op<=10
 ·rw [if_pos (show qAv op=true by unfold qAv;simp;omega)];have z:=qDq D (.inl (show op<=12 by omega))
  exact (yDm vm cb co xs.length cap p op d a b n sb E f s c w y hA B g (by omega) r A c1 (qCy D (.inl (show op<=11 by omega))) (qDc D (.inl c1)) z.2 L).mono fun e F ⟨u,l,k,o⟩=>⟨o,u,l,k⟩
 rw [if_neg (show ¬ qAv op=true by unfold qAv;simp;omega)]
 by_cases c2:op=11∨op=13
 ·rw [if_pos c2]
  rcases c2 with rfl|rfl
  ·exact (yEz vm cb co xs.length cap p d a b n sb E f s c w y hA B g (by omega) r A (qCy D (.inl (show (11:Int)<=11 by decide)))).mono fun e F ⟨u,l,k,o⟩=>⟨o,u,l,k⟩
  ·exact (yCp vm cb co xs.length cap p d a b n sb E f s c w y hA B g (by omega) r A (qCy D (.inr (.inl rfl)))).mono fun e F ⟨u,l,k,o⟩=>⟨o,u,l,k⟩
 rw [if_neg c2]
 by_cases c3:op=14
 ·subst c3;rw [if_pos rfl]
  exact (yHp vm cb co xs.length cap p d a b n sb E f s c w y hA B g (by omega) r A (qCy D (.inr (.inr rfl)))).mono fun e F ⟨u,l,k,o⟩=>⟨o,u,l,k⟩
 rw [if_neg c3]
 by_cases c4:op=21
 ·subst c4;rw [if_pos rfl]
  exact (yEr vm cb co xs.length cap p d a b n sb E f s c w y hA B g (by omega) r A).mono fun e F ⟨u,l,k,o⟩=>⟨o,u,l,k⟩
 rw [if_neg c4]
 by_cases c5:16<=op/\op<=19
 ·rw [if_pos (show qBw op=true by unfold qBw;simp;omega)];have z:=qDq D (.inr c5);have J:=qDc D (.inr (.inr (.inl (show 16<=op/\op<=20 by omega))))
  cases hq:qDb op (qBg s a).lo (qBg s a).hi (qBa ⟨op,d,a,b,n⟩ s).lo (qBa ⟨op,d,a,b,n⟩ s).hi c with
  | none=>exact (qWl vm cb co xs.length cap p op d a b n sb E f s c w y hA B g (by omega) r A c5 J z.2 L hq).mono fun e F ⟨l,k⟩=>⟨k,l⟩
  | some q=>exact (qUw vm cb co xs.length cap p op d a b n sb E f s c w y hA B g (by omega) r A c5 J z.2 L q.1 q.2 hq).mono fun e F ⟨u,l,k,o⟩=>⟨o,u,l,k⟩
 ·rw [if_neg (show ¬ qBw op=true by unfold qBw;simp;omega)]
  exact (yCm vm cb co xs.length cap p op d a b n sb E f s c w y hA B g (by omega) r A (by omega)).mono fun e F ⟨u,l,k,o⟩=>⟨o,u,l,k⟩
theorem qDt (W:World)(n:Nat)(a:n=W.heap.size):BxT (W.alloc (tyO Ty.nil)) n 0 Ty.nil:=by
 subst a;exact yGv W
theorem yEi (vm:Value)(cb co N ccap p:Nat)(d a b c:Int)(sb z f:Nat)(s:St)(O:Value)(w:World)(a2:cb<w.heap.size)(J:At w cb (co+p*5) ⟨0,d,a,b,c⟩)(a3:p<N)(hN:N<=ccap)(a1:ccap<=9223372036854775807)(u:SeesT w (.slice (some ⟨sb,z,none⟩) 8 f) s)(E:s.length=8)(Q:b=8∨(0<=b/\b<=7))(y:Hid (qCv 0 d a b c=true))(B tl T tm:Int)(HT:Hid (qBa ⟨0,d,a,b,c⟩ s=⟨B,tl,T,tm⟩))(hk:B=0) :
  Cl 52 #[.agg #[vm,.slice (some ⟨cb,co,none⟩) N ccap],I4 p,.slice (some ⟨sb,z,none⟩) 8 f,O] w fun e w'=>e=.returned (I4 33)/\Bw w w':=by
 obtain ⟨m0,R,m2,S,U⟩:=J;simp only at m0 R m2 S U;obtain ⟨Z,HZ,l,A,n,a5⟩:∃ Z,Hid (Z=((w.alloc (.cells #[vm,.slice (some ⟨cb,co,none⟩) N ccap] 25)).alloc (qBr 0 d a b c)).alloc (.cells #[I4 0,U8 0,U8 0,I4 0] 153))/\Box Z (w.heap.size+1) 0 d a b c/\BxT Z (w.heap.size+1+1) 0 Ty.nil/\Bw w Z/\Z.heap.size=w.heap.size+3 :=
  ⟨_,rfl,⟨by go_cell,by go_cell,by go_cell,by go_cell,by go_cell⟩,qDt _ _ (by simp),by go_grown,by simp⟩
 have I:Hid (SeesT Z (.slice (some ⟨sb,z,none⟩) 8 f) s):=u.below n;have a0:sb<w.heap.size:=(u.at8 E (r:=0) (by omega)).2.1
 have P:¬ sb=w.heap.size+1+1:=by omega
 have Y:¬ w.heap.size+1+1=sb:=by omega
 clear u;subst hk;go_enter Tryz.func52,Tryz.ntmps52
 go_wp2_with (first
  | (go_at_call 86;rw [<- HZ.out];go_must (refine (qCt _ _ _ _ _ _).mono ?_);rintro e X ⟨rfl,k⟩;rw [y.out];go_must (have K:=k.size;obtain ⟨M,G,D,F,L⟩:=Box.below l k (by omega)))
  | (go_at_call 87;go_must (refine (qDh (i:=⟨0,d,a,b,c⟩) (w:=X) (I.out.below k) E Q HT).mono ?_);rintro e V ⟨rfl,o⟩;go_must (have g:Bw Z V:=k.trans (o.mono K);have a4:=g.size;clear M G D F L;obtain ⟨M,G,D,F,L⟩:=Box.below l g (by omega);obtain ⟨c0,c1,c2,c3,f0,f1,f2,f3⟩:=(BxT.below A g (by omega)).parts;clear o)))
 go_ret;exact ⟨rfl,qAb (qAb (qAb (qAb (n.trans (g.mono (by omega))) (by omega)) (by omega)) (by omega)) (by omega)⟩
theorem yCy (vm:Value)(cb co N ccap p:Nat)(d a b c:Int)(sb A f:Nat)(s:St)(O:Value)(w:World)(a2:cb<w.heap.size)(J:At w cb (co+p*5) ⟨0,d,a,b,c⟩)(a4:p<N)(hN:N<=ccap)(a1:ccap<=9223372036854775807)(y:SeesT w (.slice (some ⟨sb,A,none⟩) 8 f) s)(E:s.length=8)(Q:b=8∨(0<=b/\b<=7))(z:Hid (qCv 0 d a b c=true))(u tl T tm:Int)(HT:Hid (qBa ⟨0,d,a,b,c⟩ s=⟨u,tl,T,tm⟩))(hk:¬ u=0) :
  Cl 52 #[.agg #[vm,.slice (some ⟨cb,co,none⟩) N ccap],I4 p,.slice (some ⟨sb,A,none⟩) 8 f,O] w fun e w'=>e=.returned (I4 0)/\Bw w w':=by
 obtain ⟨m0,R,m2,S,U⟩:=J;simp only at m0 R m2 S U;obtain ⟨Z,HZ,l,B,n,a6⟩:∃ Z,Hid (Z=((w.alloc (.cells #[vm,.slice (some ⟨cb,co,none⟩) N ccap] 25)).alloc (qBr 0 d a b c)).alloc (.cells #[I4 0,U8 0,U8 0,I4 0] 153))/\Box Z (w.heap.size+1) 0 d a b c/\BxT Z (w.heap.size+1+1) 0 Ty.nil/\Bw w Z/\Z.heap.size=w.heap.size+3 :=
  ⟨_,rfl,⟨by go_cell,by go_cell,by go_cell,by go_cell,by go_cell⟩,qDt _ _ (by simp),by go_grown,by simp⟩
 have I:Hid (SeesT Z (.slice (some ⟨sb,A,none⟩) 8 f) s):=y.below n;have a0:sb<w.heap.size:=(y.at8 E (r:=0) (by omega)).2.1
 have P:¬ sb=w.heap.size+1+1:=by omega
 have Y:¬ w.heap.size+1+1=sb:=by omega
 clear y
 have a3:(u==0)=false:=by simp [hk]
 go_enter Tryz.func52,Tryz.ntmps52
 go_wp2_with (first
  | (go_at_call 86;rw [<- HZ.out];go_must (refine (qCt _ _ _ _ _ _).mono ?_);rintro e X ⟨rfl,k⟩;rw [z.out];go_must (have K:=k.size;obtain ⟨M,G,D,F,L⟩:=Box.below l k (by omega)))
  | (go_at_call 87;go_must (refine (qDh (i:=⟨0,d,a,b,c⟩) (w:=X) (I.out.below k) E Q HT).mono ?_);rintro e V ⟨rfl,o⟩;go_must (have g:Bw Z V:=k.trans (o.mono K);have a5:=g.size;clear M G D F L;obtain ⟨M,G,D,F,L⟩:=Box.below l g (by omega);obtain ⟨c0,c1,c2,c3,f0,f1,f2,f3⟩:=(BxT.below B g (by omega)).parts;clear o)))
 go_ret;exact ⟨rfl,qAb (qAb (qAb (qAb (n.trans (g.mono (by omega))) (by omega)) (by omega)) (by omega)) (by omega)⟩
theorem yAj (vm:Value)(cb co N ccap p:Nat)(d a b c:Int)(sb A f:Nat)(s:St)(O:Value)(w:World)(a2:cb<w.heap.size)(J:At w cb (co+p*5) ⟨11,d,a,b,c⟩)(a4:p<N)(hN:N<=ccap)(a1:ccap<=9223372036854775807)(y:SeesT w (.slice (some ⟨sb,A,none⟩) 8 f) s)(E:s.length=8)(Q:b=8∨(0<=b/\b<=7))(z:Hid (qCv 11 d a b c=true))(u tl T tm:Int)(HT:Hid (qBa ⟨11,d,a,b,c⟩ s=⟨u,tl,T,tm⟩))(hk:¬ u=1) :
  Cl 52 #[.agg #[vm,.slice (some ⟨cb,co,none⟩) N ccap],I4 p,.slice (some ⟨sb,A,none⟩) 8 f,O] w fun e w'=>e=.returned (I4 33)/\Bw w w':=by
 obtain ⟨m0,R,m2,S,U⟩:=J;simp only at m0 R m2 S U;obtain ⟨Z,HZ,l,B,n,a6⟩:∃ Z,Hid (Z=((w.alloc (.cells #[vm,.slice (some ⟨cb,co,none⟩) N ccap] 25)).alloc (qBr 11 d a b c)).alloc (.cells #[I4 0,U8 0,U8 0,I4 0] 153))/\Box Z (w.heap.size+1) 11 d a b c/\BxT Z (w.heap.size+1+1) 0 Ty.nil/\Bw w Z/\Z.heap.size=w.heap.size+3 :=
  ⟨_,rfl,⟨by go_cell,by go_cell,by go_cell,by go_cell,by go_cell⟩,qDt _ _ (by simp),by go_grown,by simp⟩
 have I:Hid (SeesT Z (.slice (some ⟨sb,A,none⟩) 8 f) s):=y.below n;have a0:sb<w.heap.size:=(y.at8 E (r:=0) (by omega)).2.1
 have P:¬ sb=w.heap.size+1+1:=by omega
 have Y:¬ w.heap.size+1+1=sb:=by omega
 clear y
 have a3:(u != 1)=true:=by simp [hk]
 go_enter Tryz.func52,Tryz.ntmps52
 go_wp2_with (first
  | (go_at_call 86;rw [<- HZ.out];go_must (refine (qCt _ _ _ _ _ _).mono ?_);rintro e X ⟨rfl,k⟩;rw [z.out];go_must (have K:=k.size;obtain ⟨M,G,D,F,L⟩:=Box.below l k (by omega)))
  | (go_at_call 87;go_must (refine (qDh (i:=⟨11,d,a,b,c⟩) (w:=X) (I.out.below k) E Q HT).mono ?_);rintro e V ⟨rfl,o⟩;go_must (have g:Bw Z V:=k.trans (o.mono K);have a5:=g.size;clear M G D F L;obtain ⟨M,G,D,F,L⟩:=Box.below l g (by omega);obtain ⟨c0,c1,c2,c3,f0,f1,f2,f3⟩:=(BxT.below B g (by omega)).parts;clear o)))
 go_ret;exact ⟨rfl,qAb (qAb (qAb (qAb (n.trans (g.mono (by omega))) (by omega)) (by omega)) (by omega)) (by omega)⟩
theorem qZm (vm:Value)(cb co N ccap p:Nat)(d a b c:Int)(sb z f:Nat)(s:St)(P:Value)(w:World)(a2:cb<w.heap.size)(K:At w cb (co+p*5) ⟨11,d,a,b,c⟩)(a3:p<N)(hN:N<=ccap)(a1:ccap<=9223372036854775807)(u:SeesT w (.slice (some ⟨sb,z,none⟩) 8 f) s)(E:s.length=8)(R:b=8∨(0<=b/\b<=7))(y:Hid (qCv 11 d a b c=true))(B tl G tm:Int)(HT:Hid (qBa ⟨11,d,a,b,c⟩ s=⟨B,tl,G,tm⟩))(hk:B=1)(hh:15<G) :
  Cl 52 #[.agg #[vm,.slice (some ⟨cb,co,none⟩) N ccap],I4 p,.slice (some ⟨sb,z,none⟩) 8 f,P] w fun e w'=>e=.returned (I4 35)/\Bw w w':=by
 obtain ⟨m0,S,m2,T,U⟩:=K;simp only at m0 S m2 T U;obtain ⟨Z,HZ,l,A,n,a5⟩:∃ Z,Hid (Z=((w.alloc (.cells #[vm,.slice (some ⟨cb,co,none⟩) N ccap] 25)).alloc (qBr 11 d a b c)).alloc (.cells #[I4 0,U8 0,U8 0,I4 0] 153))/\Box Z (w.heap.size+1) 11 d a b c/\BxT Z (w.heap.size+1+1) 0 Ty.nil/\Bw w Z/\Z.heap.size=w.heap.size+3 :=
  ⟨_,rfl,⟨by go_cell,by go_cell,by go_cell,by go_cell,by go_cell⟩,qDt _ _ (by simp),by go_grown,by simp⟩
 have J:Hid (SeesT Z (.slice (some ⟨sb,z,none⟩) 8 f) s):=u.below n;have a0:sb<w.heap.size:=(u.at8 E (r:=0) (by omega)).2.1
 have Q:¬ sb=w.heap.size+1+1:=by omega
 have Y:¬ w.heap.size+1+1=sb:=by omega
 clear u;subst hk;go_enter Tryz.func52,Tryz.ntmps52
 go_wp2_with (first
  | (go_at_call 86;rw [<- HZ.out];go_must (refine (qCt _ _ _ _ _ _).mono ?_);rintro e X ⟨rfl,k⟩;rw [y.out];go_must (have L:=k.size;obtain ⟨O,I,D,F,M⟩:=Box.below l k (by omega)))
  | (go_at_call 87;go_must (refine (qDh (i:=⟨11,d,a,b,c⟩) (w:=X) (J.out.below k) E R HT).mono ?_);rintro e V ⟨rfl,o⟩;go_must (have g:Bw Z V:=k.trans (o.mono L);have a4:=g.size;clear O I D F M;obtain ⟨O,I,D,F,M⟩:=Box.below l g (by omega);obtain ⟨c0,c1,c2,c3,f0,f1,f2,f3⟩:=(BxT.below A g (by omega)).parts;clear o)))
 go_ret;exact ⟨rfl,qAb (qAb (qAb (qAb (n.trans (g.mono (by omega))) (by omega)) (by omega)) (by omega)) (by omega)⟩
theorem qZj (vm:Value)(cb co N ccap p:Nat)(d a b c:Int)(sb z f:Nat)(s:St)(P:Value)(w:World)(a2:cb<w.heap.size)(K:At w cb (co+p*5) ⟨11,d,a,b,c⟩)(a3:p<N)(hN:N<=ccap)(a1:ccap<=9223372036854775807)(u:SeesT w (.slice (some ⟨sb,z,none⟩) 8 f) s)(E:s.length=8)(R:b=8∨(0<=b/\b<=7))(y:Hid (qCv 11 d a b c=true))(B tl G tm:Int)(HT:Hid (qBa ⟨11,d,a,b,c⟩ s=⟨B,tl,G,tm⟩))(hk:B=1)(hh:¬ 15<G) :
  Cl 52 #[.agg #[vm,.slice (some ⟨cb,co,none⟩) N ccap],I4 p,.slice (some ⟨sb,z,none⟩) 8 f,P] w fun e w'=>e=.returned (I4 0)/\Bw w w':=by
 obtain ⟨m0,S,m2,T,U⟩:=K;simp only at m0 S m2 T U;obtain ⟨Z,HZ,l,A,n,a5⟩:∃ Z,Hid (Z=((w.alloc (.cells #[vm,.slice (some ⟨cb,co,none⟩) N ccap] 25)).alloc (qBr 11 d a b c)).alloc (.cells #[I4 0,U8 0,U8 0,I4 0] 153))/\Box Z (w.heap.size+1) 11 d a b c/\BxT Z (w.heap.size+1+1) 0 Ty.nil/\Bw w Z/\Z.heap.size=w.heap.size+3 :=
  ⟨_,rfl,⟨by go_cell,by go_cell,by go_cell,by go_cell,by go_cell⟩,qDt _ _ (by simp),by go_grown,by simp⟩
 have J:Hid (SeesT Z (.slice (some ⟨sb,z,none⟩) 8 f) s):=u.below n;have a0:sb<w.heap.size:=(u.at8 E (r:=0) (by omega)).2.1
 have Q:¬ sb=w.heap.size+1+1:=by omega
 have Y:¬ w.heap.size+1+1=sb:=by omega
 clear u;subst hk;go_enter Tryz.func52,Tryz.ntmps52
 go_wp2_with (first
  | (go_at_call 86;rw [<- HZ.out];go_must (refine (qCt _ _ _ _ _ _).mono ?_);rintro e X ⟨rfl,k⟩;rw [y.out];go_must (have L:=k.size;obtain ⟨O,I,D,F,M⟩:=Box.below l k (by omega)))
  | (go_at_call 87;go_must (refine (qDh (i:=⟨11,d,a,b,c⟩) (w:=X) (J.out.below k) E R HT).mono ?_);rintro e V ⟨rfl,o⟩;go_must (have g:Bw Z V:=k.trans (o.mono L);have a4:=g.size;clear O I D F M;obtain ⟨O,I,D,F,M⟩:=Box.below l g (by omega);obtain ⟨c0,c1,c2,c3,f0,f1,f2,f3⟩:=(BxT.below A g (by omega)).parts;clear o)))
 go_ret;exact ⟨rfl,qAb (qAb (qAb (qAb (n.trans (g.mono (by omega))) (by omega)) (by omega)) (by omega)) (by omega)⟩
theorem qWn (vm:Value)(cb co N ccap p:Nat)(op d a b c:Int)(sb B g:Nat)(s:St)(R:Value)(w:World)(a5:cb<w.heap.size)(M:At w cb (co+p*5) ⟨op,d,a,b,c⟩)(ai:p<N)(hN:N<=ccap)(ae:ccap<=9223372036854775807)(D:SeesT w (.slice (some ⟨sb,B,none⟩) 8 g) s)(F:s.length=8)(hb:b=8∨(0<=b/\b<=7))(A:Hid (qCv op d a b c=true))(Q tl th tm:Int)(HT:Hid (qBa ⟨op,d,a,b,c⟩ s=⟨Q,tl,th,tm⟩))(aa:(1<=op/\op<=10)∨op=12∨(16<=op/\op<=19))(ha:0<=a/\a<=7)(ak al ah am:Int)(HA:Hid (qBg s a=⟨ak,al,ah,am⟩))(hk:¬ ak=1) :
  Cl 52 #[.agg #[vm,.slice (some ⟨cb,co,none⟩) N ccap],I4 p,.slice (some ⟨sb,B,none⟩) 8 g,R] w fun e w'=>e=.returned (I4 33)/\Bw w w':=by
 obtain ⟨an,rfl⟩:=Int.eq_ofNat_of_zero_le ha.1
 have K:an<8:=by omega
 have ao:(an:Int)<8:=by omega
 have ap:(0:Int)<=an:=by omega
 obtain ⟨m0,S,X,m3,m4⟩:=M;simp only at m0 S X m3 m4;obtain ⟨Z,HZ,l,E,y,aj⟩:∃ Z,Hid (Z=((w.alloc (.cells #[vm,.slice (some ⟨cb,co,none⟩) N ccap] 25)).alloc (qBr op d an b c)).alloc (.cells #[I4 0,U8 0,U8 0,I4 0] 153))/\Box Z (w.heap.size+1) op d an b c/\BxT Z (w.heap.size+1+1) 0 Ty.nil/\Bw w Z/\Z.heap.size=w.heap.size+3 :=
  ⟨_,rfl,⟨by go_cell,by go_cell,by go_cell,by go_cell,by go_cell⟩,qDt _ _ (by simp),by go_grown,by simp⟩
 have u:Hid (SeesT Z (.slice (some ⟨sb,B,none⟩) 8 g) s):=D.below y;have V:sb<w.heap.size:=(D.at8 F (r:=0) (by omega)).2.1
 have a0:¬ sb=w.heap.size+1+1:=by omega
 have U:¬ w.heap.size+1+1=sb:=by omega
 clear D
 have a2:(op==0)=false:=by simp;omega
 have ag:(op==13)=false:=by simp;omega
 have a4:(op==15)=false:=by simp;omega
 have ab:(op==14)=false:=by simp;omega
 have a3:(op==21)=false:=by simp;omega
 have a6:(op==11)=false:=by simp;omega
 have af:(op==20)=false:=by simp;omega
 have a9:(op==22)=false:=by simp;omega
 have a7:(ak != 1)=true:=by simp [hk]
 go_enter Tryz.func52,Tryz.ntmps52
 go_wp2_with (first
  | (go_at_call 86;rw [<- HZ.out];go_must (refine (qCt _ _ _ _ _ _).mono ?_);rintro e w1 ⟨rfl,k⟩;rw [A.out];go_must (have O:=k.size;obtain ⟨P,G,I,L,J⟩:=Box.below l k (by omega)))
  | (go_at_call 87;go_must (refine (qDh (i:=⟨op,d,an,b,c⟩) (w:=w1) (u.out.below k) F hb HT).mono ?_);rintro e T ⟨rfl,z⟩;go_must (have f:Bw Z T:=k.trans (z.mono O);have a8:=f.size;clear P G I L J;obtain ⟨P,G,I,L,J⟩:=Box.below l f (by omega);obtain ⟨c0,c1,c2,c3,f0,f1,f2,f3⟩:=(BxT.below E f (by omega)).parts;(obtain ⟨o,ac,ad,a1⟩:=(u.out.below f).at8 F K);(have n:=HA.out);(rw [show qBg s (an:Int)=s.getD an Ty.nil from rfl] at n);(rw [n] at o);obtain ⟨g0,Y,g2,g3⟩:=o;simp only at g0 Y g2 g3;clear z)))
 go_ret;exact ⟨rfl,qAb (qAb (qAb (qAb (y.trans (f.mono (by omega))) (by omega)) (by omega)) (by omega)) (by omega)⟩
theorem qVa (vm:Value)(cb co N ccap p:Nat)(op d a b c:Int)(sb D g:Nat)(s:St)(S:Value)(w:World)(a5:cb<w.heap.size)(P:At w cb (co+p*5) ⟨op,d,a,b,c⟩)(ai:p<N)(hN:N<=ccap)(ae:ccap<=9223372036854775807)(E:SeesT w (.slice (some ⟨sb,D,none⟩) 8 g) s)(G:s.length=8)(hb:b=8∨(0<=b/\b<=7))(B:Hid (qCv op d a b c=true))(A tl th tm:Int)(HT:Hid (qBa ⟨op,d,a,b,c⟩ s=⟨A,tl,th,tm⟩))(aa:(1<=op/\op<=10)∨op=12∨(16<=op/\op<=19))(ha:0<=a/\a<=7)(ak al ah am:Int)(HA:Hid (qBg s a=⟨ak,al,ah,am⟩))(hk:ak=1)(O:¬ A=1) :
  Cl 52 #[.agg #[vm,.slice (some ⟨cb,co,none⟩) N ccap],I4 p,.slice (some ⟨sb,D,none⟩) 8 g,S] w fun e w'=>e=.returned (I4 33)/\Bw w w':=by
 obtain ⟨an,rfl⟩:=Int.eq_ofNat_of_zero_le ha.1
 have L:an<8:=by omega
 have ao:(an:Int)<8:=by omega
 have ap:(0:Int)<=an:=by omega
 obtain ⟨m0,T,Y,m3,m4⟩:=P;simp only at m0 T Y m3 m4;obtain ⟨Z,HZ,l,F,y,aj⟩:∃ Z,Hid (Z=((w.alloc (.cells #[vm,.slice (some ⟨cb,co,none⟩) N ccap] 25)).alloc (qBr op d an b c)).alloc (.cells #[I4 0,U8 0,U8 0,I4 0] 153))/\Box Z (w.heap.size+1) op d an b c/\BxT Z (w.heap.size+1+1) 0 Ty.nil/\Bw w Z/\Z.heap.size=w.heap.size+3 :=
  ⟨_,rfl,⟨by go_cell,by go_cell,by go_cell,by go_cell,by go_cell⟩,qDt _ _ (by simp),by go_grown,by simp⟩
 have u:Hid (SeesT Z (.slice (some ⟨sb,D,none⟩) 8 g) s):=E.below y;have X:sb<w.heap.size:=(E.at8 G (r:=0) (by omega)).2.1
 have a0:¬ sb=w.heap.size+1+1:=by omega
 have V:¬ w.heap.size+1+1=sb:=by omega
 clear E
 have a2:(op==0)=false:=by simp;omega
 have ag:(op==13)=false:=by simp;omega
 have a4:(op==15)=false:=by simp;omega
 have ab:(op==14)=false:=by simp;omega
 have a3:(op==21)=false:=by simp;omega
 have a6:(op==11)=false:=by simp;omega
 have af:(op==20)=false:=by simp;omega
 have a9:(op==22)=false:=by simp;omega
 subst hk
 have a7:(A != 1)=true:=by simp [O]
 go_enter Tryz.func52,Tryz.ntmps52
 go_wp2_with (first
  | (go_at_call 86;rw [<- HZ.out];go_must (refine (qCt _ _ _ _ _ _).mono ?_);rintro e w1 ⟨rfl,k⟩;rw [B.out];go_must (have Q:=k.size;obtain ⟨R,I,J,M,K⟩:=Box.below l k (by omega)))
  | (go_at_call 87;go_must (refine (qDh (i:=⟨op,d,an,b,c⟩) (w:=w1) (u.out.below k) G hb HT).mono ?_);rintro e U ⟨rfl,z⟩;go_must (have f:Bw Z U:=k.trans (z.mono Q);have a8:=f.size;clear R I J M K;obtain ⟨R,I,J,M,K⟩:=Box.below l f (by omega);obtain ⟨c0,c1,c2,c3,f0,f1,f2,f3⟩:=(BxT.below F f (by omega)).parts;(obtain ⟨o,ac,ad,a1⟩:=(u.out.below f).at8 G L);(have n:=HA.out);(rw [show qBg s (an:Int)=s.getD an Ty.nil from rfl] at n);(rw [n] at o);obtain ⟨g0,g1,g2,g3⟩:=o;simp only at g0 g1 g2 g3;clear z)))
 go_ret;exact ⟨rfl,qAb (qAb (qAb (qAb (y.trans (f.mono (by omega))) (by omega)) (by omega)) (by omega)) (by omega)⟩
theorem yCf (vm:Value)(cb co N ccap p:Nat)(op d a b c:Int)(sb B g:Nat)(s:St)(S:Value)(w:World)(a6:cb<w.heap.size)(P:At w cb (co+p*5) ⟨op,d,a,b,c⟩)(ai:p<N)(hN:N<=ccap)(ae:ccap<=9223372036854775807)(D:SeesT w (.slice (some ⟨sb,B,none⟩) 8 g) s)(F:s.length=8)(hb:b=8∨(0<=b/\b<=7))(A:Hid (qCv op d a b c=true))(G tl th tm:Int)(HT:Hid (qBa ⟨op,d,a,b,c⟩ s=⟨G,tl,th,tm⟩))(aa:(1<=op/\op<=10)∨(16<=op/\op<=19))(ha:0<=a/\a<=7)(ak al ah am:Int)(HA:Hid (qBg s a=⟨ak,al,ah,am⟩))(hk:ak=1)(O:G=1) :
  Cl 52 #[.agg #[vm,.slice (some ⟨cb,co,none⟩) N ccap],I4 p,.slice (some ⟨sb,B,none⟩) 8 g,S] w fun e w'=>e=.returned (I4 0)/\Bw w w':=by
 obtain ⟨an,rfl⟩:=Int.eq_ofNat_of_zero_le ha.1
 have L:an<8:=by omega
 have ao:(an:Int)<8:=by omega
 have ap:(0:Int)<=an:=by omega
 obtain ⟨m0,T,Y,m3,m4⟩:=P;simp only at m0 T Y m3 m4;obtain ⟨Z,HZ,l,E,y,aj⟩:∃ Z,Hid (Z=((w.alloc (.cells #[vm,.slice (some ⟨cb,co,none⟩) N ccap] 25)).alloc (qBr op d an b c)).alloc (.cells #[I4 0,U8 0,U8 0,I4 0] 153))/\Box Z (w.heap.size+1) op d an b c/\BxT Z (w.heap.size+1+1) 0 Ty.nil/\Bw w Z/\Z.heap.size=w.heap.size+3 :=
  ⟨_,rfl,⟨by go_cell,by go_cell,by go_cell,by go_cell,by go_cell⟩,qDt _ _ (by simp),by go_grown,by simp⟩
 have u:Hid (SeesT Z (.slice (some ⟨sb,B,none⟩) 8 g) s):=D.below y;have X:sb<w.heap.size:=(D.at8 F (r:=0) (by omega)).2.1
 have a0:¬ sb=w.heap.size+1+1:=by omega
 have V:¬ w.heap.size+1+1=sb:=by omega
 clear D
 have a2:(op==0)=false:=by simp;omega
 have ag:(op==13)=false:=by simp;omega
 have a4:(op==15)=false:=by simp;omega
 have ab:(op==14)=false:=by simp;omega
 have a3:(op==21)=false:=by simp;omega
 have a7:(op==11)=false:=by simp;omega
 have af:(op==20)=false:=by simp;omega
 have a9:(op==22)=false:=by simp;omega
 have a5:(op==12)=false:=by simp;omega
 subst hk O;go_enter Tryz.func52,Tryz.ntmps52
 go_wp2_with (first
  | (go_at_call 86;rw [<- HZ.out];go_must (refine (qCt _ _ _ _ _ _).mono ?_);rintro e w1 ⟨rfl,k⟩;rw [A.out];go_must (have Q:=k.size;obtain ⟨R,I,J,M,K⟩:=Box.below l k (by omega)))
  | (go_at_call 87;go_must (refine (qDh (i:=⟨op,d,an,b,c⟩) (w:=w1) (u.out.below k) F hb HT).mono ?_);rintro e U ⟨rfl,z⟩;go_must (have f:Bw Z U:=k.trans (z.mono Q);have a8:=f.size;clear R I J M K;obtain ⟨R,I,J,M,K⟩:=Box.below l f (by omega);obtain ⟨c0,c1,c2,c3,f0,f1,f2,f3⟩:=(BxT.below E f (by omega)).parts;(obtain ⟨o,ac,ad,a1⟩:=(u.out.below f).at8 F L);(have n:=HA.out);(rw [show qBg s (an:Int)=s.getD an Ty.nil from rfl] at n);(rw [n] at o);obtain ⟨g0,g1,g2,g3⟩:=o;simp only at g0 g1 g2 g3;clear z)))
 go_ret;exact ⟨rfl,qAb (qAb (qAb (qAb (y.trans (f.mono (by omega))) (by omega)) (by omega)) (by omega)) (by omega)⟩
theorem qWm (vm:Value)(cb co N ccap p:Nat)(d a b c:Int)(sb D g:Nat)(s:St)(T:Value)(w:World)(a8:cb<w.heap.size)(M:At w cb (co+p*5) ⟨12,d,a,b,c⟩)(a9:p<N)(hN:N<=ccap)(a4:ccap<=9223372036854775807)(B:SeesT w (.slice (some ⟨sb,D,none⟩) 8 g) s)(E:s.length=8)(V:b=8∨(0<=b/\b<=7))(A:Hid (qCv 12 d a b c=true))(G tl K tm:Int)(HT:Hid (qBa ⟨12,d,a,b,c⟩ s=⟨G,tl,K,tm⟩))(ha:0<=a/\a<=7)(ak Y ah am:Int)(HA:Hid (qBg s a=⟨ak,Y,ah,am⟩))(hk:ak=1)(S:G=1)(hh:15<K) :
  Cl 52 #[.agg #[vm,.slice (some ⟨cb,co,none⟩) N ccap],I4 p,.slice (some ⟨sb,D,none⟩) 8 g,T] w fun e w'=>e=.returned (I4 35)/\Bw w w':=by
 obtain ⟨an,rfl⟩:=Int.eq_ofNat_of_zero_le ha.1
 have Q:an<8:=by omega
 have a3:(an:Int)<8:=by omega
 have a7:(0:Int)<=an:=by omega
 obtain ⟨m0,X,m2,m3,m4⟩:=M;simp only at m0 X m2 m3 m4;obtain ⟨Z,HZ,l,F,y,ab⟩:∃ Z,Hid (Z=((w.alloc (.cells #[vm,.slice (some ⟨cb,co,none⟩) N ccap] 25)).alloc (qBr 12 d an b c)).alloc (.cells #[I4 0,U8 0,U8 0,I4 0] 153))/\Box Z (w.heap.size+1) 12 d an b c/\BxT Z (w.heap.size+1+1) 0 Ty.nil/\Bw w Z/\Z.heap.size=w.heap.size+3 :=
  ⟨_,rfl,⟨by go_cell,by go_cell,by go_cell,by go_cell,by go_cell⟩,qDt _ _ (by simp),by go_grown,by simp⟩
 have u:Hid (SeesT Z (.slice (some ⟨sb,D,none⟩) 8 g) s):=B.below y;have a1:sb<w.heap.size:=(B.at8 E (r:=0) (by omega)).2.1
 have U:¬ sb=w.heap.size+1+1:=by omega
 have a0:¬ w.heap.size+1+1=sb:=by omega
 clear B;subst hk S;go_enter Tryz.func52,Tryz.ntmps52
 go_wp2_with (first
  | (go_at_call 86;rw [<- HZ.out];go_must (refine (qCt _ _ _ _ _ _).mono ?_);rintro e w1 ⟨rfl,k⟩;rw [A.out];go_must (have O:=k.size;obtain ⟨R,L,I,J,P⟩:=Box.below l k (by omega)))
  | (go_at_call 87;go_must (refine (qDh (i:=⟨12,d,an,b,c⟩) (w:=w1) (u.out.below k) E V HT).mono ?_);rintro e w5 ⟨rfl,z⟩;go_must (have f:Bw Z w5:=k.trans (z.mono O);have aa:=f.size;clear R L I J P;obtain ⟨R,L,I,J,P⟩:=Box.below l f (by omega);obtain ⟨c0,c1,c2,c3,f0,f1,f2,f3⟩:=(BxT.below F f (by omega)).parts;(obtain ⟨n,a5,a2,a6⟩:=(u.out.below f).at8 E Q);(have o:=HA.out);(rw [show qBg s (an:Int)=s.getD an Ty.nil from rfl] at o);(rw [o] at n);obtain ⟨g0,g1,g2,g3⟩:=n;simp only at g0 g1 g2 g3;clear z)))
 go_ret;exact ⟨rfl,qAb (qAb (qAb (qAb (y.trans (f.mono (by omega))) (by omega)) (by omega)) (by omega)) (by omega)⟩
theorem qWf (vm:Value)(cb co N ccap p:Nat)(d a b c:Int)(sb D g:Nat)(s:St)(T:Value)(w:World)(a8:cb<w.heap.size)(M:At w cb (co+p*5) ⟨12,d,a,b,c⟩)(a9:p<N)(hN:N<=ccap)(a4:ccap<=9223372036854775807)(B:SeesT w (.slice (some ⟨sb,D,none⟩) 8 g) s)(E:s.length=8)(V:b=8∨(0<=b/\b<=7))(A:Hid (qCv 12 d a b c=true))(G tl K tm:Int)(HT:Hid (qBa ⟨12,d,a,b,c⟩ s=⟨G,tl,K,tm⟩))(ha:0<=a/\a<=7)(ak Y ah am:Int)(HA:Hid (qBg s a=⟨ak,Y,ah,am⟩))(hk:ak=1)(S:G=1)(hh:¬ 15<K) :
  Cl 52 #[.agg #[vm,.slice (some ⟨cb,co,none⟩) N ccap],I4 p,.slice (some ⟨sb,D,none⟩) 8 g,T] w fun e w'=>e=.returned (I4 0)/\Bw w w':=by
 obtain ⟨an,rfl⟩:=Int.eq_ofNat_of_zero_le ha.1
 have Q:an<8:=by omega
 have a3:(an:Int)<8:=by omega
 have a7:(0:Int)<=an:=by omega
 obtain ⟨m0,X,m2,m3,m4⟩:=M;simp only at m0 X m2 m3 m4;obtain ⟨Z,HZ,l,F,y,ab⟩:∃ Z,Hid (Z=((w.alloc (.cells #[vm,.slice (some ⟨cb,co,none⟩) N ccap] 25)).alloc (qBr 12 d an b c)).alloc (.cells #[I4 0,U8 0,U8 0,I4 0] 153))/\Box Z (w.heap.size+1) 12 d an b c/\BxT Z (w.heap.size+1+1) 0 Ty.nil/\Bw w Z/\Z.heap.size=w.heap.size+3 :=
  ⟨_,rfl,⟨by go_cell,by go_cell,by go_cell,by go_cell,by go_cell⟩,qDt _ _ (by simp),by go_grown,by simp⟩
 have u:Hid (SeesT Z (.slice (some ⟨sb,D,none⟩) 8 g) s):=B.below y;have a1:sb<w.heap.size:=(B.at8 E (r:=0) (by omega)).2.1
 have U:¬ sb=w.heap.size+1+1:=by omega
 have a0:¬ w.heap.size+1+1=sb:=by omega
 clear B;subst hk S;go_enter Tryz.func52,Tryz.ntmps52
 go_wp2_with (first
  | (go_at_call 86;rw [<- HZ.out];go_must (refine (qCt _ _ _ _ _ _).mono ?_);rintro e w1 ⟨rfl,k⟩;rw [A.out];go_must (have O:=k.size;obtain ⟨R,L,I,J,P⟩:=Box.below l k (by omega)))
  | (go_at_call 87;go_must (refine (qDh (i:=⟨12,d,an,b,c⟩) (w:=w1) (u.out.below k) E V HT).mono ?_);rintro e w5 ⟨rfl,z⟩;go_must (have f:Bw Z w5:=k.trans (z.mono O);have aa:=f.size;clear R L I J P;obtain ⟨R,L,I,J,P⟩:=Box.below l f (by omega);obtain ⟨c0,c1,c2,c3,f0,f1,f2,f3⟩:=(BxT.below F f (by omega)).parts;(obtain ⟨n,a5,a2,a6⟩:=(u.out.below f).at8 E Q);(have o:=HA.out);(rw [show qBg s (an:Int)=s.getD an Ty.nil from rfl] at o);(rw [o] at n);obtain ⟨g0,g1,g2,g3⟩:=n;simp only at g0 g1 g2 g3;clear z)))
 go_ret;exact ⟨rfl,qAb (qAb (qAb (qAb (y.trans (f.mono (by omega))) (by omega)) (by omega)) (by omega)) (by omega)⟩
theorem yIj (am:Option Addr)(nm mcap:Nat)(cb co N ccap p:Nat)(d a b g:Int)(sb o c:Nat)(s:St)(z:Value)(w:World)(S:cb<w.heap.size)(u:At w cb (co+p*5) ⟨13,d,a,b,g⟩)(T:p<N)(hN:N<=ccap)(O:ccap<=9223372036854775807)(l:SeesT w (.slice (some ⟨sb,o,none⟩) 8 c) s)(B:s.length=8)(n:Hid (qCv 13 d a b g=false))  :
  Cl 52 #[.agg #[.slice am nm mcap,.slice (some ⟨cb,co,none⟩) N ccap],I4 p,.slice (some ⟨sb,o,none⟩) 8 c,z] w fun e J=>e=.returned (I4 0)/\Bw w J:=by
 obtain ⟨m0,D,L,E,F⟩:=u;simp only at m0 D L E F;obtain ⟨Z,M,i,G,y,k,U⟩:∃ Z,Hid (Z=((w.alloc (.cells #[.slice am nm mcap,.slice (some ⟨cb,co,none⟩) N ccap] 25)).alloc (qBr 13 d a b g)).alloc (.cells #[I4 0,U8 0,U8 0,I4 0] 153))/\Box Z (w.heap.size+1) 13 d a b g/\BxT Z (w.heap.size+1+1) 0 Ty.nil/\Z.cell? ⟨w.heap.size,0,none⟩=some (.slice am nm mcap)/\Bw w Z/\Z.heap.size=w.heap.size+3 :=
  ⟨_,rfl,⟨by go_cell,by go_cell,by go_cell,by go_cell,by go_cell⟩,qDt _ _ (by simp),by go_cell,by go_grown,by simp⟩
 have P:Hid (SeesT Z (.slice (some ⟨sb,o,none⟩) 8 c) s):=l.below k;have K:sb<w.heap.size:=(l.at8 B (r:=0) (by omega)).2.1
 have A:¬ sb=w.heap.size+1+1:=by omega
 have I:¬ w.heap.size+1+1=sb:=by omega
 clear l;go_enter Tryz.func52,Tryz.ntmps52
 go_wp2_with (go_at_call 86;rw [<- M.out];go_must (refine (qCt _ _ _ _ _ _).mono ?_);rintro e Y ⟨rfl,f⟩;rw [n.out];go_must (have R:=f.size;have Q:=(f.cell (p:=⟨w.heap.size,0,none⟩) (show w.heap.size<Z.heap.size by omega)).trans y;obtain ⟨x0,x1,V,X,x4⟩:=Box.below i f (by omega)))
 go_ret;exact ⟨rfl,k.trans (f.mono (by omega))⟩
theorem yMg (am:Option Addr)(nm mcap:Nat)(cb co N ccap p:Nat)(d a b g:Int)(sb o c:Nat)(s:St)(z:Value)(w:World)(S:cb<w.heap.size)(u:At w cb (co+p*5) ⟨15,d,a,b,g⟩)(T:p<N)(hN:N<=ccap)(O:ccap<=9223372036854775807)(l:SeesT w (.slice (some ⟨sb,o,none⟩) 8 c) s)(B:s.length=8)(n:Hid (qCv 15 d a b g=false))  :
  Cl 52 #[.agg #[.slice am nm mcap,.slice (some ⟨cb,co,none⟩) N ccap],I4 p,.slice (some ⟨sb,o,none⟩) 8 c,z] w fun e J=>e=.returned (I4 0)/\Bw w J:=by
 obtain ⟨m0,D,L,E,F⟩:=u;simp only at m0 D L E F;obtain ⟨Z,M,i,G,y,k,U⟩:∃ Z,Hid (Z=((w.alloc (.cells #[.slice am nm mcap,.slice (some ⟨cb,co,none⟩) N ccap] 25)).alloc (qBr 15 d a b g)).alloc (.cells #[I4 0,U8 0,U8 0,I4 0] 153))/\Box Z (w.heap.size+1) 15 d a b g/\BxT Z (w.heap.size+1+1) 0 Ty.nil/\Z.cell? ⟨w.heap.size,0,none⟩=some (.slice am nm mcap)/\Bw w Z/\Z.heap.size=w.heap.size+3 :=
  ⟨_,rfl,⟨by go_cell,by go_cell,by go_cell,by go_cell,by go_cell⟩,qDt _ _ (by simp),by go_cell,by go_grown,by simp⟩
 have P:Hid (SeesT Z (.slice (some ⟨sb,o,none⟩) 8 c) s):=l.below k;have K:sb<w.heap.size:=(l.at8 B (r:=0) (by omega)).2.1
 have A:¬ sb=w.heap.size+1+1:=by omega
 have I:¬ w.heap.size+1+1=sb:=by omega
 clear l;go_enter Tryz.func52,Tryz.ntmps52
 go_wp2_with (go_at_call 86;rw [<- M.out];go_must (refine (qCt _ _ _ _ _ _).mono ?_);rintro e Y ⟨rfl,f⟩;rw [n.out];go_must (have R:=f.size;have Q:=(f.cell (p:=⟨w.heap.size,0,none⟩) (show w.heap.size<Z.heap.size by omega)).trans y;obtain ⟨x0,x1,V,X,x4⟩:=Box.below i f (by omega)))
 go_ret;exact ⟨rfl,k.trans (f.mono (by omega))⟩
theorem yFm (am:Option Addr)(nm mcap:Nat)(cb co N ccap p:Nat)(d a b c:Int)(sb o f:Nat)(s:St)(z:Value)(w:World)(S:cb<w.heap.size)(u:At w cb (co+p*5) ⟨14,d,a,b,c⟩)(T:p<N)(hN:N<=ccap)(O:ccap<=9223372036854775807)(l:SeesT w (.slice (some ⟨sb,o,none⟩) 8 f) s)(B:s.length=8)(n:Hid (qCv 14 d a b c=false))(hk:(nm:Int)<=c) :
  Cl 52 #[.agg #[.slice am nm mcap,.slice (some ⟨cb,co,none⟩) N ccap],I4 p,.slice (some ⟨sb,o,none⟩) 8 f,z] w fun e J=>e=.returned (I4 35)/\Bw w J:=by
 obtain ⟨m0,D,L,E,F⟩:=u;simp only at m0 D L E F;obtain ⟨Z,M,i,G,y,k,U⟩:∃ Z,Hid (Z=((w.alloc (.cells #[.slice am nm mcap,.slice (some ⟨cb,co,none⟩) N ccap] 25)).alloc (qBr 14 d a b c)).alloc (.cells #[I4 0,U8 0,U8 0,I4 0] 153))/\Box Z (w.heap.size+1) 14 d a b c/\BxT Z (w.heap.size+1+1) 0 Ty.nil/\Z.cell? ⟨w.heap.size,0,none⟩=some (.slice am nm mcap)/\Bw w Z/\Z.heap.size=w.heap.size+3 :=
  ⟨_,rfl,⟨by go_cell,by go_cell,by go_cell,by go_cell,by go_cell⟩,qDt _ _ (by simp),by go_cell,by go_grown,by simp⟩
 have P:Hid (SeesT Z (.slice (some ⟨sb,o,none⟩) 8 f) s):=l.below k;have K:sb<w.heap.size:=(l.at8 B (r:=0) (by omega)).2.1
 have A:¬ sb=w.heap.size+1+1:=by omega
 have I:¬ w.heap.size+1+1=sb:=by omega
 clear l;go_enter Tryz.func52,Tryz.ntmps52
 go_wp2_with (go_at_call 86;rw [<- M.out];go_must (refine (qCt _ _ _ _ _ _).mono ?_);rintro e Y ⟨rfl,g⟩;rw [n.out];go_must (have R:=g.size;have Q:=(g.cell (p:=⟨w.heap.size,0,none⟩) (show w.heap.size<Z.heap.size by omega)).trans y;obtain ⟨x0,x1,V,X,x4⟩:=Box.below i g (by omega)))
 go_ret;exact ⟨rfl,k.trans (g.mono (by omega))⟩
theorem yBt (am:Option Addr)(nm mcap:Nat)(cb co N ccap p:Nat)(d a b c:Int)(sb o f:Nat)(s:St)(z:Value)(w:World)(S:cb<w.heap.size)(u:At w cb (co+p*5) ⟨14,d,a,b,c⟩)(U:p<N)(hN:N<=ccap)(O:ccap<=9223372036854775807)(l:SeesT w (.slice (some ⟨sb,o,none⟩) 8 f) s)(B:s.length=8)(n:Hid (qCv 14 d a b c=false))(hk:¬ (nm:Int)<=c) :
  Cl 52 #[.agg #[.slice am nm mcap,.slice (some ⟨cb,co,none⟩) N ccap],I4 p,.slice (some ⟨sb,o,none⟩) 8 f,z] w fun e J=>e=.returned (I4 0)/\Bw w J:=by
 obtain ⟨m0,D,L,E,F⟩:=u;simp only at m0 D L E F;obtain ⟨Z,M,i,G,y,k,V⟩:∃ Z,Hid (Z=((w.alloc (.cells #[.slice am nm mcap,.slice (some ⟨cb,co,none⟩) N ccap] 25)).alloc (qBr 14 d a b c)).alloc (.cells #[I4 0,U8 0,U8 0,I4 0] 153))/\Box Z (w.heap.size+1) 14 d a b c/\BxT Z (w.heap.size+1+1) 0 Ty.nil/\Z.cell? ⟨w.heap.size,0,none⟩=some (.slice am nm mcap)/\Bw w Z/\Z.heap.size=w.heap.size+3 :=
  ⟨_,rfl,⟨by go_cell,by go_cell,by go_cell,by go_cell,by go_cell⟩,qDt _ _ (by simp),by go_cell,by go_grown,by simp⟩
 have P:Hid (SeesT Z (.slice (some ⟨sb,o,none⟩) 8 f) s):=l.below k;have K:sb<w.heap.size:=(l.at8 B (r:=0) (by omega)).2.1
 have A:¬ sb=w.heap.size+1+1:=by omega
 have I:¬ w.heap.size+1+1=sb:=by omega
 clear l
 have T:c<(nm:Int):=by omega
 go_enter Tryz.func52,Tryz.ntmps52
 go_wp2_with (go_at_call 86;rw [<- M.out];go_must (refine (qCt _ _ _ _ _ _).mono ?_);rintro e w1 ⟨rfl,g⟩;rw [n.out];go_must (have R:=g.size;have Q:=(g.cell (p:=⟨w.heap.size,0,none⟩) (show w.heap.size<Z.heap.size by omega)).trans y;obtain ⟨x0,x1,X,Y,x4⟩:=Box.below i g (by omega)))
 go_ret;exact ⟨rfl,k.trans (g.mono (by omega))⟩
theorem yCh (am:Option Addr)(nm mcap:Nat)(cb co N ccap p:Nat)(d a b g:Int)(sb y f:Nat)(s:St)(G:Value)(w:World)(a7:cb<w.heap.size)(B:At w cb (co+p*5) ⟨22,d,a,b,g⟩)(a9:p<N)(hN:N<=ccap)(a2:ccap<=9223372036854775807)(o:SeesT w (.slice (some ⟨sb,y,none⟩) 8 f) s)(z:s.length=8)(u:Hid (qCv 22 d a b g=false))(V:0<=a/\a<=7)(ak K ah E:Int)(S:Hid (qBg s a=⟨ak,K,ah,E⟩))(hk:¬ ak=1) :
  Cl 52 #[.agg #[.slice am nm mcap,.slice (some ⟨cb,co,none⟩) N ccap],I4 p,.slice (some ⟨sb,y,none⟩) 8 f,G] w fun e R=>e=.returned (I4 33)/\Bw w R:=by
 obtain ⟨an,rfl⟩:=Int.eq_ofNat_of_zero_le V.1
 have F:an<8:=by omega
 have a1:(an:Int)<8:=by omega
 have a5:(0:Int)<=an:=by omega
 obtain ⟨m0,J,U,L,O⟩:=B;simp only at m0 J U L O;obtain ⟨Z,Y,i,P,D,n,aa⟩:∃ Z,Hid (Z=((w.alloc (.cells #[.slice am nm mcap,.slice (some ⟨cb,co,none⟩) N ccap] 25)).alloc (qBr 22 d an b g)).alloc (.cells #[I4 0,U8 0,U8 0,I4 0] 153))/\Box Z (w.heap.size+1) 22 d an b g/\BxT Z (w.heap.size+1+1) 0 Ty.nil/\Z.cell? ⟨w.heap.size,0,none⟩=some (.slice am nm mcap)/\Bw w Z/\Z.heap.size=w.heap.size+3 :=
  ⟨_,rfl,⟨by go_cell,by go_cell,by go_cell,by go_cell,by go_cell⟩,qDt _ _ (by simp),by go_cell,by go_grown,by simp⟩
 have A:Hid (SeesT Z (.slice (some ⟨sb,y,none⟩) 8 f) s):=o.below n;have T:sb<w.heap.size:=(o.at8 z (r:=0) (by omega)).2.1
 have I:¬ sb=w.heap.size+1+1:=by omega
 have Q:¬ w.heap.size+1+1=sb:=by omega
 clear o
 have a8:(ak != 1)=true:=by simp [hk]
 go_enter Tryz.func52,Tryz.ntmps52
 go_wp2_with (go_at_call 86;rw [<- Y.out];go_must (refine (qCt _ _ _ _ _ _).mono ?_);rintro e w1 ⟨rfl,c⟩;rw [u.out];go_must (have a6:=c.size;have a4:=(c.cell (p:=⟨w.heap.size,0,none⟩) (show w.heap.size<Z.heap.size by omega)).trans D;obtain ⟨x0,x1,x2,x3,x4⟩:=Box.below i c (by omega);(obtain ⟨k,ab,a0,a3⟩:=(A.out.below c).at8 z F);(have l:=S.out);(rw [show qBg s (an:Int)=s.getD an Ty.nil from rfl] at l);(rw [l] at k);obtain ⟨g0,X,M,g3⟩:=k;simp only at g0 X M g3))
 go_ret;exact ⟨rfl,n.trans (c.mono (by omega))⟩
theorem qZq (am:Option Addr)(nm mcap:Nat)(cb co N ccap p:Nat)(d a b g:Int)(sb y f:Nat)(s:St)(G:Value)(w:World)(a7:cb<w.heap.size)(B:At w cb (co+p*5) ⟨22,d,a,b,g⟩)(a8:p<N)(hN:N<=ccap)(a2:ccap<=9223372036854775807)(o:SeesT w (.slice (some ⟨sb,y,none⟩) 8 f) s)(z:s.length=8)(u:Hid (qCv 22 d a b g=false))(V:0<=a/\a<=7)(ak K ah E:Int)(S:Hid (qBg s a=⟨ak,K,ah,E⟩))(hk:ak=1) :
  Cl 52 #[.agg #[.slice am nm mcap,.slice (some ⟨cb,co,none⟩) N ccap],I4 p,.slice (some ⟨sb,y,none⟩) 8 f,G] w fun e R=>e=.returned (I4 0)/\Bw w R:=by
 obtain ⟨an,rfl⟩:=Int.eq_ofNat_of_zero_le V.1
 have F:an<8:=by omega
 have a1:(an:Int)<8:=by omega
 have a5:(0:Int)<=an:=by omega
 obtain ⟨m0,J,U,L,O⟩:=B;simp only at m0 J U L O;obtain ⟨Z,Y,i,P,D,n,a9⟩:∃ Z,Hid (Z=((w.alloc (.cells #[.slice am nm mcap,.slice (some ⟨cb,co,none⟩) N ccap] 25)).alloc (qBr 22 d an b g)).alloc (.cells #[I4 0,U8 0,U8 0,I4 0] 153))/\Box Z (w.heap.size+1) 22 d an b g/\BxT Z (w.heap.size+1+1) 0 Ty.nil/\Z.cell? ⟨w.heap.size,0,none⟩=some (.slice am nm mcap)/\Bw w Z/\Z.heap.size=w.heap.size+3 :=
  ⟨_,rfl,⟨by go_cell,by go_cell,by go_cell,by go_cell,by go_cell⟩,qDt _ _ (by simp),by go_cell,by go_grown,by simp⟩
 have A:Hid (SeesT Z (.slice (some ⟨sb,y,none⟩) 8 f) s):=o.below n;have T:sb<w.heap.size:=(o.at8 z (r:=0) (by omega)).2.1
 have I:¬ sb=w.heap.size+1+1:=by omega
 have Q:¬ w.heap.size+1+1=sb:=by omega
 clear o;subst hk;go_enter Tryz.func52,Tryz.ntmps52
 go_wp2_with (go_at_call 86;rw [<- Y.out];go_must (refine (qCt _ _ _ _ _ _).mono ?_);rintro e w1 ⟨rfl,c⟩;rw [u.out];go_must (have a6:=c.size;have a4:=(c.cell (p:=⟨w.heap.size,0,none⟩) (show w.heap.size<Z.heap.size by omega)).trans D;obtain ⟨x0,x1,x2,x3,x4⟩:=Box.below i c (by omega);(obtain ⟨k,aa,a0,a3⟩:=(A.out.below c).at8 z F);(have l:=S.out);(rw [show qBg s (an:Int)=s.getD an Ty.nil from rfl] at l);(rw [l] at k);obtain ⟨g0,X,M,g3⟩:=k;simp only at g0 X M g3))
 go_ret;exact ⟨rfl,n.trans (c.mono (by omega))⟩
theorem qRs (h:Int):(qEa h).length<=3:=by
 unfold qEa
 repeat' split
 all_goals simp
theorem xBe (w:World):(Go.sizeOf 153).run Tryz.prog w=.ok 4 w:=by
 simp [Go.sizeOf]
 rfl
theorem yUc {t e:TypeId}(d:Tryz.prog.underlying t=some (.slice e))(c:∀ w,(Go.sizeOf e).run Tryz.prog w=.ok 4 w)(a:Option Addr)(b cap l h:Nat)(i:l<=h)(g:h<=cap)(w:World) :
  (Instr.slice t (.slice a b cap) (some (I4 l)) (some (I4 h)) none).run Tryz.prog w=.ok (yCe a l h cap) w:=by
 have h0:(l:Int)<=(h:Int):=by omega
 have f:(h:Int)<=(cap:Int):=by omega
 simp [Instr.slice,run_underlying d,Instr.sliceBounds,run_sliceBound,h0,f,c,yCe]
theorem yEd {h:Int}{v:Value}{xs:List Ty}{w:World}(b:SeesT w v xs){r:Int}(c:Hid (r=qDr h xs)):Cl 89 #[I4 h,v] w fun e a=>e=.returned (I4 r)/\Bw w a:=by
 rw [c.out];exact yFr h v xs w b
theorem yMb (am:Option Addr)(nm mcap:Nat)(cb co N ccap p:Nat)(d a b f:Int)(sb g c:Nat)(s:St)(vh:Value)(w:World)(ab:cb<w.heap.size)(U:At w cb (co+p*5) ⟨21,d,a,b,f⟩)(ac:p<N)(hN:N<=ccap)(a7:ccap<=9223372036854775807)(G:SeesT w (.slice (some ⟨sb,g,none⟩) 8 c) s)(J:s.length=8)(I:Hid (qCv 21 d a b f=false)) :
  Cl 52 #[.agg #[.slice am nm mcap,.slice (some ⟨cb,co,none⟩) N ccap],I4 p,.slice (some ⟨sb,g,none⟩) 8 c,vh] w fun e M=>e=.returned (I4 (qDr f ((s.drop 1).take (qEa f).length)))/\Bw w M:=by
 obtain ⟨m0,m1,m2,m3,m4⟩:=U;simp only at m0 m1 m2 m3 m4;obtain ⟨Z,HZ,o,a1,a9,E,ad⟩:∃ Z,Hid (Z=((w.alloc (.cells #[.slice am nm mcap,.slice (some ⟨cb,co,none⟩) N ccap] 25)).alloc (qBr 21 d a b f)).alloc (.cells #[I4 0,U8 0,U8 0,I4 0] 153))/\Box Z (w.heap.size+1) 21 d a b f/\BxT Z (w.heap.size+1+1) 0 Ty.nil/\Z.cell? ⟨w.heap.size,0,none⟩=some (.slice am nm mcap)/\Bw w Z/\Z.heap.size=w.heap.size+3 :=
  ⟨_,rfl,⟨by go_cell,by go_cell,by go_cell,by go_cell,by go_cell⟩,qDt _ _ (by simp),by go_cell,by go_grown,by simp⟩
 have B:Hid (SeesT Z (.slice (some ⟨sb,g,none⟩) 8 c) s):=G.below E;have a4:sb<w.heap.size:=(G.at8 J (r:=0) (by omega)).2.1
 have a0:¬ sb=w.heap.size+1+1:=by omega
 have a3:¬ w.heap.size+1+1=sb:=by omega
 clear G;obtain ⟨_,_,a5,a8⟩:=B.out.at8 J (r:=0) (by omega);obtain ⟨n,K⟩:∃ n,Hid ((qEa f).length=n):=⟨_,rfl⟩
 have aa:n<=3:=by rw [<- K.out];exact qRs _
 rw [K.out];obtain ⟨r,R⟩:∃ r,Hid (r=qDr f ((s.drop 1).take n)):=⟨_,rfl⟩;rw [<- R.out]
 have a6:IntKind.i64.wrap (1+(n:Int))=1+(n:Int):=by rw [IntKind.wrap_i64];omega
 have ae:∀ i:World,(Instr.slice 124 (.slice (some ⟨sb,g,none⟩) 8 c) (some (I4 1)) (some (I4 (1+(n:Int)))) none).run Tryz.prog i=.ok (yCe (some ⟨sb,g,none⟩) 1 (1+n) c) i:=fun i=>by
  have:=yUc Tryz.underlying124 xBe (some ⟨sb,g,none⟩) 8 c 1 (1+n) (by omega) (by omega) i
  simpa using this
 have L:Hid (∀ i,SeesT i (.slice (some ⟨sb,g,none⟩) 8 c) s->SeesT i (yCe (some ⟨sb,g,none⟩) 1 (1+n) c) ((s.drop 1).take n)):=fun i hx=>by
  have:=SeesT.cut (xs:=s) (a:=some ⟨sb,g,none⟩) (cap:=c) (w:=i) (by rw [J];exact hx) 1 (1+n) c (by omega) (by omega) (by omega) (Nat.le_refl _);rw [List.drop_take] at this
  simpa using this
 go_enter Tryz.func52,Tryz.ntmps52
 go_wp2_with (first
  | (go_at_call 86;rw [<- HZ.out];go_must (refine (qCt _ _ _ _ _ _).mono ?_);rintro e w1 ⟨rfl,y⟩;rw [I.out];go_must (have V:=y.size;obtain ⟨X,T,O,Q,A⟩:=Box.below o y (by omega)))
  | (go_at_call 88;go_must (refine (qSa f _).mono ?_);rintro e u ⟨u2,rfl,k,F⟩;go_must (have l:Bw Z u:=y.trans (F.mono V);have Y:=l.size;rw [K.out] at k;obtain ⟨a2,c2,rfl⟩:=qIo k;clear X T O Q A k;obtain ⟨X,T,O,Q,A⟩:=Box.below o l (by omega);clear F)))
 go_region_held3 (fun M=>M.cell? ⟨w.heap.size+1,4,none⟩=some (I4 f))
  (first|(with_reducible exact y4)|exact A)
  (first
   | (go_at_call 89;refine (yEd (w:=u.drew) (L.out u (B.out.below l)) R).mono ?_;rintro e P ⟨rfl,z⟩;(have D:Bw u P:=qAg z);(have S:Bw Z P:=l.trans (D.mono Y));(have y4:=(D.cell (p:=⟨w.heap.size+1,4,none⟩) (show w.heap.size+1<u.heap.size by omega)).trans A);clear z))
 go_wp2;go_ret;exact ⟨rfl,E.trans (S.mono (by omega))⟩
theorem yBe (am:Option Addr)(nm mcap:Nat)(cb co N ccap p:Nat)(d a b g:Int)(sb z c:Nat)(s:St)(head:St)(B I i:Nat)(w:World)(a8:cb<w.heap.size)(D:At w cb (co+p*5) ⟨20,d,a,b,g⟩)(ab:p<N)(hN:N<=ccap)(a3:ccap<=9223372036854775807)(y:SeesT w (.slice (some ⟨sb,z,none⟩) 8 c) s)(A:s.length=8)(he:SeesT w (.slice (some ⟨B,I,none⟩) 8 i) head)(a1:head.length=8)(u:Hid (qCv 20 d a b g=false))(X:0<=a/\a<=7)(ak L ah F:Int)(T:Hid (qBg s a=⟨ak,L,ah,F⟩))(hk:¬ ak=1) :
  Cl 52 #[.agg #[.slice am nm mcap,.slice (some ⟨cb,co,none⟩) N ccap],I4 p,.slice (some ⟨sb,z,none⟩) 8 c,.slice (some ⟨B,I,none⟩) 8 i] w fun e S=>e=.returned (I4 33)/\Bw w S:=by
 obtain ⟨an,rfl⟩:=Int.eq_ofNat_of_zero_le X.1
 have G:an<8:=by omega
 have a2:(an:Int)<8:=by omega
 have a7:(0:Int)<=an:=by omega
 obtain ⟨m0,K,V,M,O⟩:=D;simp only at m0 K V M O;obtain ⟨Z,HZ,k,Q,a6,o,ac⟩:∃ Z,Hid (Z=((w.alloc (.cells #[.slice am nm mcap,.slice (some ⟨cb,co,none⟩) N ccap] 25)).alloc (qBr 20 d an b g)).alloc (.cells #[I4 0,U8 0,U8 0,I4 0] 153))/\Box Z (w.heap.size+1) 20 d an b g/\BxT Z (w.heap.size+1+1) 0 Ty.nil/\Z.cell? ⟨w.heap.size,0,none⟩=some (.slice am nm mcap)/\Bw w Z/\Z.heap.size=w.heap.size+3 :=
  ⟨_,rfl,⟨by go_cell,by go_cell,by go_cell,by go_cell,by go_cell⟩,qDt _ _ (by simp),by go_cell,by go_grown,by simp⟩
 have E:Hid (SeesT Z (.slice (some ⟨sb,z,none⟩) 8 c) s):=y.below o;have U:sb<w.heap.size:=(y.at8 A (r:=0) (by omega)).2.1
 have J:¬ sb=w.heap.size+1+1:=by omega
 have R:¬ w.heap.size+1+1=sb:=by omega
 clear y
 have aa:(ak != 1)=true:=by simp [hk]
 go_enter Tryz.func52,Tryz.ntmps52
 go_wp2_with (go_at_call 86;rw [<- HZ.out];go_must (refine (qCt _ _ _ _ _ _).mono ?_);rintro e w1 ⟨rfl,f⟩;rw [u.out];go_must (have a9:=f.size;obtain ⟨x0,x1,x2,x3,x4⟩:=Box.below k f (by omega);(obtain ⟨l,a4,a0,a5⟩:=(E.out.below f).at8 A G);(have n:=T.out);(rw [show qBg s (an:Int)=s.getD an Ty.nil from rfl] at n);(rw [n] at l);obtain ⟨g0,Y,P,g3⟩:=l;simp only at g0 Y P g3))
 go_ret;exact ⟨rfl,o.trans (f.mono (by omega))⟩
theorem yMs (am:Option Addr)(nm mcap:Nat)(cb co N ccap p:Nat)(d a b E:Int)(sb f B:Nat)(s:St)(head:St)(l g z:Nat)(w:World)(aq:cb<w.heap.size)(ab:At w cb (co+p*5) ⟨20,d,a,b,E⟩)(b1:p<N)(hN:N<=ccap)(ax:ccap<=9223372036854775807)(hs:SeesT w (.slice (some ⟨sb,f,none⟩) 8 B) s)(h8:s.length=8)(he:SeesT w (.slice (some ⟨l,g,none⟩) 8 z) head)(a7:head.length=8)(a3:Hid (qCv 20 d a b E=false))(ha:0<=a/\a<=7)(ak al ah a9:Int)(HA:Hid (qBg s a=⟨ak,al,ah,a9⟩))(hk:ak=1) :
  Cl 52 #[.agg #[.slice am nm mcap,.slice (some ⟨cb,co,none⟩) N ccap],I4 p,.slice (some ⟨sb,f,none⟩) 8 B,.slice (some ⟨l,g,none⟩) 8 z] w fun e c=>e=.returned (I4 (if qIx s head=true then 0 else 33))/\Bw w c:=by
 obtain ⟨an,rfl⟩:=Int.eq_ofNat_of_zero_le ha.1
 have aa:an<8:=by omega
 have b4:(an:Int)<8:=by omega
 have b6:(0:Int)<=an:=by omega
 obtain ⟨m0,m1,m2,m3,m4⟩:=ab;simp only at m0 m1 m2 m3 m4;obtain ⟨Z,HZ,X,ao,ay,F,b2⟩:∃ Z,Hid (Z=((w.alloc (.cells #[.slice am nm mcap,.slice (some ⟨cb,co,none⟩) N ccap] 25)).alloc (qBr 20 d an b E)).alloc (.cells #[I4 0,U8 0,U8 0,I4 0] 153))/\Box Z (w.heap.size+1) 20 d an b E/\BxT Z (w.heap.size+1+1) 0 Ty.nil/\Z.cell? ⟨w.heap.size,0,none⟩=some (.slice am nm mcap)/\Bw w Z/\Z.heap.size=w.heap.size+3 :=
  ⟨_,rfl,⟨by go_cell,by go_cell,by go_cell,by go_cell,by go_cell⟩,qDt _ _ (by simp),by go_cell,by go_grown,by simp⟩
 have a2:Hid (SeesT Z (.slice (some ⟨sb,f,none⟩) 8 B) s):=hs.below F;have ag:sb<w.heap.size:=(hs.at8 h8 (r:=0) (by omega)).2.1
 have ai:¬ sb=w.heap.size+1+1:=by omega
 have af:¬ w.heap.size+1+1=sb:=by omega
 clear hs;subst hk;have a8:Hid (SeesT Z (.slice (some ⟨l,g,none⟩) 8 z) head):=he.below F;obtain ⟨A,y⟩:∃ A:Int,Hid (A=if qIx s head=true then 0 else 33):=⟨_,rfl⟩;rw [<- y.out];clear he;go_enter Tryz.func52,Tryz.ntmps52
 go_wp2_with (go_at_call 86;rw [<- HZ.out];go_must (refine (qCt _ _ _ _ _ _).mono ?_);rintro e w1 ⟨rfl,D⟩;rw [a3.out];go_must (have ac:=D.size;obtain ⟨x0,x1,x2,x3,x4⟩:=Box.below X D (by omega);(obtain ⟨a1,av,aw,ap⟩:=(a2.out.below D).at8 h8 aa);(have a0:=HA.out);(rw [show qBg s (an:Int)=s.getD an Ty.nil from rfl] at a0);(rw [a0] at a1);obtain ⟨g0,g1,g2,g3⟩:=a1;simp only at g0 g1 g2 g3))
 go_loopw [13] (fun i wr=>∃ r:Nat,r<=8/\i=I4 r/\Hid ((List.range r).all (fun r=>qGt (s.getD r Ty.nil) (head.getD r Ty.nil))=true)/\Bw w1 wr) (fun i _=>8-(intOf i).toNat)
 case atStart=>exact ⟨0,by omega,rfl,rfl,Below.refl _ _⟩
 case round =>
  obtain ⟨r,b5,rfl,HQ,R⟩:=hrel;have ad:=R.size;have u:Bw Z wr:=D.trans (R.mono ac)
  by_cases hlt:r<8
  ·have b3:(r:Int)<8:=by omega
   have az:(0:Int)<=r:=by omega
   obtain ⟨S,U,ae,aj⟩:=(a2.out.below u).at8 h8 hlt;obtain ⟨Q,Y,ar,au⟩:=(a8.out.below u).at8 a7 hlt;obtain ⟨J,G,M,L,HS⟩:∃ k lo hi m,Hid (s.getD r Ty.nil=⟨k,lo,hi,m⟩):=⟨_,_,_,_,rfl⟩;obtain ⟨K,P,I,O,HE⟩:∃ k lo hi m,Hid (head.getD r Ty.nil=⟨k,lo,hi,m⟩):=⟨_,_,_,_,rfl⟩;rw [HS.out] at S;rw [HE.out] at Q;have V:At2 wr sb (f+r*4) ⟨J,G,M,L⟩ l (g+r*4) ⟨K,P,I,O⟩:=⟨S,Q⟩;obtain ⟨q,HF⟩:∃ q,Hid (q=qGt ⟨J,G,M,L⟩ ⟨K,P,I,O⟩):=⟨_,rfl⟩
   have HN:Hid (qGt (s.getD r Ty.nil) (head.getD r Ty.nil)=q):=by show _=_;rw [HS.out,HE.out,HF.out]
   clear S Q x0 x1 x2 x3 x4 g0 g1 g2 g3
   cases q
   ·have a6:Hid (qIx s head=false):=by
     show _=_
     unfold qIx;rw [List.all_eq_false];exact ⟨r,List.mem_range.2 hlt,by rw [HN.out];simp⟩
    go_wp2
    go_region_held3 (fun c=>(c.cell? ⟨sb,f+r*4,none⟩=some (I4 J)/\c.cell? ⟨sb,f+r*4+1,none⟩=some (U8 G)/\c.cell? ⟨sb,f+r*4+2,none⟩=some (U8 M)/\c.cell? ⟨sb,f+r*4+3,none⟩=some (I4 L))/\c.cell? ⟨l,g+r*4,none⟩=some (I4 K)/\c.cell? ⟨l,g+r*4+1,none⟩=some (U8 P)/\c.cell? ⟨l,g+r*4+2,none⟩=some (U8 I)/\c.cell? ⟨l,g+r*4+3,none⟩=some (I4 O))
     (first|(with_reducible exact T)|exact V)
     (first
      | (go_at_call 90;refine (yAo (a:=⟨J,G,M,L⟩) (b:=⟨K,P,I,O⟩) HF wr.drew).mono ?_;rintro e w2 ⟨rfl,n⟩;(have o:Bw wr w2:=qAg n);have T:=At2.below V o U Y;clear n))
    go_wp2;go_ret;exact ⟨qGu (by rw [y.out,a6.out];rfl),F.trans ((u.trans (o.mono u.size)).mono (by omega))⟩
   ·have a4:Hid ((List.range (r+1)).all (fun r=>qGt (s.getD r Ty.nil) (head.getD r Ty.nil))=true):=by
     show _=_
     rw [List.range_succ,List.all_append,HQ.out];simp only [List.all_cons,List.all_nil,HN.out,Bool.and_true]
    go_wp2
    go_region_held3 (fun c=>(c.cell? ⟨sb,f+r*4,none⟩=some (I4 J)/\c.cell? ⟨sb,f+r*4+1,none⟩=some (U8 G)/\c.cell? ⟨sb,f+r*4+2,none⟩=some (U8 M)/\c.cell? ⟨sb,f+r*4+3,none⟩=some (I4 L))/\c.cell? ⟨l,g+r*4,none⟩=some (I4 K)/\c.cell? ⟨l,g+r*4+1,none⟩=some (U8 P)/\c.cell? ⟨l,g+r*4+2,none⟩=some (U8 I)/\c.cell? ⟨l,g+r*4+3,none⟩=some (I4 O))
     (first|(with_reducible exact T)|exact V)
     (first
      | (go_at_call 90;refine (yAo (a:=⟨J,G,M,L⟩) (b:=⟨K,P,I,O⟩) HF wr.drew).mono ?_;rintro e w2 ⟨rfl,n⟩;(have o:Bw wr w2:=qAg n);have T:=At2.below V o U Y;clear n))
    go_wp2
    go_roundw
    case rel=>exact ⟨r+1,by omega,by go_num,a4,R.trans (o.mono ad)⟩
    case measure=>simp [intOf];omega
  ·obtain rfl:r=8:=by omega
   have a5:Hid (qIx s head=true):=HQ;go_wp2;go_ret;exact ⟨qGu (by rw [y.out,a5.out];rfl),F.trans (u.mono (by omega))⟩
theorem yWj (am:Option Addr)(nm mcap:Nat)(vc vs A:Value)(xs:List In)(p:Nat)(s head:St)(w:World)(hc:SeesI w vc xs)(y:p<xs.length)(hs:SeesT w vs s)(u:s.length=8)(Q:(nth xs p).right=true)(hh:(nth xs p).op=20->SeesT w A head/\head.length=8) :
  Cl 52 #[.agg #[.slice am nm mcap,vc],I4 p,vs,A] w fun e w'=>e=.returned (I4 (qEc nm (nth xs p) s head))/\Bw w w':=by
 obtain ⟨a1,cap,rfl,g,Z,_,V⟩:=hc;obtain ⟨cb,co,rfl,r,a4⟩:=V (fun e=>by rw [e] at y;simp at y);obtain ⟨a2,f,rfl,a6,a5,a9,U⟩:=id hs;obtain ⟨sb,z,rfl,aa,_⟩:=U (fun e=>by rw [e] at u;simp at u);have hA:=a4 p y;unfold maxLen at Z
 have o:SeesT w (.slice (some ⟨sb,z,none⟩) 8 f) s:=by have:=hs;rw [u] at this;exact this
 rw [u];have a0:xs.getD p In.nil=nth xs p:=rfl;rw [a0] at hA;have h0:0<=(nth xs p).op/\(nth xs p).op<=22:=qDm Q
 generalize nth xs p=i at *
 obtain ⟨op,d,a,b,l⟩:=i;simp only at h0 hh;obtain ⟨D,J,F,K,L⟩:∃ k lo hi m,Hid (qBa ⟨op,d,a,b,l⟩ s=⟨k,lo,hi,m⟩):=⟨_,_,_,_,rfl⟩;obtain ⟨ak,O,P,E,G⟩:∃ k lo hi m,Hid (qBg s a=⟨k,lo,hi,m⟩):=⟨_,_,_,_,rfl⟩
 have c:cap<=9223372036854775807:=by omega
 have S:(op<=12∨(16<=op/\op<=19))->qJe ⟨op,d,a,b,l⟩ s=⟨D,J,F,K⟩:=fun h=>by unfold qJe;rw [if_pos (qDq Q h).1,L.out]
 have I:¬ (op<=12∨(16<=op/\op<=19))->Hid (qCv op d a b l=false):=fun h=>by show _=_;unfold qCv qBw;simp;intro _;omega
 unfold qEc;simp only
 by_cases c0:op=0
 ·subst c0;have n:=qDq Q (.inl (show (0:Int)<=12 by decide));rw [if_pos rfl,S (.inl (by decide))]
  by_cases k0:D=0
  ·rw [if_pos k0];exact yEi _ cb co xs.length cap p d a b l sb z f s A w r hA y g c o u n.2 n.1 D J F K L k0
  ·rw [if_neg k0];exact yCy _ cb co xs.length cap p d a b l sb z f s A w r hA y g c o u n.2 n.1 D J F K L k0
 rw [if_neg c0]
 by_cases c1:op=13∨op=15
 ·rw [if_pos c1];have M:=I (by omega)
  rcases c1 with rfl|rfl
  ·exact yIj am nm mcap cb co xs.length cap p d a b l sb z f s A w r hA y g c o u M
  ·exact yMg am nm mcap cb co xs.length cap p d a b l sb z f s A w r hA y g c o u M
 rw [if_neg c1]
 by_cases c2:op=14
 ·subst c2;have M:=I (by omega);rw [if_pos rfl]
  by_cases k0:(nm:Int)<=l
  ·rw [if_pos k0];exact yFm am nm mcap cb co xs.length cap p d a b l sb z f s A w r hA y g c o u M k0
  ·rw [if_neg k0];exact yBt am nm mcap cb co xs.length cap p d a b l sb z f s A w r hA y g c o u M k0
 rw [if_neg c2]
 by_cases c3:op=21
 ·subst c3;rw [if_pos rfl];exact yMb am nm mcap cb co xs.length cap p d a b l sb z f s A w r hA y g c o u (I (by omega))
 rw [if_neg c3]
 by_cases c4:op=11
 ·subst c4;have n:=qDq Q (.inl (show (11:Int)<=12 by decide));rw [if_pos rfl,S (.inl (by decide))]
  by_cases k0:D=1
  ·rw [if_neg (by simpa using k0)]
   by_cases k1:15<F
   ·rw [if_pos k1];exact qZm _ cb co xs.length cap p d a b l sb z f s A w r hA y g c o u n.2 n.1 D J F K L k0 k1
   ·rw [if_neg k1];exact qZj _ cb co xs.length cap p d a b l sb z f s A w r hA y g c o u n.2 n.1 D J F K L k0 k1
  ·rw [if_pos k0];exact yAj _ cb co xs.length cap p d a b l sb z f s A w r hA y g c o u n.2 n.1 D J F K L k0
 rw [if_neg c4]
 by_cases c5:op=20
 ·subst c5;have B:=qDc Q (.inr (.inr (.inl (show (16:Int)<=20/\(20:Int)<=20 by decide))));obtain ⟨X,N⟩:=hh rfl;obtain ⟨a3,R,rfl,a8,a7,_,T⟩:=id X;obtain ⟨Y,eo,rfl,_,_⟩:=T (fun e=>by rw [e] at N;simp at N)
  have he:SeesT w (.slice (some ⟨Y,eo,none⟩) 8 R) head:=by have:=X;rw [N] at this;exact this
  have M:=I (by omega);rw [if_pos rfl,G.out,N]
  by_cases k0:ak=1
  ·rw [if_neg (by simpa using k0)];exact yMs am nm mcap cb co xs.length cap p d a b l sb z f s head Y eo R w r hA y g c o u he N M B ak O P E G k0
  ·rw [if_pos k0];exact yBe am nm mcap cb co xs.length cap p d a b l sb z f s head Y eo R w r hA y g c o u he N M B ak O P E G k0
 rw [if_neg c5]
 by_cases c6:op=22
 ·subst c6;have B:=qDc Q (.inr (.inr (.inr rfl)));have M:=I (by omega);rw [if_pos rfl,G.out]
  by_cases k0:ak=1
  ·rw [if_neg (by simpa using k0)];exact qZq am nm mcap cb co xs.length cap p d a b l sb z f s A w r hA y g c o u M B ak O P E G k0
  ·rw [if_pos k0];exact yCh am nm mcap cb co xs.length cap p d a b l sb z f s A w r hA y g c o u M B ak O P E G k0
 rw [if_neg c6]
 have c7:(1<=op/\op<=10)∨op=12∨(16<=op/\op<=19):=by omega
 have n:=qDq Q (show op<=12∨(16<=op/\op<=19) by omega);have B:=qDc Q (show (1<=op/\op<=10)∨op=12∨(16<=op/\op<=20)∨op=22 by omega);rw [S (by omega),G.out]
 by_cases k0:ak=1
 case neg =>
  rw [if_pos (.inl k0)];exact qWn _ cb co xs.length cap p op d a b l sb z f s A w r hA y g c o u n.2 n.1 D J F K L c7 B ak O P E G k0
 by_cases k1:D=1
 case neg =>
  rw [if_pos (.inr k1)];exact qVa _ cb co xs.length cap p op d a b l sb z f s A w r hA y g c o u n.2 n.1 D J F K L c7 B ak O P E G k0 k1
 rw [if_neg (by simp [k0,k1])]
 by_cases c8:op=12
 ·subst c8
  by_cases k2:15<F
  ·rw [if_pos ⟨rfl,k2⟩];exact qWm _ cb co xs.length cap p d a b l sb z f s A w r hA y g c o u n.2 n.1 D J F K L B ak O P E G k0 k1 k2
  ·rw [if_neg (fun h=>k2 h.2)];exact qWf _ cb co xs.length cap p d a b l sb z f s A w r hA y g c o u n.2 n.1 D J F K L B ak O P E G k0 k1 k2
 ·rw [if_neg (fun h=>c8 h.1)];exact yCf _ cb co xs.length cap p op d a b l sb z f s A w r hA y g c o u n.2 n.1 D J F K L (by omega) B ak O P E G k0 k1
end Go.Proofs.YtmdhljoicnommaaGreat
