/-
  E11DAll
  E11CallM
  E11CallK
  E11DStep
  E11DStepO
  E11DStepX
  E11DStepC
  E11LStepC
  E11LStepE
  E11LStepR
-/
import Derived.Test.YtmdhljoicnommaaGreatME39
namespace Go.Proofs.YtmdhljoicnommaaGreat
set_option maxHeartbeats 12800000
open Go.RowKit
set_option linter.unusedVariables false
set_option linter.unusedSimpArgs false
set_option maxRecDepth 100000
theorem yQx {ev:Int×Int}{b rb tb B c:Nat}{cs:List Value}{M:Mc}{v:Value}{ks:List Ak}(i:In)(y:i.right=true)(Y:i.op<=14)(w:World)(h:Rdm w b rb tb cs M)(P:cs[2]? = some (U8 ev.1))(N:cs[3]? = some (U8 ev.2))(G:cs[4]? = some (.pointer (some ⟨c,0,none⟩)))(D:Bk w B c v ks)(V:B<=w.heap.size)(O:ks.length<=100000)(K:Tie ks M.ws M.cs)(T:i.op=11∨i.op=12->0<=qCk i M.regs/\qCk i M.regs<=15) :
  Cl 40 #[.pointer (some ⟨b,0,none⟩),qAl i.op i.d i.a i.b i.imm] w fun e l=>e=.returned (.tuple #[])/\∃ A ks',Bk l B c A ks'/\Tie ks' (qBy ev i M).2 M.cs/\ks'.length<=ks.length+1/\RowNew w v A/\Chg w l (fun k=>k=rb∨bkS c v k)/\Hp l rb 26 (qBx (qBy ev i M).1):=by
 have h0:=qDm y;obtain ⟨z,s⟩:=qPw y (by omega);have J:¬ bkS c v rb:=qBv D h.rg (by decide) (by decide)
 have u:∀ {l:World} {R:List Int},w.grownBy l (some rb)->Hp l rb 26 (qBx R)->qBy ev i M=(R,M.ws)->∃ A ks',Bk l B c A ks'/\Tie ks' (qBy ev i M).2 M.cs/\ks'.length<=ks.length+1/\RowNew w v A/\Chg w l (fun k=>k=rb∨bkS c v k)/\Hp l rb 26 (qBx (qBy ev i M).1):=fun {l R} r hm e=>by
  rw [e];have Q:Chg w l (fun k=>k=rb):=Chg.of_grown r rfl;exact ⟨v,ks,D.chg Q (fun e=>J (.inl e.symm)) (fun k X e=>J (.inr (by rw [<- e];exact X))),K,by omega,.inl rfl,Q.mono (fun _ e=>.inl e),hm⟩
 by_cases c0:i.op=0
 ·have o:=qCy y (.inl (by omega));obtain ⟨op,d,a,g,f⟩:=i;simp only at c0 z s o;subst c0;refine (yMf d a g f w h o s rfl).mono ?_;rintro e l ⟨rfl,r,hm⟩;exact ⟨rfl,u r hm rfl⟩
 by_cases c1:1<=i.op/\i.op<=10
 ·have o:=qCy y (.inl (by omega));obtain ⟨op,d,a,g,f⟩:=i;simp only at c0 c1 z s o;refine (yEn op d a g f w h c1 o z s rfl rfl rfl).mono ?_;rintro e l ⟨rfl,r,hm⟩;exact ⟨rfl,u r hm (by unfold qBy;rw [if_neg c0,if_pos c1];rfl)⟩
 by_cases c2:i.op=11
 ·have o:=qCy y (.inl (by omega));have E:=T (.inl c2);obtain ⟨op,d,a,g,f⟩:=i;simp only at c0 c1 c2 z s o;subst c2;refine (yIs d a g f w h o s rfl E G D (n:=M.ws.getD (qCk ⟨11,d,a,g,f⟩ M.regs).toNat 0) (by show _=_;have U:=K.w (qCk ⟨11,d,a,g,f⟩ M.regs).toNat (by omega);rw [U,show (((qCk ⟨11,d,a,g,f⟩ M.regs).toNat:Nat):Int)=qCk ⟨11,d,a,g,f⟩ M.regs by omega])).mono ?_;rintro e l ⟨rfl,r,hm⟩;exact ⟨rfl,u r hm rfl⟩
 by_cases c3:i.op=12
 ·have E:=T (.inr c3);obtain ⟨op,d,a,g,f⟩:=i;simp only at c3 z s;subst c3;refine (yEc d a g f w h z s rfl rfl E G D V O).mono ?_;rintro e l ⟨rfl,A,L,I,S⟩;refine ⟨rfl,A,_,L,?_,by simp,S,I.mono (fun _ e=>.inr e),h.rg.chg I J⟩;have:=K.store (a:=(qCk ⟨12,d,a,g,f⟩ M.regs).toNat) (by omega) (M.regs.getD a.toNat 0);rw [show (((qCk ⟨12,d,a,g,f⟩ M.regs).toNat:Nat):Int)=qCk ⟨12,d,a,g,f⟩ M.regs by omega] at this;exact this
 by_cases c4:i.op=13
 ·have o:=qCy y (.inr (.inl c4));obtain ⟨op,d,a,g,f⟩:=i;simp only at c4 z s o;subst c4
  by_cases hi:f=0
  ·subst hi;refine (yBn d a g w h o P).mono ?_;rintro e l ⟨rfl,r,hm⟩;exact ⟨rfl,u r hm rfl⟩
  ·refine (yCg d a g f w h o N hi).mono ?_;rintro e l ⟨rfl,r,hm⟩;exact ⟨rfl,u r hm (by unfold qBy;simp [hi])⟩
 ·have F:i.op=14:=by omega
  have o:=qCy y (.inr (.inr F));have hi:=qXg y F;obtain ⟨op,d,a,g,f⟩:=i;simp only at F z s o hi;subst F;refine (yOi d a g f w h o hi).mono ?_;rintro e l ⟨rfl,r,hm⟩;exact ⟨rfl,u r hm rfl⟩
theorem qYw {b rb tb:Nat}{cs:List Value}{M:Mc}(i:In)(z:i.right=true)(A:15<=i.op/\i.op<=20)(w:World)(h:Rdm w b rb tb cs M)(B:i.op=20->0<=M.turn M.pc/\M.turn M.pc<=255) :
  Cl 39 #[.pointer (some ⟨b,0,none⟩),qAl i.op i.d i.a i.b i.imm] w fun e l=>e=.returned (.bool (qCz i M))/\w.grownBy l (some tb)/\Hp l tb 2 (tnC (qCg i M)):=by
 obtain ⟨n,y⟩:=qPw z A.2;have u:=qBf i
 by_cases c15:i.op=15
 ·have o:qCz i M=true:=by unfold qCz;rw [if_pos c15]
  have r:qCg i M=M.turn:=by unfold qCg;rw [if_neg (by omega)]
  rw [o,r];obtain ⟨op,d,a,k,c⟩:=i;simp only at c15;subst c15;refine (yJo d a k c w h).mono ?_;rintro e l ⟨rfl,f⟩;exact ⟨rfl,qBz f _,h.tn.below f h.tn.lt⟩
 by_cases c20:i.op=20
 ·have s:=B c20
  have hi:1<=i.imm/\i.imm<=255:=by
   rcases u with g|g|g|g
   ·rw [z] at g;cases g.1
   ·omega
   ·exact g.2.2.2.2.2.2.2
   ·omega
  obtain ⟨op,d,a,k,c⟩:=i;simp only at c20 n hi;subst c20;exact yJn d a k c w h n hi s
 ·have o:qCz i M=qCo i.op (qBj M.regs i.a) (qCk i M.regs):=by unfold qCz;rw [if_neg c15,if_neg c20]
  have r:qCg i M=M.turn:=by unfold qCg;rw [if_neg c20]
  rw [o,r];obtain ⟨op,d,a,k,c⟩:=i;simp only at c15 c20 A n y;refine (yHa op d a k c w h (by omega) n y rfl).mono ?_;rintro e l ⟨rfl,f⟩;exact ⟨rfl,qBz f _,h.tn.below f h.tn.lt⟩
theorem yOy {b rb tb:Nat}{cs:List Value}{M:Mc}(op d a G c l:Int)(w:World)(h:Rdm w b rb tb cs M){m0:Nat}(a9:cs[9]? = some (I4 m0))(hi:0<=c/\c<=4){mb mo mcap nm j:Nat}(ah:cs[0]? = some (.slice (some ⟨mb,mo,none⟩) nm mcap))(hj:j<nm)(ak:mb<w.heap.size)(au:nm<=mcap){g:Int}(T:w.cell? ⟨mb,mo+j,none⟩=some (I4 g))(ai:mb≠b){y z q:Int}(H1:Hid (qBj M.regs 1=(j:Int)))(H2:Hid (qBj M.regs 2=y))(H3:Hid (qBj M.regs 3=z))(HQ:Hid ((if c=2∨c=4 then z else 0)=q)) :
  Cl 37 #[.pointer (some ⟨b,0,none⟩),qAl op d a G c,qEp 1 l 0 0 0 0 0] w fun e u=>e=.returned (qEp 2 l g c y q 0)/\Chg w u (fun x=>x=b)/\Hp u b 73 (cs.set 9 (I4 1)):=by
 have ax:=h.st.lt;have ay:=h.rg.lt
 have an:b<w.heap.size+1:=by omega
 have ao:b<w.heap.size+1+1:=by omega
 have aa:b≠rb:=qCw h.st h.rg (by decide);have c9:=h.st.cell a9;have f9:=h.st.frozen 9;obtain ⟨ap,aw⟩:=hi
 obtain ⟨Y,HY,F,E,s,ag,ae,av,x4,U⟩:∃ Y,Hid (Y=(((w.setCell ⟨b,9,none⟩ (I4 1)).alloc (qBr op d a G c)).alloc (.cells #[I4 2,I4 l,I4 0,I4 0,U8 0,U8 0,U8 0] 80)).alloc (.cells #[I4 0,I4 0,I4 0,I4 0,U8 0,U8 0,U8 0] 80))/\Hid (Hp Y b 73 (cs.set 9 (I4 1)))/\Hid (Hp Y rb 26 (qBx M.regs))/\Hid (Hp Y (w.heap.size+1) 80 (qAh 2 l 0 0 0 0 0))/\Hid (Hp Y (w.heap.size+1+1) 80 (qAh 0 0 0 0 0 0 0))/\Hid (Chg w Y (fun x=>x=b))/\w.heap.size+3<=Y.heap.size/\Y.cell? ⟨w.heap.size,4,none⟩=some (I4 c)/\Y.cell? ⟨mb,mo+j,none⟩=some (I4 g):=by
  have hsz:(w.setCell ⟨b,9,none⟩ (I4 1)).heap.size=w.heap.size:=by simp [World.setCell]
  have hI:=Hp.new (w.setCell ⟨b,9,none⟩ (I4 1)) [I4 op,I4 d,I4 a,I4 G,I4 c] 43;rw [hsz] at hI
  have hC:Chg w ((((w.setCell ⟨b,9,none⟩ (I4 1)).alloc (qBr op d a G c)).alloc (.cells #[I4 2,I4 l,I4 0,I4 0,U8 0,U8 0,U8 0] 80)).alloc (.cells #[I4 0,I4 0,I4 0,I4 0,U8 0,U8 0,U8 0] 80)) (fun x=>x=b):=by
   refine (Chg.of_grown (S:=fun x=>x=b) (qAc w b 9 (I4 1)) rfl).trans (Chg.of_below (S:=fun _=>False) ?_) (fun _ _ e=>e.elim)
   go_grown
  refine ⟨_,rfl,(((h.st.set 9 _).alloc _).alloc _).alloc _,(((h.rg.far (Ne.symm aa)).alloc _).alloc _).alloc _,?_,?_,hC,by simp [hsz],((hI.alloc _).alloc _).cell (j:=4) rfl,(hC.cellE ak ai).trans T⟩
  ·have:=(Hp.new ((w.setCell ⟨b,9,none⟩ (I4 1)).alloc (qBr op d a G c)) (qAh 2 l 0 0 0 0 0) 80).alloc (.cells #[I4 0,I4 0,I4 0,I4 0,U8 0,U8 0,U8 0] 80);rw [World.size_alloc,hsz] at this;exact this
  ·have:=Hp.new (((w.setCell ⟨b,9,none⟩ (I4 1)).alloc (qBr op d a G c)).alloc (.cells #[I4 2,I4 l,I4 0,I4 0,U8 0,U8 0,U8 0] 80)) (qAh 0 0 0 0 0 0 0) 80;rw [World.size_alloc,World.size_alloc,hsz] at this;exact this
 have o:Y.cell? ⟨b,0,none⟩=some (.slice (some ⟨mb,mo,none⟩) nm mcap)/\Y.cell? ⟨b,5,none⟩=some (.slice (some ⟨rb,0,none⟩) 8 8)/\Y.cell? ⟨rb,1,none⟩=some (U8 j)/\Y.cell? ⟨rb,2,none⟩=some (U8 y)/\Y.cell? ⟨rb,3,none⟩=some (U8 z)/\Y.cell? ⟨mb,mo+j,none⟩=some (I4 g)/\Y.cell? ⟨w.heap.size,4,none⟩=some (I4 c):=by
  have r1:=E.out.cell (qDu (r:=1) (show 1<M.regs.length by rw [h.wr.1];omega));have r2:=E.out.cell (qDu (r:=2) (show 2<M.regs.length by rw [h.wr.1];omega));have r3:=E.out.cell (qDu (r:=3) (show 3<M.regs.length by rw [h.wr.1];omega));rw [show M.regs.getD 1 0=(j:Int) from H1.out] at r1;rw [show M.regs.getD 2 0=y from H2.out] at r2;rw [show M.regs.getD 3 0=z from H3.out] at r3;exact ⟨F.out.cell (by rw [List.getElem?_set_ne (by omega)];exact ah),F.out.cell (by rw [List.getElem?_set_ne (by omega)];exact h.c5),r1,r2,r3,U,x4⟩
 have X:b<Y.heap.size:=F.out.lt;have L:rb<Y.heap.size:=E.out.lt
 have a7:mb<Y.heap.size:=by omega
 have a8:w.heap.size<Y.heap.size:=by omega
 have J:b≠w.heap.size+1:=by omega
 have nr:rb≠w.heap.size+1:=by omega
 have aj:mb≠w.heap.size+1:=by omega
 have nw:w.heap.size≠w.heap.size+1:=by omega
 have B:(Y.setCells (w.heap.size+1) 2 [I4 g,I4 c,U8 y,U8 0]).cell? ⟨b,0,none⟩=some (.slice (some ⟨mb,mo,none⟩) nm mcap)/\(Y.setCells (w.heap.size+1) 2 [I4 g,I4 c,U8 y,U8 0]).cell? ⟨b,5,none⟩=some (.slice (some ⟨rb,0,none⟩) 8 8)/\(Y.setCells (w.heap.size+1) 2 [I4 g,I4 c,U8 y,U8 0]).cell? ⟨rb,1,none⟩=some (U8 j)/\(Y.setCells (w.heap.size+1) 2 [I4 g,I4 c,U8 y,U8 0]).cell? ⟨rb,2,none⟩=some (U8 y)/\(Y.setCells (w.heap.size+1) 2 [I4 g,I4 c,U8 y,U8 0]).cell? ⟨rb,3,none⟩=some (U8 z)/\(Y.setCells (w.heap.size+1) 2 [I4 g,I4 c,U8 y,U8 0]).cell? ⟨mb,mo+j,none⟩=some (I4 g)/\(Y.setCells (w.heap.size+1) 2 [I4 g,I4 c,U8 y,U8 0]).cell? ⟨w.heap.size,4,none⟩=some (I4 c):=⟨(qAm (qAd (w.heap.size+1) [I4 g,I4 c,U8 y,U8 0] Y 2) X J).trans o.1,(qAm (qAd (w.heap.size+1) [I4 g,I4 c,U8 y,U8 0] Y 2) X J).trans o.2.1,(qAm (qAd (w.heap.size+1) [I4 g,I4 c,U8 y,U8 0] Y 2) L nr).trans o.2.2.1,(qAm (qAd (w.heap.size+1) [I4 g,I4 c,U8 y,U8 0] Y 2) L nr).trans o.2.2.2.1,(qAm (qAd (w.heap.size+1) [I4 g,I4 c,U8 y,U8 0] Y 2) L nr).trans o.2.2.2.2.1,(qAm (qAd (w.heap.size+1) [I4 g,I4 c,U8 y,U8 0] Y 2) a7 aj).trans o.2.2.2.2.2.1,(qAm (qAd (w.heap.size+1) [I4 g,I4 c,U8 y,U8 0] Y 2) a8 nw).trans o.2.2.2.2.2.2⟩;have al:Hid (Hp (Y.setCells (w.heap.size+1) 2 [I4 g,I4 c,U8 y,U8 0]) (w.heap.size+1) 80 (qAh 2 l g c y 0 0)):=s.out.sets [I4 g,I4 c,U8 y,U8 0] 2;have ac:=qAa (ag.out.fars (show w.heap.size+1+1≠w.heap.size+1 by omega) [I4 g,I4 c,U8 y,U8 0] 2);have af:=qAa (F.out.fars J [I4 g,I4 c,U8 y,U8 0] 2);have ad:=qAa (ae.out.trans (Chg.of_grown (qAd (w.heap.size+1) [I4 g,I4 c,U8 y,U8 0] Y 2) (S:=fun x=>x=w.heap.size+1) rfl) (fun k R e=>by omega));have b2:=s.out.cell (j:=2) rfl;have b3:=s.out.cell (j:=3) rfl;have b4:=s.out.cell (j:=4) rfl;have b5:=s.out.cell (j:=5) rfl;have e2:=s.out.frozen 2;have e3:=s.out.frozen 3;have e4:=s.out.frozen 4;have e5:=s.out.frozen 5
 have ar:(j:Int)<nm:=by omega
 clear x4 U;go_enter Tryz.func37,Tryz.ntmps37;go_wp2;rw [<- HY.out]
 go_region_held3 (fun u=>u.cell? ⟨b,0,none⟩=some (.slice (some ⟨mb,mo,none⟩) nm mcap)/\u.cell? ⟨b,5,none⟩=some (.slice (some ⟨rb,0,none⟩) 8 8)/\u.cell? ⟨rb,1,none⟩=some (U8 j)/\u.cell? ⟨rb,2,none⟩=some (U8 y)/\u.cell? ⟨rb,3,none⟩=some (U8 z)/\u.cell? ⟨mb,mo+j,none⟩=some (I4 g)/\u.cell? ⟨w.heap.size,4,none⟩=some (I4 c))
  (first|with_reducible exact o|exact B|exact o)
  (fail)
 obtain ⟨V,HV,n,f,O,K,v5,v3,v4⟩:∃ V,Hid (V=((((Y.setCell ⟨w.heap.size+1,2,none⟩ (I4 g)).setCell ⟨w.heap.size+1,3,none⟩ (I4 c)).setCell ⟨w.heap.size+1,4,none⟩ (U8 y)).setCell ⟨w.heap.size+1,5,none⟩ (U8 0)))/\Hid (Hp V (w.heap.size+1) 80 (qAh 2 l g c y 0 0))/\Hid (Hp V (w.heap.size+1+1) 80 (qAh 0 0 0 0 0 0 0))/\Hid (Hp V b 73 (cs.set 9 (I4 1)))/\Hid (Chg w V (fun x=>x=b))/\V.cell? ⟨b,5,none⟩=some (.slice (some ⟨rb,0,none⟩) 8 8)/\V.cell? ⟨rb,3,none⟩=some (U8 z)/\V.cell? ⟨w.heap.size,4,none⟩=some (I4 c) :=
  ⟨_,rfl,al.out,ac.out,af.out,ad.out,B.2.1,B.2.2.2.2.1,B.2.2.2.2.2.2⟩
 rw [<- HV.out];have a0:=n.out.cell (j:=0) rfl;have a1:=n.out.cell (j:=1) rfl;have a2:=n.out.cell (j:=2) rfl;have a3:=n.out.cell (j:=3) rfl;have a4:=n.out.cell (j:=4) rfl;have a5:=n.out.cell (j:=5) rfl;have a6:=n.out.cell (j:=6) rfl;have aq:=n.out.frozen 5;obtain ⟨⟨o0,o1,o2,o3,o4,o5,o6⟩,q0,q1,q2,q3,q4,q5,q6⟩:=hq7 f.out;clear b2 b3 b4 b5 e2 e3 e4 e5 o B
 by_cases h2:c=2
 ·have Z:(c==2)=true:=by simpa using h2
  have D:c=2∨c=4:=.inl h2;clear h2;have ab:=qAa (n.out.set 5 (U8 z));have Q:=qAa (f.out.far (b':=w.heap.size+1) (i:=5) (v:=U8 z) (show w.heap.size+1+1≠w.heap.size+1 by omega));have N:=qAa (O.out.far (b':=w.heap.size+1) (i:=5) (v:=U8 z) J);have I:=qAa (K.out.trans (Chg.of_grown (qAc V (w.heap.size+1) 5 (U8 z)) (S:=fun x=>x=w.heap.size+1) rfl) (fun k R e=>by omega))
  have P:Hid (z=q):=by show _=_;rw [<- HQ.out,if_pos D]
  go_wp2;have A:=Q.out.sets (qAh 2 l g c y z 0) 0;rw [qBo (qAh 2 l g c y z 0) (qAh 0 0 0 0 0 0 0) rfl] at A;rw [<- P.out];refine qDx rfl rfl A.drew ⟨rfl,?_,(N.out.fars (show b≠w.heap.size+1+1 by omega) (qAh 2 l g c y z 0) 0).drew⟩;exact Chg.drew (I.out.trans (Chg.of_grown (qAd (w.heap.size+1+1) (qAh 2 l g c y z 0) _ 0) (S:=fun x=>x=w.heap.size+1+1) rfl) (fun k R e=>by omega))
 by_cases h4:c=4
 ·have Z:(c==2)=false:=by simpa using h2
  have am:(c==4)=true:=by simpa using h4
  have D:c=2∨c=4:=.inr h4;clear h2 h4;have ab:=qAa (n.out.set 5 (U8 z));have Q:=qAa (f.out.far (b':=w.heap.size+1) (i:=5) (v:=U8 z) (show w.heap.size+1+1≠w.heap.size+1 by omega));have N:=qAa (O.out.far (b':=w.heap.size+1) (i:=5) (v:=U8 z) J);have I:=qAa (K.out.trans (Chg.of_grown (qAc V (w.heap.size+1) 5 (U8 z)) (S:=fun x=>x=w.heap.size+1) rfl) (fun k R e=>by omega))
  have P:Hid (z=q):=by show _=_;rw [<- HQ.out,if_pos D]
  go_wp2;have A:=Q.out.sets (qAh 2 l g c y z 0) 0;rw [qBo (qAh 2 l g c y z 0) (qAh 0 0 0 0 0 0 0) rfl] at A;rw [<- P.out];refine qDx rfl rfl A.drew ⟨rfl,?_,(N.out.fars (show b≠w.heap.size+1+1 by omega) (qAh 2 l g c y z 0) 0).drew⟩;exact Chg.drew (I.out.trans (Chg.of_grown (qAd (w.heap.size+1+1) (qAh 2 l g c y z 0) _ 0) (S:=fun x=>x=w.heap.size+1+1) rfl) (fun k R e=>by omega))
 ·have Z:(c==2)=false:=by simpa using h2
  have am:(c==4)=false:=by simpa using h4
  have D:¬ (c=2∨c=4):=by omega
  clear h2 h4
  have P:Hid (0=q):=by show _=_;rw [<- HQ.out,if_neg D]
  go_wp2;have A:=f.out.sets (qAh 2 l g c y 0 0) 0;rw [qBo (qAh 2 l g c y 0 0) (qAh 0 0 0 0 0 0 0) rfl] at A;rw [<- P.out];refine qDx rfl rfl A.drew ⟨rfl,?_,(O.out.fars (show b≠w.heap.size+1+1 by omega) (qAh 2 l g c y 0 0) 0).drew⟩;exact Chg.drew (K.out.trans (Chg.of_grown (qAd (w.heap.size+1+1) (qAh 2 l g c y 0 0) V 0) (S:=fun x=>x=w.heap.size+1+1) rfl) (fun k R e=>by omega))
theorem qYq {w:World}{B c k:Nat}{v:Value}{ks:List Ak}(a:Bk w B c v ks)(b:w.heap.size<=k):¬ bkS c v k:=by
 rintro (e|e)
 ·have:=a.hp.lt;omega
 ·have:=(a.row.lt _ e).2;omega
theorem yJf {b rb tb:Nat}{cs:List Value}{M:Mc}(op d a K l:Int)(w:World)(h:Rdm w b rb tb cs M){y n:Int}(H1:Hid (qBj M.regs 1=y))(hy:0<=y/\y<=15){B c:Nat}{v:Value}{ks:List Ak}(ar:cs[4]? = some (.pointer (some ⟨c,0,none⟩)))(A:Bk w B c v ks)(hB:B<=w.heap.size)(av:ks.length<=100000)(HN:Hid (qFa (ks++[⟨3,y,1⟩]) y=n)) :
  Cl 37 #[.pointer (some ⟨b,0,none⟩),qAl op d a K 5,qEp 1 l 0 0 0 0 0] w fun e F=>e=.returned (qEp 1 l 0 0 0 0 n)/\Chg w F (fun x=>x=b∨x=rb∨bkS c v x)/\Hp F rb 26 (qBx (M.regs.set 0 n))/\Hp F b 73 (cs.set 7 (I4 ((M.pc+1:Nat):Int)))/\∃ v',Bk F B c v' (ks++[⟨3,y,1⟩])/\RowNew w v v':=by
 have b3:IntKind.i64.wrap y=y:=by rw [IntKind.wrap_i64];omega
 have ap:Hid (inB y=true):=decide_eq_true (by omega);have b5:=h.st.lt;have b6:=h.rg.lt;have a8:b≠rb:=qCw h.st h.rg (by decide)
 have ai:(M.pc:Int)<=100:=by have:=h.pc;omega
 have nb:¬ bkS c v b:=qBv A h.st (by decide) (by decide);have nr:¬ bkS c v rb:=qBv A h.rg (by decide) (by decide)
 obtain ⟨Y,HY,E,aw,az,a7,b4,x4⟩:∃ Y,Hid (Y=((w.alloc (qBr op d a K 5)).alloc (.cells #[I4 1,I4 l,I4 0,I4 0,U8 0,U8 0,U8 0] 80)).alloc (.cells #[I4 0,I4 0,I4 0,I4 0,U8 0,U8 0,U8 0] 80))/\Hid (Rdm Y b rb tb cs M)/\Hid (Hp Y (w.heap.size+1) 80 (qAh 1 l 0 0 0 0 0))/\Hid (Hp Y (w.heap.size+1+1) 80 (qAh 0 0 0 0 0 0 0))/\Bw w Y/\Y.heap.size=w.heap.size+3/\Y.cell? ⟨w.heap.size,4,none⟩=some (I4 5):=by
  have X:Bw w (((w.alloc (qBr op d a K 5)).alloc (.cells #[I4 1,I4 l,I4 0,I4 0,U8 0,U8 0,U8 0] 80)).alloc (.cells #[I4 0,I4 0,I4 0,I4 0,U8 0,U8 0,U8 0] 80)):=by go_grown
  have hI:=Hp.new w [I4 op,I4 d,I4 a,I4 K,I4 5] 43;refine ⟨_,rfl,h.below X,?_,?_,X,by simp,((hI.alloc _).alloc _).cell (j:=4) rfl⟩
  ·have:=(Hp.new (w.alloc (qBr op d a K 5)) (qAh 1 l 0 0 0 0 0) 80).alloc (.cells #[I4 0,I4 0,I4 0,I4 0,U8 0,U8 0,U8 0] 80);rw [World.size_alloc] at this;exact this
  ·have:=Hp.new ((w.alloc (qBr op d a K 5)).alloc (.cells #[I4 1,I4 l,I4 0,I4 0,U8 0,U8 0,U8 0] 80)) (qAh 0 0 0 0 0 0 0) 80;rw [World.size_alloc,World.size_alloc] at this;exact this
 have af:=A.below a7;have aj:Hid (M.regs.getD 1 0=y):=H1.out
 have z:Y.cell? ⟨b,4,none⟩=some (.pointer (some ⟨c,0,none⟩))/\Y.cell? ⟨b,5,none⟩=some (.slice (some ⟨rb,0,none⟩) 8 8)/\Y.cell? ⟨rb,1,none⟩=some (U8 y):=by
  have r1:=E.out.rg.cell (qDu (r:=1) (show 1<M.regs.length by rw [h.wr.1];omega));rw [aj.out] at r1;exact ⟨E.out.st.cell ar,E.out.st.cell h.c5,r1⟩
 go_enter Tryz.func37,Tryz.ntmps37;go_wp2;rw [<- HY.out]
 go_region_held3 (fun F=>F.cell? ⟨b,4,none⟩=some (.pointer (some ⟨c,0,none⟩))/\F.cell? ⟨b,5,none⟩=some (.slice (some ⟨rb,0,none⟩) 8 8)/\F.cell? ⟨rb,1,none⟩=some (U8 y))
  (first|with_reducible exact N|with_reducible exact z|exact z)
  (first
   | (go_at_call 62;go_must (refine (yWm y ap Y.drew af.drew (by rw [show Y.drew.heap.size=Y.heap.size from rfl];omega) av HN).mono ?_);rintro e D ⟨rfl,u,s,T,ah⟩;go_must (have g:Chg Y D (bkS c v):=T.undrew;have N:D.cell? ⟨b,4,none⟩=some (.pointer (some ⟨c,0,none⟩))/\D.cell? ⟨b,5,none⟩=some (.slice (some ⟨rb,0,none⟩) 8 8)/\D.cell? ⟨rb,1,none⟩=some (U8 y):=⟨(g.cellE (show b<Y.heap.size by omega) nb).trans z.1,(g.cellE (show b<Y.heap.size by omega) nb).trans z.2.1,(g.cellE (show rb<Y.heap.size by omega) nr).trans z.2.2⟩)))
 have G:=qAa (aw.out.chg g (qYq A (show w.heap.size<=w.heap.size+1 by omega)));have ae:=qAa (az.out.chg g (qYq A (show w.heap.size<=w.heap.size+1+1 by omega)));have aa:=qAa (E.out.st.chg g nb);have J:=qAa (E.out.rg.chg g nr);have b2:=g.size;have au:Chg w D (fun x=>x=b∨x=rb∨bkS c v x):=(Chg.of_below (S:=fun x=>x=b∨x=rb∨bkS c v x) a7).trans g (fun k _ e=>.inr (.inr e))
 have O:w.heap.size+1≠b:=by omega
 have P:w.heap.size+1≠rb:=by omega
 have Q:w.heap.size+1+1≠b:=by omega
 have L:w.heap.size+1+1≠rb:=by omega
 have ag:w.heap.size+1+1≠w.heap.size+1:=by omega
 have k5:∀ x,(x=w.heap.size+1∨x=rb∨x=b∨x=w.heap.size+1+1)->¬ bkS c u x->True:=fun _ _ _=>trivial
 clear k5;have ay:¬ bkS c u b:=qBv s aa.out (by decide) (by decide);have ak:¬ bkS c u rb:=qBv s J.out (by decide) (by decide);have b1:¬ bkS c u (w.heap.size+1):=qBv s G.out (by decide) (by decide);have aq:¬ bkS c u (w.heap.size+1+1):=qBv s ae.out (by decide) (by decide)
 have I:∀ (wx wy:World) (x:Nat),Bk wx B c u (ks++[⟨3,y,1⟩])->wx.grownBy wy (some x)->¬ bkS c u x->Bk wy B c u (ks++[⟨3,y,1⟩]):=fun wx wy x X hg hx=>X.chg (Chg.of_grown (S:=fun k=>k=x) hg rfl) (fun e=>hx (.inl e.symm)) (fun k R e=>hx (.inr (by rw [<- e];exact R)))
 obtain ⟨U,HU,ad,ao,al,am,ax,an⟩:∃ U,Hid (U=(D.setCell ⟨w.heap.size+1,6,none⟩ (U8 n)).setCell ⟨rb,0,none⟩ (U8 n))/\Hid (Hp U b 73 cs)/\Hid (Hp U rb 26 (qBx (M.regs.set 0 n)))/\Hid (Hp U (w.heap.size+1) 80 (qAh 1 l 0 0 0 0 n))/\Hid (Hp U (w.heap.size+1+1) 80 (qAh 0 0 0 0 0 0 0))/\Hid (Chg w U (fun x=>x=b∨x=rb∨bkS c v x))/\Hid (Bk U B c u (ks++[⟨3,y,1⟩])):=by
  have e1:=(J.out.far (b':=w.heap.size+1) (i:=6) (v:=U8 n) (Ne.symm P)).set 0 (U8 n);rw [qRu] at e1;refine ⟨_,rfl,(aa.out.far (Ne.symm O)).far a8,e1,(G.out.set 6 (U8 n)).far P,(ae.out.far ag).far L,?_,I _ _ _ (I _ _ _ s (qAc D (w.heap.size+1) 6 _) b1) (qAc _ rb 0 _) ak⟩;exact (au.trans (Chg.of_grown (qAc D (w.heap.size+1) 6 (U8 n)) (S:=fun x=>x=w.heap.size+1) rfl) (fun k R e=>by omega)).trans (Chg.of_grown (qAc _ rb 0 (U8 n)) (S:=fun x=>x=rb) rfl) (fun k R e=>.inr (.inl e))
 have ac:=qAa (ad.out.set 7 (I4 ((M.pc+1:Nat):Int)));have ab:=qAa (ao.out.far (b':=b) (i:=7) (v:=I4 ((M.pc+1:Nat):Int)) (Ne.symm a8));have o:=qAa (al.out.far (b':=b) (i:=7) (v:=I4 ((M.pc+1:Nat):Int)) O);have f:=qAa (am.out.far (b':=b) (i:=7) (v:=I4 ((M.pc+1:Nat):Int)) Q);have a9:=qAa (ax.out.trans (Chg.of_grown (qAc U b 7 (I4 ((M.pc+1:Nat):Int))) (S:=fun x=>x=b) rfl) (fun _ _ e=>.inl e));have Z:=qAa (I _ _ _ an.out (qAc U b 7 (I4 ((M.pc+1:Nat):Int))) ay);have w0:=G.out.cell (j:=6) rfl;have g0:=G.out.frozen 6;have w1:=J.out.cell (qDu (r:=0) (show 0<M.regs.length by rw [h.wr.1];omega));have g1:=J.out.frozen 0;have s5:=N.2.1;clear z N
 go_wp2_with (go_at_call 41;rw [<- HU.out];go_must (refine (qPi _ ad.out h.c7 ai).mono ?_);rintro e w6 ⟨rfl,rfl⟩;go_must (obtain ⟨V,HV⟩:∃ V,Hid (V=U.setCell ⟨b,7,none⟩ (I4 ((M.pc+1:Nat):Int))):=⟨_,rfl⟩;rw [<- HV.out] at ac o f ab a9 Z;obtain ⟨⟨a0,a1,a2,a3,a4,a5,a6⟩,-⟩:=hq7 o.out;obtain ⟨⟨o0,o1,o2,o3,o4,o5,o6⟩,q0,q1,q2,q3,q4,q5,q6⟩:=hq7 f.out;rw [<- HV.out]))
 have hO:=f.out.sets (qAh 1 l 0 0 0 0 n) 0;rw [qBo (qAh 1 l 0 0 0 0 n) (qAh 0 0 0 0 0 0 0) rfl] at hO;refine qDx rfl rfl hO ⟨rfl,?_,ab.out.fars (Ne.symm L) (qAh 1 l 0 0 0 0 n) 0,ac.out.fars (Ne.symm Q) (qAh 1 l 0 0 0 0 n) 0,u,I _ _ _ Z.out (qAd (w.heap.size+1+1) (qAh 1 l 0 0 0 0 n) V 0) aq,?_⟩
 ·exact a9.out.trans (Chg.of_grown (qAd (w.heap.size+1+1) (qAh 1 l 0 0 0 0 n) V 0) (S:=fun x=>x=w.heap.size+1+1) rfl) (fun k R e=>by omega)
 ·rcases ah with e|⟨k,e,R⟩
  ·exact .inl e
  ·exact .inr ⟨k,e,by have:Y.drew.heap.size=Y.heap.size:=rfl;omega⟩
theorem Rdm.drewE {w:World}{b rb tb:Nat}{cs:List Value}{M:Mc}(h:Rdm w b rb tb cs M):Rdm w.drew b rb tb cs M:=⟨h.st.drew,h.c5,h.c6,h.c7,h.rg.drew,h.tn.drew,h.wr,h.pc⟩
theorem yJx {b rb tb:Nat}{cs:List Value}{M:Mc}{cb co ccap:Nat}{xs:List In}(w:World)(h:Rdm w b rb tb cs M)(ad:cs[1]? = some (.slice (some ⟨cb,co,none⟩) xs.length ccap))(Q:SeesI w (.slice (some ⟨cb,co,none⟩) xs.length ccap) xs)(hp:M.pc<xs.length){m:Nat}(a9:cs[9]? = some (I4 m)){op d a o i:Int}(HI:Hid (nth xs M.pc=⟨op,d,a,o,i⟩))(hm:m=1) :
  Cl 19 #[.pointer (some ⟨b,0,none⟩)] w fun e s=>e=.returned (qEp 5 M.pc 0 0 0 0 0)/\Bw w s:=by
 subst hm;have ao:=h.st.lt
 have an:(M.pc:Int)<xs.length:=by omega
 have ai:(M.pc:Int)<=100:=by have:=h.pc;omega
 obtain ⟨J,aa,al,ak⟩:=qIl Q hp;rw [HI.out] at J;obtain ⟨k0,k1,P,k3,Z⟩:=J;simp only at k0 k1 P k3 Z;have HX:=qAa Q;clear Q;obtain ⟨V,HV,aj,a8,B,F⟩:∃ V,Hid (w.alloc (.cells #[I4 0,I4 0,I4 0,I4 0,U8 0,U8 0,U8 0] 80)=V)/\Hid (Rdm V b rb tb cs M)/\Hid (Hp V w.heap.size 80 (qAh 0 0 0 0 0 0 0))/\Bw w V/\V.heap.size=w.heap.size+1 :=
  ⟨_,rfl,h.below ((Below.refl _ _).alloc (Nat.le_refl _) _),Hp.new w _ _,(Below.refl _ _).alloc (Nat.le_refl _) _,by simp⟩
 have E:Hid (∀ n:World,Bw V n->n.cell? ⟨b,1,none⟩=some (.slice (some ⟨cb,co,none⟩) xs.length ccap)/\n.cell? ⟨b,7,none⟩=some (I4 M.pc)/\n.cell? ⟨cb,co+M.pc*5,none⟩=some (I4 op)/\n.cell? ⟨cb,co+M.pc*5+1,none⟩=some (I4 d)/\n.cell? ⟨cb,co+M.pc*5+2,none⟩=some (I4 a)/\n.cell? ⟨cb,co+M.pc*5+3,none⟩=some (I4 o)/\n.cell? ⟨cb,co+M.pc*5+4,none⟩=some (I4 i)):=fun n hb=>by
  have A:Bw w n:=B.trans (hb.mono B.size)
  have D:∀ {j:Nat} {u:Value},w.cell? ⟨cb,j,none⟩=some u->n.cell? ⟨cb,j,none⟩=some u:=fun {j u} e=>(A.cell (p:=⟨cb,j,none⟩) aa).trans e
  exact ⟨(h.below A).st.cell ad,(h.below A).st.cell h.c7,D k0,D k1,D P,D k3,D Z⟩
 clear k0 k1 P k3 Z;go_enter Tryz.func19,Tryz.ntmps19;go_wp2;rw [HV.out];refine wp_region_held_drew (S:=fun s=>s.cell? ⟨b,1,none⟩=some (.slice (some ⟨cb,co,none⟩) xs.length ccap)/\s.cell? ⟨b,7,none⟩=some (I4 M.pc)/\s.cell? ⟨cb,co+M.pc*5,none⟩=some (I4 op)/\s.cell? ⟨cb,co+M.pc*5+1,none⟩=some (I4 d)/\s.cell? ⟨cb,co+M.pc*5+2,none⟩=some (I4 a)/\s.cell? ⟨cb,co+M.pc*5+3,none⟩=some (I4 o)/\s.cell? ⟨cb,co+M.pc*5+4,none⟩=some (I4 i)) (by kernel_rfl) (E.out _ (qAn (Below.refl _ _))) (fun hHeld=>?_);refine qBb [0,1,2,3,4,5,6,7,8,9,10] ?_
 repeat (refine tkO (v:=?_) rfl ?_ ?_;rotate_left;(intro wy hSw;(try dsimp only at hSw);go_simp;(first|done|with_reducible rfl));try simp only [Act.put,p1q,p2q,p3q,p4q,p5q,p6q])
 refine qAs ?_;refine qAr 11 (by kernel_rfl) rfl (by rfl) (fun KK hK=>?_);go_simp;obtain ⟨Y,HY,z,af,k,ag⟩:∃ Y,Hid (V.alloc (.cells #[I4 0,I4 0,I4 0,I4 0,I4 0] 43)=Y)/\Bw V Y/\Hid (Hp Y w.heap.size 80 (qAh 0 0 0 0 0 0 0))/\Hid (Hp Y (w.heap.size+1) 43 [I4 0,I4 0,I4 0,I4 0,I4 0])/\Y.heap.size=w.heap.size+2 :=
  ⟨_,rfl,(Below.refl _ _).alloc (Nat.le_refl _) _,a8.out.alloc _,by have:=Hp.new V [I4 0,I4 0,I4 0,I4 0,I4 0] 43;rw [F] at this;exact this,by simp [F]⟩
 try rw [F]
 rw [HY.out];refine hK.out _ _ (E.out _ (qAn z)) (fun hHeld=>?_);clear hK KK
 try simp only [Act.put,p1q,p2q,p3q,p4q,p5q,p6q]
 obtain ⟨⟨a0,a1,a2,a3,a4⟩,q0,q1,q2,q3,q4⟩:=hq5 k.out;refine qAr 12 (by kernel_rfl) rfl (by rfl) (fun KK hK=>?_);go_simp
 obtain ⟨U,HU,ae,ah,ab,r,K⟩:∃ U,Hid (((((Y.setCell ⟨w.heap.size+1,0,none⟩ (I4 op)).setCell ⟨w.heap.size+1,1,none⟩ (I4 d)).setCell ⟨w.heap.size+1,2,none⟩ (I4 a)).setCell ⟨w.heap.size+1,3,none⟩ (I4 o)).setCell ⟨w.heap.size+1,4,none⟩ (I4 i)=U)/\Bw w U/\Hid (Rdm U b rb tb cs M)/\Hid (Hp U w.heap.size 80 (qAh 0 0 0 0 0 0 0))/\Hid (Hp U (w.heap.size+1) 43 [I4 op,I4 d,I4 a,I4 o,I4 i])/\U.heap.size=w.heap.size+2:=by
  have hg:=qAd (w.heap.size+1) [I4 op,I4 d,I4 a,I4 o,I4 i] Y 0;have A:Bw V (Y.setCells (w.heap.size+1) 0 [I4 op,I4 d,I4 a,I4 o,I4 i]):=z.trans (qAi hg (by omega) z.size);have L:Bw w (Y.setCells (w.heap.size+1) 0 [I4 op,I4 d,I4 a,I4 o,I4 i]):=B.trans (A.mono B.size);exact ⟨_,rfl,L,h.below L,af.out.grown hg (fun e=>by have:=Option.some.inj e;omega),k.out.sets [I4 op,I4 d,I4 a,I4 o,I4 i] 0,by simp [World.setCell,ag]⟩
 have a7:Bw V U:=by have R:=HU.out;rw [<- R];exact z.trans (qAi (qAd (w.heap.size+1) [I4 op,I4 d,I4 a,I4 o,I4 i] Y 0) (by omega) z.size)
 rw [HU.out];refine hK.out _ _ (E.out _ (qAn a7)) (fun hHeld=>?_);clear hK KK
 try simp only [Act.put,p1q,p2q,p3q,p4q,p5q,p6q]
 refine wpAnyH_done (by kernel_rfl) ?_ _;clear a0 a1 a2 a3 a4 q0 q1 q2 q3 q4 hHeld;obtain ⟨⟨i0,i1,i2,i3,i4⟩,-⟩:=hq5 r.out
 obtain ⟨T,HT,ac,N,f,y,g,am⟩:∃ T,Hid (U.alloc (.cells #[I4 1,I4 M.pc,I4 0,I4 0,U8 0,U8 0,U8 0] 80)=T)/\Bw w T/\Hid (Rdm T b rb tb cs M)/\Hid (Hp T w.heap.size 80 (qAh 0 0 0 0 0 0 0))/\Hid (Hp T (w.heap.size+1) 43 [I4 op,I4 d,I4 a,I4 o,I4 i])/\Hid (Hp T (w.heap.size+2) 80 (qAh 1 M.pc 0 0 0 0 0))/\T.heap.size=w.heap.size+3:=by
  have A:=ae.alloc (by omega) (.cells #[I4 1,I4 M.pc,I4 0,I4 0,U8 0,U8 0,U8 0] 80);have hN:=Hp.new U (qAh 1 M.pc 0 0 0 0 0) 80;rw [K] at hN;exact ⟨_,rfl,A,h.below A,ab.out.alloc _,r.out.alloc _,hN,by simp [K]⟩
 have u7:=ah.out.st.cell h.c7;have t7:=N.out.st.cell h.c7;have t9:=N.out.st.cell a9;obtain ⟨⟨o0,o1,o2,o3,o4,o5,o6⟩,p0,p1,p2,p3,p4,p5,p6⟩:=hq7 f.out;obtain ⟨⟨e0,e1,e2,e3,e4,e5,e6⟩,g0,g1,g2,g3,g4,g5,g6⟩:=hq7 g.out;obtain ⟨⟨j0,j1,j2,j3,j4⟩,-⟩:=hq5 y.out;obtain ⟨X,G,O⟩:∃ X,Hid (T.setCell ⟨w.heap.size+2,0,none⟩ (I4 5)=X)/\T.grownBy X (some (w.heap.size+2)):=⟨_,rfl,qAc T _ 0 _⟩
 have l:Hid (Hp X (w.heap.size+2) 80 (qAh 5 M.pc 0 0 0 0 0)):=by have R:=G.out;rw [<- R];exact g.out.set 0 (I4 5)
 have c:=qAa (f.out.grown O (show some w.heap.size≠some (w.heap.size+2) from fun e=>by have:=Option.some.inj e;omega))

 go_wp2_with (first
  | rw [HT.out]
  | (rw [G.out];obtain ⟨⟨a0,a1,a2,a3,a4,a5,a6⟩,-⟩:=hq7 l.out;  obtain ⟨⟨b0,b1,b2,b3,b4,b5,b6⟩,q0,q1,q2,q3,q4,q5,q6⟩:=hq7 c.out;  clear e0 e1 e2 e3 e4 e5 e6))
 have hO:=c.out.sets (qAh 5 M.pc 0 0 0 0 0) 0;rw [qBo (qAh 5 M.pc 0 0 0 0 0) (qAh 0 0 0 0 0 0 0) rfl] at hO;have hG:=qAd w.heap.size (qAh 5 M.pc 0 0 0 0 0) X 0;have I:Bw w X:=ac.trans (qAi O (by omega) (by omega))

 exact qDx rfl rfl hO.drew ⟨rfl,qAn (I.trans (qAi hG (Nat.le_refl _) I.size))⟩
theorem yHs {b rb tb:Nat}{cs:List Value}{M:Mc}{cb co ccap:Nat}{xs:List In}(w:World)(h:Rdm w b rb tb cs M)(an:cs[1]? = some (.slice (some ⟨cb,co,none⟩) xs.length ccap))(hx:SeesI w (.slice (some ⟨cb,co,none⟩) xs.length ccap) xs)(hp:M.pc<xs.length){m:Nat}(ak:cs[9]? = some (I4 m)){op d a z i:Int}(HI:Hid (nth xs M.pc=⟨op,d,a,z,i⟩))(hm:m=2)(ha:0<=a/\a<=7){n:Int}(hn:Hid (qBj M.regs a=n)) :
  Cl 19 #[.pointer (some ⟨b,0,none⟩)] w fun e l=>e=.returned (qEp 6 M.pc 0 0 0 0 n)/\Bw w l:=by
 subst hm;obtain ⟨q,rfl⟩:=Int.eq_ofNat_of_zero_le ha.1
 have hq:q<8:=by omega
 have be:(q:Int)<8:=by omega
 have aw:Hid (M.regs.getD q 0=n):=hn.out;have bd:=h.st.lt
 have bc:(M.pc:Int)<xs.length:=by omega
 have az:(M.pc:Int)<=100:=by have:=h.pc;omega
 obtain ⟨af,al,b9,b8⟩:=qIl hx hp;rw [HI.out] at af;obtain ⟨k0,k1,k2,k3,k4⟩:=af;simp only at k0 k1 k2 k3 k4;have HX:=qAa hx;clear hx;obtain ⟨V,HV,b7,aj,I,a7⟩:∃ V,Hid (w.alloc (.cells #[I4 0,I4 0,I4 0,I4 0,U8 0,U8 0,U8 0] 80)=V)/\Hid (Rdm V b rb tb cs M)/\Hid (Hp V w.heap.size 80 (qAh 0 0 0 0 0 0 0))/\Bw w V/\V.heap.size=w.heap.size+1 :=
  ⟨_,rfl,h.below ((Below.refl _ _).alloc (Nat.le_refl _) _),Hp.new w _ _,(Below.refl _ _).alloc (Nat.le_refl _) _,by simp⟩
 have Z:Hid (∀ y:World,Bw V y->y.cell? ⟨b,1,none⟩=some (.slice (some ⟨cb,co,none⟩) xs.length ccap)/\y.cell? ⟨b,7,none⟩=some (I4 M.pc)/\y.cell? ⟨cb,co+M.pc*5,none⟩=some (I4 op)/\y.cell? ⟨cb,co+M.pc*5+1,none⟩=some (I4 d)/\y.cell? ⟨cb,co+M.pc*5+2,none⟩=some (I4 q)/\y.cell? ⟨cb,co+M.pc*5+3,none⟩=some (I4 z)/\y.cell? ⟨cb,co+M.pc*5+4,none⟩=some (I4 i)):=fun y hb=>by
  have G:Bw w y:=I.trans (hb.mono I.size)
  have Q:∀ {j:Nat} {u:Value},w.cell? ⟨cb,j,none⟩=some u->y.cell? ⟨cb,j,none⟩=some u:=fun {j u} e=>(G.cell (p:=⟨cb,j,none⟩) al).trans e
  exact ⟨(h.below G).st.cell an,(h.below G).st.cell h.c7,Q k0,Q k1,Q k2,Q k3,Q k4⟩
 clear k0 k1 k2 k3 k4;go_enter Tryz.func19,Tryz.ntmps19;go_wp2;rw [HV.out];refine wp_region_held_drew (S:=fun l=>l.cell? ⟨b,1,none⟩=some (.slice (some ⟨cb,co,none⟩) xs.length ccap)/\l.cell? ⟨b,7,none⟩=some (I4 M.pc)/\l.cell? ⟨cb,co+M.pc*5,none⟩=some (I4 op)/\l.cell? ⟨cb,co+M.pc*5+1,none⟩=some (I4 d)/\l.cell? ⟨cb,co+M.pc*5+2,none⟩=some (I4 q)/\l.cell? ⟨cb,co+M.pc*5+3,none⟩=some (I4 z)/\l.cell? ⟨cb,co+M.pc*5+4,none⟩=some (I4 i)) (by kernel_rfl) (Z.out _ (qAn (Below.refl _ _))) (fun hHeld=>?_);refine qBb [0,1,2,3,4,5,6,7,8,9,10] ?_
 repeat (refine tkO (v:=?_) rfl ?_ ?_;rotate_left;(intro wy hSw;(try dsimp only at hSw);go_simp;(first|done|with_reducible rfl));try simp only [Act.put,p1q,p2q,p3q,p4q,p5q,p6q])
 refine qAs ?_;refine qAr 11 (by kernel_rfl) rfl (by rfl) (fun KK hK=>?_);go_simp;obtain ⟨Y,HY,F,au,k,av⟩:∃ Y,Hid (V.alloc (.cells #[I4 0,I4 0,I4 0,I4 0,I4 0] 43)=Y)/\Bw V Y/\Hid (Hp Y w.heap.size 80 (qAh 0 0 0 0 0 0 0))/\Hid (Hp Y (w.heap.size+1) 43 [I4 0,I4 0,I4 0,I4 0,I4 0])/\Y.heap.size=w.heap.size+2 :=
  ⟨_,rfl,(Below.refl _ _).alloc (Nat.le_refl _) _,aj.out.alloc _,by have:=Hp.new V [I4 0,I4 0,I4 0,I4 0,I4 0] 43;rw [a7] at this;exact this,by simp [a7]⟩
 try rw [a7]
 rw [HY.out];refine hK.out _ _ (Z.out _ (qAn F)) (fun hHeld=>?_);clear hK KK
 try simp only [Act.put,p1q,p2q,p3q,p4q,p5q,p6q]
 obtain ⟨⟨a0,a1,a2,a3,a4⟩,q0,q1,q2,q3,q4⟩:=hq5 k.out;refine qAr 12 (by kernel_rfl) rfl (by rfl) (fun KK hK=>?_);go_simp
 obtain ⟨U,HU,ap,ay,am,D,ag⟩:∃ U,Hid (((((Y.setCell ⟨w.heap.size+1,0,none⟩ (I4 op)).setCell ⟨w.heap.size+1,1,none⟩ (I4 d)).setCell ⟨w.heap.size+1,2,none⟩ (I4 q)).setCell ⟨w.heap.size+1,3,none⟩ (I4 z)).setCell ⟨w.heap.size+1,4,none⟩ (I4 i)=U)/\Bw w U/\Hid (Rdm U b rb tb cs M)/\Hid (Hp U w.heap.size 80 (qAh 0 0 0 0 0 0 0))/\Hid (Hp U (w.heap.size+1) 43 [I4 op,I4 d,I4 q,I4 z,I4 i])/\U.heap.size=w.heap.size+2:=by
  have hg:=qAd (w.heap.size+1) [I4 op,I4 d,I4 q,I4 z,I4 i] Y 0;have G:Bw V (Y.setCells (w.heap.size+1) 0 [I4 op,I4 d,I4 q,I4 z,I4 i]):=F.trans (qAi hg (by omega) F.size);have ah:Bw w (Y.setCells (w.heap.size+1) 0 [I4 op,I4 d,I4 q,I4 z,I4 i]):=I.trans (G.mono I.size);exact ⟨_,rfl,ah,h.below ah,au.out.grown hg (fun e=>by have:=Option.some.inj e;omega),k.out.sets [I4 op,I4 d,I4 q,I4 z,I4 i] 0,by simp [World.setCell,av]⟩
 have ai:Bw V U:=by have P:=HU.out;rw [<- P];exact F.trans (qAi (qAd (w.heap.size+1) [I4 op,I4 d,I4 q,I4 z,I4 i] Y 0) (by omega) F.size)
 rw [HU.out];refine hK.out _ _ (Z.out _ (qAn ai)) (fun hHeld=>?_);clear hK KK
 try simp only [Act.put,p1q,p2q,p3q,p4q,p5q,p6q]
 refine wpAnyH_done (by kernel_rfl) ?_ _;clear a0 a1 a2 a3 a4 q0 q1 q2 q3 q4 hHeld;obtain ⟨⟨i0,i1,i2,i3,i4⟩,-⟩:=hq5 D.out
 obtain ⟨T,HT,ad,E,f,A,g,ba⟩:∃ T,Hid (U.alloc (.cells #[I4 1,I4 M.pc,I4 0,I4 0,U8 0,U8 0,U8 0] 80)=T)/\Bw w T/\Hid (Rdm T b rb tb cs M)/\Hid (Hp T w.heap.size 80 (qAh 0 0 0 0 0 0 0))/\Hid (Hp T (w.heap.size+1) 43 [I4 op,I4 d,I4 q,I4 z,I4 i])/\Hid (Hp T (w.heap.size+2) 80 (qAh 1 M.pc 0 0 0 0 0))/\T.heap.size=w.heap.size+3:=by
  have G:=ap.alloc (by omega) (.cells #[I4 1,I4 M.pc,I4 0,I4 0,U8 0,U8 0,U8 0] 80);have hN:=Hp.new U (qAh 1 M.pc 0 0 0 0 0) 80;rw [ag] at hN;exact ⟨_,rfl,G,h.below G,am.out.alloc _,D.out.alloc _,hN,by simp [ag]⟩
 have u7:=ay.out.st.cell h.c7;have t7:=E.out.st.cell h.c7;have t9:=E.out.st.cell ak;obtain ⟨⟨o0,o1,o2,o3,o4,o5,o6⟩,p0,p1,p2,p3,p4,p5,p6⟩:=hq7 f.out;obtain ⟨⟨e0,e1,e2,e3,e4,e5,e6⟩,g0,g1,g2,g3,g4,g5,g6⟩:=hq7 g.out;obtain ⟨⟨j0,j1,j2,j3,j4⟩,-⟩:=hq5 A.out;obtain ⟨X,ab,o⟩:∃ X,Hid (T.setCell ⟨w.heap.size+2,0,none⟩ (I4 6)=X)/\T.grownBy X (some (w.heap.size+2)):=⟨_,rfl,qAc T _ 0 _⟩
 have L:Hid (Hp X (w.heap.size+2) 80 (qAh 6 M.pc 0 0 0 0 0)):=by have P:=ab.out;rw [<- P];exact g.out.set 0 (I4 6)
 have O:w.heap.size≠w.heap.size+2:=by omega
 have R:w.heap.size+1≠w.heap.size+2:=by omega
 have a8:b≠w.heap.size+2:=by omega
 have N:rb≠w.heap.size+2:=by have:=h.rg.lt;omega
 have ao:=qAa (f.out.grown o (show some w.heap.size≠some (w.heap.size+2) from fun e=>O (Option.some.inj e)))
 have ar:b<X.heap.size:=by have:=o.size;omega
 have aq:rb<X.heap.size:=by have:=o.size;have:=h.rg.lt;omega
 have ax:w.heap.size+1<X.heap.size:=by have:=o.size;omega
 have B:X.cell? ⟨b,5,none⟩=some (.slice (some ⟨rb,0,none⟩) 8 8)/\X.cell? ⟨rb,q,none⟩=some (U8 n)/\X.cell? ⟨w.heap.size+1,2,none⟩=some (I4 q):=by
  have r1:=(show T.cell? ⟨b,5,none⟩=_/\Hp T rb 26 (qBx M.regs) from ⟨E.out.st.cell h.c5,E.out.rg⟩).2.cell (qDu (r:=q) (show q<M.regs.length by rw [h.wr.1];exact hq));rw [aw.out] at r1;exact ⟨(qAj o (by omega) a8).trans (show T.cell? ⟨b,5,none⟩=_/\Hp T rb 26 (qBx M.regs) from ⟨E.out.st.cell h.c5,E.out.rg⟩).1,(qAj o (by have:=h.rg.lt;omega) N).trans r1,(qAj o (by omega) R).trans (A.out.cell rfl)⟩
 have ac:(X.setCell ⟨w.heap.size+2,6,none⟩ (U8 n)).cell? ⟨b,5,none⟩=some (.slice (some ⟨rb,0,none⟩) 8 8)/\(X.setCell ⟨w.heap.size+2,6,none⟩ (U8 n)).cell? ⟨rb,q,none⟩=some (U8 n)/\(X.setCell ⟨w.heap.size+2,6,none⟩ (U8 n)).cell? ⟨w.heap.size+1,2,none⟩=some (I4 q) :=
  ⟨(qAj (qAc X (w.heap.size+2) 6 _) ar a8).trans B.1,(qAj (qAc X (w.heap.size+2) 6 _) aq N).trans B.2.1,(qAj (qAc X (w.heap.size+2) 6 _) ax R).trans B.2.2⟩
 have x6:=L.out.cell (j:=6) rfl;have y6:=L.out.frozen 6
 go_wp2_with (first
  | rw [HT.out]
  | (rw [ab.out];clear e0 e1 e2 e3 e4 e5 e6))
 go_region_held3 (fun l=>l.cell? ⟨b,5,none⟩=some (.slice (some ⟨rb,0,none⟩) 8 8)/\l.cell? ⟨rb,q,none⟩=some (U8 n)/\l.cell? ⟨w.heap.size+1,2,none⟩=some (I4 q))
  (first|with_reducible exact B|exact ac|exact B)
  (fail)
 obtain ⟨J,a9,aa⟩:∃ J,Hid (X.setCell ⟨w.heap.size+2,6,none⟩ (U8 n)=J)/\X.grownBy J (some (w.heap.size+2)):=⟨_,rfl,qAc X _ 6 _⟩
 have s:Hid (Hp J (w.heap.size+2) 80 (qAh 6 M.pc 0 0 0 0 n)):=by have P:=a9.out;rw [<- P];exact L.out.set 6 (U8 n)
 have c:=qAa (ao.out.grown aa (show some w.heap.size≠some (w.heap.size+2) from fun e=>O (Option.some.inj e)))
 try rw [a9.out]
 (have a0:=s.out.cell (j:=0) rfl)
 (have a1:=s.out.cell (j:=1) rfl)
 (have a2:=s.out.cell (j:=2) rfl)
 (have a3:=s.out.cell (j:=3) rfl)
 (have a4:=s.out.cell (j:=4) rfl)
 (have a5:=s.out.cell (j:=5) rfl)
 (have a6:=s.out.cell (j:=6) rfl)
 (have b0:=c.out.cell (j:=0) rfl)
 (have b1:=c.out.cell (j:=1) rfl)
 (have b2:=c.out.cell (j:=2) rfl)
 (have b3:=c.out.cell (j:=3) rfl)
 (have b4:=c.out.cell (j:=4) rfl)
 (have b5:=c.out.cell (j:=5) rfl)
 (have b6:=c.out.cell (j:=6) rfl)
 (have q0:=c.out.frozen 0)
 (have q1:=c.out.frozen 1)
 (have q2:=c.out.frozen 2)
 (have q3:=c.out.frozen 3)
 (have q4:=c.out.frozen 4)
 (have q5:=c.out.frozen 5)
 (have q6:=c.out.frozen 6)
 clear B ac x6 y6
 go_wp2_with (rw [a9.out])
 have hO:=c.out.sets (qAh 6 M.pc 0 0 0 0 n) 0;rw [qBo (qAh 6 M.pc 0 0 0 0 n) (qAh 0 0 0 0 0 0 0) rfl] at hO;have hG:=qAd w.heap.size (qAh 6 M.pc 0 0 0 0 n) J 0;have K:Bw w X:=ad.trans (qAi o (by omega) ad.size);have ae:Bw w J:=K.trans (qAi aa (by omega) K.size);exact qDx rfl rfl hO.drew.drew ⟨rfl,qAn (qAn (ae.trans (qAi hG (Nat.le_refl _) ae.size)))⟩
theorem yIt {b rb tb:Nat}{cs:List Value}{M:Mc}{cb co ccap:Nat}{xs:List In}(w:World)(h:Rdm w b rb tb cs M)(b9:cs[1]? = some (.slice (some ⟨cb,co,none⟩) xs.length ccap))(hx:SeesI w (.slice (some ⟨cb,co,none⟩) xs.length ccap) xs)(hp:M.pc<xs.length){m:Nat}(ah:cs[9]? = some (I4 m)){op d a D i:Int}(HI:Hid (nth xs M.pc=⟨op,d,a,D,i⟩))(hm:m=0)(bc:cs[8]? = some (I4 M.steps))(c0:M.steps<=1000)(ho:op=22)(ha:0<=a/\a<=7){n:Int}(hn:Hid (qBj M.regs a=n)) :
  Cl 19 #[.pointer (some ⟨b,0,none⟩)] w fun e o=>e=.returned (qEp 4 M.pc 0 0 0 0 n)/\Chg w o (fun k=>k=b)/\Hp o b 73 ((cs.set 8 (I4 ((M.steps+1:Nat):Int))).set 9 (I4 2)):=by
 subst hm
 have bs:(op==21)=false:=by simp;omega
 have c4:(op==22)=true:=by simp [ho]
 clear ho;obtain ⟨q,rfl⟩:=Int.eq_ofNat_of_zero_le ha.1
 have hq:q<8:=by omega
 have c3:(q:Int)<8:=by omega
 have bl:Hid (M.regs.getD q 0=n):=hn.out
 have br:(M.steps:Int)<=1000:=by omega
 have ba:b≠rb:=qCw h.st h.rg (by decide);have c2:=h.st.lt
 have c1:(M.pc:Int)<xs.length:=by omega
 have bq:(M.pc:Int)<=100:=by have:=h.pc;omega
 obtain ⟨ak,az,bw,bu⟩:=qIl hx hp;rw [HI.out] at ak;obtain ⟨k0,k1,k2,k3,k4⟩:=ak;simp only at k0 k1 k2 k3 k4;have HX:=qAa hx;clear hx;obtain ⟨V,HV,bt,av,Q,ab⟩:∃ V,Hid (w.alloc (.cells #[I4 0,I4 0,I4 0,I4 0,U8 0,U8 0,U8 0] 80)=V)/\Hid (Rdm V b rb tb cs M)/\Hid (Hp V w.heap.size 80 (qAh 0 0 0 0 0 0 0))/\Bw w V/\V.heap.size=w.heap.size+1 :=
  ⟨_,rfl,h.below ((Below.refl _ _).alloc (Nat.le_refl _) _),Hp.new w _ _,(Below.refl _ _).alloc (Nat.le_refl _) _,by simp⟩
 have aa:Hid (∀ B:World,Bw V B->B.cell? ⟨b,1,none⟩=some (.slice (some ⟨cb,co,none⟩) xs.length ccap)/\B.cell? ⟨b,7,none⟩=some (I4 M.pc)/\B.cell? ⟨cb,co+M.pc*5,none⟩=some (I4 op)/\B.cell? ⟨cb,co+M.pc*5+1,none⟩=some (I4 d)/\B.cell? ⟨cb,co+M.pc*5+2,none⟩=some (I4 q)/\B.cell? ⟨cb,co+M.pc*5+3,none⟩=some (I4 D)/\B.cell? ⟨cb,co+M.pc*5+4,none⟩=some (I4 i)):=fun B hb=>by
  have L:Bw w B:=Q.trans (hb.mono Q.size)
  have cc:∀ {j:Nat} {u:Value},w.cell? ⟨cb,j,none⟩=some u->B.cell? ⟨cb,j,none⟩=some u:=fun {j u} e=>(L.cell (p:=⟨cb,j,none⟩) az).trans e
  exact ⟨(h.below L).st.cell b9,(h.below L).st.cell h.c7,cc k0,cc k1,cc k2,cc k3,cc k4⟩
 clear k0 k1 k2 k3 k4;go_enter Tryz.func19,Tryz.ntmps19;go_wp2;rw [HV.out];refine wp_region_held_drew (S:=fun o=>o.cell? ⟨b,1,none⟩=some (.slice (some ⟨cb,co,none⟩) xs.length ccap)/\o.cell? ⟨b,7,none⟩=some (I4 M.pc)/\o.cell? ⟨cb,co+M.pc*5,none⟩=some (I4 op)/\o.cell? ⟨cb,co+M.pc*5+1,none⟩=some (I4 d)/\o.cell? ⟨cb,co+M.pc*5+2,none⟩=some (I4 q)/\o.cell? ⟨cb,co+M.pc*5+3,none⟩=some (I4 D)/\o.cell? ⟨cb,co+M.pc*5+4,none⟩=some (I4 i)) (by kernel_rfl) (aa.out _ (qAn (Below.refl _ _))) (fun hHeld=>?_);refine qBb [0,1,2,3,4,5,6,7,8,9,10] ?_
 repeat (refine tkO (v:=?_) rfl ?_ ?_;rotate_left;(intro wy hSw;(try dsimp only at hSw);go_simp;(first|done|with_reducible rfl));try simp only [Act.put,p1q,p2q,p3q,p4q,p5q,p6q])
 refine qAs ?_;refine qAr 11 (by kernel_rfl) rfl (by rfl) (fun KK hK=>?_);go_simp;obtain ⟨Y,HY,K,bi,l,bk⟩:∃ Y,Hid (V.alloc (.cells #[I4 0,I4 0,I4 0,I4 0,I4 0] 43)=Y)/\Bw V Y/\Hid (Hp Y w.heap.size 80 (qAh 0 0 0 0 0 0 0))/\Hid (Hp Y (w.heap.size+1) 43 [I4 0,I4 0,I4 0,I4 0,I4 0])/\Y.heap.size=w.heap.size+2 :=
  ⟨_,rfl,(Below.refl _ _).alloc (Nat.le_refl _) _,av.out.alloc _,by have:=Hp.new V [I4 0,I4 0,I4 0,I4 0,I4 0] 43;rw [ab] at this;exact this,by simp [ab]⟩
 try rw [ab]
 rw [HY.out];refine hK.out _ _ (aa.out _ (qAn K)) (fun hHeld=>?_);clear hK KK
 try simp only [Act.put,p1q,p2q,p3q,p4q,p5q,p6q]
 obtain ⟨⟨a0,a1,a2,a3,a4⟩,q0,q1,q2,q3,q4⟩:=hq5 l.out;refine qAr 12 (by kernel_rfl) rfl (by rfl) (fun KK hK=>?_);go_simp
 obtain ⟨U,HU,bf,bo,b7,G,al⟩:∃ U,Hid (((((Y.setCell ⟨w.heap.size+1,0,none⟩ (I4 op)).setCell ⟨w.heap.size+1,1,none⟩ (I4 d)).setCell ⟨w.heap.size+1,2,none⟩ (I4 q)).setCell ⟨w.heap.size+1,3,none⟩ (I4 D)).setCell ⟨w.heap.size+1,4,none⟩ (I4 i)=U)/\Bw w U/\Hid (Rdm U b rb tb cs M)/\Hid (Hp U w.heap.size 80 (qAh 0 0 0 0 0 0 0))/\Hid (Hp U (w.heap.size+1) 43 [I4 op,I4 d,I4 q,I4 D,I4 i])/\U.heap.size=w.heap.size+2:=by
  have hg:=qAd (w.heap.size+1) [I4 op,I4 d,I4 q,I4 D,I4 i] Y 0;have L:Bw V (Y.setCells (w.heap.size+1) 0 [I4 op,I4 d,I4 q,I4 D,I4 i]):=K.trans (qAi hg (by omega) K.size);have am:Bw w (Y.setCells (w.heap.size+1) 0 [I4 op,I4 d,I4 q,I4 D,I4 i]):=Q.trans (L.mono Q.size);exact ⟨_,rfl,am,h.below am,bi.out.grown hg (fun e=>by have:=Option.some.inj e;omega),l.out.sets [I4 op,I4 d,I4 q,I4 D,I4 i] 0,by simp [World.setCell,bk]⟩
 have au:Bw V U:=by have h1:=HU.out;rw [<- h1];exact K.trans (qAi (qAd (w.heap.size+1) [I4 op,I4 d,I4 q,I4 D,I4 i] Y 0) (by omega) K.size)
 rw [HU.out];refine hK.out _ _ (aa.out _ (qAn au)) (fun hHeld=>?_);clear hK KK
 try simp only [Act.put,p1q,p2q,p3q,p4q,p5q,p6q]
 refine wpAnyH_done (by kernel_rfl) ?_ _;clear a0 a1 a2 a3 a4 q0 q1 q2 q3 q4 hHeld;obtain ⟨⟨i0,i1,i2,i3,i4⟩,-⟩:=hq5 G.out
 obtain ⟨T,HT,b8,I,f,E,g,bz⟩:∃ T,Hid (U.alloc (.cells #[I4 1,I4 M.pc,I4 0,I4 0,U8 0,U8 0,U8 0] 80)=T)/\Bw w T/\Hid (Rdm T b rb tb cs M)/\Hid (Hp T w.heap.size 80 (qAh 0 0 0 0 0 0 0))/\Hid (Hp T (w.heap.size+1) 43 [I4 op,I4 d,I4 q,I4 D,I4 i])/\Hid (Hp T (w.heap.size+2) 80 (qAh 1 M.pc 0 0 0 0 0))/\T.heap.size=w.heap.size+3:=by
  have L:=bf.alloc (by omega) (.cells #[I4 1,I4 M.pc,I4 0,I4 0,U8 0,U8 0,U8 0] 80);have hN:=Hp.new U (qAh 1 M.pc 0 0 0 0 0) 80;rw [al] at hN;exact ⟨_,rfl,L,h.below L,b7.out.alloc _,G.out.alloc _,hN,by simp [al]⟩
 have u7:=bo.out.st.cell h.c7;have t7:=I.out.st.cell h.c7;have t9:=I.out.st.cell ah;obtain ⟨⟨o0,o1,o2,o3,o4,o5,o6⟩,p0,p1,p2,p3,p4,p5,p6⟩:=hq7 f.out;obtain ⟨⟨e0,e1,e2,e3,e4,e5,e6⟩,g0,g1,g2,g3,g4,g5,g6⟩:=hq7 g.out;obtain ⟨⟨j0,j1,j2,j3,j4⟩,-⟩:=hq5 E.out;have t8:=I.out.st.cell bc;have f8:=I.out.st.frozen 8
 have aw:(cs.set 8 (I4 ((M.steps:Int)+1)))[9]? = some (I4 (0:Nat)):=by rw [List.getElem?_set_ne (by omega)];exact ah
 obtain ⟨P,bj,N,aq⟩:∃ P,Hid (T.setCell ⟨b,8,none⟩ (I4 ((M.steps:Int)+1))=P)/\Hid (Hp P b 73 (cs.set 8 (I4 ((M.steps:Int)+1))))/\T.grownBy P (some b):=⟨_,rfl,I.out.st.set 8 _,qAc T b 8 _⟩;have v9:=N.out.cell aw;have f9:=N.out.frozen 9;obtain ⟨z,be,ad,ao⟩:∃ z,Hid (P.setCell ⟨b,9,none⟩ (I4 2)=z)/\Hid (Hp z b 73 ((cs.set 8 (I4 ((M.steps:Int)+1))).set 9 (I4 2)))/\P.grownBy z (some b):=⟨_,rfl,N.out.set 9 _,qAc P b 9 _⟩;have y:=qCd aq ao;have bp:=y.size
 have ae:some w.heap.size≠some b:=fun e=>by have:=Option.some.inj e;omega
 have ar:some (w.heap.size+1)≠some b:=fun e=>by have:=Option.some.inj e;omega
 have ap:some (w.heap.size+2)≠some b:=fun e=>by have:=Option.some.inj e;omega
 have bn:=qAa (f.out.grown y ae);have ax:=qAa (E.out.grown y ar);have af:=qAa (g.out.grown y ap);have aj:=qAa (I.out.rg.grown y (show some rb≠some b from fun e=>ba (Option.some.inj e).symm));have an:z.cell? ⟨b,5,none⟩=some (.slice (some ⟨rb,0,none⟩) 8 8):=ad.out.cell (by rw [List.getElem?_set_ne (by omega),List.getElem?_set_ne (by omega)];exact h.c5);have z0:=af.out.cell (j:=0) rfl;have bx:=af.out.frozen 0;obtain ⟨X,ag,s⟩:∃ X,Hid (z.setCell ⟨w.heap.size+2,0,none⟩ (I4 4)=X)/\z.grownBy X (some (w.heap.size+2)):=⟨_,rfl,qAc z _ 0 _⟩
 have Z:Hid (Hp X (w.heap.size+2) 80 (qAh 4 M.pc 0 0 0 0 0)):=by have h1:=ag.out;rw [<- h1];exact af.out.set 0 (I4 4)
 have a8:w.heap.size≠w.heap.size+2:=by omega
 have a9:w.heap.size+1≠w.heap.size+2:=by omega
 have J:b≠w.heap.size+2:=by omega
 have a7:rb≠w.heap.size+2:=by have:=h.rg.lt;omega
 have bd:=qAa (bn.out.grown s (show some w.heap.size≠some (w.heap.size+2) from fun e=>a8 (Option.some.inj e)))
 have bh:b<X.heap.size:=by have:=s.size;omega
 have bg:rb<X.heap.size:=by have:=s.size;have:=h.rg.lt;omega
 have bm:w.heap.size+1<X.heap.size:=by have:=s.size;omega
 have F:X.cell? ⟨b,5,none⟩=some (.slice (some ⟨rb,0,none⟩) 8 8)/\X.cell? ⟨rb,q,none⟩=some (U8 n)/\X.cell? ⟨w.heap.size+1,2,none⟩=some (I4 q):=by
  have r1:=(show z.cell? ⟨b,5,none⟩=_/\Hp z rb 26 (qBx M.regs) from ⟨an,aj.out⟩).2.cell (qDu (r:=q) (show q<M.regs.length by rw [h.wr.1];exact hq));rw [bl.out] at r1;exact ⟨(qAj s (by omega) J).trans (show z.cell? ⟨b,5,none⟩=_/\Hp z rb 26 (qBx M.regs) from ⟨an,aj.out⟩).1,(qAj s (by have:=h.rg.lt;omega) a7).trans r1,(qAj s (by omega) a9).trans (ax.out.cell rfl)⟩
 have ai:(X.setCell ⟨w.heap.size+2,6,none⟩ (U8 n)).cell? ⟨b,5,none⟩=some (.slice (some ⟨rb,0,none⟩) 8 8)/\(X.setCell ⟨w.heap.size+2,6,none⟩ (U8 n)).cell? ⟨rb,q,none⟩=some (U8 n)/\(X.setCell ⟨w.heap.size+2,6,none⟩ (U8 n)).cell? ⟨w.heap.size+1,2,none⟩=some (I4 q) :=
  ⟨(qAj (qAc X (w.heap.size+2) 6 _) bh J).trans F.1,(qAj (qAc X (w.heap.size+2) 6 _) bg a7).trans F.2.1,(qAj (qAc X (w.heap.size+2) 6 _) bm a9).trans F.2.2⟩
 have x6:=Z.out.cell (j:=6) rfl;have y6:=Z.out.frozen 6
 go_wp2_with (first
  | rw [HT.out]
  | rw [bj.out]
  | rw [be.out]
  | (rw [ag.out];clear e0 e1 e2 e3 e4 e5 e6))
 go_region_held3 (fun o=>o.cell? ⟨b,5,none⟩=some (.slice (some ⟨rb,0,none⟩) 8 8)/\o.cell? ⟨rb,q,none⟩=some (U8 n)/\o.cell? ⟨w.heap.size+1,2,none⟩=some (I4 q))
  (first|with_reducible exact F|exact ai|exact F)
  (fail)
 obtain ⟨R,ac,O⟩:∃ R,Hid (X.setCell ⟨w.heap.size+2,6,none⟩ (U8 n)=R)/\X.grownBy R (some (w.heap.size+2)):=⟨_,rfl,qAc X _ 6 _⟩
 have A:Hid (Hp R (w.heap.size+2) 80 (qAh 4 M.pc 0 0 0 0 n)):=by have h1:=ac.out;rw [<- h1];exact Z.out.set 6 (U8 n)
 have c:=qAa (bd.out.grown O (show some w.heap.size≠some (w.heap.size+2) from fun e=>a8 (Option.some.inj e)))
 try rw [ac.out]
 (have a0:=A.out.cell (j:=0) rfl)
 (have a1:=A.out.cell (j:=1) rfl)
 (have a2:=A.out.cell (j:=2) rfl)
 (have a3:=A.out.cell (j:=3) rfl)
 (have a4:=A.out.cell (j:=4) rfl)
 (have a5:=A.out.cell (j:=5) rfl)
 (have a6:=A.out.cell (j:=6) rfl)
 (have b0:=c.out.cell (j:=0) rfl)
 (have b1:=c.out.cell (j:=1) rfl)
 (have b2:=c.out.cell (j:=2) rfl)
 (have b3:=c.out.cell (j:=3) rfl)
 (have b4:=c.out.cell (j:=4) rfl)
 (have b5:=c.out.cell (j:=5) rfl)
 (have b6:=c.out.cell (j:=6) rfl)
 (have q0:=c.out.frozen 0)
 (have q1:=c.out.frozen 1)
 (have q2:=c.out.frozen 2)
 (have q3:=c.out.frozen 3)
 (have q4:=c.out.frozen 4)
 (have q5:=c.out.frozen 5)
 (have q6:=c.out.frozen 6)
 clear F ai x6 y6
 go_wp2_with (rw [ac.out])
 have hO:=c.out.sets (qAh 4 M.pc 0 0 0 0 n) 0;rw [qBo (qAh 4 M.pc 0 0 0 0 n) (qAh 0 0 0 0 0 0 0) rfl] at hO;have hG:=qAd w.heap.size (qAh 4 M.pc 0 0 0 0 n) R 0;have hC:Chg w R (fun k=>k=b):=(((Chg.of_below (S:=fun k=>k=b) b8).trans (Chg.of_grown (S:=fun k=>k=b) y rfl) (fun _ _ e=>e)).trans (Chg.of_grown (S:=fun k=>k=w.heap.size+2) s rfl) (fun k hk e=>by omega)).trans (Chg.of_grown (S:=fun k=>k=w.heap.size+2) O rfl) (fun k hk e=>by omega);have ay:=((ad.out.grown s (show some b≠some (w.heap.size+2) from fun e=>J (Option.some.inj e))).grown O (show some b≠some (w.heap.size+2) from fun e=>J (Option.some.inj e))).grown hG (show some b≠some w.heap.size from fun e=>ae e.symm);exact qDx rfl rfl hO.drew.drew ⟨rfl,(hC.trans (Chg.of_grown (S:=fun k=>k=w.heap.size) hG rfl) (fun k hk e=>by omega)).drewE.drewE,ay.drew.drew⟩
theorem qQr {b rb tb:Nat}{cs:List Value}{M:Mc}{cb co ccap:Nat}{xs:List In}(w:World)(h:Rdm w b rb tb cs M)(af:cs[1]? = some (.slice (some ⟨cb,co,none⟩) xs.length ccap))(hx:SeesI w (.slice (some ⟨cb,co,none⟩) xs.length ccap) xs)(hp:M.pc<xs.length){m:Nat}(ab:cs[9]? = some (I4 m)){op d a r i:Int}(HI:Hid (nth xs M.pc=⟨op,d,a,r,i⟩))(hm:m=0)(ah:cs[8]? = some (I4 M.steps))(bf:M.steps<=1000)(ho:op=21){ak apc am ao aq av an:Int}{S:Nat->Prop}{Q:World->Prop}(hS:∀ k,S k->k<w.heap.size)(HC:Hid (∀ U:World,Rdm U b rb tb (cs.set 8 (I4 ((M.steps:Int)+1))) { M with steps:=M.steps+1 }->Chg w U (fun k=>k=b)->w.heap.size<U.heap.size->Cl 37 #[.pointer (some ⟨b,0,none⟩),qAl op d a r i,qEp 1 M.pc 0 0 0 0 0] U fun e o=>e=.returned (qEp ak apc am ao aq av an)/\Chg U o S/\Q o)) :
  Cl 19 #[.pointer (some ⟨b,0,none⟩)] w fun e o=>e=.returned (qEp ak apc am ao aq av an)/\Chg w o (fun k=>k=b∨S k)/\∃ I,Q I/\I.grownBy o (some w.heap.size):=by
 subst hm
 have b9:(op==21)=true:=by simp [ho]
 clear ho
 have b8:(M.steps:Int)<=1000:=by omega
 have bh:=h.st.lt
 have bg:(M.pc:Int)<xs.length:=by omega
 have b7:(M.pc:Int)<=100:=by have:=h.pc;omega
 obtain ⟨P,ac,bd,bc⟩:=qIl hx hp;rw [HI.out] at P;obtain ⟨k0,k1,k2,k3,k4⟩:=P;simp only at k0 k1 k2 k3 k4;have HX:=qAa hx;clear hx;obtain ⟨V,HV,ba,aa,G,N⟩:∃ V,Hid (w.alloc (.cells #[I4 0,I4 0,I4 0,I4 0,U8 0,U8 0,U8 0] 80)=V)/\Hid (Rdm V b rb tb cs M)/\Hid (Hp V w.heap.size 80 (qAh 0 0 0 0 0 0 0))/\Bw w V/\V.heap.size=w.heap.size+1 :=
  ⟨_,rfl,h.below ((Below.refl _ _).alloc (Nat.le_refl _) _),Hp.new w _ _,(Below.refl _ _).alloc (Nat.le_refl _) _,by simp⟩
 have L:Hid (∀ s:World,Bw V s->s.cell? ⟨b,1,none⟩=some (.slice (some ⟨cb,co,none⟩) xs.length ccap)/\s.cell? ⟨b,7,none⟩=some (I4 M.pc)/\s.cell? ⟨cb,co+M.pc*5,none⟩=some (I4 op)/\s.cell? ⟨cb,co+M.pc*5+1,none⟩=some (I4 d)/\s.cell? ⟨cb,co+M.pc*5+2,none⟩=some (I4 a)/\s.cell? ⟨cb,co+M.pc*5+3,none⟩=some (I4 r)/\s.cell? ⟨cb,co+M.pc*5+4,none⟩=some (I4 i)):=fun s hb=>by
  have F:Bw w s:=G.trans (hb.mono G.size)
  have K:∀ {j:Nat} {u:Value},w.cell? ⟨cb,j,none⟩=some u->s.cell? ⟨cb,j,none⟩=some u:=fun {j u} e=>(F.cell (p:=⟨cb,j,none⟩) ac).trans e
  exact ⟨(h.below F).st.cell af,(h.below F).st.cell h.c7,K k0,K k1,K k2,K k3,K k4⟩
 clear k0 k1 k2 k3 k4;go_enter Tryz.func19,Tryz.ntmps19;go_wp2;rw [HV.out];refine wp_region_held_drew (S:=fun o=>o.cell? ⟨b,1,none⟩=some (.slice (some ⟨cb,co,none⟩) xs.length ccap)/\o.cell? ⟨b,7,none⟩=some (I4 M.pc)/\o.cell? ⟨cb,co+M.pc*5,none⟩=some (I4 op)/\o.cell? ⟨cb,co+M.pc*5+1,none⟩=some (I4 d)/\o.cell? ⟨cb,co+M.pc*5+2,none⟩=some (I4 a)/\o.cell? ⟨cb,co+M.pc*5+3,none⟩=some (I4 r)/\o.cell? ⟨cb,co+M.pc*5+4,none⟩=some (I4 i)) (by kernel_rfl) (L.out _ (qAn (Below.refl _ _))) (fun hHeld=>?_);refine qBb [0,1,2,3,4,5,6,7,8,9,10] ?_
 repeat (refine tkO (v:=?_) rfl ?_ ?_;rotate_left;(intro wy hSw;(try dsimp only at hSw);go_simp;(first|done|with_reducible rfl));try simp only [Act.put,p1q,p2q,p3q,p4q,p5q,p6q])
 refine qAs ?_;refine qAr 11 (by kernel_rfl) rfl (by rfl) (fun KK hK=>?_);go_simp;obtain ⟨Y,HY,E,au,l,ax⟩:∃ Y,Hid (V.alloc (.cells #[I4 0,I4 0,I4 0,I4 0,I4 0] 43)=Y)/\Bw V Y/\Hid (Hp Y w.heap.size 80 (qAh 0 0 0 0 0 0 0))/\Hid (Hp Y (w.heap.size+1) 43 [I4 0,I4 0,I4 0,I4 0,I4 0])/\Y.heap.size=w.heap.size+2 :=
  ⟨_,rfl,(Below.refl _ _).alloc (Nat.le_refl _) _,aa.out.alloc _,by have:=Hp.new V [I4 0,I4 0,I4 0,I4 0,I4 0] 43;rw [N] at this;exact this,by simp [N]⟩
 try rw [N]
 rw [HY.out];refine hK.out _ _ (L.out _ (qAn E)) (fun hHeld=>?_);clear hK KK
 try simp only [Act.put,p1q,p2q,p3q,p4q,p5q,p6q]
 obtain ⟨⟨a0,a1,a2,a3,a4⟩,q0,q1,q2,q3,q4⟩:=hq5 l.out;refine qAr 12 (by kernel_rfl) rfl (by rfl) (fun KK hK=>?_);go_simp
 obtain ⟨U,HU,ap,az,ad,B,R⟩:∃ U,Hid (((((Y.setCell ⟨w.heap.size+1,0,none⟩ (I4 op)).setCell ⟨w.heap.size+1,1,none⟩ (I4 d)).setCell ⟨w.heap.size+1,2,none⟩ (I4 a)).setCell ⟨w.heap.size+1,3,none⟩ (I4 r)).setCell ⟨w.heap.size+1,4,none⟩ (I4 i)=U)/\Bw w U/\Hid (Rdm U b rb tb cs M)/\Hid (Hp U w.heap.size 80 (qAh 0 0 0 0 0 0 0))/\Hid (Hp U (w.heap.size+1) 43 [I4 op,I4 d,I4 a,I4 r,I4 i])/\U.heap.size=w.heap.size+2:=by
  have hg:=qAd (w.heap.size+1) [I4 op,I4 d,I4 a,I4 r,I4 i] Y 0;have F:Bw V (Y.setCells (w.heap.size+1) 0 [I4 op,I4 d,I4 a,I4 r,I4 i]):=E.trans (qAi hg (by omega) E.size);have X:Bw w (Y.setCells (w.heap.size+1) 0 [I4 op,I4 d,I4 a,I4 r,I4 i]):=G.trans (F.mono G.size);exact ⟨_,rfl,X,h.below X,au.out.grown hg (fun e=>by have:=Option.some.inj e;omega),l.out.sets [I4 op,I4 d,I4 a,I4 r,I4 i] 0,by simp [World.setCell,ax]⟩
 have a9:Bw V U:=by have h1:=HU.out;rw [<- h1];exact E.trans (qAi (qAd (w.heap.size+1) [I4 op,I4 d,I4 a,I4 r,I4 i] Y 0) (by omega) E.size)
 rw [HU.out];refine hK.out _ _ (L.out _ (qAn a9)) (fun hHeld=>?_);clear hK KK
 try simp only [Act.put,p1q,p2q,p3q,p4q,p5q,p6q]
 refine wpAnyH_done (by kernel_rfl) ?_ _;clear a0 a1 a2 a3 a4 q0 q1 q2 q3 q4 hHeld;obtain ⟨⟨i0,i1,i2,i3,i4⟩,-⟩:=hq5 B.out
 obtain ⟨T,HT,ae,z,f,A,g,be⟩:∃ T,Hid (U.alloc (.cells #[I4 1,I4 M.pc,I4 0,I4 0,U8 0,U8 0,U8 0] 80)=T)/\Bw w T/\Hid (Rdm T b rb tb cs M)/\Hid (Hp T w.heap.size 80 (qAh 0 0 0 0 0 0 0))/\Hid (Hp T (w.heap.size+1) 43 [I4 op,I4 d,I4 a,I4 r,I4 i])/\Hid (Hp T (w.heap.size+2) 80 (qAh 1 M.pc 0 0 0 0 0))/\T.heap.size=w.heap.size+3:=by
  have F:=ap.alloc (by omega) (.cells #[I4 1,I4 M.pc,I4 0,I4 0,U8 0,U8 0,U8 0] 80);have hN:=Hp.new U (qAh 1 M.pc 0 0 0 0 0) 80;rw [R] at hN;exact ⟨_,rfl,F,h.below F,ad.out.alloc _,B.out.alloc _,hN,by simp [R]⟩
 have u7:=az.out.st.cell h.c7;have t7:=z.out.st.cell h.c7;have t9:=z.out.st.cell ab;obtain ⟨⟨o0,o1,o2,o3,o4,o5,o6⟩,p0,p1,p2,p3,p4,p5,p6⟩:=hq7 f.out;obtain ⟨⟨e0,e1,e2,e3,e4,e5,e6⟩,g0,g1,g2,g3,g4,g5,g6⟩:=hq7 g.out;obtain ⟨⟨j0,j1,j2,j3,j4⟩,-⟩:=hq5 A.out;have t8:=z.out.st.cell ah;have f8:=z.out.st.frozen 8;obtain ⟨J,aw,a5,n⟩:∃ J,Hid (T.setCell ⟨b,8,none⟩ (I4 ((M.steps:Int)+1))=J)/\Hid (Hp J b 73 (cs.set 8 (I4 ((M.steps:Int)+1))))/\T.grownBy J (some b):=⟨_,rfl,z.out.st.set 8 _,qAc T b 8 _⟩;have ag:b≠rb:=qCw h.st h.rg (by decide);have aj:b≠tb:=qCw h.st h.tn (by decide);have ar:Hid (Rdm J b rb tb (cs.set 8 (I4 ((M.steps:Int)+1))) { M with steps:=M.steps+1 }):=⟨a5.out,by rw [List.getElem?_set_ne (by omega)];exact h.c5,by rw [List.getElem?_set_ne (by omega)];exact h.c6,by rw [List.getElem?_set_ne (by omega)];exact h.c7,z.out.rg.grown n (show some rb≠some b from fun e=>ag (Option.some.inj e).symm),z.out.tn.grown n (show some tb≠some b from fun e=>aj (Option.some.inj e).symm),h.wr,h.pc⟩;have bi:=n.size
 have a7:some w.heap.size≠some b:=fun e=>by have:=Option.some.inj e;omega
 have a8:some (w.heap.size+1)≠some b:=fun e=>by have:=Option.some.inj e;omega
 have a6:some (w.heap.size+2)≠some b:=fun e=>by have:=Option.some.inj e;omega
 have ay:=qAa (f.out.grown n a7);have D:=qAa (A.out.grown n a8);have y:=qAa (g.out.grown n a6);have Z:=qAa ((Chg.of_below (S:=fun k=>k=b) ae).trans (Chg.of_grown (S:=fun k=>k=b) n rfl) (fun _ _ e=>e));obtain ⟨⟨y0,y1,y2,y3,y4⟩,-⟩:=hq5 D.out;obtain ⟨⟨z0,z1,z2,z3,z4,z5,z6⟩,-⟩:=hq7 y.out
 go_wp2_with (first
  | rw [HT.out]
  | rw [aw.out]
  | (go_at_call 37;go_must (refine (HC.out _ ar.out.drewE Z.out.drewE (show w.heap.size<J.heap.size by omega)).mono ?_);rintro e I ⟨rfl,O,ai⟩;go_must (have c:=qAa (ay.out.drew.chg O (fun e=>by have:=hS _ e;omega));obtain ⟨⟨b0,b1,b2,b3,b4,b5,b6⟩,q0,q1,q2,q3,q4,q5,q6⟩:=hq7 c.out;  skip)))
 have hO:=c.out.sets (qAh ak apc am ao aq av an) 0;rw [qBo (qAh ak apc am ao aq av an) (qAh 0 0 0 0 0 0 0) rfl] at hO;have hG:=qAd w.heap.size (qAh ak apc am ao aq av an) I 0;have al:Chg w I (fun k=>k=b∨S k):=(Z.out.drewE.mono (fun _ e=>.inl e)).trans (T:=S) O (fun _ _ e=>.inr e);exact qDx rfl rfl hO ⟨rfl,al.trans (Chg.of_grown hG (S:=fun k=>k=w.heap.size) rfl) (fun k hk e=>by omega),I,ai,hG⟩
section
variable {b sb:Nat} {vm:Value} {ev:Int×Int} {M:Mc}
theorem qQg {cb co ccap:Nat}{xs:List In}(w:World)(h:Ma w b sb vm (.slice (some ⟨cb,co,none⟩) xs.length ccap) ev M)(L:SeesI w (.slice (some ⟨cb,co,none⟩) xs.length ccap) xs)(hp:M.pc<xs.length)(hm:M.mode=0)(ar:M.steps<=1000)(Z:cb≠b){op d a o f:Int}(HI:Hid (nth xs M.pc=⟨op,d,a,o,f⟩))(ho:op=21)(hi:0<=f/\f<=6){ak apc am ao aq av an:Int}{Q:World->Prop}(HC:Hid (∀ U:World,Ma U b sb vm (.slice (some ⟨cb,co,none⟩) xs.length ccap) ev { M with steps:=M.steps+1 }->Chg w U (fun k=>k=b)->Cl 34 #[.pointer (some ⟨b,0,none⟩),I4 f] U fun e i=>e=.returned (qEp ak apc am ao aq av an)/\Chg U i (fun k=>k=b∨k=sb)/\Q i))(ah:sb<w.heap.size) :
  Cl 18 #[.pointer (some ⟨b,0,none⟩)] w fun e i=>e=.returned (qEp ak apc am ao aq av an)/\Chg w i (fun k=>k=b∨k=sb)/\∃ s,Q s/\s.grownBy i (some w.heap.size):=by
 have ag:(op==21)=true:=by simp [ho]
 clear ho
 have af:IntKind.i64.wrap f=f:=by rw [IntKind.wrap_i64];omega
 have ab:=h.hp.lt
 have au:(M.pc:Int)<xs.length:=by omega
 have ad:(M.pc:Int)<=100:=by have:=h.pc;omega
 have ae:(M.steps:Int)<=1000:=by omega
 obtain ⟨J,a6,al,ai⟩:=qIl L hp;rw [HI.out] at J;obtain ⟨k0,X,K,P,O⟩:=J;simp only at k0 X K P O;have HX:=qAa L;clear L;have c9:=h.last.2.2;have c8:=h.last.2.1;have f8:=h.hp.frozen 78;rw [hm] at c9
 have aj:w.heap.size≠b:=by omega
 obtain ⟨V,HV,n,a5,F,B⟩:∃ V,Hid ((w.setCell ⟨b,78,none⟩ (I4 ((M.steps:Int)+1))).alloc (.cells #[I4 0,I4 0,I4 0,I4 0,U8 0,U8 0,U8 0] 80)=V)/\Hid (Ma V b sb vm (.slice (some ⟨cb,co,none⟩) xs.length ccap) ev { M with steps:=M.steps+1 })/\Hid (Hp V w.heap.size 80 (qAh 0 0 0 0 0 0 0))/\Hid (Chg w V (fun k=>k=b))/\V.heap.size=w.heap.size+1:=by
  have hsz:(w.setCell ⟨b,78,none⟩ (I4 ((M.steps:Int)+1))).heap.size=w.heap.size:=by simp [World.setCell]
  have D:=(Below.refl (w.setCell ⟨b,78,none⟩ (I4 ((M.steps:Int)+1))).heap.size (w.setCell ⟨b,78,none⟩ (I4 ((M.steps:Int)+1)))).alloc (Nat.le_refl _) (.cells #[I4 0,I4 0,I4 0,I4 0,U8 0,U8 0,U8 0] 80);have hN:=Hp.new (w.setCell ⟨b,78,none⟩ (I4 ((M.steps:Int)+1))) (qAh 0 0 0 0 0 0 0) 80;rw [hsz] at hN;have hM:=h.setN (M.steps+1);rw [show ((M.steps+1:Nat):Int)=(M.steps:Int)+1 by omega] at hM;exact ⟨_,rfl,hM.below D (by rw [hsz];exact ab),hN,(Chg.of_grown (S:=fun k=>k=b) (qAc w b 78 _) rfl).trans (Chg.of_below (S:=fun _=>False) D) (fun _ _ e=>e.elim),by simp [hsz]⟩
 have A:Hid (∀ l:World,Bw V l->l.cell? ⟨b,3,none⟩=some (.slice (some ⟨cb,co,none⟩) xs.length ccap)/\l.cell? ⟨b,77,none⟩=some (I4 M.pc)/\l.cell? ⟨cb,co+M.pc*5,none⟩=some (I4 op)/\l.cell? ⟨cb,co+M.pc*5+1,none⟩=some (I4 d)/\l.cell? ⟨cb,co+M.pc*5+2,none⟩=some (I4 a)/\l.cell? ⟨cb,co+M.pc*5+3,none⟩=some (I4 o)/\l.cell? ⟨cb,co+M.pc*5+4,none⟩=some (I4 f)):=fun l N=>by
  have y:∀ {j:Nat} {u:Value},w.cell? ⟨cb,j,none⟩=some u->l.cell? ⟨cb,j,none⟩=some u:=fun {j u} e=>(N.cell (p:=⟨cb,j,none⟩) (show cb<V.heap.size by omega)).trans ((F.out.cellL a6 Z).trans e)
  exact ⟨(n.out.below N n.out.hp.lt).low.2.2.2.1,(n.out.below N n.out.hp.lt).last.1,y k0,y X,y K,y P,y O⟩
 clear k0 X K P O;go_enter Tryz.func18,Tryz.ntmps18;go_wp2;rw [HV.out];refine wp_region_held_drew (S:=fun i=>i.cell? ⟨b,3,none⟩=some (.slice (some ⟨cb,co,none⟩) xs.length ccap)/\i.cell? ⟨b,77,none⟩=some (I4 M.pc)/\i.cell? ⟨cb,co+M.pc*5,none⟩=some (I4 op)/\i.cell? ⟨cb,co+M.pc*5+1,none⟩=some (I4 d)/\i.cell? ⟨cb,co+M.pc*5+2,none⟩=some (I4 a)/\i.cell? ⟨cb,co+M.pc*5+3,none⟩=some (I4 o)/\i.cell? ⟨cb,co+M.pc*5+4,none⟩=some (I4 f)) (by kernel_rfl) (A.out _ (qAn (Below.refl _ _))) (fun hHeld=>?_);refine qBb [0,1,2,3,4,5,6,7,8,9] ?_
 repeat (refine tkO (v:=?_) rfl ?_ ?_;rotate_left;(intro wy hSw;(try dsimp only at hSw);go_simp;(first|done|with_reducible rfl));try simp only [Act.put,p1q,p2q,p3q,p4q,p5q,p6q])
 refine qAs ?_;refine qAr 10 (by kernel_rfl) rfl (by rfl) (fun KK hK=>?_);go_simp;obtain ⟨Y,HY,z,aa,g,aw⟩:∃ Y,Hid (V.alloc (.cells #[I4 0,I4 0,I4 0,I4 0,I4 0] 43)=Y)/\Bw V Y/\Hid (Hp Y w.heap.size 80 (qAh 0 0 0 0 0 0 0))/\Hid (Hp Y (w.heap.size+1) 43 [I4 0,I4 0,I4 0,I4 0,I4 0])/\Y.heap.size=w.heap.size+2 :=
  ⟨_,rfl,(Below.refl _ _).alloc (Nat.le_refl _) _,a5.out.alloc _,by have:=Hp.new V [I4 0,I4 0,I4 0,I4 0,I4 0] 43;rw [B] at this;exact this,by simp [B]⟩
 try rw [B]
 rw [HY.out];refine hK.out _ _ (A.out _ (qAn z)) (fun hHeld=>?_);clear hK KK
 try simp only [Act.put,p1q,p2q,p3q,p4q,p5q,p6q]
 obtain ⟨⟨a0,a1,a2,a3,a4⟩,q0,q1,q2,q3,q4⟩:=hq5 g.out;refine qAr 11 (by kernel_rfl) rfl (by rfl) (fun KK hK=>?_);go_simp
 obtain ⟨U,HU,G,ac,a7,r,ap⟩:∃ U,Hid (((((Y.setCell ⟨w.heap.size+1,0,none⟩ (I4 op)).setCell ⟨w.heap.size+1,1,none⟩ (I4 d)).setCell ⟨w.heap.size+1,2,none⟩ (I4 a)).setCell ⟨w.heap.size+1,3,none⟩ (I4 o)).setCell ⟨w.heap.size+1,4,none⟩ (I4 f)=U)/\Bw V U/\Hid (Ma U b sb vm (.slice (some ⟨cb,co,none⟩) xs.length ccap) ev { M with steps:=M.steps+1 })/\Hid (Hp U w.heap.size 80 (qAh 0 0 0 0 0 0 0))/\Hid (Hp U (w.heap.size+1) 43 [I4 op,I4 d,I4 a,I4 o,I4 f])/\w.heap.size+2<=U.heap.size:=by
  have R:=qAd (w.heap.size+1) [I4 op,I4 d,I4 a,I4 o,I4 f] Y 0;have D:Bw V (Y.setCells (w.heap.size+1) 0 [I4 op,I4 d,I4 a,I4 o,I4 f]):=z.trans (qAi R (by omega) z.size);exact ⟨_,rfl,D,n.out.below D n.out.hp.lt,aa.out.grown R (fun e=>by have:=Option.some.inj e;omega),g.out.sets [I4 op,I4 d,I4 a,I4 o,I4 f] 0,by have:=R.size;show w.heap.size+2<=(Y.setCells (w.heap.size+1) 0 [I4 op,I4 d,I4 a,I4 o,I4 f]).heap.size;omega⟩
 rw [HU.out];refine hK.out _ _ (A.out _ (qAn G)) (fun hHeld=>?_);clear hK KK
 try simp only [Act.put,p1q,p2q,p3q,p4q,p5q,p6q]
 refine wpAnyH_done (by kernel_rfl) ?_ _;clear a0 a1 a2 a3 a4 q0 q1 q2 q3 q4 hHeld;have I:=qAa (F.out.trans (Chg.of_below (S:=fun _=>False) G) (fun _ _ e=>e.elim));obtain ⟨⟨i0,i1,i2,i3,i4⟩,-⟩:=hq5 r.out
 go_wp2_with (go_at_call 34;go_must (refine (HC.out _ ac.out.drew I.out.drewE).mono ?_);rintro e s ⟨rfl,E,a8⟩;go_must (have c:=qAa (a7.out.drew.chg E (fun e=>by omega));obtain ⟨⟨o0,o1,o2,o3,o4,o5,o6⟩,q0,q1,q2,q3,q4,q5,q6⟩:=hq7 c.out;  skip))
 have hO:=c.out.sets (qAh ak apc am ao aq av an) 0;rw [qBo (qAh ak apc am ao aq av an) (qAh 0 0 0 0 0 0 0) rfl] at hO;have hG:=qAd w.heap.size (qAh ak apc am ao aq av an) s 0;have a9:Chg w s (fun k=>k=b∨k=sb):=(I.out.drewE.mono (fun _ e=>.inl e)).trans (T:=fun k=>k=b∨k=sb) E (fun _ _ e=>e);exact qDx rfl rfl hO ⟨rfl,a9.trans (Chg.of_grown hG (S:=fun k=>k=w.heap.size) rfl) (fun k hk e=>by omega),s,a8,hG⟩
end
theorem SeesI.chg {w g:World}{cb co ccap n:Nat}{xs:List In}{S:Nat->Prop}(h:SeesI w (.slice (some ⟨cb,co,none⟩) n ccap) xs)(l:Chg w g S)(D:¬ S cb):SeesI g (.slice (some ⟨cb,co,none⟩) n ccap) xs:=by
 obtain ⟨a,cap,e,E,B,G,F⟩:=h;refine ⟨a,cap,e,E,B,G,fun i=>?_⟩;obtain ⟨b,off,rfl,f,o⟩:=F i;injection e with d K L;injection d with d;injection d with d A;subst d;subst A;refine ⟨_,_,rfl,Nat.lt_of_lt_of_le f l.size,fun k J=>?_⟩
 have c:∀ {j:Nat} {u:Value},w.cell? ⟨cb,j,none⟩=some u->g.cell? ⟨cb,j,none⟩=some u:=fun {j u} e=>(l.cellL f D).trans e
 obtain ⟨s,I,z,y,r⟩:=o k J;exact ⟨c s,c I,c z,c y,c r⟩
theorem SeesI.drewI {w:World}{v:Value}{xs:List In}(h:SeesI w v xs):SeesI w.drew v xs:=h
section
variable {b sb:Nat} {vm:Value} {ev:Int×Int} {M:Mc}
theorem yHu {cb co ccap:Nat}{xs:List In}(w:World)(h:Ma w b sb vm (.slice (some ⟨cb,co,none⟩) xs.length ccap) ev M)(Z:SeesI w (.slice (some ⟨cb,co,none⟩) xs.length ccap) xs)(hp:M.pc<xs.length)(hm:M.mode=0)(ao:M.steps<=1000)(I:cb≠b){op d a r g:Int}(HI:Hid (nth xs M.pc=⟨op,d,a,r,g⟩))(ho:op=22)(ha:0<=a/\a<=7){n:Int}(hn:Hid (qBj M.regs a=n)) :
  Cl 18 #[.pointer (some ⟨b,0,none⟩)] w fun e l=>e=.returned (qEp 4 M.pc 0 0 0 0 n)/\Chg w l (fun k=>k=b)/\Ma l b sb vm (.slice (some ⟨cb,co,none⟩) xs.length ccap) ev { M with steps:=M.steps+1,mode:=2 }:=by
 have ai:(op==21)=false:=by simp;omega
 have ar:(op==22)=true:=by simp [ho]
 clear ho;have ae:=h.hp.lt
 have ap:(M.pc:Int)<xs.length:=by omega
 have af:(M.pc:Int)<=100:=by have:=h.pc;omega
 have ag:(M.steps:Int)<=1000:=by omega
 obtain ⟨R,a9,al,aj⟩:=qIl Z hp;rw [HI.out] at R;obtain ⟨k0,k1,X,k3,k4⟩:=R;simp only at k0 k1 X k3 k4;have HX:=qAa Z;clear Z;have c9:=h.last.2.2;have c8:=h.last.2.1;have f8:=h.hp.frozen 78;rw [hm] at c9
 have ak:w.heap.size≠b:=by omega
 obtain ⟨V,HV,o,a6,O,E⟩:∃ V,Hid ((w.setCell ⟨b,78,none⟩ (I4 ((M.steps:Int)+1))).alloc (.cells #[I4 0,I4 0,I4 0,I4 0,U8 0,U8 0,U8 0] 80)=V)/\Hid (Ma V b sb vm (.slice (some ⟨cb,co,none⟩) xs.length ccap) ev { M with steps:=M.steps+1 })/\Hid (Hp V w.heap.size 80 (qAh 0 0 0 0 0 0 0))/\Hid (Chg w V (fun k=>k=b))/\V.heap.size=w.heap.size+1:=by
  have hsz:(w.setCell ⟨b,78,none⟩ (I4 ((M.steps:Int)+1))).heap.size=w.heap.size:=by simp [World.setCell]
  have F:=(Below.refl (w.setCell ⟨b,78,none⟩ (I4 ((M.steps:Int)+1))).heap.size (w.setCell ⟨b,78,none⟩ (I4 ((M.steps:Int)+1)))).alloc (Nat.le_refl _) (.cells #[I4 0,I4 0,I4 0,I4 0,U8 0,U8 0,U8 0] 80);have hN:=Hp.new (w.setCell ⟨b,78,none⟩ (I4 ((M.steps:Int)+1))) (qAh 0 0 0 0 0 0 0) 80;rw [hsz] at hN;have hM:=h.setN (M.steps+1);rw [show ((M.steps+1:Nat):Int)=(M.steps:Int)+1 by omega] at hM;exact ⟨_,rfl,hM.below F (by rw [hsz];exact ae),hN,(Chg.of_grown (S:=fun k=>k=b) (qAc w b 78 _) rfl).trans (Chg.of_below (S:=fun _=>False) F) (fun _ _ e=>e.elim),by simp [hsz]⟩
 have D:Hid (∀ i:World,Bw V i->i.cell? ⟨b,3,none⟩=some (.slice (some ⟨cb,co,none⟩) xs.length ccap)/\i.cell? ⟨b,77,none⟩=some (I4 M.pc)/\i.cell? ⟨cb,co+M.pc*5,none⟩=some (I4 op)/\i.cell? ⟨cb,co+M.pc*5+1,none⟩=some (I4 d)/\i.cell? ⟨cb,co+M.pc*5+2,none⟩=some (I4 a)/\i.cell? ⟨cb,co+M.pc*5+3,none⟩=some (I4 r)/\i.cell? ⟨cb,co+M.pc*5+4,none⟩=some (I4 g)):=fun i hb=>by
  have A:∀ {j:Nat} {u:Value},w.cell? ⟨cb,j,none⟩=some u->i.cell? ⟨cb,j,none⟩=some u:=fun {j u} e=>(hb.cell (p:=⟨cb,j,none⟩) (show cb<V.heap.size by omega)).trans ((O.out.cellL a9 I).trans e)
  exact ⟨(o.out.below hb o.out.hp.lt).low.2.2.2.1,(o.out.below hb o.out.hp.lt).last.1,A k0,A k1,A X,A k3,A k4⟩
 clear k0 k1 X k3 k4;go_enter Tryz.func18,Tryz.ntmps18;go_wp2;rw [HV.out];refine wp_region_held_drew (S:=fun l=>l.cell? ⟨b,3,none⟩=some (.slice (some ⟨cb,co,none⟩) xs.length ccap)/\l.cell? ⟨b,77,none⟩=some (I4 M.pc)/\l.cell? ⟨cb,co+M.pc*5,none⟩=some (I4 op)/\l.cell? ⟨cb,co+M.pc*5+1,none⟩=some (I4 d)/\l.cell? ⟨cb,co+M.pc*5+2,none⟩=some (I4 a)/\l.cell? ⟨cb,co+M.pc*5+3,none⟩=some (I4 r)/\l.cell? ⟨cb,co+M.pc*5+4,none⟩=some (I4 g)) (by kernel_rfl) (D.out _ (qAn (Below.refl _ _))) (fun hHeld=>?_);refine qBb [0,1,2,3,4,5,6,7,8,9] ?_
 repeat (refine tkO (v:=?_) rfl ?_ ?_;rotate_left;(intro wy hSw;(try dsimp only at hSw);go_simp;(first|done|with_reducible rfl));try simp only [Act.put,p1q,p2q,p3q,p4q,p5q,p6q])
 refine qAs ?_;refine qAr 10 (by kernel_rfl) rfl (by rfl) (fun KK hK=>?_);go_simp;obtain ⟨Y,HY,B,ad,f,aq⟩:∃ Y,Hid (V.alloc (.cells #[I4 0,I4 0,I4 0,I4 0,I4 0] 43)=Y)/\Bw V Y/\Hid (Hp Y w.heap.size 80 (qAh 0 0 0 0 0 0 0))/\Hid (Hp Y (w.heap.size+1) 43 [I4 0,I4 0,I4 0,I4 0,I4 0])/\Y.heap.size=w.heap.size+2 :=
  ⟨_,rfl,(Below.refl _ _).alloc (Nat.le_refl _) _,a6.out.alloc _,by have:=Hp.new V [I4 0,I4 0,I4 0,I4 0,I4 0] 43;rw [E] at this;exact this,by simp [E]⟩
 try rw [E]
 rw [HY.out];refine hK.out _ _ (D.out _ (qAn B)) (fun hHeld=>?_);clear hK KK
 try simp only [Act.put,p1q,p2q,p3q,p4q,p5q,p6q]
 obtain ⟨⟨a0,a1,a2,a3,a4⟩,q0,q1,q2,q3,q4⟩:=hq5 f.out;refine qAr 11 (by kernel_rfl) rfl (by rfl) (fun KK hK=>?_);go_simp
 obtain ⟨U,HU,Q,J,aa,s,am⟩:∃ U,Hid (((((Y.setCell ⟨w.heap.size+1,0,none⟩ (I4 op)).setCell ⟨w.heap.size+1,1,none⟩ (I4 d)).setCell ⟨w.heap.size+1,2,none⟩ (I4 a)).setCell ⟨w.heap.size+1,3,none⟩ (I4 r)).setCell ⟨w.heap.size+1,4,none⟩ (I4 g)=U)/\Bw V U/\Hid (Ma U b sb vm (.slice (some ⟨cb,co,none⟩) xs.length ccap) ev { M with steps:=M.steps+1 })/\Hid (Hp U w.heap.size 80 (qAh 0 0 0 0 0 0 0))/\Hid (Hp U (w.heap.size+1) 43 [I4 op,I4 d,I4 a,I4 r,I4 g])/\w.heap.size+2<=U.heap.size:=by
  have hg:=qAd (w.heap.size+1) [I4 op,I4 d,I4 a,I4 r,I4 g] Y 0;have F:Bw V (Y.setCells (w.heap.size+1) 0 [I4 op,I4 d,I4 a,I4 r,I4 g]):=B.trans (qAi hg (by omega) B.size);exact ⟨_,rfl,F,o.out.below F o.out.hp.lt,ad.out.grown hg (fun e=>by have:=Option.some.inj e;omega),f.out.sets [I4 op,I4 d,I4 a,I4 r,I4 g] 0,by have:=hg.size;show w.heap.size+2<=(Y.setCells (w.heap.size+1) 0 [I4 op,I4 d,I4 a,I4 r,I4 g]).heap.size;omega⟩
 rw [HU.out];refine hK.out _ _ (D.out _ (qAn Q)) (fun hHeld=>?_);clear hK KK
 try simp only [Act.put,p1q,p2q,p3q,p4q,p5q,p6q]
 refine wpAnyH_done (by kernel_rfl) ?_ _;clear a0 a1 a2 a3 a4 q0 q1 q2 q3 q4 hHeld;have ac:=qAa (O.out.trans (Chg.of_below (S:=fun _=>False) Q) (fun _ _ e=>e.elim));obtain ⟨⟨i0,i1,i2,i3,i4⟩,-⟩:=hq5 s.out;obtain ⟨T,HT,G,N,P⟩:∃ T,Hid (U.setCell ⟨b,79,none⟩ (I4 2)=T)/\Hid (Ma T b sb vm (.slice (some ⟨cb,co,none⟩) xs.length ccap) ev { M with steps:=M.steps+1,mode:=2 })/\Hid (Chg w T (fun k=>k=b))/\U.grownBy T (some b) :=
  ⟨_,rfl,J.out.setM 2,ac.out.trans (Chg.of_grown (S:=fun k=>k=b) (qAc U b 79 _) rfl) (fun _ _ e=>e),qAc U b 79 _⟩
 have L:=qAa (aa.out.grown P (fun e=>by have:=Option.some.inj e;omega));have a7:=qAa (HX.out.chg N.out I);have HA:=qAa ha;have t9:=J.out.last.2.2;have u9:=J.out.hp.frozen 79;have an:=P.size
 go_wp2_with (first
  | rw [HT.out]
  | (go_at_call 33;go_must (refine (qOu T.drew G.out.drew a7.out.drewI hp (show 0<=(nth xs M.pc).a/\(nth xs M.pc).a<=7 by rw [HI.out];exact HA.out) (show Hid (qBj M.regs (nth xs M.pc).a=n) by show _=_;rw [HI.out];exact hn.out)).mono ?_);rintro e w5 ⟨rfl,a5⟩;go_must (have y:Bw T w5:=qAg a5;have z:=qAa (G.out.below y G.out.hp.lt);have ah:=y.size))
  | (go_at_call 32;go_must (refine (qJn 4 n w5 z.out).mono ?_);rintro e w6 ⟨rfl,K⟩;go_must (have c:=qAa ((L.out.below y L.out.lt).below K (by omega));have a8:=qAa (z.out.below K z.out.hp.lt);obtain ⟨⟨o0,o1,o2,o3,o4,o5,o6⟩,q0,q1,q2,q3,q4,q5,q6⟩:=hq7 c.out;  skip)))
 have hO:=c.out.sets (qAh 4 M.pc 0 0 0 0 n) 0;rw [qBo (qAh 4 M.pc 0 0 0 0 n) (qAh 0 0 0 0 0 0 0) rfl] at hO;have hG:=qAd w.heap.size (qAh 4 M.pc 0 0 0 0 n) w6 0;have ab:Chg w w6 (fun k=>k=b):=(N.out.trans (Chg.of_below (S:=fun _=>False) y) (fun _ _ e=>e.elim)).trans (Chg.of_below (S:=fun _=>False) K) (fun _ _ e=>e.elim);exact qDx rfl rfl hO ⟨rfl,ab.trans (Chg.of_grown hG (S:=fun k=>k=w.heap.size) rfl) (fun k hk e=>by omega),a8.out.grown hG (fun e=>by have:=Option.some.inj e;omega)⟩
end
section
variable {b sb:Nat} {vm:Value} {ev:Int×Int} {M:Mc}
theorem qSw {ev:Int×Int}{i:In}{M:Mc}(h:15<=i.op):qBy ev i M=(M.regs,M.ws):=by
 unfold qBy;rw [if_neg (by omega),if_neg (by omega),if_neg (by omega),if_neg (by omega),if_neg (by omega),if_neg (by omega)]
theorem qXf {ev:Int×Int}{i:In}(b:i.right=true)(c:i.op<=20)(M:Mc):qEv i { M with regs:=(qBy ev i M).1,ws:=(qBy ev i M).2 }=qEv i M/\qCg i { M with regs:=(qBy ev i M).1,ws:=(qBy ev i M).2 }=qCg i M:=by
 by_cases h:15<=i.op
 ·rw [qSw h];exact ⟨rfl,rfl⟩
 ·have a:i.leads=false:=by
   rcases qBf i with g|g|g|g
   ·rw [b] at g;cases g.1
   ·omega
   ·omega
   ·exact g.2.2.2.1
  refine ⟨?_,?_⟩
  ·unfold qEv;rw [a]
   rfl
  ·unfold qCg;rw [if_neg (by omega),if_neg (by omega)]
theorem yQh {cb co ccap:Nat}{xs:List In}(w:World)(h:Ma w b sb vm (.slice (some ⟨cb,co,none⟩) xs.length ccap) ev M)(hx:SeesI w (.slice (some ⟨cb,co,none⟩) xs.length ccap) xs)(hp:M.pc<xs.length)(hm:M.mode=0)(bt:M.steps<=1000)(ai:cb≠b){op d a g c:Int}(HI:Hid (nth xs M.pc=⟨op,d,a,g,c⟩))(hr:(⟨op,d,a,g,c⟩:In).right=true)(ho:op<=20)(hs:Sc w sb M.ws M.cs)(F:b≠sb)(al:W16 M.ws)(aq:(0<=ev.1/\ev.1<=18446744073709551615)/\0<=ev.2/\ev.2<=18446744073709551615)(hw:op=11∨op=12->0<=qCk ⟨op,d,a,g,c⟩ M.regs/\qCk ⟨op,d,a,g,c⟩ M.regs<=15)(ht:op=20->0<=M.turn M.pc/\M.turn M.pc<=255){p:Nat}(HP:Hid (qEv ⟨op,d,a,g,c⟩ M=(p:Int)))(b1:p<64){R ws:List Int}(HL:Hid (qBy ev ⟨op,d,a,g,c⟩ M=(R,ws))){tn:Int->Int}(ab:Hid (qCg ⟨op,d,a,g,c⟩ M=tn)) :
  Cl 18 #[.pointer (some ⟨b,0,none⟩)] w fun e r=>e=.returned (qEp 1 M.pc 0 0 0 0 0)/\Chg w r (fun k=>k=b∨k=sb)/\Ma r b sb vm (.slice (some ⟨cb,co,none⟩) xs.length ccap) ev { M with regs:=R,ws:=ws,turn:=tn,steps:=M.steps+1,pc:=p }/\Sc r sb ws M.cs:=by
 have h0:=qDm hr;simp only at h0
 have bl:(op==21)=false:=by simp;omega
 have bx:(op==22)=false:=by simp;omega
 have bn:=hs.lt;obtain ⟨N,K⟩:∃ N:Mc,Hid ({ M with steps:=M.steps+1 }=N):=⟨_,rfl⟩
 have aw:Hid (qEv ⟨op,d,a,g,c⟩ { N with regs:=R,ws:=ws }=(p:Int)):=by
  show _=_
  have:=(qXf (ev:=ev) hr ho N).1;rw [<- K.out] at this ⊢;rw [<- HP.out];have e:qBy ev ⟨op,d,a,g,c⟩ { M with steps:=M.steps+1 }=(R,ws):=HL.out;rw [e] at this;exact this
 have b9:Hid (qCg ⟨op,d,a,g,c⟩ { N with regs:=R,ws:=ws }=tn):=by
  show _=_
  have:=(qXf (ev:=ev) hr ho N).2;rw [<- K.out] at this ⊢;rw [<- ab.out];have e:qBy ev ⟨op,d,a,g,c⟩ { M with steps:=M.steps+1 }=(R,ws):=HL.out;rw [e] at this;exact this
 have b4:Hid (qBy ev ⟨op,d,a,g,c⟩ N=(R,ws)):=by show _=_;rw [<- K.out];exact HL.out
 have l:Hid (N.ws=M.ws/\N.cs=M.cs/\N.regs=M.regs/\N.turn=M.turn/\N.pc=M.pc/\N.mode=M.mode/\N.steps=M.steps+1):=by rw [<- K.out];exact ⟨rfl,rfl,rfl,rfl,rfl,rfl,rfl⟩
 clear HL ab HP;have be:=h.hp.lt
 have bu:(M.pc:Int)<xs.length:=by omega
 have bh:(M.pc:Int)<=100:=by have:=h.pc;omega
 have bi:(M.steps:Int)<=1000:=by omega
 obtain ⟨ag,ao,bp,bo⟩:=qIl hx hp;rw [HI.out] at ag;obtain ⟨k0,k1,k2,k3,k4⟩:=ag;simp only at k0 k1 k2 k3 k4;have HX:=qAa hx;clear hx;have c9:=h.last.2.2;have c8:=h.last.2.1;have f8:=h.hp.frozen 78;rw [hm] at c9
 have b6:w.heap.size≠b:=by omega
 obtain ⟨V,HV,z,aj,ad,Z⟩:∃ V,Hid ((w.setCell ⟨b,78,none⟩ (I4 ((M.steps:Int)+1))).alloc (.cells #[I4 0,I4 0,I4 0,I4 0,U8 0,U8 0,U8 0] 80)=V)/\Hid (Ma V b sb vm (.slice (some ⟨cb,co,none⟩) xs.length ccap) ev { M with steps:=M.steps+1 })/\Hid (Hp V w.heap.size 80 (qAh 0 0 0 0 0 0 0))/\Hid (Chg w V (fun k=>k=b))/\V.heap.size=w.heap.size+1:=by
  have hsz:(w.setCell ⟨b,78,none⟩ (I4 ((M.steps:Int)+1))).heap.size=w.heap.size:=by simp [World.setCell]
  have hB:=(Below.refl (w.setCell ⟨b,78,none⟩ (I4 ((M.steps:Int)+1))).heap.size (w.setCell ⟨b,78,none⟩ (I4 ((M.steps:Int)+1)))).alloc (Nat.le_refl _) (.cells #[I4 0,I4 0,I4 0,I4 0,U8 0,U8 0,U8 0] 80);have hN:=Hp.new (w.setCell ⟨b,78,none⟩ (I4 ((M.steps:Int)+1))) (qAh 0 0 0 0 0 0 0) 80;rw [hsz] at hN;have hM:=h.setN (M.steps+1);rw [show ((M.steps+1:Nat):Int)=(M.steps:Int)+1 by omega] at hM;exact ⟨_,rfl,hM.below hB (by rw [hsz];exact be),hN,(Chg.of_grown (S:=fun k=>k=b) (qAc w b 78 _) rfl).trans (Chg.of_below (S:=fun _=>False) hB) (fun _ _ e=>e.elim),by simp [hsz]⟩
 have P:Hid (∀ s:World,Bw V s->s.cell? ⟨b,3,none⟩=some (.slice (some ⟨cb,co,none⟩) xs.length ccap)/\s.cell? ⟨b,77,none⟩=some (I4 M.pc)/\s.cell? ⟨cb,co+M.pc*5,none⟩=some (I4 op)/\s.cell? ⟨cb,co+M.pc*5+1,none⟩=some (I4 d)/\s.cell? ⟨cb,co+M.pc*5+2,none⟩=some (I4 a)/\s.cell? ⟨cb,co+M.pc*5+3,none⟩=some (I4 g)/\s.cell? ⟨cb,co+M.pc*5+4,none⟩=some (I4 c)):=fun s hb=>by
  have L:∀ {j:Nat} {u:Value},w.cell? ⟨cb,j,none⟩=some u->s.cell? ⟨cb,j,none⟩=some u:=fun {j u} e=>(hb.cell (p:=⟨cb,j,none⟩) (show cb<V.heap.size by omega)).trans ((ad.out.cellL ao ai).trans e)
  exact ⟨(z.out.below hb z.out.hp.lt).low.2.2.2.1,(z.out.below hb z.out.hp.lt).last.1,L k0,L k1,L k2,L k3,L k4⟩
 clear k0 k1 k2 k3 k4;go_enter Tryz.func18,Tryz.ntmps18;go_wp2;rw [HV.out];refine wp_region_held_drew (S:=fun r=>r.cell? ⟨b,3,none⟩=some (.slice (some ⟨cb,co,none⟩) xs.length ccap)/\r.cell? ⟨b,77,none⟩=some (I4 M.pc)/\r.cell? ⟨cb,co+M.pc*5,none⟩=some (I4 op)/\r.cell? ⟨cb,co+M.pc*5+1,none⟩=some (I4 d)/\r.cell? ⟨cb,co+M.pc*5+2,none⟩=some (I4 a)/\r.cell? ⟨cb,co+M.pc*5+3,none⟩=some (I4 g)/\r.cell? ⟨cb,co+M.pc*5+4,none⟩=some (I4 c)) (by kernel_rfl) (P.out _ (qAn (Below.refl _ _))) (fun hHeld=>?_);refine qBb [0,1,2,3,4,5,6,7,8,9] ?_
 repeat (refine tkO (v:=?_) rfl ?_ ?_;rotate_left;(intro wy hSw;(try dsimp only at hSw);go_simp;(first|done|with_reducible rfl));try simp only [Act.put,p1q,p2q,p3q,p4q,p5q,p6q])
 refine qAs ?_;refine qAr 10 (by kernel_rfl) rfl (by rfl) (fun KK hK=>?_);go_simp;obtain ⟨Y,HY,O,bc,i,bw⟩:∃ Y,Hid (V.alloc (.cells #[I4 0,I4 0,I4 0,I4 0,I4 0] 43)=Y)/\Bw V Y/\Hid (Hp Y w.heap.size 80 (qAh 0 0 0 0 0 0 0))/\Hid (Hp Y (w.heap.size+1) 43 [I4 0,I4 0,I4 0,I4 0,I4 0])/\Y.heap.size=w.heap.size+2 :=
  ⟨_,rfl,(Below.refl _ _).alloc (Nat.le_refl _) _,aj.out.alloc _,by have:=Hp.new V [I4 0,I4 0,I4 0,I4 0,I4 0] 43;rw [Z] at this;exact this,by simp [Z]⟩
 try rw [Z]
 rw [HY.out];refine hK.out _ _ (P.out _ (qAn O)) (fun hHeld=>?_);clear hK KK
 try simp only [Act.put,p1q,p2q,p3q,p4q,p5q,p6q]
 obtain ⟨⟨a0,a1,a2,a3,a4⟩,q0,q1,q2,q3,q4⟩:=hq5 i.out;refine qAr 11 (by kernel_rfl) rfl (by rfl) (fun KK hK=>?_);go_simp
 obtain ⟨U,HU,ae,I,ac,n,br⟩:∃ U,Hid (((((Y.setCell ⟨w.heap.size+1,0,none⟩ (I4 op)).setCell ⟨w.heap.size+1,1,none⟩ (I4 d)).setCell ⟨w.heap.size+1,2,none⟩ (I4 a)).setCell ⟨w.heap.size+1,3,none⟩ (I4 g)).setCell ⟨w.heap.size+1,4,none⟩ (I4 c)=U)/\Bw V U/\Hid (Ma U b sb vm (.slice (some ⟨cb,co,none⟩) xs.length ccap) ev { M with steps:=M.steps+1 })/\Hid (Hp U w.heap.size 80 (qAh 0 0 0 0 0 0 0))/\Hid (Hp U (w.heap.size+1) 43 [I4 op,I4 d,I4 a,I4 g,I4 c])/\w.heap.size+2<=U.heap.size:=by
  have hg:=qAd (w.heap.size+1) [I4 op,I4 d,I4 a,I4 g,I4 c] Y 0;have hB:Bw V (Y.setCells (w.heap.size+1) 0 [I4 op,I4 d,I4 a,I4 g,I4 c]):=O.trans (qAi hg (by omega) O.size);exact ⟨_,rfl,hB,z.out.below hB z.out.hp.lt,bc.out.grown hg (fun e=>by have:=Option.some.inj e;omega),i.out.sets [I4 op,I4 d,I4 a,I4 g,I4 c] 0,by have:=hg.size;show w.heap.size+2<=(Y.setCells (w.heap.size+1) 0 [I4 op,I4 d,I4 a,I4 g,I4 c]).heap.size;omega⟩
 rw [HU.out];refine hK.out _ _ (P.out _ (qAn ae)) (fun hHeld=>?_);clear hK KK
 try simp only [Act.put,p1q,p2q,p3q,p4q,p5q,p6q]
 refine wpAnyH_done (by kernel_rfl) ?_ _;clear a0 a1 a2 a3 a4 q0 q1 q2 q3 q4 hHeld;have af:=qAa (ad.out.trans (Chg.of_below (S:=fun _=>False) ae) (fun _ _ e=>e.elim));obtain ⟨⟨i0,i1,i2,i3,i4⟩,-⟩:=hq5 n.out;have a9:=qAa (hs.chg af.out (fun e=>F e.symm));rw [K.out] at I;have ah:=I.out.hp.lt
 have bg:w.heap.size≠sb:=by omega
 have bj:w.heap.size+1≠b:=by omega
 have bz:w.heap.size+1≠sb:=by omega
 go_wp2_with (first
  | (go_at_call 32;go_must (refine (qJn 1 0 U.drew I.out.drew).mono ?_);rintro e w4 ⟨rfl,a7⟩;go_must (have A:Bw U w4:=qAg a7;have bm:=A.size;obtain ⟨T,HT,bd,ba,ax,aa,bs⟩:=yHt (I.out.below A ah) (ac.out.below A ac.out.lt) 1 N.pc 0 0 0 0 0;have az:=qAa ((a9.out.below A a9.out.lt).below aa (by have:=a9.out.lt;omega));have y:=qAa ((n.out.below A n.out.lt).below aa (by have:=n.out.lt;omega));have ay:=qAa ((af.out.trans (Chg.of_below (S:=fun _=>False) A) (fun _ _ e=>e.elim)).trans (Chg.of_below (S:=fun _=>False) aa) (fun _ _ e=>e.elim));obtain ⟨⟨j0,j1,j2,j3,j4⟩,-⟩:=hq5 y.out;  clear a7))
  | rw [HT.out]
  | (go_at_call 35;go_must (refine (xAx ⟨op,d,a,g,c⟩ hr ho T bd.out (by rw [l.out.1,l.out.2.1];exact az.out) F (by rw [l.out.1];exact al) aq (by rw [l.out.2.2.1];exact hw)).mono ?_);rintro e w5 ⟨rfl,B,Q,a8⟩;go_must (rw [b4.out] at Q a8;have bk:=B.size;have ak:=qAa Q;have bf:=qAa a8;have b3:=qAa (ba.out.chg B (fun e=>by omega));have ar:=qAa (ax.out.chg B (fun e=>by omega));have E:=qAa (y.out.chg B (fun e=>by omega));obtain ⟨⟨l0,l1,l2,l3,l4⟩,-⟩:=hq5 E.out;  clear Q a8))
  | (go_at_call 36;go_must (refine (yLx ⟨op,d,a,g,c⟩ hr ho w5 ak.out (fun e=>by show 0<=N.turn N.pc/\N.turn N.pc<=255;rw [l.out.2.2.2.1,l.out.2.2.2.2.1];exact ht e) aw).mono ?_);rintro e w6 ⟨rfl,D,G⟩;go_must (rw [b9.out] at G;have bq:=D.size;obtain ⟨X,am,an,J⟩:∃ X,Hid (w6.setCell ⟨b,77,none⟩ (I4 (p:Int))=X)/\Hid (Ma X b sb vm (.slice (some ⟨cb,co,none⟩) xs.length ccap) ev { N with regs:=R,ws:=ws,turn:=tn,pc:=p })/\w6.grownBy X (some b):=⟨_,rfl,G.setP b1,qAc w6 b 77 _⟩;have v7:=G.last.1;have g7:=G.hp.frozen 77;have o:=qAa ((b3.out.grown D (fun e=>by have:=Option.some.inj e;omega)).grown J (fun e=>by have:=Option.some.inj e;omega));have f:=qAa ((ar.out.grown D (fun e=>by have:=Option.some.inj e;omega)).grown J (fun e=>by have:=Option.some.inj e;omega));obtain ⟨⟨a0,a1,a2,a3,a4,a5,a6⟩,-⟩:=hq7 o.out;  obtain ⟨⟨o0,o1,o2,o3,o4,o5,o6⟩,q0,q1,q2,q3,q4,q5,q6⟩:=hq7 f.out;  skip))
  | rw [am.out])
 have hO:=f.out.sets (qAh 1 N.pc 0 0 0 0 0) 0;rw [qBo (qAh 1 N.pc 0 0 0 0 0) (qAh 0 0 0 0 0 0 0) rfl] at hO;have hG:=qAd w.heap.size (qAh 1 N.pc 0 0 0 0 0) X 0;have b7:Chg w w5 (fun k=>k=b∨k=sb):=(ay.out.mono (fun _ e=>.inl e)).trans (T:=fun k=>k=b∨k=sb) B (fun _ _ e=>e);have b8:Chg w w6 (fun k=>k=b∨k=sb):=b7.trans (Chg.of_grown (S:=fun k=>k=b) D rfl) (fun _ _ e=>.inl e);have av:Chg w X (fun k=>k=b∨k=sb):=b8.trans (Chg.of_grown (S:=fun k=>k=b) J rfl) (fun _ _ e=>.inl e);have b2:=bf.out.grown D (show some sb≠some b from fun e=>F (Option.some.inj e).symm);have au:=b2.grown J (show some sb≠some b from fun e=>F (Option.some.inj e).symm);have b5:=au.grown hG (show some sb≠some w.heap.size from fun e=>bg (Option.some.inj e).symm);have ap:=an.out.grown hG (show some b≠some w.heap.size from fun e=>b6 (Option.some.inj e).symm);refine qDx rfl rfl hO ⟨by rw [l.out.2.2.2.2.1],av.trans (Chg.of_grown hG (S:=fun k=>k=w.heap.size) rfl) (fun k hk e=>by omega),ap.same rfl rfl rfl l.out.2.2.2.2.2.2.symm l.out.2.2.2.2.2.1.symm,?_⟩;rw [<- l.out.2.1];exact b5
end
end Go.Proofs.YtmdhljoicnommaaGreat
