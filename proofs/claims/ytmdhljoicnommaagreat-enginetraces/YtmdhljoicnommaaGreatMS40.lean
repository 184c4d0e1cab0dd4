/-
  E11DStepG
  E11DStepL
-/
import Derived.Test.YtmdhljoicnommaaGreatMS39
import Derived.Test.YtmdhljoicnommaaGreatMS36
namespace Go.Proofs.YtmdhljoicnommaaGreat
set_option maxHeartbeats 12800000
open Go.RowKit
set_option linter.unusedVariables false
set_option linter.unusedSimpArgs false
set_option maxRecDepth 100000
theorem dstep_go {b rb tb:Nat}{cs:List Value}{M:Mc}{E N ac:Nat}{xs:List In}(w:World)(h:Rdm w b rb tb cs M)(c2:cs[1]? = some (.slice (some ⟨E,N,none⟩) xs.length ac))(hx:SeesI w (.slice (some ⟨E,N,none⟩) xs.length ac) xs)(hp:M.pc<xs.length){m:Nat}(c1:cs[9]? = some (I4 m)){op d a n l:Int}(HI:Hid (nth xs M.pc=⟨op,d,a,n,l⟩))(hm:m=0)(bx:cs[8]? = some (I4 M.steps))(cr:M.steps<=1000)(hr:(⟨op,d,a,n,l⟩:In).right=true)(ho:15<=op/\op<=20)(ht:op=20->0<=M.turn M.pc/\M.turn M.pc<=255){p:Nat}(HP:Hid (nextE ⟨op,d,a,n,l⟩ M=(p:Int)))(ck:p<64) :
  Cl 19 #[.pointer (some ⟨b,0,none⟩)] w fun e w'=>e=.returned (actV 1 M.pc 0 0 0 0 0)/\Chg w w' (fun k=>k=b∨k=tb)/\Hp w' b 73 ((cs.set 8 (I4 ((M.steps:Int)+1))).set 7 (I4 p))/\Hp w' tb 2 (tnC (turnE ⟨op,d,a,n,l⟩ M)):=by
 subst hm;have c3:=qBp hr;simp only at c3
 have cq:(op==21)=false:=by simp;omega
 have ci:(op==22)=false:=by simp;omega
 have ce:(M.steps:Int)<=1000:=by omega
 obtain ⟨f,HF⟩:∃ f,Hid (f=(⟨op,d,a,n,l⟩:In).far):=⟨_,rfl⟩;obtain ⟨on,HO⟩:∃ on,Hid (on=(⟨op,d,a,n,l⟩:In).on):=⟨_,rfl⟩
 have bc:(⟨op,d,a,n,l⟩:In).leads=true:=by
  rcases qAp (⟨op,d,a,n,l⟩:In) with g|g|g|g
  ·rw [hr] at g;cases g.1
  ·exact g.2.2.2.2.1
  ·exact g.2.2.2.1
  ·have:=g.2.1;simp only at this;omega
 have HL:Hid (true=(⟨op,d,a,n,l⟩:In).leads):=bc.symm
 have cf : -64<=f/\f<=64:=by
  rw [HF.out]
  rcases qAp (⟨op,d,a,n,l⟩:In) with g|g|g|g
  ·rw [hr] at g;cases g.1
  ·obtain ⟨_,_,_,g1,_,_,g2,g3⟩:=g;simp only at g1 g2 g3;omega
  ·obtain ⟨_,_,g1,_,_,g2,g3,_⟩:=g;simp only at g1 g2 g3;omega
  ·have:=g.2.1;simp only at this;omega
 obtain ⟨G,HG⟩:∃ G,Hid (goesE ⟨op,d,a,n,l⟩ M=G):=⟨_,rfl⟩
 have ag:Hid ((if G=true then (M.pc:Int)+f else (M.pc:Int)+1)=(p:Int)):=by
  show _=_
  have:=HP.out;unfold nextE at this;rw [bc,Bool.true_and,HG.out,<- HF.out] at this;exact this
 have cj:=h.st.lt
 have ch:(M.pc:Int)<xs.length:=by omega
 have bo:(M.pc:Int)<=100:=by have:=h.pc;omega
 obtain ⟨bf,br,cm,cg⟩:=codeL hx hp;rw [HI.out] at bf;obtain ⟨k0,k1,k2,k3,k4⟩:=bf;simp only at k0 k1 k2 k3 k4;have HX:=keepJ hx;clear hx;obtain ⟨V,HV,cl,c0,ao,ax⟩:∃ V,Hid (w.alloc (.cells #[I4 0,I4 0,I4 0,I4 0,U8 0,U8 0,U8 0] 80)=V)/\Hid (Rdm V b rb tb cs M)/\Hid (Hp V w.heap.size 80 (actC 0 0 0 0 0 0 0))/\Bw w V/\V.heap.size=w.heap.size+1 :=
  ⟨_,rfl,h.below ((Below.refl _ _).alloc (Nat.le_refl _) _),Hp.new w _ _,(Below.refl _ _).alloc (Nat.le_refl _) _,by simp⟩
 have ar:Hid (∀ Q:World,Bw V Q->Q.cell? ⟨b,1,none⟩=some (.slice (some ⟨E,N,none⟩) xs.length ac)/\Q.cell? ⟨b,7,none⟩=some (I4 M.pc)/\Q.cell? ⟨E,N+M.pc*5,none⟩=some (I4 op)/\Q.cell? ⟨E,N+M.pc*5+1,none⟩=some (I4 d)/\Q.cell? ⟨E,N+M.pc*5+2,none⟩=some (I4 a)/\Q.cell? ⟨E,N+M.pc*5+3,none⟩=some (I4 n)/\Q.cell? ⟨E,N+M.pc*5+4,none⟩=some (I4 l)):=fun Q hb=>by
  have hB:Bw w Q:=ao.trans (hb.mono ao.size)
  have cc:∀ {j:Nat} {u:Value},w.cell? ⟨E,j,none⟩=some u->Q.cell? ⟨E,j,none⟩=some u:=fun {j u} e=>(hB.cell (p:=⟨E,j,none⟩) br).trans e
  exact ⟨(h.below hB).st.cell c2,(h.below hB).st.cell h.c7,cc k0,cc k1,cc k2,cc k3,cc k4⟩
 clear k0 k1 k2 k3 k4;go_enter Tryz.func19,Tryz.ntmps19;go_wp2;rw [HV.out];refine wp_region_held_drew (S:=fun w'=>w'.cell? ⟨b,1,none⟩=some (.slice (some ⟨E,N,none⟩) xs.length ac)/\w'.cell? ⟨b,7,none⟩=some (I4 M.pc)/\w'.cell? ⟨E,N+M.pc*5,none⟩=some (I4 op)/\w'.cell? ⟨E,N+M.pc*5+1,none⟩=some (I4 d)/\w'.cell? ⟨E,N+M.pc*5+2,none⟩=some (I4 a)/\w'.cell? ⟨E,N+M.pc*5+3,none⟩=some (I4 n)/\w'.cell? ⟨E,N+M.pc*5+4,none⟩=some (I4 l)) (by kernel_rfl) (ar.out _ (qAj (Below.refl _ _))) (fun hHeld=>?_);refine tkGo [0,1,2,3,4,5,6,7,8,9,10] ?_
 repeat (refine tkO (v:=?_) rfl ?_ ?_;rotate_left;(intro wy hSw;(try dsimp only at hSw);go_simp;(first|done|with_reducible rfl));try simp only [Act.put,p1q,p2q,p3q,p4q,p5q,p6q])
 refine tkEnd ?_;refine runO 11 (by kernel_rfl) rfl (by rfl) (fun KK hK=>?_);go_simp;obtain ⟨Y,HY,af,bp,B,bw⟩:∃ Y,Hid (V.alloc (.cells #[I4 0,I4 0,I4 0,I4 0,I4 0] 43)=Y)/\Bw V Y/\Hid (Hp Y w.heap.size 80 (actC 0 0 0 0 0 0 0))/\Hid (Hp Y (w.heap.size+1) 43 [I4 0,I4 0,I4 0,I4 0,I4 0])/\Y.heap.size=w.heap.size+2 :=
  ⟨_,rfl,(Below.refl _ _).alloc (Nat.le_refl _) _,c0.out.alloc _,by have:=Hp.new V [I4 0,I4 0,I4 0,I4 0,I4 0] 43;rw [ax] at this;exact this,by simp [ax]⟩
 try rw [ax]
 rw [HY.out];refine hK.out _ _ (ar.out _ (qAj af)) (fun hHeld=>?_);clear hK KK
 try simp only [Act.put,p1q,p2q,p3q,p4q,p5q,p6q]
 obtain ⟨⟨a0,a1,a2,a3,a4⟩,q0,q1,q2,q3,q4⟩:=hq5 B.out;refine runO 12 (by kernel_rfl) rfl (by rfl) (fun KK hK=>?_);go_simp
 obtain ⟨U,HU,bs,bq,c4,ab,bh⟩:∃ U,Hid (((((Y.setCell ⟨w.heap.size+1,0,none⟩ (I4 op)).setCell ⟨w.heap.size+1,1,none⟩ (I4 d)).setCell ⟨w.heap.size+1,2,none⟩ (I4 a)).setCell ⟨w.heap.size+1,3,none⟩ (I4 n)).setCell ⟨w.heap.size+1,4,none⟩ (I4 l)=U)/\Bw w U/\Hid (Rdm U b rb tb cs M)/\Hid (Hp U w.heap.size 80 (actC 0 0 0 0 0 0 0))/\Hid (Hp U (w.heap.size+1) 43 [I4 op,I4 d,I4 a,I4 n,I4 l])/\U.heap.size=w.heap.size+2:=by
  have hg:=qAd (w.heap.size+1) [I4 op,I4 d,I4 a,I4 n,I4 l] Y 0;have hB:Bw V (Y.setCells (w.heap.size+1) 0 [I4 op,I4 d,I4 a,I4 n,I4 l]):=af.trans (qAg hg (by omega) af.size);have bg:Bw w (Y.setCells (w.heap.size+1) 0 [I4 op,I4 d,I4 a,I4 n,I4 l]):=ao.trans (hB.mono ao.size);exact ⟨_,rfl,bg,h.below bg,bp.out.grown hg (fun e=>by have:=Option.some.inj e;omega),B.out.sets [I4 op,I4 d,I4 a,I4 n,I4 l] 0,by simp [World.setCell,bw]⟩
 have bj:Bw V U:=by have h1:=HU.out;rw [<- h1];exact af.trans (qAg (qAd (w.heap.size+1) [I4 op,I4 d,I4 a,I4 n,I4 l] Y 0) (by omega) af.size)
 rw [HU.out];refine hK.out _ _ (ar.out _ (qAj bj)) (fun hHeld=>?_);clear hK KK
 try simp only [Act.put,p1q,p2q,p3q,p4q,p5q,p6q]
 refine wpAnyH_done (by kernel_rfl) ?_ _;clear a0 a1 a2 a3 a4 q0 q1 q2 q3 q4 hHeld;obtain ⟨⟨i0,i1,i2,i3,i4⟩,-⟩:=hq5 ab.out
 obtain ⟨T,HT,bu,Z,y,aa,z,cp⟩:∃ T,Hid (U.alloc (.cells #[I4 1,I4 M.pc,I4 0,I4 0,U8 0,U8 0,U8 0] 80)=T)/\Bw w T/\Hid (Rdm T b rb tb cs M)/\Hid (Hp T w.heap.size 80 (actC 0 0 0 0 0 0 0))/\Hid (Hp T (w.heap.size+1) 43 [I4 op,I4 d,I4 a,I4 n,I4 l])/\Hid (Hp T (w.heap.size+2) 80 (actC 1 M.pc 0 0 0 0 0))/\T.heap.size=w.heap.size+3:=by
  have hB:=bs.alloc (by omega) (.cells #[I4 1,I4 M.pc,I4 0,I4 0,U8 0,U8 0,U8 0] 80);have hN:=Hp.new U (actC 1 M.pc 0 0 0 0 0) 80;rw [bh] at hN;exact ⟨_,rfl,hB,h.below hB,c4.out.alloc _,ab.out.alloc _,hN,by simp [bh]⟩
 have u7:=bq.out.st.cell h.c7;have t7:=Z.out.st.cell h.c7;have t9:=Z.out.st.cell c1;obtain ⟨⟨o0,o1,o2,o3,o4,o5,o6⟩,p0,p1,p2,p3,p4,p5,p6⟩:=hq7 y.out;obtain ⟨⟨e0,e1,e2,e3,e4,e5,e6⟩,g0,g1,g2,g3,g4,g5,g6⟩:=hq7 z.out;obtain ⟨⟨j0,j1,j2,j3,j4⟩,-⟩:=hq5 aa.out;have t8:=Z.out.st.cell bx;have f8:=Z.out.st.frozen 8;obtain ⟨P,aq,bl,I⟩:∃ P,Hid (T.setCell ⟨b,8,none⟩ (I4 ((M.steps:Int)+1))=P)/\Hid (Hp P b 73 (cs.set 8 (I4 ((M.steps:Int)+1))))/\T.grownBy P (some b):=⟨_,rfl,Z.out.st.set 8 _,qAb T b 8 _⟩;have cd:b≠rb:=qBi h.st h.rg (by decide);have be:b≠tb:=qBi h.st h.tn (by decide);have bi:Hid (Rdm P b rb tb (cs.set 8 (I4 ((M.steps:Int)+1))) { M with steps:=M.steps+1 }):=⟨bl.out,by rw [List.getElem?_set_ne (by omega)];exact h.c5,by rw [List.getElem?_set_ne (by omega)];exact h.c6,by rw [List.getElem?_set_ne (by omega)];exact h.c7,Z.out.rg.grown I (show some rb≠some b from fun e=>cd (Option.some.inj e).symm),Z.out.tn.grown I (show some tb≠some b from fun e=>be (Option.some.inj e).symm),h.wr,h.pc⟩;have cn:=I.size
 have a8:some w.heap.size≠some b:=fun e=>by have:=Option.some.inj e;omega
 have bn:some (w.heap.size+1)≠some b:=fun e=>by have:=Option.some.inj e;omega
 have ai:some (w.heap.size+2)≠some b:=fun e=>by have:=Option.some.inj e;omega
 have ap:=keepJ (y.out.grown I a8);have J:=keepJ (aa.out.grown I bn);have D:=keepJ (z.out.grown I ai);have aw:=keepJ ((Chg.of_below (S:=fun k=>k=b) bu).trans (Chg.of_grown (S:=fun k=>k=b) I rfl) (fun _ _ e=>e));obtain ⟨⟨y0,y1,y2,y3,y4⟩,-⟩:=hq5 J.out;obtain ⟨⟨z0,z1,z2,z3,z4,z5,z6⟩,-⟩:=hq7 D.out;have ad:b≠tb:=be
 have ae:w.heap.size≠tb:=by have:=h.tn.lt;omega
 have b9:w.heap.size+1≠tb:=by have:=h.tn.lt;omega
 have b8:w.heap.size+2≠tb:=by have:=h.tn.lt;omega
 have az:(cs.set 8 (I4 ((M.steps:Int)+1)))[7]? = some (I4 M.pc):=by rw [List.getElem?_set_ne (by omega)];exact h.c7
 have bd:Hid (goesE ⟨op,d,a,n,l⟩ { M with steps:=M.steps+1 }=G):=HG.out
 have au:∀ {w3 K X:World},Bw P w3->w3.grownBy K (some tb)->K.grownBy X (some b)->Chg w X (fun k=>k=b∨k=tb):=fun {w3 K X} h1 h2 h3 =>
  (((aw.out.mono (fun _ e=>.inl e)).trans (Chg.of_below (S:=fun _=>False) h1) (fun _ _ e=>e.elim)).trans (Chg.of_grown (S:=fun k=>k=tb) h2 rfl) (fun _ _ e=>.inr e)).trans (Chg.of_grown (S:=fun k=>k=b) h3 rfl) (fun _ _ e=>.inl e)
 cases G with
 | true =>
  rw [if_pos rfl] at ag
  have ca:IntKind.i64.wrap ((M.pc:Int)+f)=p:=by rw [IntKind.wrap_i64];have:=ag.out;omega
  have bz:Hid ((M.pc:Int)+f=p):=ag.out
  go_wp2_with (first
   | rw [HT.out]
   | (go_at_call 38;(try rw [aq.out]);go_must (refine (qCa (i:=⟨op,d,a,n,l⟩) (show Hid _ from rfl) HF HL HO P.drew).mono ?_);rintro e w3 ⟨rfl,a9⟩;go_must (have r:Bw P w3:=qAf a9;have c9:=r.size;have a7:=keepJ (bi.out.below r);have ak:=keepJ (ap.out.below r ap.out.lt);have o:=keepJ (J.out.below r J.out.lt);have aj:=keepJ (D.out.below r D.out.lt);have bk:=keepJ (aw.out.trans (Chg.of_below (S:=fun _=>False) r) (fun _ _ e=>e.elim));obtain ⟨⟨l0,l1,l2,l3,l4⟩,-⟩:=hq5 o.out;  clear a9))
   | (go_at_call 39;go_must (refine (dgoes_all ⟨op,d,a,n,l⟩ hr ho w3 a7.out ht).mono ?_);rintro e K ⟨rfl,A,R⟩;go_must (have av:=bd.out;rw [av];have bt:=A.size;have F:=keepJ (a7.out.st.grown A (show some b≠some tb from fun e=>ad (Option.some.inj e)));have al:=keepJ (ak.out.grown A (show some w.heap.size≠some tb from fun e=>ae (Option.some.inj e)));have ah:=keepJ (aj.out.grown A (show some (w.heap.size+2)≠some tb from fun e=>b8 (Option.some.inj e)));have bm:=keepJ (o.out.grown A (show some (w.heap.size+1)≠some tb from fun e=>b9 (Option.some.inj e)));have L:Hp K tb 2 (tnC (turnE ⟨op,d,a,n,l⟩ M)):=R;have ay:=keepJ L;(have m7:=F.out.cell az);(have c8:=F.out.frozen 7);obtain ⟨X,am,ba,O⟩:∃ X,Hid (K.setCell ⟨b,7,none⟩ (I4 (p:Int))=X)/\Hid (Hp X b 73 ((cs.set 8 (I4 ((M.steps:Int)+1))).set 7 (I4 (p:Int))))/\K.grownBy X (some b):=⟨_,rfl,F.out.set 7 _,qAb K b 7 _⟩;have c:=keepJ (al.out.grown O a8);have s:=keepJ (ah.out.grown O ai);obtain ⟨⟨a0,a1,a2,a3,a4,a5,a6⟩,-⟩:=hq7 s.out;obtain ⟨⟨b0,b1,b2,b3,b4,b5,b6⟩,q0,q1,q2,q3,q4,q5,q6⟩:=hq7 c.out;clear R L))
   | rw [bz.out]
   | rw [ca]
   | rw [am.out]
   | rw [aq.out])
  have hO:=c.out.sets (actC 1 M.pc 0 0 0 0 0) 0;rw [qAr (actC 1 M.pc 0 0 0 0 0) (actC 0 0 0 0 0 0 0) rfl] at hO;have hG:=qAd w.heap.size (actC 1 M.pc 0 0 0 0 0) X 0;have b7:=(ay.out.grown O (show some tb≠some b from fun e=>ad (Option.some.inj e).symm)).grown hG (show some tb≠some w.heap.size from fun e=>ae (Option.some.inj e).symm);exact qBv rfl rfl hO ⟨rfl,(au r A O).trans (Chg.of_grown (S:=fun k=>k=w.heap.size) hG rfl) (fun k hk e=>by omega),ba.out.grown hG (fun e=>a8 e.symm),b7⟩
 | false =>
  rw [if_neg (by simp)] at ag
  obtain rfl:p=M.pc+1:=by have:=ag.out;omega
  go_wp2_with (first
   | rw [HT.out]
   | (go_at_call 38;(try rw [aq.out]);go_must (refine (qCa (i:=⟨op,d,a,n,l⟩) (show Hid _ from rfl) HF HL HO P.drew).mono ?_);rintro e w3 ⟨rfl,a9⟩;go_must (have r:Bw P w3:=qAf a9;have c9:=r.size;have a7:=keepJ (bi.out.below r);have ak:=keepJ (ap.out.below r ap.out.lt);have o:=keepJ (J.out.below r J.out.lt);have aj:=keepJ (D.out.below r D.out.lt);have bk:=keepJ (aw.out.trans (Chg.of_below (S:=fun _=>False) r) (fun _ _ e=>e.elim));obtain ⟨⟨l0,l1,l2,l3,l4⟩,-⟩:=hq5 o.out;  clear a9))
   | (go_at_call 39;go_must (refine (dgoes_all ⟨op,d,a,n,l⟩ hr ho w3 a7.out ht).mono ?_);rintro e K ⟨rfl,A,R⟩;go_must (have av:=bd.out;rw [av];have bt:=A.size;have F:=keepJ (a7.out.st.grown A (show some b≠some tb from fun e=>ad (Option.some.inj e)));have al:=keepJ (ak.out.grown A (show some w.heap.size≠some tb from fun e=>ae (Option.some.inj e)));have ah:=keepJ (aj.out.grown A (show some (w.heap.size+2)≠some tb from fun e=>b8 (Option.some.inj e)));have bm:=keepJ (o.out.grown A (show some (w.heap.size+1)≠some tb from fun e=>b9 (Option.some.inj e)));have L:Hp K tb 2 (tnC (turnE ⟨op,d,a,n,l⟩ M)):=R;have ay:=keepJ L;(have m7:=F.out.cell az);(have c8:=F.out.frozen 7);obtain ⟨X,am,ba,O⟩:∃ X,Hid (K.setCell ⟨b,7,none⟩ (I4 ((M.pc+1:Nat):Int))=X)/\Hid (Hp X b 73 ((cs.set 8 (I4 ((M.steps:Int)+1))).set 7 (I4 ((M.pc+1:Nat):Int))))/\K.grownBy X (some b):=⟨_,rfl,F.out.set 7 _,qAb K b 7 _⟩;have c:=keepJ (al.out.grown O a8);have s:=keepJ (ah.out.grown O ai);obtain ⟨⟨a0,a1,a2,a3,a4,a5,a6⟩,-⟩:=hq7 s.out;obtain ⟨⟨b0,b1,b2,b3,b4,b5,b6⟩,q0,q1,q2,q3,q4,q5,q6⟩:=hq7 c.out;clear R L))
   | (go_at_call 41;go_must (refine (don_any K F.out az bo).mono ?_);rintro e w6 ⟨rfl,rfl⟩;rw [am.out])
   | rw [am.out]
   | rw [aq.out])
  have hO:=c.out.sets (actC 1 M.pc 0 0 0 0 0) 0;rw [qAr (actC 1 M.pc 0 0 0 0 0) (actC 0 0 0 0 0 0 0) rfl] at hO;have hG:=qAd w.heap.size (actC 1 M.pc 0 0 0 0 0) X 0;have b7:=(ay.out.grown O (show some tb≠some b from fun e=>ad (Option.some.inj e).symm)).grown hG (show some tb≠some w.heap.size from fun e=>ae (Option.some.inj e).symm);exact qBv rfl rfl hO ⟨rfl,(au r A O).trans (Chg.of_grown (S:=fun k=>k=w.heap.size) hG rfl) (fun k hk e=>by omega),ba.out.grown hG (fun e=>a8 e.symm),b7⟩
theorem dstep_lay {ev:Int×Int}{b rb tb:Nat}{cs:List Value}{M:Mc}{z E a7:Nat}{xs:List In}(w:World)(h:Rdm w b rb tb cs M)(cg:cs[1]? = some (.slice (some ⟨z,E,none⟩) xs.length a7))(hx:SeesI w (.slice (some ⟨z,E,none⟩) xs.length a7) xs)(hp:M.pc<xs.length){m:Nat}(cf:cs[9]? = some (I4 m)){op d a n l:Int}(HI:Hid (nth xs M.pc=⟨op,d,a,n,l⟩))(hm:m=0)(ca:cs[8]? = some (I4 M.steps))(d8:M.steps<=1000)(hr:(⟨op,d,a,n,l⟩:In).right=true)(ho:op<=14)(d6:M.pc+1<64){B c:Nat}{v:Value}{ks:List Ak}(bx:cs[2]? = some (U8 ev.1))(ck:cs[3]? = some (U8 ev.2))(cm:cs[4]? = some (.pointer (some ⟨c,0,none⟩)))(a9:Bk w B c v ks)(hB:B<=w.heap.size)(c4:ks.length<=100000)(ht:Tie ks M.ws M.cs)(hw:op=11∨op=12->0<=srcV ⟨op,d,a,n,l⟩ M.regs/\srcV ⟨op,d,a,n,l⟩ M.regs<=15){R ws:List Int}(ch:Hid (laysE ev ⟨op,d,a,n,l⟩ M=(R,ws))) :
  Cl 19 #[.pointer (some ⟨b,0,none⟩)] w fun e G=>e=.returned (actV 1 M.pc 0 0 0 0 0)/\Chg w G (fun k=>k=b∨k=rb∨bkS c v k)/\Hp G b 73 ((cs.set 8 (I4 ((M.steps:Int)+1))).set 7 (I4 ((M.pc+1:Nat):Int)))/\Hp G rb 26 (nums R)/\∃ v' ks',Bk G B c v' ks'/\Tie ks' ws M.cs/\ks'.length<=ks.length+1/\RowNew w v v':=by
 subst hm;have ci:=qBp hr;simp only at ci
 have d7:(op==21)=false:=by simp;omega
 have cy:(op==22)=false:=by simp;omega
 have cu:(M.steps:Int)<=1000:=by omega
 obtain ⟨f,HF⟩:∃ f,Hid (f=(⟨op,d,a,n,l⟩:In).far):=⟨_,rfl⟩;obtain ⟨on,HO⟩:∃ on,Hid (on=(⟨op,d,a,n,l⟩:In).on):=⟨_,rfl⟩
 have bs:(⟨op,d,a,n,l⟩:In).leads=false:=by
  rcases qAp (⟨op,d,a,n,l⟩:In) with g|g|g|g
  ·rw [hr] at g;cases g.1
  ·have:=g.2.1;simp only at this;omega
  ·have:=g.2.1;simp only at this;omega
  ·exact g.2.2.2.1
 have HL:Hid (false=(⟨op,d,a,n,l⟩:In).leads):=bs.symm;have nb:¬ bkS c v b:=qBh a9 h.st (by decide) (by decide);have nr:¬ bkS c v rb:=qBh a9 h.rg (by decide) (by decide)
 have am:∀ k,bkS c v k->k<w.heap.size:=fun k e=>by
  rcases e with e|e
  ·rw [e];exact a9.hp.lt
  ·exact (a9.row.lt k e).2
 have cz:=h.st.lt
 have cx:(M.pc:Int)<xs.length:=by omega
 have bk:(M.pc:Int)<=100:=by have:=h.pc;omega
 obtain ⟨ay,bw,d2,cw⟩:=codeL hx hp;rw [HI.out] at ay;obtain ⟨k0,k1,k2,k3,k4⟩:=ay;simp only at k0 k1 k2 k3 k4;have HX:=keepJ hx;clear hx;obtain ⟨V,HV,d1,ce,ad,al⟩:∃ V,Hid (w.alloc (.cells #[I4 0,I4 0,I4 0,I4 0,U8 0,U8 0,U8 0] 80)=V)/\Hid (Rdm V b rb tb cs M)/\Hid (Hp V w.heap.size 80 (actC 0 0 0 0 0 0 0))/\Bw w V/\V.heap.size=w.heap.size+1 :=
  ⟨_,rfl,h.below ((Below.refl _ _).alloc (Nat.le_refl _) _),Hp.new w _ _,(Below.refl _ _).alloc (Nat.le_refl _) _,by simp⟩
 have ae:Hid (∀ J:World,Bw V J->J.cell? ⟨b,1,none⟩=some (.slice (some ⟨z,E,none⟩) xs.length a7)/\J.cell? ⟨b,7,none⟩=some (I4 M.pc)/\J.cell? ⟨z,E+M.pc*5,none⟩=some (I4 op)/\J.cell? ⟨z,E+M.pc*5+1,none⟩=some (I4 d)/\J.cell? ⟨z,E+M.pc*5+2,none⟩=some (I4 a)/\J.cell? ⟨z,E+M.pc*5+3,none⟩=some (I4 n)/\J.cell? ⟨z,E+M.pc*5+4,none⟩=some (I4 l)):=fun J hb=>by
  have hB:Bw w J:=ad.trans (hb.mono ad.size)
  have cc:∀ {j:Nat} {u:Value},w.cell? ⟨z,j,none⟩=some u->J.cell? ⟨z,j,none⟩=some u:=fun {j u} e=>(hB.cell (p:=⟨z,j,none⟩) bw).trans e
  exact ⟨(h.below hB).st.cell cg,(h.below hB).st.cell h.c7,cc k0,cc k1,cc k2,cc k3,cc k4⟩
 clear k0 k1 k2 k3 k4;go_enter Tryz.func19,Tryz.ntmps19;go_wp2;rw [HV.out];refine wp_region_held_drew (S:=fun G=>G.cell? ⟨b,1,none⟩=some (.slice (some ⟨z,E,none⟩) xs.length a7)/\G.cell? ⟨b,7,none⟩=some (I4 M.pc)/\G.cell? ⟨z,E+M.pc*5,none⟩=some (I4 op)/\G.cell? ⟨z,E+M.pc*5+1,none⟩=some (I4 d)/\G.cell? ⟨z,E+M.pc*5+2,none⟩=some (I4 a)/\G.cell? ⟨z,E+M.pc*5+3,none⟩=some (I4 n)/\G.cell? ⟨z,E+M.pc*5+4,none⟩=some (I4 l)) (by kernel_rfl) (ae.out _ (qAj (Below.refl _ _))) (fun hHeld=>?_);refine tkGo [0,1,2,3,4,5,6,7,8,9,10] ?_
 repeat (refine tkO (v:=?_) rfl ?_ ?_;rotate_left;(intro wy hSw;(try dsimp only at hSw);go_simp;(first|done|with_reducible rfl));try simp only [Act.put,p1q,p2q,p3q,p4q,p5q,p6q])
 refine tkEnd ?_;refine runO 11 (by kernel_rfl) rfl (by rfl) (fun KK hK=>?_);go_simp;obtain ⟨Y,HY,a8,bl,y,c8⟩:∃ Y,Hid (V.alloc (.cells #[I4 0,I4 0,I4 0,I4 0,I4 0] 43)=Y)/\Bw V Y/\Hid (Hp Y w.heap.size 80 (actC 0 0 0 0 0 0 0))/\Hid (Hp Y (w.heap.size+1) 43 [I4 0,I4 0,I4 0,I4 0,I4 0])/\Y.heap.size=w.heap.size+2 :=
  ⟨_,rfl,(Below.refl _ _).alloc (Nat.le_refl _) _,ce.out.alloc _,by have:=Hp.new V [I4 0,I4 0,I4 0,I4 0,I4 0] 43;rw [al] at this;exact this,by simp [al]⟩
 try rw [al]
 rw [HY.out];refine hK.out _ _ (ae.out _ (qAj a8)) (fun hHeld=>?_);clear hK KK
 try simp only [Act.put,p1q,p2q,p3q,p4q,p5q,p6q]
 obtain ⟨⟨a0,a1,a2,a3,a4⟩,q0,q1,q2,q3,q4⟩:=hq5 y.out;refine runO 12 (by kernel_rfl) rfl (by rfl) (fun KK hK=>?_);go_simp
 obtain ⟨U,HU,c1,bq,cp,Z,b7⟩:∃ U,Hid (((((Y.setCell ⟨w.heap.size+1,0,none⟩ (I4 op)).setCell ⟨w.heap.size+1,1,none⟩ (I4 d)).setCell ⟨w.heap.size+1,2,none⟩ (I4 a)).setCell ⟨w.heap.size+1,3,none⟩ (I4 n)).setCell ⟨w.heap.size+1,4,none⟩ (I4 l)=U)/\Bw w U/\Hid (Rdm U b rb tb cs M)/\Hid (Hp U w.heap.size 80 (actC 0 0 0 0 0 0 0))/\Hid (Hp U (w.heap.size+1) 43 [I4 op,I4 d,I4 a,I4 n,I4 l])/\U.heap.size=w.heap.size+2:=by
  have hg:=qAd (w.heap.size+1) [I4 op,I4 d,I4 a,I4 n,I4 l] Y 0;have hB:Bw V (Y.setCells (w.heap.size+1) 0 [I4 op,I4 d,I4 a,I4 n,I4 l]):=a8.trans (qAg hg (by omega) a8.size);have az:Bw w (Y.setCells (w.heap.size+1) 0 [I4 op,I4 d,I4 a,I4 n,I4 l]):=ad.trans (hB.mono ad.size);exact ⟨_,rfl,az,h.below az,bl.out.grown hg (fun e=>by have:=Option.some.inj e;omega),y.out.sets [I4 op,I4 d,I4 a,I4 n,I4 l] 0,by simp [World.setCell,c8]⟩
 have bc:Bw V U:=by have h1:=HU.out;rw [<- h1];exact a8.trans (qAg (qAd (w.heap.size+1) [I4 op,I4 d,I4 a,I4 n,I4 l] Y 0) (by omega) a8.size)
 rw [HU.out];refine hK.out _ _ (ae.out _ (qAj bc)) (fun hHeld=>?_);clear hK KK
 try simp only [Act.put,p1q,p2q,p3q,p4q,p5q,p6q]
 refine wpAnyH_done (by kernel_rfl) ?_ _;clear a0 a1 a2 a3 a4 q0 q1 q2 q3 q4 hHeld;obtain ⟨⟨i0,i1,i2,i3,i4⟩,-⟩:=hq5 Z.out
 obtain ⟨T,HT,c3,K,r,Q,s,d4⟩:∃ T,Hid (U.alloc (.cells #[I4 1,I4 M.pc,I4 0,I4 0,U8 0,U8 0,U8 0] 80)=T)/\Bw w T/\Hid (Rdm T b rb tb cs M)/\Hid (Hp T w.heap.size 80 (actC 0 0 0 0 0 0 0))/\Hid (Hp T (w.heap.size+1) 43 [I4 op,I4 d,I4 a,I4 n,I4 l])/\Hid (Hp T (w.heap.size+2) 80 (actC 1 M.pc 0 0 0 0 0))/\T.heap.size=w.heap.size+3:=by
  have hB:=c1.alloc (by omega) (.cells #[I4 1,I4 M.pc,I4 0,I4 0,U8 0,U8 0,U8 0] 80);have hN:=Hp.new U (actC 1 M.pc 0 0 0 0 0) 80;rw [b7] at hN;exact ⟨_,rfl,hB,h.below hB,cp.out.alloc _,Z.out.alloc _,hN,by simp [b7]⟩
 have u7:=bq.out.st.cell h.c7;have t7:=K.out.st.cell h.c7;have t9:=K.out.st.cell cf;obtain ⟨⟨o0,o1,o2,o3,o4,o5,o6⟩,p0,p1,p2,p3,p4,p5,p6⟩:=hq7 r.out;obtain ⟨⟨e0,e1,e2,e3,e4,e5,e6⟩,g0,g1,g2,g3,g4,g5,g6⟩:=hq7 s.out;obtain ⟨⟨j0,j1,j2,j3,j4⟩,-⟩:=hq5 Q.out;have t8:=K.out.st.cell ca;have f8:=K.out.st.frozen 8;obtain ⟨W1,b9,bf,A⟩:∃ W1,Hid (T.setCell ⟨b,8,none⟩ (I4 ((M.steps:Int)+1))=W1)/\Hid (Hp W1 b 73 (cs.set 8 (I4 ((M.steps:Int)+1))))/\T.grownBy W1 (some b):=⟨_,rfl,K.out.st.set 8 _,qAb T b 8 _⟩;have ba:b≠rb:=qBi h.st h.rg (by decide);have bz:b≠tb:=qBi h.st h.tn (by decide);have cq:Hid (Rdm W1 b rb tb (cs.set 8 (I4 ((M.steps:Int)+1))) { M with steps:=M.steps+1 }):=⟨bf.out,by rw [List.getElem?_set_ne (by omega)];exact h.c5,by rw [List.getElem?_set_ne (by omega)];exact h.c6,by rw [List.getElem?_set_ne (by omega)];exact h.c7,K.out.rg.grown A (show some rb≠some b from fun e=>ba (Option.some.inj e).symm),K.out.tn.grown A (show some tb≠some b from fun e=>bz (Option.some.inj e).symm),h.wr,h.pc⟩;have d3:=A.size
 have ab:some w.heap.size≠some b:=fun e=>by have:=Option.some.inj e;omega
 have bi:some (w.heap.size+1)≠some b:=fun e=>by have:=Option.some.inj e;omega
 have aj:some (w.heap.size+2)≠some b:=fun e=>by have:=Option.some.inj e;omega
 have ax:=keepJ (r.out.grown A ab);have I:=keepJ (Q.out.grown A bi);have D:=keepJ (s.out.grown A aj);have ai:=keepJ ((Chg.of_below (S:=fun k=>k=b) c3).trans (Chg.of_grown (S:=fun k=>k=b) A rfl) (fun _ _ e=>e));obtain ⟨⟨y0,y1,y2,y3,y4⟩,-⟩:=hq5 I.out;obtain ⟨⟨z0,z1,z2,z3,z4,z5,z6⟩,-⟩:=hq7 D.out
 have av:(cs.set 8 (I4 ((M.steps:Int)+1)))[7]? = some (I4 M.pc):=by rw [List.getElem?_set_ne (by omega)];exact h.c7
 have cl:=keepJ (a9.chg ai.out (fun e=>nb (.inl e.symm)) (fun k hk e=>nb (.inr (by rw [<- e];exact hk))))
 have bt:(cs.set 8 (I4 ((M.steps:Int)+1)))[2]? = some (U8 ev.1):=by rw [List.getElem?_set_ne (by omega)];exact bx
 have bn:(cs.set 8 (I4 ((M.steps:Int)+1)))[3]? = some (U8 ev.2):=by rw [List.getElem?_set_ne (by omega)];exact ck
 have br:(cs.set 8 (I4 ((M.steps:Int)+1)))[4]? = some (.pointer (some ⟨c,0,none⟩)):=by rw [List.getElem?_set_ne (by omega)];exact cm
 have cv:=h.rg.lt;have bd:Hid (laysE ev ⟨op,d,a,n,l⟩ { M with steps:=M.steps+1 }=(R,ws)):=ch.out;have aq:b≠rb:=ba
 go_wp2_with (first
   | rw [HT.out]
   | (go_at_call 38;(try rw [b9.out]);go_must (refine (qCa (i:=⟨op,d,a,n,l⟩) (show Hid _ from rfl) HF HL HO W1.drew).mono ?_);rintro e w3 ⟨rfl,ap⟩;go_must (have F:Bw W1 w3:=qAf ap;have da:=F.size;have ag:=keepJ (cq.out.below F);have bj:=keepJ (ax.out.below F ax.out.lt);have L:=keepJ (I.out.below F I.out.lt);have bh:=keepJ (D.out.below F D.out.lt);have ct:=keepJ (ai.out.trans (Chg.of_below (S:=fun _=>False) F) (fun _ _ e=>e.elim));obtain ⟨⟨l0,l1,l2,l3,l4⟩,-⟩:=hq5 L.out;  clear ap))
   | (go_at_call 40;go_must (refine (dlays_all (ev:=ev) ⟨op,d,a,n,l⟩ hr ho w3 ag.out bt bn br (cl.out.below F) (by omega) c4 ht hw).mono ?_);rintro e w4 ⟨rfl,v4,cj,ar,ah,bg,af,O,ac⟩;go_must (rw [bd.out] at ah ac;have d5:=O.size;have c2:=keepJ af;have ak:=keepJ ar;have c0:=keepJ ah;have bo:=keepJ ac;have P:=keepJ (ag.out.st.chg O (fun e=>by rcases e with e|e;exact aq e;exact nb e));have ao:=keepJ (bj.out.chg O (fun e=>by rcases e with e|e;omega;have:=am _ e;omega));have be:=keepJ (bh.out.chg O (fun e=>by rcases e with e|e;omega;have:=am _ e;omega));(have m7:=P.out.cell av);(have d9:=P.out.frozen 7);obtain ⟨X,au,cr,aa⟩:∃ X,Hid (w4.setCell ⟨b,7,none⟩ (I4 ((M.pc+1:Nat):Int))=X)/\Hid (Hp X b 73 ((cs.set 8 (I4 ((M.steps:Int)+1))).set 7 (I4 ((M.pc+1:Nat):Int))))/\w4.grownBy X (some b):=⟨_,rfl,P.out.set 7 _,qAb w4 b 7 _⟩;have o:=keepJ (ao.out.grown aa ab);have N:=keepJ (be.out.grown aa aj);obtain ⟨⟨a0,a1,a2,a3,a4,a5,a6⟩,-⟩:=hq7 N.out;obtain ⟨⟨b0,b1,b2,b3,b4,b5,b6⟩,q0,q1,q2,q3,q4,q5,q6⟩:=hq7 o.out;clear ar ah ac af))
   | (go_at_call 41;go_must (refine (don_any w4 P.out av bk).mono ?_);rintro e w6 ⟨rfl,rfl⟩;rw [au.out])
   | rw [au.out]
   | rw [b9.out])
 have hO:=o.out.sets (actC 1 M.pc 0 0 0 0 0) 0;rw [qAr (actC 1 M.pc 0 0 0 0 0) (actC 0 0 0 0 0 0 0) rfl] at hO;have hG:=qAd w.heap.size (actC 1 M.pc 0 0 0 0 0) X 0;have cd:Chg w X (fun k=>k=b∨k=rb∨bkS c v k):=(((ai.out.mono (fun _ e=>.inl e)).trans (Chg.of_below (S:=fun _=>False) F) (fun _ _ e=>e.elim)).trans O (fun _ _ e=>.inr e)).trans (Chg.of_grown (S:=fun k=>k=b) aa rfl) (fun _ _ e=>.inl e);have bm:=(bo.out.grown aa (show some rb≠some b from fun e=>aq (Option.some.inj e).symm)).grown hG (show some rb≠some w.heap.size from fun e=>by have:=Option.some.inj e;omega);have bu:Chg w4 X (fun k=>k=b):=Chg.of_grown aa rfl;have b8:¬ bkS c v4 b:=qBh ak.out P.out (by decide) (by decide);have bp:=ak.out.chg bu (fun e=>b8 (.inl e.symm)) (fun k hk e=>b8 (.inr (by rw [<- e];exact hk)));have aw:¬ bkS c v4 w.heap.size:=qBh ak.out ao.out (by decide) (by decide);have cn:=bp.chg (Chg.of_grown (S:=fun k=>k=w.heap.size) hG rfl) (fun e=>aw (.inl e.symm)) (fun k hk e=>aw (.inr (by rw [<- e];exact hk)))
 have c9:RowNew w v v4:=by
  rcases c2.out with e|⟨k,e,hk⟩
  ·exact .inl e
  ·exact .inr ⟨k,e,by omega⟩
 exact qBv rfl rfl hO ⟨rfl,cd.trans (Chg.of_grown (S:=fun k=>k=w.heap.size) hG rfl) (fun k hk e=>by omega),cr.out.grown hG (fun e=>ab e.symm),bm,v4,cj,cn,c0.out,bg,c9⟩
end Go.Proofs.YtmdhljoicnommaaGreat
