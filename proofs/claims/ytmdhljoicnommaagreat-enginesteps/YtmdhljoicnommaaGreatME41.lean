/-
  E11DStepG
  E11DStepL
-/
import Derived.Test.YtmdhljoicnommaaGreatME40
import Derived.Test.YtmdhljoicnommaaGreatME36
namespace Go.Proofs.YtmdhljoicnommaaGreat
set_option maxHeartbeats 12800000
open Go.RowKit
set_option linter.unusedVariables false
set_option linter.unusedSimpArgs false
set_option maxRecDepth 100000
theorem yWi {b rb tb:Nat}{cs:List Value}{M:Mc}{cb co ccap:Nat}{xs:List In}(w:World)(h:Rdm w b rb tb cs M)(bs:cs[1]? = some (.slice (some ⟨cb,co,none⟩) xs.length ccap))(hx:SeesI w (.slice (some ⟨cb,co,none⟩) xs.length ccap) xs)(hp:M.pc<xs.length){m:Nat}(bn:cs[9]? = some (I4 m)){op d a n l:Int}(HI:Hid (nth xs M.pc=⟨op,d,a,n,l⟩))(hm:m=0)(bw:cs[8]? = some (I4 M.steps))(cj:M.steps<=1000)(hr:(⟨op,d,a,n,l⟩:In).right=true)(ho:15<=op/\op<=20)(ht:op=20->0<=M.turn M.pc/\M.turn M.pc<=255){p:Nat}(HP:Hid (qEv ⟨op,d,a,n,l⟩ M=(p:Int)))(ce:p<64) :
  Cl 19 #[.pointer (some ⟨b,0,none⟩)] w fun e Z=>e=.returned (qEp 1 M.pc 0 0 0 0 0)/\Chg w Z (fun k=>k=b∨k=tb)/\Hp Z b 73 ((cs.set 8 (I4 ((M.steps:Int)+1))).set 7 (I4 p))/\Hp Z tb 2 (tnC (qCg ⟨op,d,a,n,l⟩ M)):=by
 subst hm;have bz:=qDm hr;simp only at bz
 have cd:(op==21)=false:=by simp;omega
 have cn:(op==22)=false:=by simp;omega
 have ca:(M.steps:Int)<=1000:=by omega
 obtain ⟨f,HF⟩:∃ f,Hid (f=(⟨op,d,a,n,l⟩:In).far):=⟨_,rfl⟩;obtain ⟨on,HO⟩:∃ on,Hid (on=(⟨op,d,a,n,l⟩:In).on):=⟨_,rfl⟩
 have b8:(⟨op,d,a,n,l⟩:In).leads=true:=by
  rcases qBf (⟨op,d,a,n,l⟩:In) with g|g|g|g
  ·rw [hr] at g;cases g.1
  ·exact g.2.2.2.2.1
  ·exact g.2.2.2.1
  ·have:=g.2.1;simp only at this;omega
 have HL:Hid (true=(⟨op,d,a,n,l⟩:In).leads):=b8.symm
 have c9 : -64<=f/\f<=64:=by
  rw [HF.out]
  rcases qBf (⟨op,d,a,n,l⟩:In) with g|g|g|g
  ·rw [hr] at g;cases g.1
  ·obtain ⟨_,_,_,g1,_,_,g2,g3⟩:=g;simp only at g1 g2 g3;omega
  ·obtain ⟨_,_,g1,_,_,g2,g3,_⟩:=g;simp only at g1 g2 g3;omega
  ·have:=g.2.1;simp only at this;omega
 obtain ⟨G,HG⟩:∃ G,Hid (qCz ⟨op,d,a,n,l⟩ M=G):=⟨_,rfl⟩
 have ae:Hid ((if G=true then (M.pc:Int)+f else (M.pc:Int)+1)=(p:Int)):=by
  show _=_
  have:=HP.out;unfold qEv at this;rw [b8,Bool.true_and,HG.out,<- HF.out] at this;exact this
 have cl:=h.st.lt
 have ck:(M.pc:Int)<xs.length:=by omega
 have bi:(M.pc:Int)<=100:=by have:=h.pc;omega
 obtain ⟨bc,bo,ch,cg⟩:=qIl hx hp;rw [HI.out] at bc;obtain ⟨k0,k1,k2,k3,k4⟩:=bc;simp only at k0 k1 k2 k3 k4;have HX:=qAa hx;clear hx;obtain ⟨V,HV,cf,bm,ak,aq⟩:∃ V,Hid (w.alloc (.cells #[I4 0,I4 0,I4 0,I4 0,U8 0,U8 0,U8 0] 80)=V)/\Hid (Rdm V b rb tb cs M)/\Hid (Hp V w.heap.size 80 (qAh 0 0 0 0 0 0 0))/\Bw w V/\V.heap.size=w.heap.size+1 :=
  ⟨_,rfl,h.below ((Below.refl _ _).alloc (Nat.le_refl _) _),Hp.new w _ _,(Below.refl _ _).alloc (Nat.le_refl _) _,by simp⟩
 have ap:Hid (∀ P:World,Bw V P->P.cell? ⟨b,1,none⟩=some (.slice (some ⟨cb,co,none⟩) xs.length ccap)/\P.cell? ⟨b,7,none⟩=some (I4 M.pc)/\P.cell? ⟨cb,co+M.pc*5,none⟩=some (I4 op)/\P.cell? ⟨cb,co+M.pc*5+1,none⟩=some (I4 d)/\P.cell? ⟨cb,co+M.pc*5+2,none⟩=some (I4 a)/\P.cell? ⟨cb,co+M.pc*5+3,none⟩=some (I4 n)/\P.cell? ⟨cb,co+M.pc*5+4,none⟩=some (I4 l)):=fun P hb=>by
  have hB:Bw w P:=ak.trans (hb.mono ak.size)
  have cc:∀ {j:Nat} {u:Value},w.cell? ⟨cb,j,none⟩=some u->P.cell? ⟨cb,j,none⟩=some u:=fun {j u} e=>(hB.cell (p:=⟨cb,j,none⟩) bo).trans e
  exact ⟨(h.below hB).st.cell bs,(h.below hB).st.cell h.c7,cc k0,cc k1,cc k2,cc k3,cc k4⟩
 clear k0 k1 k2 k3 k4;go_enter Tryz.func19,Tryz.ntmps19;go_wp2;rw [HV.out];refine wp_region_held_drew (S:=fun Z=>Z.cell? ⟨b,1,none⟩=some (.slice (some ⟨cb,co,none⟩) xs.length ccap)/\Z.cell? ⟨b,7,none⟩=some (I4 M.pc)/\Z.cell? ⟨cb,co+M.pc*5,none⟩=some (I4 op)/\Z.cell? ⟨cb,co+M.pc*5+1,none⟩=some (I4 d)/\Z.cell? ⟨cb,co+M.pc*5+2,none⟩=some (I4 a)/\Z.cell? ⟨cb,co+M.pc*5+3,none⟩=some (I4 n)/\Z.cell? ⟨cb,co+M.pc*5+4,none⟩=some (I4 l)) (by kernel_rfl) (ap.out _ (qAn (Below.refl _ _))) (fun hHeld=>?_);refine qBb [0,1,2,3,4,5,6,7,8,9,10] ?_
 repeat (refine tkO (v:=?_) rfl ?_ ?_;rotate_left;(intro wy hSw;(try dsimp only at hSw);go_simp;(first|done|with_reducible rfl));try simp only [Act.put,p1q,p2q,p3q,p4q,p5q,p6q])
 refine qAs ?_;refine qAr 11 (by kernel_rfl) rfl (by rfl) (fun KK hK=>?_);go_simp;obtain ⟨Y,HY,ad,c2,E,c4⟩:∃ Y,Hid (V.alloc (.cells #[I4 0,I4 0,I4 0,I4 0,I4 0] 43)=Y)/\Bw V Y/\Hid (Hp Y w.heap.size 80 (qAh 0 0 0 0 0 0 0))/\Hid (Hp Y (w.heap.size+1) 43 [I4 0,I4 0,I4 0,I4 0,I4 0])/\Y.heap.size=w.heap.size+2 :=
  ⟨_,rfl,(Below.refl _ _).alloc (Nat.le_refl _) _,bm.out.alloc _,by have:=Hp.new V [I4 0,I4 0,I4 0,I4 0,I4 0] 43;rw [aq] at this;exact this,by simp [aq]⟩
 try rw [aq]
 rw [HY.out];refine hK.out _ _ (ap.out _ (qAn ad)) (fun hHeld=>?_);clear hK KK
 try simp only [Act.put,p1q,p2q,p3q,p4q,p5q,p6q]
 obtain ⟨⟨a0,a1,a2,a3,a4⟩,q0,q1,q2,q3,q4⟩:=hq5 E.out;refine qAr 12 (by kernel_rfl) rfl (by rfl) (fun KK hK=>?_);go_simp
 obtain ⟨U,HU,c1,c8,bq,aa,bd⟩:∃ U,Hid (((((Y.setCell ⟨w.heap.size+1,0,none⟩ (I4 op)).setCell ⟨w.heap.size+1,1,none⟩ (I4 d)).setCell ⟨w.heap.size+1,2,none⟩ (I4 a)).setCell ⟨w.heap.size+1,3,none⟩ (I4 n)).setCell ⟨w.heap.size+1,4,none⟩ (I4 l)=U)/\Bw w U/\Hid (Rdm U b rb tb cs M)/\Hid (Hp U w.heap.size 80 (qAh 0 0 0 0 0 0 0))/\Hid (Hp U (w.heap.size+1) 43 [I4 op,I4 d,I4 a,I4 n,I4 l])/\U.heap.size=w.heap.size+2:=by
  have hg:=qAd (w.heap.size+1) [I4 op,I4 d,I4 a,I4 n,I4 l] Y 0;have hB:Bw V (Y.setCells (w.heap.size+1) 0 [I4 op,I4 d,I4 a,I4 n,I4 l]):=ad.trans (qAi hg (by omega) ad.size);have be:Bw w (Y.setCells (w.heap.size+1) 0 [I4 op,I4 d,I4 a,I4 n,I4 l]):=ak.trans (hB.mono ak.size);exact ⟨_,rfl,be,h.below be,c2.out.grown hg (fun e=>by have:=Option.some.inj e;omega),E.out.sets [I4 op,I4 d,I4 a,I4 n,I4 l] 0,by simp [World.setCell,c4]⟩
 have bl:Bw V U:=by have h1:=HU.out;rw [<- h1];exact ad.trans (qAi (qAd (w.heap.size+1) [I4 op,I4 d,I4 a,I4 n,I4 l] Y 0) (by omega) ad.size)
 rw [HU.out];refine hK.out _ _ (ap.out _ (qAn bl)) (fun hHeld=>?_);clear hK KK
 try simp only [Act.put,p1q,p2q,p3q,p4q,p5q,p6q]
 refine wpAnyH_done (by kernel_rfl) ?_ _;clear a0 a1 a2 a3 a4 q0 q1 q2 q3 q4 hHeld;obtain ⟨⟨i0,i1,i2,i3,i4⟩,-⟩:=hq5 aa.out
 obtain ⟨T,HT,br,a8,s,a9,z,ci⟩:∃ T,Hid (U.alloc (.cells #[I4 1,I4 M.pc,I4 0,I4 0,U8 0,U8 0,U8 0] 80)=T)/\Bw w T/\Hid (Rdm T b rb tb cs M)/\Hid (Hp T w.heap.size 80 (qAh 0 0 0 0 0 0 0))/\Hid (Hp T (w.heap.size+1) 43 [I4 op,I4 d,I4 a,I4 n,I4 l])/\Hid (Hp T (w.heap.size+2) 80 (qAh 1 M.pc 0 0 0 0 0))/\T.heap.size=w.heap.size+3:=by
  have hB:=c1.alloc (by omega) (.cells #[I4 1,I4 M.pc,I4 0,I4 0,U8 0,U8 0,U8 0] 80);have hN:=Hp.new U (qAh 1 M.pc 0 0 0 0 0) 80;rw [bd] at hN;exact ⟨_,rfl,hB,h.below hB,bq.out.alloc _,aa.out.alloc _,hN,by simp [bd]⟩
 have u7:=c8.out.st.cell h.c7;have t7:=a8.out.st.cell h.c7;have t9:=a8.out.st.cell bn;obtain ⟨⟨o0,o1,o2,o3,o4,o5,o6⟩,p0,p1,p2,p3,p4,p5,p6⟩:=hq7 s.out;obtain ⟨⟨e0,e1,e2,e3,e4,e5,e6⟩,g0,g1,g2,g3,g4,g5,g6⟩:=hq7 z.out;obtain ⟨⟨j0,j1,j2,j3,j4⟩,-⟩:=hq5 a9.out;have t8:=a8.out.st.cell bw;have f8:=a8.out.st.frozen 8;obtain ⟨N,am,bg,F⟩:∃ N,Hid (T.setCell ⟨b,8,none⟩ (I4 ((M.steps:Int)+1))=N)/\Hid (Hp N b 73 (cs.set 8 (I4 ((M.steps:Int)+1))))/\T.grownBy N (some b):=⟨_,rfl,a8.out.st.set 8 _,qAc T b 8 _⟩;have bu:b≠rb:=qCw h.st h.rg (by decide);have b9:b≠tb:=qCw h.st h.tn (by decide);have ba:Hid (Rdm N b rb tb (cs.set 8 (I4 ((M.steps:Int)+1))) { M with steps:=M.steps+1 }):=⟨bg.out,by rw [List.getElem?_set_ne (by omega)];exact h.c5,by rw [List.getElem?_set_ne (by omega)];exact h.c6,by rw [List.getElem?_set_ne (by omega)];exact h.c7,a8.out.rg.grown F (show some rb≠some b from fun e=>bu (Option.some.inj e).symm),a8.out.tn.grown F (show some tb≠some b from fun e=>b9 (Option.some.inj e).symm),h.wr,h.pc⟩;have cm:=F.size
 have a7:some w.heap.size≠some b:=fun e=>by have:=Option.some.inj e;omega
 have bk:some (w.heap.size+1)≠some b:=fun e=>by have:=Option.some.inj e;omega
 have af:some (w.heap.size+2)≠some b:=fun e=>by have:=Option.some.inj e;omega
 have an:=qAa (s.out.grown F a7);have I:=qAa (a9.out.grown F bk);have D:=qAa (z.out.grown F af);have b7:=qAa ((Chg.of_below (S:=fun k=>k=b) br).trans (Chg.of_grown (S:=fun k=>k=b) F rfl) (fun _ _ e=>e));obtain ⟨⟨y0,y1,y2,y3,y4⟩,-⟩:=hq5 I.out;obtain ⟨⟨z0,z1,z2,z3,z4,z5,z6⟩,-⟩:=hq7 D.out;have ac:b≠tb:=b9
 have ab:w.heap.size≠tb:=by have:=h.tn.lt;omega
 have ay:w.heap.size+1≠tb:=by have:=h.tn.lt;omega
 have ao:w.heap.size+2≠tb:=by have:=h.tn.lt;omega
 have aw:(cs.set 8 (I4 ((M.steps:Int)+1)))[7]? = some (I4 M.pc):=by rw [List.getElem?_set_ne (by omega)];exact h.c7
 have bf:Hid (qCz ⟨op,d,a,n,l⟩ { M with steps:=M.steps+1 }=G):=HG.out
 have av:∀ {w3 K X:World},Bw N w3->w3.grownBy K (some tb)->K.grownBy X (some b)->Chg w X (fun k=>k=b∨k=tb):=fun {w3 K X} h1 h2 h3 =>
  (((b7.out.mono (fun _ e=>.inl e)).trans (Chg.of_below (S:=fun _=>False) h1) (fun _ _ e=>e.elim)).trans (Chg.of_grown (S:=fun k=>k=tb) h2 rfl) (fun _ _ e=>.inr e)).trans (Chg.of_grown (S:=fun k=>k=b) h3 rfl) (fun _ _ e=>.inl e)
 cases G with
 | true =>
  rw [if_pos rfl] at ae
  have c0:IntKind.i64.wrap ((M.pc:Int)+f)=p:=by rw [IntKind.wrap_i64];have:=ae.out;omega
  have bp:Hid ((M.pc:Int)+f=p):=ae.out
  go_wp2_with (first
   | rw [HT.out]
   | (go_at_call 38;(try rw [am.out]);go_must (refine (qEh (i:=⟨op,d,a,n,l⟩) (show Hid _ from rfl) HF HL HO N.drew).mono ?_);rintro e w3 ⟨rfl,O⟩;go_must (have y:Bw N w3:=qAg O;have bt:=y.size;have Q:=qAa (ba.out.below y);have ag:=qAa (an.out.below y an.out.lt);have o:=qAa (I.out.below y I.out.lt);have ah:=qAa (D.out.below y D.out.lt);have bj:=qAa (b7.out.trans (Chg.of_below (S:=fun _=>False) y) (fun _ _ e=>e.elim));obtain ⟨⟨l0,l1,l2,l3,l4⟩,-⟩:=hq5 o.out;  clear O))
   | (go_at_call 39;go_must (refine (qYw ⟨op,d,a,n,l⟩ hr ho w3 Q.out ht).mono ?_);rintro e K ⟨rfl,A,R⟩;go_must (have az:=bf.out;rw [az];have bx:=A.size;have B:=qAa (Q.out.st.grown A (show some b≠some tb from fun e=>ac (Option.some.inj e)));have aj:=qAa (ag.out.grown A (show some w.heap.size≠some tb from fun e=>ab (Option.some.inj e)));have ai:=qAa (ah.out.grown A (show some (w.heap.size+2)≠some tb from fun e=>ao (Option.some.inj e)));have bh:=qAa (o.out.grown A (show some (w.heap.size+1)≠some tb from fun e=>ay (Option.some.inj e)));have J:Hp K tb 2 (tnC (qCg ⟨op,d,a,n,l⟩ M)):=R;have ar:=qAa J;(have m7:=B.out.cell aw);(have c3:=B.out.frozen 7);obtain ⟨X,al,au,L⟩:∃ X,Hid (K.setCell ⟨b,7,none⟩ (I4 (p:Int))=X)/\Hid (Hp X b 73 ((cs.set 8 (I4 ((M.steps:Int)+1))).set 7 (I4 (p:Int))))/\K.grownBy X (some b):=⟨_,rfl,B.out.set 7 _,qAc K b 7 _⟩;have c:=qAa (aj.out.grown L a7);have r:=qAa (ai.out.grown L af);obtain ⟨⟨a0,a1,a2,a3,a4,a5,a6⟩,-⟩:=hq7 r.out;obtain ⟨⟨b0,b1,b2,b3,b4,b5,b6⟩,q0,q1,q2,q3,q4,q5,q6⟩:=hq7 c.out;clear R J))
   | rw [bp.out]
   | rw [c0]
   | rw [al.out]
   | rw [am.out])
  have hO:=c.out.sets (qAh 1 M.pc 0 0 0 0 0) 0;rw [qBo (qAh 1 M.pc 0 0 0 0 0) (qAh 0 0 0 0 0 0 0) rfl] at hO;have hG:=qAd w.heap.size (qAh 1 M.pc 0 0 0 0 0) X 0;have ax:=(ar.out.grown L (show some tb≠some b from fun e=>ac (Option.some.inj e).symm)).grown hG (show some tb≠some w.heap.size from fun e=>ab (Option.some.inj e).symm);exact qDx rfl rfl hO ⟨rfl,(av y A L).trans (Chg.of_grown (S:=fun k=>k=w.heap.size) hG rfl) (fun k hk e=>by omega),au.out.grown hG (fun e=>a7 e.symm),ax⟩
 | false =>
  rw [if_neg (by simp)] at ae
  obtain rfl:p=M.pc+1:=by have:=ae.out;omega
  go_wp2_with (first
   | rw [HT.out]
   | (go_at_call 38;(try rw [am.out]);go_must (refine (qEh (i:=⟨op,d,a,n,l⟩) (show Hid _ from rfl) HF HL HO N.drew).mono ?_);rintro e w3 ⟨rfl,O⟩;go_must (have y:Bw N w3:=qAg O;have bt:=y.size;have Q:=qAa (ba.out.below y);have ag:=qAa (an.out.below y an.out.lt);have o:=qAa (I.out.below y I.out.lt);have ah:=qAa (D.out.below y D.out.lt);have bj:=qAa (b7.out.trans (Chg.of_below (S:=fun _=>False) y) (fun _ _ e=>e.elim));obtain ⟨⟨l0,l1,l2,l3,l4⟩,-⟩:=hq5 o.out;  clear O))
   | (go_at_call 39;go_must (refine (qYw ⟨op,d,a,n,l⟩ hr ho w3 Q.out ht).mono ?_);rintro e K ⟨rfl,A,R⟩;go_must (have az:=bf.out;rw [az];have bx:=A.size;have B:=qAa (Q.out.st.grown A (show some b≠some tb from fun e=>ac (Option.some.inj e)));have aj:=qAa (ag.out.grown A (show some w.heap.size≠some tb from fun e=>ab (Option.some.inj e)));have ai:=qAa (ah.out.grown A (show some (w.heap.size+2)≠some tb from fun e=>ao (Option.some.inj e)));have bh:=qAa (o.out.grown A (show some (w.heap.size+1)≠some tb from fun e=>ay (Option.some.inj e)));have J:Hp K tb 2 (tnC (qCg ⟨op,d,a,n,l⟩ M)):=R;have ar:=qAa J;(have m7:=B.out.cell aw);(have c3:=B.out.frozen 7);obtain ⟨X,al,au,L⟩:∃ X,Hid (K.setCell ⟨b,7,none⟩ (I4 ((M.pc+1:Nat):Int))=X)/\Hid (Hp X b 73 ((cs.set 8 (I4 ((M.steps:Int)+1))).set 7 (I4 ((M.pc+1:Nat):Int))))/\K.grownBy X (some b):=⟨_,rfl,B.out.set 7 _,qAc K b 7 _⟩;have c:=qAa (aj.out.grown L a7);have r:=qAa (ai.out.grown L af);obtain ⟨⟨a0,a1,a2,a3,a4,a5,a6⟩,-⟩:=hq7 r.out;obtain ⟨⟨b0,b1,b2,b3,b4,b5,b6⟩,q0,q1,q2,q3,q4,q5,q6⟩:=hq7 c.out;clear R J))
   | (go_at_call 41;go_must (refine (qPi K B.out aw bi).mono ?_);rintro e w6 ⟨rfl,rfl⟩;rw [al.out])
   | rw [al.out]
   | rw [am.out])
  have hO:=c.out.sets (qAh 1 M.pc 0 0 0 0 0) 0;rw [qBo (qAh 1 M.pc 0 0 0 0 0) (qAh 0 0 0 0 0 0 0) rfl] at hO;have hG:=qAd w.heap.size (qAh 1 M.pc 0 0 0 0 0) X 0;have ax:=(ar.out.grown L (show some tb≠some b from fun e=>ac (Option.some.inj e).symm)).grown hG (show some tb≠some w.heap.size from fun e=>ab (Option.some.inj e).symm);exact qDx rfl rfl hO ⟨rfl,(av y A L).trans (Chg.of_grown (S:=fun k=>k=w.heap.size) hG rfl) (fun k hk e=>by omega),au.out.grown hG (fun e=>a7 e.symm),ax⟩
theorem yRl {ev:Int×Int}{b rb tb:Nat}{cs:List Value}{M:Mc}{cb co ccap:Nat}{xs:List In}(w:World)(h:Rdm w b rb tb cs M)(bt:cs[1]? = some (.slice (some ⟨cb,co,none⟩) xs.length ccap))(hx:SeesI w (.slice (some ⟨cb,co,none⟩) xs.length ccap) xs)(hp:M.pc<xs.length){m:Nat}(bn:cs[9]? = some (I4 m)){op d a s l:Int}(HI:Hid (nth xs M.pc=⟨op,d,a,s,l⟩))(hm:m=0)(bu:cs[8]? = some (I4 M.steps))(d2:M.steps<=1000)(hr:(⟨op,d,a,s,l⟩:In).right=true)(ho:op<=14)(cu:M.pc+1<64){B c:Nat}{v:Value}{ks:List Ak}(ca:cs[2]? = some (U8 ev.1))(c2:cs[3]? = some (U8 ev.2))(c4:cs[4]? = some (.pointer (some ⟨c,0,none⟩)))(Z:Bk w B c v ks)(Q:B<=w.heap.size)(c8:ks.length<=100000)(ht:Tie ks M.ws M.cs)(hw:op=11∨op=12->0<=qCk ⟨op,d,a,s,l⟩ M.regs/\qCk ⟨op,d,a,s,l⟩ M.regs<=15){R ws:List Int}(bj:Hid (qBy ev ⟨op,d,a,s,l⟩ M=(R,ws))) :
  Cl 19 #[.pointer (some ⟨b,0,none⟩)] w fun e E=>e=.returned (qEp 1 M.pc 0 0 0 0 0)/\Chg w E (fun k=>k=b∨k=rb∨bkS c v k)/\Hp E b 73 ((cs.set 8 (I4 ((M.steps:Int)+1))).set 7 (I4 ((M.pc+1:Nat):Int)))/\Hp E rb 26 (qBx R)/\∃ v' ks',Bk E B c v' ks'/\Tie ks' ws M.cs/\ks'.length<=ks.length+1/\RowNew w v v':=by
 subst hm;have c9:=qDm hr;simp only at c9
 have ct:(op==21)=false:=by simp;omega
 have d7:(op==22)=false:=by simp;omega
 have cq:(M.steps:Int)<=1000:=by omega
 obtain ⟨f,HF⟩:∃ f,Hid (f=(⟨op,d,a,s,l⟩:In).far):=⟨_,rfl⟩;obtain ⟨on,HO⟩:∃ on,Hid (on=(⟨op,d,a,s,l⟩:In).on):=⟨_,rfl⟩
 have bk:(⟨op,d,a,s,l⟩:In).leads=false:=by
  rcases qBf (⟨op,d,a,s,l⟩:In) with g|g|g|g
  ·rw [hr] at g;cases g.1
  ·have:=g.2.1;simp only at this;omega
  ·have:=g.2.1;simp only at this;omega
  ·exact g.2.2.2.1
 have HL:Hid (false=(⟨op,d,a,s,l⟩:In).leads):=bk.symm;have nb:¬ bkS c v b:=qBv Z h.st (by decide) (by decide);have nr:¬ bkS c v rb:=qBv Z h.rg (by decide) (by decide)
 have aj:∀ k,bkS c v k->k<w.heap.size:=fun k e=>by
  rcases e with e|e
  ·rw [e];exact Z.hp.lt
  ·exact (Z.row.lt k e).2
 have d5:=h.st.lt
 have d3:(M.pc:Int)<xs.length:=by omega
 have be:(M.pc:Int)<=100:=by have:=h.pc;omega
 obtain ⟨aw,bo,cz,cy⟩:=qIl hx hp;rw [HI.out] at aw;obtain ⟨k0,k1,k2,k3,k4⟩:=aw;simp only at k0 k1 k2 k3 k4;have HX:=qAa hx;clear hx;obtain ⟨V,HV,cx,bi,ab,af⟩:∃ V,Hid (w.alloc (.cells #[I4 0,I4 0,I4 0,I4 0,U8 0,U8 0,U8 0] 80)=V)/\Hid (Rdm V b rb tb cs M)/\Hid (Hp V w.heap.size 80 (qAh 0 0 0 0 0 0 0))/\Bw w V/\V.heap.size=w.heap.size+1 :=
  ⟨_,rfl,h.below ((Below.refl _ _).alloc (Nat.le_refl _) _),Hp.new w _ _,(Below.refl _ _).alloc (Nat.le_refl _) _,by simp⟩
 have ad:Hid (∀ J:World,Bw V J->J.cell? ⟨b,1,none⟩=some (.slice (some ⟨cb,co,none⟩) xs.length ccap)/\J.cell? ⟨b,7,none⟩=some (I4 M.pc)/\J.cell? ⟨cb,co+M.pc*5,none⟩=some (I4 op)/\J.cell? ⟨cb,co+M.pc*5+1,none⟩=some (I4 d)/\J.cell? ⟨cb,co+M.pc*5+2,none⟩=some (I4 a)/\J.cell? ⟨cb,co+M.pc*5+3,none⟩=some (I4 s)/\J.cell? ⟨cb,co+M.pc*5+4,none⟩=some (I4 l)):=fun J hb=>by
  have Q:Bw w J:=ab.trans (hb.mono ab.size)
  have cc:∀ {j:Nat} {u:Value},w.cell? ⟨cb,j,none⟩=some u->J.cell? ⟨cb,j,none⟩=some u:=fun {j u} e=>(Q.cell (p:=⟨cb,j,none⟩) bo).trans e
  exact ⟨(h.below Q).st.cell bt,(h.below Q).st.cell h.c7,cc k0,cc k1,cc k2,cc k3,cc k4⟩
 clear k0 k1 k2 k3 k4;go_enter Tryz.func19,Tryz.ntmps19;go_wp2;rw [HV.out];refine wp_region_held_drew (S:=fun E=>E.cell? ⟨b,1,none⟩=some (.slice (some ⟨cb,co,none⟩) xs.length ccap)/\E.cell? ⟨b,7,none⟩=some (I4 M.pc)/\E.cell? ⟨cb,co+M.pc*5,none⟩=some (I4 op)/\E.cell? ⟨cb,co+M.pc*5+1,none⟩=some (I4 d)/\E.cell? ⟨cb,co+M.pc*5+2,none⟩=some (I4 a)/\E.cell? ⟨cb,co+M.pc*5+3,none⟩=some (I4 s)/\E.cell? ⟨cb,co+M.pc*5+4,none⟩=some (I4 l)) (by kernel_rfl) (ad.out _ (qAn (Below.refl _ _))) (fun hHeld=>?_);refine qBb [0,1,2,3,4,5,6,7,8,9,10] ?_
 repeat (refine tkO (v:=?_) rfl ?_ ?_;rotate_left;(intro wy hSw;(try dsimp only at hSw);go_simp;(first|done|with_reducible rfl));try simp only [Act.put,p1q,p2q,p3q,p4q,p5q,p6q])
 refine qAs ?_;refine qAr 11 (by kernel_rfl) rfl (by rfl) (fun KK hK=>?_);go_simp;obtain ⟨Y,HY,a7,ck,y,cm⟩:∃ Y,Hid (V.alloc (.cells #[I4 0,I4 0,I4 0,I4 0,I4 0] 43)=Y)/\Bw V Y/\Hid (Hp Y w.heap.size 80 (qAh 0 0 0 0 0 0 0))/\Hid (Hp Y (w.heap.size+1) 43 [I4 0,I4 0,I4 0,I4 0,I4 0])/\Y.heap.size=w.heap.size+2 :=
  ⟨_,rfl,(Below.refl _ _).alloc (Nat.le_refl _) _,bi.out.alloc _,by have:=Hp.new V [I4 0,I4 0,I4 0,I4 0,I4 0] 43;rw [af] at this;exact this,by simp [af]⟩
 try rw [af]
 rw [HY.out];refine hK.out _ _ (ad.out _ (qAn a7)) (fun hHeld=>?_);clear hK KK
 try simp only [Act.put,p1q,p2q,p3q,p4q,p5q,p6q]
 obtain ⟨⟨a0,a1,a2,a3,a4⟩,q0,q1,q2,q3,q4⟩:=hq5 y.out;refine qAr 12 (by kernel_rfl) rfl (by rfl) (fun KK hK=>?_);go_simp
 obtain ⟨U,HU,cd,cn,br,P,ax⟩:∃ U,Hid (((((Y.setCell ⟨w.heap.size+1,0,none⟩ (I4 op)).setCell ⟨w.heap.size+1,1,none⟩ (I4 d)).setCell ⟨w.heap.size+1,2,none⟩ (I4 a)).setCell ⟨w.heap.size+1,3,none⟩ (I4 s)).setCell ⟨w.heap.size+1,4,none⟩ (I4 l)=U)/\Bw w U/\Hid (Rdm U b rb tb cs M)/\Hid (Hp U w.heap.size 80 (qAh 0 0 0 0 0 0 0))/\Hid (Hp U (w.heap.size+1) 43 [I4 op,I4 d,I4 a,I4 s,I4 l])/\U.heap.size=w.heap.size+2:=by
  have hg:=qAd (w.heap.size+1) [I4 op,I4 d,I4 a,I4 s,I4 l] Y 0;have Q:Bw V (Y.setCells (w.heap.size+1) 0 [I4 op,I4 d,I4 a,I4 s,I4 l]):=a7.trans (qAi hg (by omega) a7.size);have ay:Bw w (Y.setCells (w.heap.size+1) 0 [I4 op,I4 d,I4 a,I4 s,I4 l]):=ab.trans (Q.mono ab.size);exact ⟨_,rfl,ay,h.below ay,ck.out.grown hg (fun e=>by have:=Option.some.inj e;omega),y.out.sets [I4 op,I4 d,I4 a,I4 s,I4 l] 0,by simp [World.setCell,cm]⟩
 have bh:Bw V U:=by have h1:=HU.out;rw [<- h1];exact a7.trans (qAi (qAd (w.heap.size+1) [I4 op,I4 d,I4 a,I4 s,I4 l] Y 0) (by omega) a7.size)
 rw [HU.out];refine hK.out _ _ (ad.out _ (qAn bh)) (fun hHeld=>?_);clear hK KK
 try simp only [Act.put,p1q,p2q,p3q,p4q,p5q,p6q]
 refine wpAnyH_done (by kernel_rfl) ?_ _;clear a0 a1 a2 a3 a4 q0 q1 q2 q3 q4 hHeld;obtain ⟨⟨i0,i1,i2,i3,i4⟩,-⟩:=hq5 P.out
 obtain ⟨T,HT,bs,N,o,O,r,d1⟩:∃ T,Hid (U.alloc (.cells #[I4 1,I4 M.pc,I4 0,I4 0,U8 0,U8 0,U8 0] 80)=T)/\Bw w T/\Hid (Rdm T b rb tb cs M)/\Hid (Hp T w.heap.size 80 (qAh 0 0 0 0 0 0 0))/\Hid (Hp T (w.heap.size+1) 43 [I4 op,I4 d,I4 a,I4 s,I4 l])/\Hid (Hp T (w.heap.size+2) 80 (qAh 1 M.pc 0 0 0 0 0))/\T.heap.size=w.heap.size+3:=by
  have Q:=cd.alloc (by omega) (.cells #[I4 1,I4 M.pc,I4 0,I4 0,U8 0,U8 0,U8 0] 80);have hN:=Hp.new U (qAh 1 M.pc 0 0 0 0 0) 80;rw [ax] at hN;exact ⟨_,rfl,Q,h.below Q,br.out.alloc _,P.out.alloc _,hN,by simp [ax]⟩
 have u7:=cn.out.st.cell h.c7;have t7:=N.out.st.cell h.c7;have t9:=N.out.st.cell bn;obtain ⟨⟨o0,o1,o2,o3,o4,o5,o6⟩,p0,p1,p2,p3,p4,p5,p6⟩:=hq7 o.out;obtain ⟨⟨e0,e1,e2,e3,e4,e5,e6⟩,g0,g1,g2,g3,g4,g5,g6⟩:=hq7 r.out;obtain ⟨⟨j0,j1,j2,j3,j4⟩,-⟩:=hq5 O.out;have t8:=N.out.st.cell bu;have f8:=N.out.st.frozen 8;obtain ⟨W1,az,b8,z⟩:∃ W1,Hid (T.setCell ⟨b,8,none⟩ (I4 ((M.steps:Int)+1))=W1)/\Hid (Hp W1 b 73 (cs.set 8 (I4 ((M.steps:Int)+1))))/\T.grownBy W1 (some b):=⟨_,rfl,N.out.st.set 8 _,qAc T b 8 _⟩;have ar:b≠rb:=qCw h.st h.rg (by decide);have bx:b≠tb:=qCw h.st h.tn (by decide);have ce:Hid (Rdm W1 b rb tb (cs.set 8 (I4 ((M.steps:Int)+1))) { M with steps:=M.steps+1 }):=⟨b8.out,by rw [List.getElem?_set_ne (by omega)];exact h.c5,by rw [List.getElem?_set_ne (by omega)];exact h.c6,by rw [List.getElem?_set_ne (by omega)];exact h.c7,N.out.rg.grown z (show some rb≠some b from fun e=>ar (Option.some.inj e).symm),N.out.tn.grown z (show some tb≠some b from fun e=>bx (Option.some.inj e).symm),h.wr,h.pc⟩;have d6:=z.size
 have aa:some w.heap.size≠some b:=fun e=>by have:=Option.some.inj e;omega
 have bg:some (w.heap.size+1)≠some b:=fun e=>by have:=Option.some.inj e;omega
 have ae:some (w.heap.size+2)≠some b:=fun e=>by have:=Option.some.inj e;omega
 have b7:=qAa (o.out.grown z aa);have G:=qAa (O.out.grown z bg);have A:=qAa (r.out.grown z ae);have ao:=qAa ((Chg.of_below (S:=fun k=>k=b) bs).trans (Chg.of_grown (S:=fun k=>k=b) z rfl) (fun _ _ e=>e));obtain ⟨⟨y0,y1,y2,y3,y4⟩,-⟩:=hq5 G.out;obtain ⟨⟨z0,z1,z2,z3,z4,z5,z6⟩,-⟩:=hq7 A.out
 have av:(cs.set 8 (I4 ((M.steps:Int)+1)))[7]? = some (I4 M.pc):=by rw [List.getElem?_set_ne (by omega)];exact h.c7
 have cl:=qAa (Z.chg ao.out (fun e=>nb (.inl e.symm)) (fun k hk e=>nb (.inr (by rw [<- e];exact hk))))
 have cj:(cs.set 8 (I4 ((M.steps:Int)+1)))[2]? = some (U8 ev.1):=by rw [List.getElem?_set_ne (by omega)];exact ca
 have c3:(cs.set 8 (I4 ((M.steps:Int)+1)))[3]? = some (U8 ev.2):=by rw [List.getElem?_set_ne (by omega)];exact c2
 have bl:(cs.set 8 (I4 ((M.steps:Int)+1)))[4]? = some (.pointer (some ⟨c,0,none⟩)):=by rw [List.getElem?_set_ne (by omega)];exact c4
 have cr:=h.rg.lt;have bf:Hid (qBy ev ⟨op,d,a,s,l⟩ { M with steps:=M.steps+1 }=(R,ws)):=bj.out;have ag:b≠rb:=ar
 go_wp2_with (first
   | rw [HT.out]
   | (go_at_call 38;(try rw [az.out]);go_must (refine (qEh (i:=⟨op,d,a,s,l⟩) (show Hid _ from rfl) HF HL HO W1.drew).mono ?_);rintro e w3 ⟨rfl,ac⟩;go_must (have D:Bw W1 w3:=qAg ac;have cv:=D.size;have ai:=qAa (ce.out.below D);have b9:=qAa (b7.out.below D b7.out.lt);have K:=qAa (G.out.below D G.out.lt);have ba:=qAa (A.out.below D A.out.lt);have cp:=qAa (ao.out.trans (Chg.of_below (S:=fun _=>False) D) (fun _ _ e=>e.elim));obtain ⟨⟨l0,l1,l2,l3,l4⟩,-⟩:=hq5 K.out;  clear ac))
   | (go_at_call 40;go_must (refine (yQx (ev:=ev) ⟨op,d,a,s,l⟩ hr ho w3 ai.out cj c3 bl (cl.out.below D) (by omega) c8 ht hw).mono ?_);rintro e w4 ⟨rfl,v4,bm,an,ak,bd,ah,L,a9⟩;go_must (rw [bf.out] at ak a9;have cw:=L.size;have c0:=qAa ah;have al:=qAa an;have bp:=qAa ak;have bz:=qAa a9;have I:=qAa (ai.out.st.chg L (fun e=>by rcases e with e|e;exact ag e;exact nb e));have am:=qAa (b9.out.chg L (fun e=>by rcases e with e|e;omega;have:=aj _ e;omega));have bc:=qAa (ba.out.chg L (fun e=>by rcases e with e|e;omega;have:=aj _ e;omega));(have m7:=I.out.cell av);(have d4:=I.out.frozen 7);obtain ⟨X,aq,c1,a8⟩:∃ X,Hid (w4.setCell ⟨b,7,none⟩ (I4 ((M.pc+1:Nat):Int))=X)/\Hid (Hp X b 73 ((cs.set 8 (I4 ((M.steps:Int)+1))).set 7 (I4 ((M.pc+1:Nat):Int))))/\w4.grownBy X (some b):=⟨_,rfl,I.out.set 7 _,qAc w4 b 7 _⟩;have n:=qAa (am.out.grown a8 aa);have F:=qAa (bc.out.grown a8 ae);obtain ⟨⟨a0,a1,a2,a3,a4,a5,a6⟩,-⟩:=hq7 F.out;obtain ⟨⟨b0,b1,b2,b3,b4,b5,b6⟩,q0,q1,q2,q3,q4,q5,q6⟩:=hq7 n.out;clear an ak a9 ah))
   | (go_at_call 41;go_must (refine (qPi w4 I.out av be).mono ?_);rintro e w6 ⟨rfl,rfl⟩;rw [aq.out])
   | rw [aq.out]
   | rw [az.out])
 have hO:=n.out.sets (qAh 1 M.pc 0 0 0 0 0) 0;rw [qBo (qAh 1 M.pc 0 0 0 0 0) (qAh 0 0 0 0 0 0 0) rfl] at hO;have hG:=qAd w.heap.size (qAh 1 M.pc 0 0 0 0 0) X 0;have bq:Chg w X (fun k=>k=b∨k=rb∨bkS c v k):=(((ao.out.mono (fun _ e=>.inl e)).trans (Chg.of_below (S:=fun _=>False) D) (fun _ _ e=>e.elim)).trans L (fun _ _ e=>.inr e)).trans (Chg.of_grown (S:=fun k=>k=b) a8 rfl) (fun _ _ e=>.inl e);have ch:=(bz.out.grown a8 (show some rb≠some b from fun e=>ag (Option.some.inj e).symm)).grown hG (show some rb≠some w.heap.size from fun e=>by have:=Option.some.inj e;omega);have bw:Chg w4 X (fun k=>k=b):=Chg.of_grown a8 rfl;have au:¬ bkS c v4 b:=qBv al.out I.out (by decide) (by decide);have ci:=al.out.chg bw (fun e=>au (.inl e.symm)) (fun k hk e=>au (.inr (by rw [<- e];exact hk)));have ap:¬ bkS c v4 w.heap.size:=qBv al.out am.out (by decide) (by decide);have cf:=ci.chg (Chg.of_grown (S:=fun k=>k=w.heap.size) hG rfl) (fun e=>ap (.inl e.symm)) (fun k hk e=>ap (.inr (by rw [<- e];exact hk)))
 have cg:RowNew w v v4:=by
  rcases c0.out with e|⟨k,e,hk⟩
  ·exact .inl e
  ·exact .inr ⟨k,e,by omega⟩
 exact qDx rfl rfl hO ⟨rfl,bq.trans (Chg.of_grown (S:=fun k=>k=w.heap.size) hG rfl) (fun k hk e=>by omega),c1.out.grown hG (fun e=>aa e.symm),ch,v4,bm,cf,bp.out,bd,cg⟩
end Go.Proofs.YtmdhljoicnommaaGreat
