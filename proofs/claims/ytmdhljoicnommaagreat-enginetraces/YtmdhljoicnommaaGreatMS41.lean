/-
  E11DStepO
  E11DStepX
  E11DStepC
  E11LStepR
-/
import Derived.Test.YtmdhljoicnommaaGreatMS39
namespace Go.Proofs.YtmdhljoicnommaaGreat
set_option maxHeartbeats 12800000
open Go.RowKit
set_option linter.unusedVariables false
set_option linter.unusedSimpArgs false
set_option maxRecDepth 100000
theorem dstep_over {b rb tb:Nat}{cs:List Value}{M:Mc}{l o I:Nat}{xs:List In}(w:World)(h:Rdm w b rb tb cs M)(az:cs[1]? = some (.slice (some ⟨l,o,none⟩) xs.length I))(hx:SeesI w (.slice (some ⟨l,o,none⟩) xs.length I) xs)(hp:M.pc<xs.length){m:Nat}(ay:cs[9]? = some (I4 m)){op d a A k:Int}(HI:Hid (nth xs M.pc=⟨op,d,a,A,k⟩))(hm:m=2)(ha:0<=a/\a<=7){n:Int}(hn:Hid (regV M.regs a=n)) :
  Cl 19 #[.pointer (some ⟨b,0,none⟩)] w fun e s=>e=.returned (actV 6 M.pc 0 0 0 0 n)/\Bw w s:=by
 subst hm;obtain ⟨q,rfl⟩:=Int.eq_ofNat_of_zero_le ha.1
 have hq:q<8:=by omega
 have bg:(q:Int)<8:=by omega
 have ap:Hid (M.regs.getD q 0=n):=hn.out;have bc:=h.st.lt
 have ba:(M.pc:Int)<xs.length:=by omega
 have b8:(M.pc:Int)<=100:=by have:=h.pc;omega
 obtain ⟨af,ar,be,b9⟩:=codeL hx hp;rw [HI.out] at af;obtain ⟨k0,k1,k2,k3,k4⟩:=af;simp only at k0 k1 k2 k3 k4;have HX:=keepJ hx;clear hx;obtain ⟨V,HV,bd,ax,L,Z⟩:∃ V,Hid (w.alloc (.cells #[I4 0,I4 0,I4 0,I4 0,U8 0,U8 0,U8 0] 80)=V)/\Hid (Rdm V b rb tb cs M)/\Hid (Hp V w.heap.size 80 (actC 0 0 0 0 0 0 0))/\Bw w V/\V.heap.size=w.heap.size+1 :=
  ⟨_,rfl,h.below ((Below.refl _ _).alloc (Nat.le_refl _) _),Hp.new w _ _,(Below.refl _ _).alloc (Nat.le_refl _) _,by simp⟩
 have O:Hid (∀ z:World,Bw V z->z.cell? ⟨b,1,none⟩=some (.slice (some ⟨l,o,none⟩) xs.length I)/\z.cell? ⟨b,7,none⟩=some (I4 M.pc)/\z.cell? ⟨l,o+M.pc*5,none⟩=some (I4 op)/\z.cell? ⟨l,o+M.pc*5+1,none⟩=some (I4 d)/\z.cell? ⟨l,o+M.pc*5+2,none⟩=some (I4 q)/\z.cell? ⟨l,o+M.pc*5+3,none⟩=some (I4 A)/\z.cell? ⟨l,o+M.pc*5+4,none⟩=some (I4 k)):=fun z hb=>by
  have J:Bw w z:=L.trans (hb.mono L.size)
  have cc:∀ {j:Nat} {u:Value},w.cell? ⟨l,j,none⟩=some u->z.cell? ⟨l,j,none⟩=some u:=fun {j u} e=>(J.cell (p:=⟨l,j,none⟩) ar).trans e
  exact ⟨(h.below J).st.cell az,(h.below J).st.cell h.c7,cc k0,cc k1,cc k2,cc k3,cc k4⟩
 clear k0 k1 k2 k3 k4;go_enter Tryz.func19,Tryz.ntmps19;go_wp2;rw [HV.out];refine wp_region_held_drew (S:=fun s=>s.cell? ⟨b,1,none⟩=some (.slice (some ⟨l,o,none⟩) xs.length I)/\s.cell? ⟨b,7,none⟩=some (I4 M.pc)/\s.cell? ⟨l,o+M.pc*5,none⟩=some (I4 op)/\s.cell? ⟨l,o+M.pc*5+1,none⟩=some (I4 d)/\s.cell? ⟨l,o+M.pc*5+2,none⟩=some (I4 q)/\s.cell? ⟨l,o+M.pc*5+3,none⟩=some (I4 A)/\s.cell? ⟨l,o+M.pc*5+4,none⟩=some (I4 k)) (by kernel_rfl) (O.out _ (qAj (Below.refl _ _))) (fun hHeld=>?_);refine tkGo [0,1,2,3,4,5,6,7,8,9,10] ?_
 repeat (refine tkO (v:=?_) rfl ?_ ?_;rotate_left;(intro wy hSw;(try dsimp only at hSw);go_simp;(first|done|with_reducible rfl));try simp only [Act.put,p1q,p2q,p3q,p4q,p5q,p6q])
 refine tkEnd ?_;refine runO 11 (by kernel_rfl) rfl (by rfl) (fun KK hK=>?_);go_simp;obtain ⟨Y,HY,K,al,i,av⟩:∃ Y,Hid (V.alloc (.cells #[I4 0,I4 0,I4 0,I4 0,I4 0] 43)=Y)/\Bw V Y/\Hid (Hp Y w.heap.size 80 (actC 0 0 0 0 0 0 0))/\Hid (Hp Y (w.heap.size+1) 43 [I4 0,I4 0,I4 0,I4 0,I4 0])/\Y.heap.size=w.heap.size+2 :=
  ⟨_,rfl,(Below.refl _ _).alloc (Nat.le_refl _) _,ax.out.alloc _,by have:=Hp.new V [I4 0,I4 0,I4 0,I4 0,I4 0] 43;rw [Z] at this;exact this,by simp [Z]⟩
 try rw [Z]
 rw [HY.out];refine hK.out _ _ (O.out _ (qAj K)) (fun hHeld=>?_);clear hK KK
 try simp only [Act.put,p1q,p2q,p3q,p4q,p5q,p6q]
 obtain ⟨⟨a0,a1,a2,a3,a4⟩,q0,q1,q2,q3,q4⟩:=hq5 i.out;refine runO 12 (by kernel_rfl) rfl (by rfl) (fun KK hK=>?_);go_simp
 obtain ⟨U,HU,au,ao,b7,F,ah⟩:∃ U,Hid (((((Y.setCell ⟨w.heap.size+1,0,none⟩ (I4 op)).setCell ⟨w.heap.size+1,1,none⟩ (I4 d)).setCell ⟨w.heap.size+1,2,none⟩ (I4 q)).setCell ⟨w.heap.size+1,3,none⟩ (I4 A)).setCell ⟨w.heap.size+1,4,none⟩ (I4 k)=U)/\Bw w U/\Hid (Rdm U b rb tb cs M)/\Hid (Hp U w.heap.size 80 (actC 0 0 0 0 0 0 0))/\Hid (Hp U (w.heap.size+1) 43 [I4 op,I4 d,I4 q,I4 A,I4 k])/\U.heap.size=w.heap.size+2:=by
  have hg:=qAd (w.heap.size+1) [I4 op,I4 d,I4 q,I4 A,I4 k] Y 0;have J:Bw V (Y.setCells (w.heap.size+1) 0 [I4 op,I4 d,I4 q,I4 A,I4 k]):=K.trans (qAg hg (by omega) K.size);have ag:Bw w (Y.setCells (w.heap.size+1) 0 [I4 op,I4 d,I4 q,I4 A,I4 k]):=L.trans (J.mono L.size);exact ⟨_,rfl,ag,h.below ag,al.out.grown hg (fun e=>by have:=Option.some.inj e;omega),i.out.sets [I4 op,I4 d,I4 q,I4 A,I4 k] 0,by simp [World.setCell,av]⟩
 have aj:Bw V U:=by have h1:=HU.out;rw [<- h1];exact K.trans (qAg (qAd (w.heap.size+1) [I4 op,I4 d,I4 q,I4 A,I4 k] Y 0) (by omega) K.size)
 rw [HU.out];refine hK.out _ _ (O.out _ (qAj aj)) (fun hHeld=>?_);clear hK KK
 try simp only [Act.put,p1q,p2q,p3q,p4q,p5q,p6q]
 refine wpAnyH_done (by kernel_rfl) ?_ _;clear a0 a1 a2 a3 a4 q0 q1 q2 q3 q4 hHeld;obtain ⟨⟨i0,i1,i2,i3,i4⟩,-⟩:=hq5 F.out
 obtain ⟨T,HT,ad,E,f,D,g,bf⟩:∃ T,Hid (U.alloc (.cells #[I4 1,I4 M.pc,I4 0,I4 0,U8 0,U8 0,U8 0] 80)=T)/\Bw w T/\Hid (Rdm T b rb tb cs M)/\Hid (Hp T w.heap.size 80 (actC 0 0 0 0 0 0 0))/\Hid (Hp T (w.heap.size+1) 43 [I4 op,I4 d,I4 q,I4 A,I4 k])/\Hid (Hp T (w.heap.size+2) 80 (actC 1 M.pc 0 0 0 0 0))/\T.heap.size=w.heap.size+3:=by
  have J:=au.alloc (by omega) (.cells #[I4 1,I4 M.pc,I4 0,I4 0,U8 0,U8 0,U8 0] 80);have hN:=Hp.new U (actC 1 M.pc 0 0 0 0 0) 80;rw [ah] at hN;exact ⟨_,rfl,J,h.below J,b7.out.alloc _,F.out.alloc _,hN,by simp [ah]⟩
 have u7:=ao.out.st.cell h.c7;have t7:=E.out.st.cell h.c7;have t9:=E.out.st.cell ay;obtain ⟨⟨o0,o1,o2,o3,o4,o5,o6⟩,p0,p1,p2,p3,p4,p5,p6⟩:=hq7 f.out;obtain ⟨⟨e0,e1,e2,e3,e4,e5,e6⟩,g0,g1,g2,g3,g4,g5,g6⟩:=hq7 g.out;obtain ⟨⟨j0,j1,j2,j3,j4⟩,-⟩:=hq5 D.out;obtain ⟨X,ae,y⟩:∃ X,Hid (T.setCell ⟨w.heap.size+2,0,none⟩ (I4 6)=X)/\T.grownBy X (some (w.heap.size+2)):=⟨_,rfl,qAb T _ 0 _⟩
 have a8:Hid (Hp X (w.heap.size+2) 80 (actC 6 M.pc 0 0 0 0 0)):=by have h1:=ae.out;rw [<- h1];exact g.out.set 0 (I4 6)
 have a7:w.heap.size≠w.heap.size+2:=by omega
 have R:w.heap.size+1≠w.heap.size+2:=by omega
 have a9:b≠w.heap.size+2:=by omega
 have Q:rb≠w.heap.size+2:=by have:=h.rg.lt;omega
 have aw:=keepJ (f.out.grown y (show some w.heap.size≠some (w.heap.size+2) from fun e=>a7 (Option.some.inj e)))
 have am:b<X.heap.size:=by have:=y.size;omega
 have ak:rb<X.heap.size:=by have:=y.size;have:=h.rg.lt;omega
 have aq:w.heap.size+1<X.heap.size:=by have:=y.size;omega
 have G:X.cell? ⟨b,5,none⟩=some (.slice (some ⟨rb,0,none⟩) 8 8)/\X.cell? ⟨rb,q,none⟩=some (U8 n)/\X.cell? ⟨w.heap.size+1,2,none⟩=some (I4 q):=by
  have r1:=(show T.cell? ⟨b,5,none⟩=_/\Hp T rb 26 (nums M.regs) from ⟨E.out.st.cell h.c5,E.out.rg⟩).2.cell (qBy (r:=q) (show q<M.regs.length by rw [h.wr.1];exact hq));rw [ap.out] at r1;exact ⟨(qAh y (by omega) a9).trans (show T.cell? ⟨b,5,none⟩=_/\Hp T rb 26 (nums M.regs) from ⟨E.out.st.cell h.c5,E.out.rg⟩).1,(qAh y (by have:=h.rg.lt;omega) Q).trans r1,(qAh y (by omega) R).trans (D.out.cell rfl)⟩
 have ac:(X.setCell ⟨w.heap.size+2,6,none⟩ (U8 n)).cell? ⟨b,5,none⟩=some (.slice (some ⟨rb,0,none⟩) 8 8)/\(X.setCell ⟨w.heap.size+2,6,none⟩ (U8 n)).cell? ⟨rb,q,none⟩=some (U8 n)/\(X.setCell ⟨w.heap.size+2,6,none⟩ (U8 n)).cell? ⟨w.heap.size+1,2,none⟩=some (I4 q) :=
  ⟨(qAh (qAb X (w.heap.size+2) 6 _) am a9).trans G.1,(qAh (qAb X (w.heap.size+2) 6 _) ak Q).trans G.2.1,(qAh (qAb X (w.heap.size+2) 6 _) aq R).trans G.2.2⟩
 have x6:=a8.out.cell (j:=6) rfl;have y6:=a8.out.frozen 6
 go_wp2_with (first
  | rw [HT.out]
  | (rw [ae.out];clear e0 e1 e2 e3 e4 e5 e6))
 go_region_held3 (fun s=>s.cell? ⟨b,5,none⟩=some (.slice (some ⟨rb,0,none⟩) 8 8)/\s.cell? ⟨rb,q,none⟩=some (U8 n)/\s.cell? ⟨w.heap.size+1,2,none⟩=some (I4 q))
  (first|with_reducible exact G|exact ac|exact G)
  (fail)
 obtain ⟨N,P,aa⟩:∃ N,Hid (X.setCell ⟨w.heap.size+2,6,none⟩ (U8 n)=N)/\X.grownBy N (some (w.heap.size+2)):=⟨_,rfl,qAb X _ 6 _⟩
 have B:Hid (Hp N (w.heap.size+2) 80 (actC 6 M.pc 0 0 0 0 n)):=by have h1:=P.out;rw [<- h1];exact a8.out.set 6 (U8 n)
 have c:=keepJ (aw.out.grown aa (show some w.heap.size≠some (w.heap.size+2) from fun e=>a7 (Option.some.inj e)))
 try rw [P.out]
 (have a0:=B.out.cell (j:=0) rfl)
 (have a1:=B.out.cell (j:=1) rfl)
 (have a2:=B.out.cell (j:=2) rfl)
 (have a3:=B.out.cell (j:=3) rfl)
 (have a4:=B.out.cell (j:=4) rfl)
 (have a5:=B.out.cell (j:=5) rfl)
 (have a6:=B.out.cell (j:=6) rfl)
 (have b0:=c.out.cell (j:=0) rfl)
 (have b1:=c.out.cell (j:=1) rfl)
 (have b2:=c.out.cell (j:=2) rfl)
 (have b3:=c.out.cell (j:=3) rfl)
 (have b4:=c.out.cell (j:=4) rfl)
 (have b5:=c.out.cell (j:=5) rfl)
 (have b6:=c.out.cell (j:=6) rfl)
 (have q0:=c.out.frozen 0)
 (have q1:=c.out.frozen 1)
 (have q2:=c.out.frozen 2)
 (have q3:=c.out.frozen 3)
 (have q4:=c.out.frozen 4)
 (have q5:=c.out.frozen 5)
 (have q6:=c.out.frozen 6)
 clear G ac x6 y6
 go_wp2_with (rw [P.out])
 have hO:=c.out.sets (actC 6 M.pc 0 0 0 0 n) 0;rw [qAr (actC 6 M.pc 0 0 0 0 n) (actC 0 0 0 0 0 0 0) rfl] at hO;have hG:=qAd w.heap.size (actC 6 M.pc 0 0 0 0 n) N 0;have ab:Bw w X:=ad.trans (qAg y (by omega) ad.size);have ai:Bw w N:=ab.trans (qAg aa (by omega) ab.size);exact qBv rfl rfl hO.drew.drew ⟨rfl,qAj (qAj (ai.trans (qAg hG (Nat.le_refl _) ai.size)))⟩
theorem dstep_exit {b rb tb:Nat}{cs:List Value}{M:Mc}{o s L:Nat}{xs:List In}(w:World)(h:Rdm w b rb tb cs M)(bo:cs[1]? = some (.slice (some ⟨o,s,none⟩) xs.length L))(hx:SeesI w (.slice (some ⟨o,s,none⟩) xs.length L) xs)(hp:M.pc<xs.length){m:Nat}(am:cs[9]? = some (I4 m)){op d a E l:Int}(HI:Hid (nth xs M.pc=⟨op,d,a,E,l⟩))(hm:m=0)(bk:cs[8]? = some (I4 M.steps))(c8:M.steps<=1000)(ho:op=22)(ha:0<=a/\a<=7){n:Int}(hn:Hid (regV M.regs a=n)) :
  Cl 19 #[.pointer (some ⟨b,0,none⟩)] w fun e y=>e=.returned (actV 4 M.pc 0 0 0 0 n)/\Chg w y (fun k=>k=b)/\Hp y b 73 ((cs.set 8 (I4 ((M.steps+1:Nat):Int))).set 9 (I4 2)):=by
 subst hm
 have c6:(op==21)=false:=by simp;omega
 have bz:(op==22)=true:=by simp [ho]
 clear ho;obtain ⟨q,rfl⟩:=Int.eq_ofNat_of_zero_le ha.1
 have hq:q<8:=by omega
 have c4:(q:Int)<8:=by omega
 have bd:Hid (M.regs.getD q 0=n):=hn.out
 have bs:(M.steps:Int)<=1000:=by omega
 have br:b≠rb:=qBi h.st h.rg (by decide);have c0:=h.st.lt
 have bx:(M.pc:Int)<xs.length:=by omega
 have bu:(M.pc:Int)<=100:=by have:=h.pc;omega
 obtain ⟨ao,bg,c2,bw⟩:=codeL hx hp;rw [HI.out] at ao;obtain ⟨k0,k1,k2,k3,k4⟩:=ao;simp only at k0 k1 k2 k3 k4;have HX:=keepJ hx;clear hx;obtain ⟨V,HV,c1,bn,a7,ae⟩:∃ V,Hid (w.alloc (.cells #[I4 0,I4 0,I4 0,I4 0,U8 0,U8 0,U8 0] 80)=V)/\Hid (Rdm V b rb tb cs M)/\Hid (Hp V w.heap.size 80 (actC 0 0 0 0 0 0 0))/\Bw w V/\V.heap.size=w.heap.size+1 :=
  ⟨_,rfl,h.below ((Below.refl _ _).alloc (Nat.le_refl _) _),Hp.new w _ _,(Below.refl _ _).alloc (Nat.le_refl _) _,by simp⟩
 have a8:Hid (∀ D:World,Bw V D->D.cell? ⟨b,1,none⟩=some (.slice (some ⟨o,s,none⟩) xs.length L)/\D.cell? ⟨b,7,none⟩=some (I4 M.pc)/\D.cell? ⟨o,s+M.pc*5,none⟩=some (I4 op)/\D.cell? ⟨o,s+M.pc*5+1,none⟩=some (I4 d)/\D.cell? ⟨o,s+M.pc*5+2,none⟩=some (I4 q)/\D.cell? ⟨o,s+M.pc*5+3,none⟩=some (I4 E)/\D.cell? ⟨o,s+M.pc*5+4,none⟩=some (I4 l)):=fun D hb=>by
  have O:Bw w D:=a7.trans (hb.mono a7.size)
  have cc:∀ {j:Nat} {u:Value},w.cell? ⟨o,j,none⟩=some u->D.cell? ⟨o,j,none⟩=some u:=fun {j u} e=>(O.cell (p:=⟨o,j,none⟩) bg).trans e
  exact ⟨(h.below O).st.cell bo,(h.below O).st.cell h.c7,cc k0,cc k1,cc k2,cc k3,cc k4⟩
 clear k0 k1 k2 k3 k4;go_enter Tryz.func19,Tryz.ntmps19;go_wp2;rw [HV.out];refine wp_region_held_drew (S:=fun y=>y.cell? ⟨b,1,none⟩=some (.slice (some ⟨o,s,none⟩) xs.length L)/\y.cell? ⟨b,7,none⟩=some (I4 M.pc)/\y.cell? ⟨o,s+M.pc*5,none⟩=some (I4 op)/\y.cell? ⟨o,s+M.pc*5+1,none⟩=some (I4 d)/\y.cell? ⟨o,s+M.pc*5+2,none⟩=some (I4 q)/\y.cell? ⟨o,s+M.pc*5+3,none⟩=some (I4 E)/\y.cell? ⟨o,s+M.pc*5+4,none⟩=some (I4 l)) (by kernel_rfl) (a8.out _ (qAj (Below.refl _ _))) (fun hHeld=>?_);refine tkGo [0,1,2,3,4,5,6,7,8,9,10] ?_
 repeat (refine tkO (v:=?_) rfl ?_ ?_;rotate_left;(intro wy hSw;(try dsimp only at hSw);go_simp;(first|done|with_reducible rfl));try simp only [Act.put,p1q,p2q,p3q,p4q,p5q,p6q])
 refine tkEnd ?_;refine runO 11 (by kernel_rfl) rfl (by rfl) (fun KK hK=>?_);go_simp;obtain ⟨Y,HY,P,az,i,bj⟩:∃ Y,Hid (V.alloc (.cells #[I4 0,I4 0,I4 0,I4 0,I4 0] 43)=Y)/\Bw V Y/\Hid (Hp Y w.heap.size 80 (actC 0 0 0 0 0 0 0))/\Hid (Hp Y (w.heap.size+1) 43 [I4 0,I4 0,I4 0,I4 0,I4 0])/\Y.heap.size=w.heap.size+2 :=
  ⟨_,rfl,(Below.refl _ _).alloc (Nat.le_refl _) _,bn.out.alloc _,by have:=Hp.new V [I4 0,I4 0,I4 0,I4 0,I4 0] 43;rw [ae] at this;exact this,by simp [ae]⟩
 try rw [ae]
 rw [HY.out];refine hK.out _ _ (a8.out _ (qAj P)) (fun hHeld=>?_);clear hK KK
 try simp only [Act.put,p1q,p2q,p3q,p4q,p5q,p6q]
 obtain ⟨⟨a0,a1,a2,a3,a4⟩,q0,q1,q2,q3,q4⟩:=hq5 i.out;refine runO 12 (by kernel_rfl) rfl (by rfl) (fun KK hK=>?_);go_simp
 obtain ⟨U,HU,bh,ba,bq,J,aq⟩:∃ U,Hid (((((Y.setCell ⟨w.heap.size+1,0,none⟩ (I4 op)).setCell ⟨w.heap.size+1,1,none⟩ (I4 d)).setCell ⟨w.heap.size+1,2,none⟩ (I4 q)).setCell ⟨w.heap.size+1,3,none⟩ (I4 E)).setCell ⟨w.heap.size+1,4,none⟩ (I4 l)=U)/\Bw w U/\Hid (Rdm U b rb tb cs M)/\Hid (Hp U w.heap.size 80 (actC 0 0 0 0 0 0 0))/\Hid (Hp U (w.heap.size+1) 43 [I4 op,I4 d,I4 q,I4 E,I4 l])/\U.heap.size=w.heap.size+2:=by
  have hg:=qAd (w.heap.size+1) [I4 op,I4 d,I4 q,I4 E,I4 l] Y 0;have O:Bw V (Y.setCells (w.heap.size+1) 0 [I4 op,I4 d,I4 q,I4 E,I4 l]):=P.trans (qAg hg (by omega) P.size);have ap:Bw w (Y.setCells (w.heap.size+1) 0 [I4 op,I4 d,I4 q,I4 E,I4 l]):=a7.trans (O.mono a7.size);exact ⟨_,rfl,ap,h.below ap,az.out.grown hg (fun e=>by have:=Option.some.inj e;omega),i.out.sets [I4 op,I4 d,I4 q,I4 E,I4 l] 0,by simp [World.setCell,bj]⟩
 have ar:Bw V U:=by have h1:=HU.out;rw [<- h1];exact P.trans (qAg (qAd (w.heap.size+1) [I4 op,I4 d,I4 q,I4 E,I4 l] Y 0) (by omega) P.size)
 rw [HU.out];refine hK.out _ _ (a8.out _ (qAj ar)) (fun hHeld=>?_);clear hK KK
 try simp only [Act.put,p1q,p2q,p3q,p4q,p5q,p6q]
 refine wpAnyH_done (by kernel_rfl) ?_ _;clear a0 a1 a2 a3 a4 q0 q1 q2 q3 q4 hHeld;obtain ⟨⟨i0,i1,i2,i3,i4⟩,-⟩:=hq5 J.out
 obtain ⟨T,HT,bi,I,f,G,g,c3⟩:∃ T,Hid (U.alloc (.cells #[I4 1,I4 M.pc,I4 0,I4 0,U8 0,U8 0,U8 0] 80)=T)/\Bw w T/\Hid (Rdm T b rb tb cs M)/\Hid (Hp T w.heap.size 80 (actC 0 0 0 0 0 0 0))/\Hid (Hp T (w.heap.size+1) 43 [I4 op,I4 d,I4 q,I4 E,I4 l])/\Hid (Hp T (w.heap.size+2) 80 (actC 1 M.pc 0 0 0 0 0))/\T.heap.size=w.heap.size+3:=by
  have O:=bh.alloc (by omega) (.cells #[I4 1,I4 M.pc,I4 0,I4 0,U8 0,U8 0,U8 0] 80);have hN:=Hp.new U (actC 1 M.pc 0 0 0 0 0) 80;rw [aq] at hN;exact ⟨_,rfl,O,h.below O,bq.out.alloc _,J.out.alloc _,hN,by simp [aq]⟩
 have u7:=ba.out.st.cell h.c7;have t7:=I.out.st.cell h.c7;have t9:=I.out.st.cell am;obtain ⟨⟨o0,o1,o2,o3,o4,o5,o6⟩,p0,p1,p2,p3,p4,p5,p6⟩:=hq7 f.out;obtain ⟨⟨e0,e1,e2,e3,e4,e5,e6⟩,g0,g1,g2,g3,g4,g5,g6⟩:=hq7 g.out;obtain ⟨⟨j0,j1,j2,j3,j4⟩,-⟩:=hq5 G.out;have t8:=I.out.st.cell bk;have f8:=I.out.st.frozen 8
 have b9:(cs.set 8 (I4 ((M.steps:Int)+1)))[9]? = some (I4 (0:Nat)):=by rw [List.getElem?_set_ne (by omega)];exact am
 obtain ⟨R,bp,Q,au⟩:∃ R,Hid (T.setCell ⟨b,8,none⟩ (I4 ((M.steps:Int)+1))=R)/\Hid (Hp R b 73 (cs.set 8 (I4 ((M.steps:Int)+1))))/\T.grownBy R (some b):=⟨_,rfl,I.out.st.set 8 _,qAb T b 8 _⟩;have v9:=Q.out.cell b9;have f9:=Q.out.frozen 9;obtain ⟨B,bc,ah,aw⟩:∃ B,Hid (R.setCell ⟨b,9,none⟩ (I4 2)=B)/\Hid (Hp B b 73 ((cs.set 8 (I4 ((M.steps:Int)+1))).set 9 (I4 2)))/\R.grownBy B (some b):=⟨_,rfl,Q.out.set 9 _,qAb R b 9 _⟩;have A:=qBb au aw;have bt:=A.size
 have ac:some w.heap.size≠some b:=fun e=>by have:=Option.some.inj e;omega
 have ax:some (w.heap.size+1)≠some b:=fun e=>by have:=Option.some.inj e;omega
 have av:some (w.heap.size+2)≠some b:=fun e=>by have:=Option.some.inj e;omega
 have bl:=keepJ (f.out.grown A ac);have ay:=keepJ (G.out.grown A ax);have ab:=keepJ (g.out.grown A av);have al:=keepJ (I.out.rg.grown A (show some rb≠some b from fun e=>br (Option.some.inj e).symm));have aj:B.cell? ⟨b,5,none⟩=some (.slice (some ⟨rb,0,none⟩) 8 8):=ah.out.cell (by rw [List.getElem?_set_ne (by omega),List.getElem?_set_ne (by omega)];exact h.c5);have z0:=ab.out.cell (j:=0) rfl;have c9:=ab.out.frozen 0;obtain ⟨X,ak,z⟩:∃ X,Hid (B.setCell ⟨w.heap.size+2,0,none⟩ (I4 4)=X)/\B.grownBy X (some (w.heap.size+2)):=⟨_,rfl,qAb B _ 0 _⟩
 have ag:Hid (Hp X (w.heap.size+2) 80 (actC 4 M.pc 0 0 0 0 0)):=by have h1:=ak.out;rw [<- h1];exact ab.out.set 0 (I4 4)
 have af:w.heap.size≠w.heap.size+2:=by omega
 have ad:w.heap.size+1≠w.heap.size+2:=by omega
 have N:b≠w.heap.size+2:=by omega
 have aa:rb≠w.heap.size+2:=by have:=h.rg.lt;omega
 have bm:=keepJ (bl.out.grown z (show some w.heap.size≠some (w.heap.size+2) from fun e=>af (Option.some.inj e)))
 have b8:b<X.heap.size:=by have:=z.size;omega
 have b7:rb<X.heap.size:=by have:=z.size;have:=h.rg.lt;omega
 have bf:w.heap.size+1<X.heap.size:=by have:=z.size;omega
 have K:X.cell? ⟨b,5,none⟩=some (.slice (some ⟨rb,0,none⟩) 8 8)/\X.cell? ⟨rb,q,none⟩=some (U8 n)/\X.cell? ⟨w.heap.size+1,2,none⟩=some (I4 q):=by
  have r1:=(show B.cell? ⟨b,5,none⟩=_/\Hp B rb 26 (nums M.regs) from ⟨aj,al.out⟩).2.cell (qBy (r:=q) (show q<M.regs.length by rw [h.wr.1];exact hq));rw [bd.out] at r1;exact ⟨(qAh z (by omega) N).trans (show B.cell? ⟨b,5,none⟩=_/\Hp B rb 26 (nums M.regs) from ⟨aj,al.out⟩).1,(qAh z (by have:=h.rg.lt;omega) aa).trans r1,(qAh z (by omega) ad).trans (ay.out.cell rfl)⟩
 have ai:(X.setCell ⟨w.heap.size+2,6,none⟩ (U8 n)).cell? ⟨b,5,none⟩=some (.slice (some ⟨rb,0,none⟩) 8 8)/\(X.setCell ⟨w.heap.size+2,6,none⟩ (U8 n)).cell? ⟨rb,q,none⟩=some (U8 n)/\(X.setCell ⟨w.heap.size+2,6,none⟩ (U8 n)).cell? ⟨w.heap.size+1,2,none⟩=some (I4 q) :=
  ⟨(qAh (qAb X (w.heap.size+2) 6 _) b8 N).trans K.1,(qAh (qAb X (w.heap.size+2) 6 _) b7 aa).trans K.2.1,(qAh (qAb X (w.heap.size+2) 6 _) bf ad).trans K.2.2⟩
 have x6:=ag.out.cell (j:=6) rfl;have y6:=ag.out.frozen 6
 go_wp2_with (first
  | rw [HT.out]
  | rw [bp.out]
  | rw [bc.out]
  | (rw [ak.out];clear e0 e1 e2 e3 e4 e5 e6))
 go_region_held3 (fun y=>y.cell? ⟨b,5,none⟩=some (.slice (some ⟨rb,0,none⟩) 8 8)/\y.cell? ⟨rb,q,none⟩=some (U8 n)/\y.cell? ⟨w.heap.size+1,2,none⟩=some (I4 q))
  (first|with_reducible exact K|exact ai|exact K)
  (fail)
 obtain ⟨X2,a9,Z⟩:∃ X2,Hid (X.setCell ⟨w.heap.size+2,6,none⟩ (U8 n)=X2)/\X.grownBy X2 (some (w.heap.size+2)):=⟨_,rfl,qAb X _ 6 _⟩
 have F:Hid (Hp X2 (w.heap.size+2) 80 (actC 4 M.pc 0 0 0 0 n)):=by have h1:=a9.out;rw [<- h1];exact ag.out.set 6 (U8 n)
 have c:=keepJ (bm.out.grown Z (show some w.heap.size≠some (w.heap.size+2) from fun e=>af (Option.some.inj e)))
 try rw [a9.out]
 (have a0:=F.out.cell (j:=0) rfl)
 (have a1:=F.out.cell (j:=1) rfl)
 (have a2:=F.out.cell (j:=2) rfl)
 (have a3:=F.out.cell (j:=3) rfl)
 (have a4:=F.out.cell (j:=4) rfl)
 (have a5:=F.out.cell (j:=5) rfl)
 (have a6:=F.out.cell (j:=6) rfl)
 (have b0:=c.out.cell (j:=0) rfl)
 (have b1:=c.out.cell (j:=1) rfl)
 (have b2:=c.out.cell (j:=2) rfl)
 (have b3:=c.out.cell (j:=3) rfl)
 (have b4:=c.out.cell (j:=4) rfl)
 (have b5:=c.out.cell (j:=5) rfl)
 (have b6:=c.out.cell (j:=6) rfl)
 (have q0:=c.out.frozen 0)
 (have q1:=c.out.frozen 1)
 (have q2:=c.out.frozen 2)
 (have q3:=c.out.frozen 3)
 (have q4:=c.out.frozen 4)
 (have q5:=c.out.frozen 5)
 (have q6:=c.out.frozen 6)
 clear K ai x6 y6
 go_wp2_with (rw [a9.out])
 have hO:=c.out.sets (actC 4 M.pc 0 0 0 0 n) 0;rw [qAr (actC 4 M.pc 0 0 0 0 n) (actC 0 0 0 0 0 0 0) rfl] at hO;have hG:=qAd w.heap.size (actC 4 M.pc 0 0 0 0 n) X2 0;have hC:Chg w X2 (fun k=>k=b):=(((Chg.of_below (S:=fun k=>k=b) bi).trans (Chg.of_grown (S:=fun k=>k=b) A rfl) (fun _ _ e=>e)).trans (Chg.of_grown (S:=fun k=>k=w.heap.size+2) z rfl) (fun k hk e=>by omega)).trans (Chg.of_grown (S:=fun k=>k=w.heap.size+2) Z rfl) (fun k hk e=>by omega);have be:=((ah.out.grown z (show some b≠some (w.heap.size+2) from fun e=>N (Option.some.inj e))).grown Z (show some b≠some (w.heap.size+2) from fun e=>N (Option.some.inj e))).grown hG (show some b≠some w.heap.size from fun e=>ac e.symm);exact qBv rfl rfl hO.drew.drew ⟨rfl,(hC.trans (Chg.of_grown (S:=fun k=>k=w.heap.size) hG rfl) (fun k hk e=>by omega)).drewE.drewE,be.drew.drew⟩
theorem dstep_call {b rb tb:Nat}{cs:List Value}{M:Mc}{n r F:Nat}{xs:List In}(w:World)(h:Rdm w b rb tb cs M)(ay:cs[1]? = some (.slice (some ⟨n,r,none⟩) xs.length F))(hx:SeesI w (.slice (some ⟨n,r,none⟩) xs.length F) xs)(hp:M.pc<xs.length){m:Nat}(ax:cs[9]? = some (I4 m)){op d a y i:Int}(HI:Hid (nth xs M.pc=⟨op,d,a,y,i⟩))(hm:m=0)(ar:cs[8]? = some (I4 M.steps))(bl:M.steps<=1000)(ho:op=21){ak apc am ao aq av an:Int}{S:Nat->Prop}{Q:World->Prop}(hS:∀ k,S k->k<w.heap.size)(HC:Hid (∀ U:World,Rdm U b rb tb (cs.set 8 (I4 ((M.steps:Int)+1))) { M with steps:=M.steps+1 }->Chg w U (fun k=>k=b)->w.heap.size<U.heap.size->Cl 37 #[.pointer (some ⟨b,0,none⟩),instV op d a y i,actV 1 M.pc 0 0 0 0 0] U fun e s=>e=.returned (actV ak apc am ao aq av an)/\Chg U s S/\Q s)) :
  Cl 19 #[.pointer (some ⟨b,0,none⟩)] w fun e s=>e=.returned (actV ak apc am ao aq av an)/\Chg w s (fun k=>k=b∨S k)/\∃ L,Q L/\L.grownBy s (some w.heap.size):=by
 subst hm
 have bk:(op==21)=true:=by simp [ho]
 clear ho
 have ba:(M.steps:Int)<=1000:=by omega
 have bf:=h.st.lt
 have be:(M.pc:Int)<xs.length:=by omega
 have bc:(M.pc:Int)<=100:=by have:=h.pc;omega
 obtain ⟨a5,ag,bh,bd⟩:=codeL hx hp;rw [HI.out] at a5;obtain ⟨k0,k1,k2,k3,k4⟩:=a5;simp only at k0 k1 k2 k3 k4;have HX:=keepJ hx;clear hx;obtain ⟨V,HV,bg,aw,K,P⟩:∃ V,Hid (w.alloc (.cells #[I4 0,I4 0,I4 0,I4 0,U8 0,U8 0,U8 0] 80)=V)/\Hid (Rdm V b rb tb cs M)/\Hid (Hp V w.heap.size 80 (actC 0 0 0 0 0 0 0))/\Bw w V/\V.heap.size=w.heap.size+1 :=
  ⟨_,rfl,h.below ((Below.refl _ _).alloc (Nat.le_refl _) _),Hp.new w _ _,(Below.refl _ _).alloc (Nat.le_refl _) _,by simp⟩
 have O:Hid (∀ z:World,Bw V z->z.cell? ⟨b,1,none⟩=some (.slice (some ⟨n,r,none⟩) xs.length F)/\z.cell? ⟨b,7,none⟩=some (I4 M.pc)/\z.cell? ⟨n,r+M.pc*5,none⟩=some (I4 op)/\z.cell? ⟨n,r+M.pc*5+1,none⟩=some (I4 d)/\z.cell? ⟨n,r+M.pc*5+2,none⟩=some (I4 a)/\z.cell? ⟨n,r+M.pc*5+3,none⟩=some (I4 y)/\z.cell? ⟨n,r+M.pc*5+4,none⟩=some (I4 i)):=fun z hb=>by
  have I:Bw w z:=K.trans (hb.mono K.size)
  have R:∀ {j:Nat} {u:Value},w.cell? ⟨n,j,none⟩=some u->z.cell? ⟨n,j,none⟩=some u:=fun {j u} e=>(I.cell (p:=⟨n,j,none⟩) ag).trans e
  exact ⟨(h.below I).st.cell ay,(h.below I).st.cell h.c7,R k0,R k1,R k2,R k3,R k4⟩
 clear k0 k1 k2 k3 k4;go_enter Tryz.func19,Tryz.ntmps19;go_wp2;rw [HV.out];refine wp_region_held_drew (S:=fun s=>s.cell? ⟨b,1,none⟩=some (.slice (some ⟨n,r,none⟩) xs.length F)/\s.cell? ⟨b,7,none⟩=some (I4 M.pc)/\s.cell? ⟨n,r+M.pc*5,none⟩=some (I4 op)/\s.cell? ⟨n,r+M.pc*5+1,none⟩=some (I4 d)/\s.cell? ⟨n,r+M.pc*5+2,none⟩=some (I4 a)/\s.cell? ⟨n,r+M.pc*5+3,none⟩=some (I4 y)/\s.cell? ⟨n,r+M.pc*5+4,none⟩=some (I4 i)) (by kernel_rfl) (O.out _ (qAj (Below.refl _ _))) (fun hHeld=>?_);refine tkGo [0,1,2,3,4,5,6,7,8,9,10] ?_
 repeat (refine tkO (v:=?_) rfl ?_ ?_;rotate_left;(intro wy hSw;(try dsimp only at hSw);go_simp;(first|done|with_reducible rfl));try simp only [Act.put,p1q,p2q,p3q,p4q,p5q,p6q])
 refine tkEnd ?_;refine runO 11 (by kernel_rfl) rfl (by rfl) (fun KK hK=>?_);go_simp;obtain ⟨Y,HY,J,ad,l,ap⟩:∃ Y,Hid (V.alloc (.cells #[I4 0,I4 0,I4 0,I4 0,I4 0] 43)=Y)/\Bw V Y/\Hid (Hp Y w.heap.size 80 (actC 0 0 0 0 0 0 0))/\Hid (Hp Y (w.heap.size+1) 43 [I4 0,I4 0,I4 0,I4 0,I4 0])/\Y.heap.size=w.heap.size+2 :=
  ⟨_,rfl,(Below.refl _ _).alloc (Nat.le_refl _) _,aw.out.alloc _,by have:=Hp.new V [I4 0,I4 0,I4 0,I4 0,I4 0] 43;rw [P] at this;exact this,by simp [P]⟩
 try rw [P]
 rw [HY.out];refine hK.out _ _ (O.out _ (qAj J)) (fun hHeld=>?_);clear hK KK
 try simp only [Act.put,p1q,p2q,p3q,p4q,p5q,p6q]
 obtain ⟨⟨a0,a1,a2,a3,a4⟩,q0,q1,q2,q3,q4⟩:=hq5 l.out;refine runO 12 (by kernel_rfl) rfl (by rfl) (fun KK hK=>?_);go_simp
 obtain ⟨U,HU,ai,ae,b7,E,a7⟩:∃ U,Hid (((((Y.setCell ⟨w.heap.size+1,0,none⟩ (I4 op)).setCell ⟨w.heap.size+1,1,none⟩ (I4 d)).setCell ⟨w.heap.size+1,2,none⟩ (I4 a)).setCell ⟨w.heap.size+1,3,none⟩ (I4 y)).setCell ⟨w.heap.size+1,4,none⟩ (I4 i)=U)/\Bw w U/\Hid (Rdm U b rb tb cs M)/\Hid (Hp U w.heap.size 80 (actC 0 0 0 0 0 0 0))/\Hid (Hp U (w.heap.size+1) 43 [I4 op,I4 d,I4 a,I4 y,I4 i])/\U.heap.size=w.heap.size+2:=by
  have hg:=qAd (w.heap.size+1) [I4 op,I4 d,I4 a,I4 y,I4 i] Y 0;have I:Bw V (Y.setCells (w.heap.size+1) 0 [I4 op,I4 d,I4 a,I4 y,I4 i]):=J.trans (qAg hg (by omega) J.size);have a6:Bw w (Y.setCells (w.heap.size+1) 0 [I4 op,I4 d,I4 a,I4 y,I4 i]):=K.trans (I.mono K.size);exact ⟨_,rfl,a6,h.below a6,ad.out.grown hg (fun e=>by have:=Option.some.inj e;omega),l.out.sets [I4 op,I4 d,I4 a,I4 y,I4 i] 0,by simp [World.setCell,ap]⟩
 have a8:Bw V U:=by have h1:=HU.out;rw [<- h1];exact J.trans (qAg (qAd (w.heap.size+1) [I4 op,I4 d,I4 a,I4 y,I4 i] Y 0) (by omega) J.size)
 rw [HU.out];refine hK.out _ _ (O.out _ (qAj a8)) (fun hHeld=>?_);clear hK KK
 try simp only [Act.put,p1q,p2q,p3q,p4q,p5q,p6q]
 refine wpAnyH_done (by kernel_rfl) ?_ _;clear a0 a1 a2 a3 a4 q0 q1 q2 q3 q4 hHeld;obtain ⟨⟨i0,i1,i2,i3,i4⟩,-⟩:=hq5 E.out
 obtain ⟨T,HT,aj,B,f,D,g,bj⟩:∃ T,Hid (U.alloc (.cells #[I4 1,I4 M.pc,I4 0,I4 0,U8 0,U8 0,U8 0] 80)=T)/\Bw w T/\Hid (Rdm T b rb tb cs M)/\Hid (Hp T w.heap.size 80 (actC 0 0 0 0 0 0 0))/\Hid (Hp T (w.heap.size+1) 43 [I4 op,I4 d,I4 a,I4 y,I4 i])/\Hid (Hp T (w.heap.size+2) 80 (actC 1 M.pc 0 0 0 0 0))/\T.heap.size=w.heap.size+3:=by
  have I:=ai.alloc (by omega) (.cells #[I4 1,I4 M.pc,I4 0,I4 0,U8 0,U8 0,U8 0] 80);have hN:=Hp.new U (actC 1 M.pc 0 0 0 0 0) 80;rw [a7] at hN;exact ⟨_,rfl,I,h.below I,b7.out.alloc _,E.out.alloc _,hN,by simp [a7]⟩
 have u7:=ae.out.st.cell h.c7;have t7:=B.out.st.cell h.c7;have t9:=B.out.st.cell ax;obtain ⟨⟨o0,o1,o2,o3,o4,o5,o6⟩,p0,p1,p2,p3,p4,p5,p6⟩:=hq7 f.out;obtain ⟨⟨e0,e1,e2,e3,e4,e5,e6⟩,g0,g1,g2,g3,g4,g5,g6⟩:=hq7 g.out;obtain ⟨⟨j0,j1,j2,j3,j4⟩,-⟩:=hq5 D.out;have t8:=B.out.st.cell ar;have f8:=B.out.st.frozen 8;obtain ⟨N,az,a9,o⟩:∃ N,Hid (T.setCell ⟨b,8,none⟩ (I4 ((M.steps:Int)+1))=N)/\Hid (Hp N b 73 (cs.set 8 (I4 ((M.steps:Int)+1))))/\T.grownBy N (some b):=⟨_,rfl,B.out.st.set 8 _,qAb T b 8 _⟩;have b9:b≠rb:=qBi h.st h.rg (by decide);have ah:b≠tb:=qBi h.st h.tn (by decide);have b8:Hid (Rdm N b rb tb (cs.set 8 (I4 ((M.steps:Int)+1))) { M with steps:=M.steps+1 }):=⟨a9.out,by rw [List.getElem?_set_ne (by omega)];exact h.c5,by rw [List.getElem?_set_ne (by omega)];exact h.c6,by rw [List.getElem?_set_ne (by omega)];exact h.c7,B.out.rg.grown o (show some rb≠some b from fun e=>b9 (Option.some.inj e).symm),B.out.tn.grown o (show some tb≠some b from fun e=>ah (Option.some.inj e).symm),h.wr,h.pc⟩;have bi:=o.size
 have aa:some w.heap.size≠some b:=fun e=>by have:=Option.some.inj e;omega
 have ac:some (w.heap.size+1)≠some b:=fun e=>by have:=Option.some.inj e;omega
 have ab:some (w.heap.size+2)≠some b:=fun e=>by have:=Option.some.inj e;omega
 have au:=keepJ (f.out.grown o aa);have G:=keepJ (D.out.grown o ac);have A:=keepJ (g.out.grown o ab);have X:=keepJ ((Chg.of_below (S:=fun k=>k=b) aj).trans (Chg.of_grown (S:=fun k=>k=b) o rfl) (fun _ _ e=>e));obtain ⟨⟨y0,y1,y2,y3,y4⟩,-⟩:=hq5 G.out;obtain ⟨⟨z0,z1,z2,z3,z4,z5,z6⟩,-⟩:=hq7 A.out
 go_wp2_with (first
  | rw [HT.out]
  | rw [az.out]
  | (go_at_call 37;go_must (refine (HC.out _ b8.out.drewE X.out.drewE (show w.heap.size<N.heap.size by omega)).mono ?_);rintro e L ⟨rfl,Z,al⟩;go_must (have c:=keepJ (au.out.drew.chg Z (fun e=>by have:=hS _ e;omega));obtain ⟨⟨b0,b1,b2,b3,b4,b5,b6⟩,q0,q1,q2,q3,q4,q5,q6⟩:=hq7 c.out;  skip)))
 have hO:=c.out.sets (actC ak apc am ao aq av an) 0;rw [qAr (actC ak apc am ao aq av an) (actC 0 0 0 0 0 0 0) rfl] at hO;have hG:=qAd w.heap.size (actC ak apc am ao aq av an) L 0;have af:Chg w L (fun k=>k=b∨S k):=(X.out.drewE.mono (fun _ e=>.inl e)).trans (T:=S) Z (fun _ _ e=>.inr e);exact qBv rfl rfl hO ⟨rfl,af.trans (Chg.of_grown hG (S:=fun k=>k=w.heap.size) rfl) (fun k hk e=>by omega),L,al,hG⟩
section
variable {b sb:Nat} {vm:Value} {ev:Int×Int} {M:Mc}
theorem lays_id {ev:Int×Int}{i:In}{M:Mc}(h:15<=i.op):laysE ev i M=(M.regs,M.ws):=by
 unfold laysE;rw [if_neg (by omega),if_neg (by omega),if_neg (by omega),if_neg (by omega),if_neg (by omega),if_neg (by omega)]
theorem next_lays {ev:Int×Int}{i:In}(a:i.right=true)(c:i.op<=20)(M:Mc):nextE i { M with regs:=(laysE ev i M).1,ws:=(laysE ev i M).2 }=nextE i M/\turnE i { M with regs:=(laysE ev i M).1,ws:=(laysE ev i M).2 }=turnE i M:=by
 by_cases h:15<=i.op
 ·rw [lays_id h];exact ⟨rfl,rfl⟩
 ·have b:i.leads=false:=by
   rcases qAp i with g|g|g|g
   ·rw [a] at g;cases g.1
   ·omega
   ·omega
   ·exact g.2.2.2.1
  refine ⟨?_,?_⟩
  ·unfold nextE;rw [b]
   rfl
  ·unfold turnE;rw [if_neg (by omega),if_neg (by omega)]
theorem mstep_ran {g l o:Nat}{xs:List In}(w:World)(h:Ma w b sb vm (.slice (some ⟨g,l,none⟩) xs.length o) ev M)(hx:SeesI w (.slice (some ⟨g,l,none⟩) xs.length o) xs)(hp:M.pc<xs.length)(hm:M.mode=0)(c1:M.steps<=1000)(aj:g≠b){op d a i c:Int}(HI:Hid (nth xs M.pc=⟨op,d,a,i,c⟩))(hr:(⟨op,d,a,i,c⟩:In).right=true)(ho:op<=20)(hs:Sc w sb M.ws M.cs)(K:b≠sb)(bg:W16 M.ws)(b6:(0<=ev.1/\ev.1<=18446744073709551615)/\0<=ev.2/\ev.2<=18446744073709551615)(hw:op=11∨op=12->0<=srcV ⟨op,d,a,i,c⟩ M.regs/\srcV ⟨op,d,a,i,c⟩ M.regs<=15)(ht:op=20->0<=M.turn M.pc/\M.turn M.pc<=255){p:Nat}(HP:Hid (nextE ⟨op,d,a,i,c⟩ M=(p:Int)))(au:p<64){R ws:List Int}(HL:Hid (laysE ev ⟨op,d,a,i,c⟩ M=(R,ws))){tn:Int->Int}(af:Hid (turnE ⟨op,d,a,i,c⟩ M=tn)) :
  Cl 18 #[.pointer (some ⟨b,0,none⟩)] w fun e z=>e=.returned (actV 1 M.pc 0 0 0 0 0)/\Chg w z (fun k=>k=b∨k=sb)/\Ma z b sb vm (.slice (some ⟨g,l,none⟩) xs.length o) ev { M with regs:=R,ws:=ws,turn:=tn,steps:=M.steps+1,pc:=p }/\Sc z sb ws M.cs:=by
 have h0:=qBp hr;simp only at h0
 have bx:(op==21)=false:=by simp;omega
 have bo:(op==22)=false:=by simp;omega
 have bu:=hs.lt;obtain ⟨N,Z⟩:∃ N:Mc,Hid ({ M with steps:=M.steps+1 }=N):=⟨_,rfl⟩
 have bi:Hid (nextE ⟨op,d,a,i,c⟩ { N with regs:=R,ws:=ws }=(p:Int)):=by
  show _=_
  have:=(next_lays (ev:=ev) hr ho N).1;rw [<- Z.out] at this ⊢;rw [<- HP.out];have e:laysE ev ⟨op,d,a,i,c⟩ { M with steps:=M.steps+1 }=(R,ws):=HL.out;rw [e] at this;exact this
 have am:Hid (turnE ⟨op,d,a,i,c⟩ { N with regs:=R,ws:=ws }=tn):=by
  show _=_
  have:=(next_lays (ev:=ev) hr ho N).2;rw [<- Z.out] at this ⊢;rw [<- af.out];have e:laysE ev ⟨op,d,a,i,c⟩ { M with steps:=M.steps+1 }=(R,ws):=HL.out;rw [e] at this;exact this
 have be:Hid (laysE ev ⟨op,d,a,i,c⟩ N=(R,ws)):=by show _=_;rw [<- Z.out];exact HL.out
 have r:Hid (N.ws=M.ws/\N.cs=M.cs/\N.regs=M.regs/\N.turn=M.turn/\N.pc=M.pc/\N.mode=M.mode/\N.steps=M.steps+1):=by rw [<- Z.out];exact ⟨rfl,rfl,rfl,rfl,rfl,rfl,rfl⟩
 clear HL af HP;have ap:=h.hp.lt
 have bn:(M.pc:Int)<xs.length:=by omega
 have bl:(M.pc:Int)<=100:=by have:=h.pc;omega
 have bk:(M.steps:Int)<=1000:=by omega
 obtain ⟨ah,aw,bp,bm⟩:=codeL hx hp;rw [HI.out] at ah;obtain ⟨k0,k1,k2,k3,k4⟩:=ah;simp only at k0 k1 k2 k3 k4;have HX:=keepJ hx;clear hx;have c9:=h.last.2.2;have c8:=h.last.2.1;have f8:=h.hp.frozen 78;rw [hm] at c9
 have az:w.heap.size≠b:=by omega
 obtain ⟨V,HV,D,b7,ad,a8⟩:∃ V,Hid ((w.setCell ⟨b,78,none⟩ (I4 ((M.steps:Int)+1))).alloc (.cells #[I4 0,I4 0,I4 0,I4 0,U8 0,U8 0,U8 0] 80)=V)/\Hid (Ma V b sb vm (.slice (some ⟨g,l,none⟩) xs.length o) ev { M with steps:=M.steps+1 })/\Hid (Hp V w.heap.size 80 (actC 0 0 0 0 0 0 0))/\Hid (Chg w V (fun k=>k=b))/\V.heap.size=w.heap.size+1:=by
  have hsz:(w.setCell ⟨b,78,none⟩ (I4 ((M.steps:Int)+1))).heap.size=w.heap.size:=by simp [World.setCell]
  have hB:=(Below.refl (w.setCell ⟨b,78,none⟩ (I4 ((M.steps:Int)+1))).heap.size (w.setCell ⟨b,78,none⟩ (I4 ((M.steps:Int)+1)))).alloc (Nat.le_refl _) (.cells #[I4 0,I4 0,I4 0,I4 0,U8 0,U8 0,U8 0] 80);have hN:=Hp.new (w.setCell ⟨b,78,none⟩ (I4 ((M.steps:Int)+1))) (actC 0 0 0 0 0 0 0) 80;rw [hsz] at hN;have hM:=h.setN (M.steps+1);rw [show ((M.steps+1:Nat):Int)=(M.steps:Int)+1 by omega] at hM;exact ⟨_,rfl,hM.below hB (by rw [hsz];exact ap),hN,(Chg.of_grown (S:=fun k=>k=b) (qAb w b 78 _) rfl).trans (Chg.of_below (S:=fun _=>False) hB) (fun _ _ e=>e.elim),by simp [hsz]⟩
 have P:Hid (∀ A:World,Bw V A->A.cell? ⟨b,3,none⟩=some (.slice (some ⟨g,l,none⟩) xs.length o)/\A.cell? ⟨b,77,none⟩=some (I4 M.pc)/\A.cell? ⟨g,l+M.pc*5,none⟩=some (I4 op)/\A.cell? ⟨g,l+M.pc*5+1,none⟩=some (I4 d)/\A.cell? ⟨g,l+M.pc*5+2,none⟩=some (I4 a)/\A.cell? ⟨g,l+M.pc*5+3,none⟩=some (I4 i)/\A.cell? ⟨g,l+M.pc*5+4,none⟩=some (I4 c)):=fun A hb=>by
  have cc:∀ {j:Nat} {u:Value},w.cell? ⟨g,j,none⟩=some u->A.cell? ⟨g,j,none⟩=some u:=fun {j u} e=>(hb.cell (p:=⟨g,j,none⟩) (show g<V.heap.size by omega)).trans ((ad.out.cellL aw aj).trans e)
  exact ⟨(D.out.below hb D.out.hp.lt).low.2.2.2.1,(D.out.below hb D.out.hp.lt).last.1,cc k0,cc k1,cc k2,cc k3,cc k4⟩
 clear k0 k1 k2 k3 k4;go_enter Tryz.func18,Tryz.ntmps18;go_wp2;rw [HV.out];refine wp_region_held_drew (S:=fun z=>z.cell? ⟨b,3,none⟩=some (.slice (some ⟨g,l,none⟩) xs.length o)/\z.cell? ⟨b,77,none⟩=some (I4 M.pc)/\z.cell? ⟨g,l+M.pc*5,none⟩=some (I4 op)/\z.cell? ⟨g,l+M.pc*5+1,none⟩=some (I4 d)/\z.cell? ⟨g,l+M.pc*5+2,none⟩=some (I4 a)/\z.cell? ⟨g,l+M.pc*5+3,none⟩=some (I4 i)/\z.cell? ⟨g,l+M.pc*5+4,none⟩=some (I4 c)) (by kernel_rfl) (P.out _ (qAj (Below.refl _ _))) (fun hHeld=>?_);refine tkGo [0,1,2,3,4,5,6,7,8,9] ?_
 repeat (refine tkO (v:=?_) rfl ?_ ?_;rotate_left;(intro wy hSw;(try dsimp only at hSw);go_simp;(first|done|with_reducible rfl));try simp only [Act.put,p1q,p2q,p3q,p4q,p5q,p6q])
 refine tkEnd ?_;refine runO 10 (by kernel_rfl) rfl (by rfl) (fun KK hK=>?_);go_simp;obtain ⟨Y,HY,a7,al,n,bw⟩:∃ Y,Hid (V.alloc (.cells #[I4 0,I4 0,I4 0,I4 0,I4 0] 43)=Y)/\Bw V Y/\Hid (Hp Y w.heap.size 80 (actC 0 0 0 0 0 0 0))/\Hid (Hp Y (w.heap.size+1) 43 [I4 0,I4 0,I4 0,I4 0,I4 0])/\Y.heap.size=w.heap.size+2 :=
  ⟨_,rfl,(Below.refl _ _).alloc (Nat.le_refl _) _,b7.out.alloc _,by have:=Hp.new V [I4 0,I4 0,I4 0,I4 0,I4 0] 43;rw [a8] at this;exact this,by simp [a8]⟩
 try rw [a8]
 rw [HY.out];refine hK.out _ _ (P.out _ (qAj a7)) (fun hHeld=>?_);clear hK KK
 try simp only [Act.put,p1q,p2q,p3q,p4q,p5q,p6q]
 obtain ⟨⟨a0,a1,a2,a3,a4⟩,q0,q1,q2,q3,q4⟩:=hq5 n.out;refine runO 11 (by kernel_rfl) rfl (by rfl) (fun KK hK=>?_);go_simp
 obtain ⟨U,HU,ae,J,ai,s,c0⟩:∃ U,Hid (((((Y.setCell ⟨w.heap.size+1,0,none⟩ (I4 op)).setCell ⟨w.heap.size+1,1,none⟩ (I4 d)).setCell ⟨w.heap.size+1,2,none⟩ (I4 a)).setCell ⟨w.heap.size+1,3,none⟩ (I4 i)).setCell ⟨w.heap.size+1,4,none⟩ (I4 c)=U)/\Bw V U/\Hid (Ma U b sb vm (.slice (some ⟨g,l,none⟩) xs.length o) ev { M with steps:=M.steps+1 })/\Hid (Hp U w.heap.size 80 (actC 0 0 0 0 0 0 0))/\Hid (Hp U (w.heap.size+1) 43 [I4 op,I4 d,I4 a,I4 i,I4 c])/\w.heap.size+2<=U.heap.size:=by
  have hg:=qAd (w.heap.size+1) [I4 op,I4 d,I4 a,I4 i,I4 c] Y 0;have hB:Bw V (Y.setCells (w.heap.size+1) 0 [I4 op,I4 d,I4 a,I4 i,I4 c]):=a7.trans (qAg hg (by omega) a7.size);exact ⟨_,rfl,hB,D.out.below hB D.out.hp.lt,al.out.grown hg (fun e=>by have:=Option.some.inj e;omega),n.out.sets [I4 op,I4 d,I4 a,I4 i,I4 c] 0,by have:=hg.size;show w.heap.size+2<=(Y.setCells (w.heap.size+1) 0 [I4 op,I4 d,I4 a,I4 i,I4 c]).heap.size;omega⟩
 rw [HU.out];refine hK.out _ _ (P.out _ (qAj ae)) (fun hHeld=>?_);clear hK KK
 try simp only [Act.put,p1q,p2q,p3q,p4q,p5q,p6q]
 refine wpAnyH_done (by kernel_rfl) ?_ _;clear a0 a1 a2 a3 a4 q0 q1 q2 q3 q4 hHeld;have ag:=keepJ (ad.out.trans (Chg.of_below (S:=fun _=>False) ae) (fun _ _ e=>e.elim));obtain ⟨⟨i0,i1,i2,i3,i4⟩,-⟩:=hq5 s.out;have ac:=keepJ (hs.chg ag.out (fun e=>K e.symm));rw [Z.out] at J;have ak:=J.out.hp.lt
 have b4:w.heap.size≠sb:=by omega
 have bt:w.heap.size+1≠b:=by omega
 have c2:w.heap.size+1≠sb:=by omega
 go_wp2_with (first
  | (go_at_call 32;go_must (refine (mtold_any 1 0 U.drew J.out.drew).mono ?_);rintro e w4 ⟨rfl,Q⟩;go_must (have E:Bw U w4:=qAf Q;have bs:=E.size;obtain ⟨T,HT,ar,bf,b9,aa,bq⟩:=boxA (J.out.below E ak) (ai.out.below E ai.out.lt) 1 N.pc 0 0 0 0 0;have bj:=keepJ ((ac.out.below E ac.out.lt).below aa (by have:=ac.out.lt;omega));have B:=keepJ ((s.out.below E s.out.lt).below aa (by have:=s.out.lt;omega));have bh:=keepJ ((ag.out.trans (Chg.of_below (S:=fun _=>False) E) (fun _ _ e=>e.elim)).trans (Chg.of_below (S:=fun _=>False) aa) (fun _ _ e=>e.elim));obtain ⟨⟨j0,j1,j2,j3,j4⟩,-⟩:=hq5 B.out;  clear Q))
  | rw [HT.out]
  | (go_at_call 35;go_must (refine (mdo_all ⟨op,d,a,i,c⟩ hr ho T ar.out (by rw [r.out.1,r.out.2.1];exact bj.out) K (by rw [r.out.1];exact bg) b6 (by rw [r.out.2.2.1];exact hw)).mono ?_);rintro e w5 ⟨rfl,I,a9,ab⟩;go_must (rw [be.out] at a9 ab;have br:=I.size;have ax:=keepJ a9;have bc:=keepJ ab;have ay:=keepJ (bf.out.chg I (fun e=>by omega));have b5:=keepJ (b9.out.chg I (fun e=>by omega));have F:=keepJ (B.out.chg I (fun e=>by omega));obtain ⟨⟨l0,l1,l2,l3,l4⟩,-⟩:=hq5 F.out;  clear a9 ab))
  | (go_at_call 36;go_must (refine (mnext_all ⟨op,d,a,i,c⟩ hr ho w5 ax.out (fun e=>by show 0<=N.turn N.pc/\N.turn N.pc<=255;rw [r.out.2.2.2.1,r.out.2.2.2.2.1];exact ht e) bi).mono ?_);rintro e w6 ⟨rfl,G,L⟩;go_must (rw [am.out] at L;have bz:=G.size;obtain ⟨X,b1,ao,O⟩:∃ X,Hid (w6.setCell ⟨b,77,none⟩ (I4 (p:Int))=X)/\Hid (Ma X b sb vm (.slice (some ⟨g,l,none⟩) xs.length o) ev { N with regs:=R,ws:=ws,turn:=tn,pc:=p })/\w6.grownBy X (some b):=⟨_,rfl,L.setP au,qAb w6 b 77 _⟩;have v7:=L.last.1;have g7:=L.hp.frozen 77;have y:=keepJ ((ay.out.grown G (fun e=>by have:=Option.some.inj e;omega)).grown O (fun e=>by have:=Option.some.inj e;omega));have f:=keepJ ((b5.out.grown G (fun e=>by have:=Option.some.inj e;omega)).grown O (fun e=>by have:=Option.some.inj e;omega));obtain ⟨⟨a0,a1,a2,a3,a4,a5,a6⟩,-⟩:=hq7 y.out;  obtain ⟨⟨o0,o1,o2,o3,o4,o5,o6⟩,q0,q1,q2,q3,q4,q5,q6⟩:=hq7 f.out;  skip))
  | rw [b1.out])
 have hO:=f.out.sets (actC 1 N.pc 0 0 0 0 0) 0;rw [qAr (actC 1 N.pc 0 0 0 0 0) (actC 0 0 0 0 0 0 0) rfl] at hO;have hG:=qAd w.heap.size (actC 1 N.pc 0 0 0 0 0) X 0;have av:Chg w w5 (fun k=>k=b∨k=sb):=(bh.out.mono (fun _ e=>.inl e)).trans (T:=fun k=>k=b∨k=sb) I (fun _ _ e=>e);have bd:Chg w w6 (fun k=>k=b∨k=sb):=av.trans (Chg.of_grown (S:=fun k=>k=b) G rfl) (fun _ _ e=>.inl e);have b2:Chg w X (fun k=>k=b∨k=sb):=bd.trans (Chg.of_grown (S:=fun k=>k=b) O rfl) (fun _ _ e=>.inl e);have b8:=bc.out.grown G (show some sb≠some b from fun e=>K (Option.some.inj e).symm);have b3:=b8.grown O (show some sb≠some b from fun e=>K (Option.some.inj e).symm);have ba:=b3.grown hG (show some sb≠some w.heap.size from fun e=>b4 (Option.some.inj e).symm);have aq:=ao.out.grown hG (show some b≠some w.heap.size from fun e=>az (Option.some.inj e).symm);refine qBv rfl rfl hO ⟨by rw [r.out.2.2.2.2.1],b2.trans (Chg.of_grown hG (S:=fun k=>k=w.heap.size) rfl) (fun k hk e=>by omega),aq.same rfl rfl rfl r.out.2.2.2.2.2.2.symm r.out.2.2.2.2.2.1.symm,?_⟩;rw [<- r.out.2.1];exact ba
end
end Go.Proofs.YtmdhljoicnommaaGreat
