/-
  E11Store
  E11LMark
  E11LAns
  E11LAll
  E11DAll
  E11Answer
  E11Over
  E11Call
  E11CallM
  E11CallK
  E11DStep
  E11LStep
  E11LStepC
  E11LStepE
-/
import Derived.Test.YtmdhljoicnommaaGreatMS37
namespace Go.Proofs.YtmdhljoicnommaaGreat
set_option maxHeartbeats 12800000
open Go.RowKit
set_option linter.unusedVariables false
set_option linter.unusedSimpArgs false
set_option maxRecDepth 100000
theorem qBh {w:World}{B c x:Nat}{v:Value}{g:List Ak}{t:TypeId}{cs:List Value}(a:Bk w B c v g)(b:Hp w x t cs)(d:t≠64)(f:t≠98):¬ bkS c v x:=by
 rintro (e|e)
 ·subst e;exact qBi b a.hp d rfl
 ·exact own_type10 a.row b (Ne.symm f) e
theorem book_new {w:World}{B c:Nat}{v:Value}{b:List Ak}(a:Bk w B c v b):¬ bkS c v w.heap.size:=by
 rintro (e|e)
 ·have:=a.hp.lt;omega
 ·have:=(a.row.lt _ e).2;omega
theorem Chg.cellE {w a:World}{S:Nat->Prop}(h:Chg w a S){x j:Nat}(b:x<w.heap.size)(c:¬ S x):a.cell? ⟨x,j,none⟩=w.cell? ⟨x,j,none⟩:=World.cell?_of_block (h.block x b c)
theorem dlays_store {b rb tb:Nat}{cs:List Value}{M:Mc}(d a r l:Int)(w:World)(h:Rdm w b rb tb cs M)(ha:0<=a/\a<=7)(s:r=8∨(0<=r/\r<=7)){x y:Int}(HX:Hid (M.regs.getD a.toNat 0=x))(HY:Hid (srcV ⟨12,d,a,r,l⟩ M.regs=y))(hy:0<=y/\y<=15){B c:Nat}{v:Value}{O:List Ak}(a0:cs[4]? = some (.pointer (some ⟨c,0,none⟩)))(z:Bk w B c v O)(hB:B<=w.heap.size)(a1:O.length<=100000) :
  Cl 40 #[.pointer (some ⟨b,0,none⟩),instV 12 d a r l] w fun e n=>e=.returned (.tuple #[])/\∃ v',Bk n B c v' (O++[⟨1,y,x⟩])/\Chg w n (bkS c v)/\RowNew w v v':=by
 have a6:IntKind.i64.wrap y=y:=by rw [IntKind.wrap_i64];omega
 have Q:Hid (inB y=true):=decide_eq_true (by omega);obtain ⟨Z,HZ,I,a2,A,x0,x1,x2,V,X⟩:=boxI h 12 d a r l;obtain ⟨q,rfl⟩:=Int.eq_ofNat_of_zero_le ha.1
 have hq:q<8:=by omega
 have a7:(q:Int)<8:=by omega
 have S:Hid (M.regs.getD q 0=x):=HX.out
 have Y:Hid (threeB 12=false):=by show _=_;unfold threeB;simp
 have a5:=h.st.lt;have a3:=h.rg.lt
 have J:Hid (∀ o:World,Bw Z o->o.cell? ⟨b,4,none⟩=some (.pointer (some ⟨c,0,none⟩))/\o.cell? ⟨rb,q,none⟩=some (U8 x)/\o.cell? ⟨b,5,none⟩=some (.slice (some ⟨rb,0,none⟩) 8 8)/\o.cell? ⟨w.heap.size,0,none⟩=some (I4 12)/\o.cell? ⟨w.heap.size,1,none⟩=some (I4 d)/\o.cell? ⟨w.heap.size,2,none⟩=some (I4 q)/\o.cell? ⟨w.heap.size,3,none⟩=some (I4 r)/\o.cell? ⟨w.heap.size,4,none⟩=some (I4 l)):=fun o s=>by
  have L:=(A.out.below s).cells hq;rw [S.out] at L;exact ⟨(A.out.below s).st.cell a0,L.2.2.2.1,L.1,(s.cell (p:=⟨w.heap.size,0,none⟩) (show w.heap.size<Z.heap.size by omega)).trans x0,(s.cell (p:=⟨w.heap.size,1,none⟩) (show w.heap.size<Z.heap.size by omega)).trans x1,(s.cell (p:=⟨w.heap.size,2,none⟩) (show w.heap.size<Z.heap.size by omega)).trans x2,(s.cell (p:=⟨w.heap.size,3,none⟩) (show w.heap.size<Z.heap.size by omega)).trans V,(s.cell (p:=⟨w.heap.size,4,none⟩) (show w.heap.size<Z.heap.size by omega)).trans X⟩
 have R:¬ bkS c v b:=qBh z h.st (by decide) (by decide);have nr:¬ bkS c v rb:=qBh z h.rg (by decide) (by decide);have F:¬ bkS c v w.heap.size:=book_new z;go_enter Tryz.func40,Tryz.ntmps40
 go_wp2_with (go_at_call 67;go_must (refine (three_as Y _).mono ?_);rintro e w1 ⟨rfl,rfl⟩)
 rw [<- HZ.out];clear x0 x1 x2 V X
 go_region_held3 (fun n=>n.cell? ⟨b,4,none⟩=some (.pointer (some ⟨c,0,none⟩))/\n.cell? ⟨rb,q,none⟩=some (U8 x)/\n.cell? ⟨b,5,none⟩=some (.slice (some ⟨rb,0,none⟩) 8 8)/\n.cell? ⟨w.heap.size,0,none⟩=some (I4 12)/\n.cell? ⟨w.heap.size,1,none⟩=some (I4 d)/\n.cell? ⟨w.heap.size,2,none⟩=some (I4 q)/\n.cell? ⟨w.heap.size,3,none⟩=some (I4 r)/\n.cell? ⟨w.heap.size,4,none⟩=some (I4 l))
  (first|with_reducible exact T|with_reducible exact g|exact J.out Z (Below.refl _ _))
  (first
   | (go_at_call 66;go_must (refine (dsource_any ⟨12,d,q,r,l⟩ Z.drew A.out.st A.out.c5 A.out.rg h.wr.1 s HY).mono ?_);rintro e i ⟨rfl,E⟩;go_must (have D:Bw Z i:=qAf E;have g:=J.out i D;have G:Bw w i:=I.trans (D.mono I.size);have a4:=D.size;have N:=z.below G;clear E))
   | (go_at_call 14;go_must (refine (bstore_in y x Q i N (by omega) a1).mono ?_);rintro e u ⟨rfl,v5,P,f,K⟩;go_must (have T:u.cell? ⟨b,4,none⟩=some (.pointer (some ⟨c,0,none⟩))/\u.cell? ⟨rb,q,none⟩=some (U8 x)/\u.cell? ⟨b,5,none⟩=some (.slice (some ⟨rb,0,none⟩) 8 8)/\u.cell? ⟨w.heap.size,0,none⟩=some (I4 12)/\u.cell? ⟨w.heap.size,1,none⟩=some (I4 d)/\u.cell? ⟨w.heap.size,2,none⟩=some (I4 q)/\u.cell? ⟨w.heap.size,3,none⟩=some (I4 r)/\u.cell? ⟨w.heap.size,4,none⟩=some (I4 l):=⟨(f.cellE (show b<i.heap.size by omega) R).trans g.1,(f.cellE (show rb<i.heap.size by omega) nr).trans g.2.1,(f.cellE (show b<i.heap.size by omega) R).trans g.2.2.1,(f.cellE (show w.heap.size<i.heap.size by omega) F).trans g.2.2.2.1,(f.cellE (show w.heap.size<i.heap.size by omega) F).trans g.2.2.2.2.1,(f.cellE (show w.heap.size<i.heap.size by omega) F).trans g.2.2.2.2.2.1,(f.cellE (show w.heap.size<i.heap.size by omega) F).trans g.2.2.2.2.2.2.1,(f.cellE (show w.heap.size<i.heap.size by omega) F).trans g.2.2.2.2.2.2.2⟩)))
 go_wp2;refine bodyPost_end (results_none rfl _ _ _) rfl ⟨rfl,v5,P,(Chg.of_below G).trans f (fun k _ U=>U),?_⟩
 rcases K with e|⟨k,e,U⟩
 ·exact .inl e
 ·exact .inr ⟨k,e,by omega⟩
section
variable {b sb:Nat} {vm vc:Value} {ev:Int×Int} {M:Mc}
theorem mcall_mark (w:World)(h:Ma w b sb vm vc ev M)(hp:M.pc+1<64){ws cs N:List Int}(hs:Sc w sb ws cs)(l:b≠sb){x n:Int}(HX:Hid (regV M.regs 1=x))(hx:0<=x/\x<=15)(L:Hid (upW (cs.getD x.toNat 0) 1=n))(HU:Hid (cs.set x.toNat n=N)) :
  Cl 34 #[.pointer (some ⟨b,0,none⟩),I4 5] w fun e o=>e=.returned (actV 1 M.pc 0 0 0 0 n)/\Chg w o (fun k=>k=b∨k=sb)/\Ma o b sb vm vc ev { M with regs:=M.regs.set 0 n,pc:=M.pc+1 }/\Sc o sb ws N:=by
 have aj:=h.hp.lt;have ag:=hs.lt
 have ai:IntKind.i64.wrap x=x:=by rw [IntKind.wrap_i64];omega
 have r:Hid (inB x=true):=decide_eq_true (by omega)
 have hn:0<=n/\n<=18446744073709551615:=by rw [<- L.out];exact upW_in _ _
 have R:Hid ((if inB x then addW (cs.getD x.toNat 0) 1 else 0)=n):=by show _=_;rw [r.out];exact L.out
 have aa:Hid ((if inB x then oneUp cs x.toNat else cs)=N):=by
  show _=_
  rw [r.out,<- HU.out]
  show cs.set x.toNat (addW (cs.getD x.toNat 0) 1)=_
  rw [show addW (cs.getD x.toNat 0) 1=n from L.out]
 have af:Hid ((if inB x then 0 else 35:Int)=0):=by show _=_;rw [r.out];rfl
 obtain ⟨V,HV,g,ab,I,am⟩:=boxO h
 have s:V.cell? ⟨b,4,none⟩=some (.pointer (some ⟨sb,0,none⟩))/\V.cell? ⟨b,6,none⟩=some (U8 x):=by
  have X:=g.out.reg (show 1<8 by omega);rw [show M.regs.getD 1 0=x from HX.out] at X;exact ⟨g.out.low.2.2.2.2,X⟩
 have Z:=keepJ (hs.below I ag)
 have al:w.heap.size≠b:=by omega
 have z:=g.out.hp.lt;go_enter Tryz.func34,Tryz.ntmps34;go_wp2;rw [HV.out]
 go_region_held3 (fun o=>o.cell? ⟨b,4,none⟩=some (.pointer (some ⟨sb,0,none⟩))/\o.cell? ⟨b,6,none⟩=some (U8 x))
  (first|with_reducible exact a7|exact s)
  (first|(go_at_call 54;go_must (refine (mark_as R aa af V.drew Z.out.drew).mono ?_);rintro e D ⟨rfl,B,A,ap⟩;go_must (have d:V.grownBy D (some sb):=grown_undrew A;have F:=keepJ B;have u:=keepJ (g.out.grown d (fun e=>l (by injection e)));have E:=keepJ (ab.out.grown d (fun e=>by injection e with e;omega));have a7:D.cell? ⟨b,4,none⟩=some (.pointer (some ⟨sb,0,none⟩))/\D.cell? ⟨b,6,none⟩=some (U8 x):=⟨(qAh d z l).trans s.1,(qAh d z l).trans s.2⟩;clear A B)))
 have ah:=d.size
 go_wp2_with (first
  | (go_at_call 32;go_must (refine (mtold_any 1 n D u.out).mono ?_);rintro e w4 ⟨rfl,f⟩;go_must (obtain ⟨Y,HY,U,a8,O,J,ao⟩:=boxA (u.out.below f u.out.hp.lt) (E.out.below f E.out.lt) 1 M.pc 0 0 0 0 n;have ak:=f.size))
  | (go_at_call 30;rw [HY.out];go_must (refine (mtakes_any n Y U.out hn hp).mono ?_);rintro e P ⟨rfl,i,y⟩;go_must (have a9:=keepJ y;have c:=keepJ (a8.out.grown i (fun e=>by injection e with e;omega));have a:=keepJ (O.out.grown i (fun e=>by injection e with e;omega));obtain ⟨⟨a0,a1,a2,a3,a4,a5,a6⟩,-⟩:=hq7 c.out;obtain ⟨⟨o0,o1,o2,o3,o4,o5,o6⟩,q0,q1,q2,q3,q4,q5,q6⟩:=hq7 a.out;clear y)))
 have hO:=a.out.sets (actC 1 M.pc 0 0 0 0 n) 0;rw [qAr (actC 1 M.pc 0 0 0 0 n) (actC 0 0 0 0 0 0 0) rfl] at hO;have K:=qAd w.heap.size (actC 1 M.pc 0 0 0 0 n) P 0;have T:Chg w D (fun k=>k=b∨k=sb):=(Chg.of_below I).trans (Chg.of_grown (S:=fun k=>k=b∨k=sb) d (.inr rfl)) (fun _ _ e=>e);have Q:Chg w w4 (fun k=>k=b∨k=sb):=T.trans (Chg.of_below (S:=fun _=>False) f) (fun _ _ e=>e.elim);have ad:Chg w Y (fun k=>k=b∨k=sb):=Q.trans (Chg.of_below (S:=fun _=>False) J) (fun _ _ e=>e.elim);have ae:Chg w P (fun k=>k=b∨k=sb):=ad.trans (Chg.of_grown (S:=fun k=>k=b) i rfl) (fun _ _ e=>.inl e);refine qBv rfl rfl hO ⟨rfl,ae.trans (Chg.of_grown K (S:=fun k=>k=w.heap.size) rfl) (fun k hk e=>by omega),a9.out.grown K (fun e=>by injection e with e;omega),?_⟩;have G:=F.out.below f F.out.lt;have ac:=(G.below J G.lt).grown i (show some sb≠some b from fun e=>l (Option.some.inj e).symm);exact ac.grown K (show some sb≠some w.heap.size from fun e=>by have:=Option.some.inj e;omega)
end
theorem mvalue_as {h E:Int}{f:Bool}{v:Int}{o:Bool}{k u r:Int}(b:Hid (valL h E f v=r))(w:World):Cl 31 #[I4 h,resV E f v o k u] w fun e a=>e=.returned (U8 r)/\Bw w a:=by
 rw [<- b.out];exact value_any h E f v o k u w
theorem valL_in {h E:Int}{f:Bool}{v:Int}(a:0<=v/\v<=18446744073709551615):0<=valL h E f v/\valL h E f v<=18446744073709551615:=by
 unfold valL
 repeat' split
 all_goals omega
section
variable {b sb:Nat} {vm vc:Value} {ev:Int×Int} {M:Mc}
theorem manswer_yes {g r c:Nat}{xs:List In}(E:Int)(f:Bool)(v:Int)(o:Bool)(k u:Int)(w:World)(h:Ma w b sb vm (.slice (some ⟨g,r,none⟩) xs.length c) ev M)(hm:M.mode=1)(hx:SeesI w (.slice (some ⟨g,r,none⟩) xs.length c) xs)(hp:M.pc<xs.length)(a5:M.pc+1<64)(N:g≠b)(hv:0<=v/\v<=18446744073709551615){n:Int}(hn:Hid (valL (nth xs M.pc).imm E f v=n)) :
  Cl 17 #[.pointer (some ⟨b,0,none⟩),resV E f v o k u] w fun e y=>e=.returned (I4 0)/\w.grownBy y (some b)/\Ma y b sb vm (.slice (some ⟨g,r,none⟩) xs.length c) ev { M with regs:=M.regs.set 0 n,mode:=0,pc:=M.pc+1 }:=by
 have a4:=h.hp.lt
 have a8:(M.pc:Int)<xs.length:=by omega
 have a6:(M.pc:Int)<=100:=by omega
 obtain ⟨O,a2,aa,a7⟩:=codeL hx hp;obtain ⟨⟨op,d,a,bb,J⟩,HI⟩:∃ i,Hid (nth xs M.pc=i):=⟨_,rfl⟩;rw [HI.out] at O hn;have T:Hid (valL J E f v=n):=hn
 have a3:0<=n/\n<=18446744073709551615:=by rw [<- T.out];exact valL_in hv
 obtain ⟨_,_,_,_,Y⟩:=O;simp only at Y;have c9:=h.last.2.2;rw [hm] at c9
 have D:w.heap.size≠b:=by omega
 obtain ⟨Z,HZ,I,B,Q,A⟩:∃ Z,Hid ((w.setCell ⟨b,79,none⟩ (I4 0)).alloc (.cells #[I4 E,.bool f,U8 v,.bool o,U8 k,U8 u] 45)=Z)/\Hid (Ma Z b sb vm (.slice (some ⟨g,r,none⟩) xs.length c) ev { M with mode:=0 })/\Hid (Hp Z w.heap.size 45 [I4 E,.bool f,U8 v,.bool o,U8 k,U8 u])/\w.grownBy Z (some b)/\w.heap.size<Z.heap.size:=by
  have hsz:(w.setCell ⟨b,79,none⟩ (I4 0)).heap.size=w.heap.size:=by simp [World.setCell]
  have hB:=(Below.refl (w.setCell ⟨b,79,none⟩ (I4 0)).heap.size (w.setCell ⟨b,79,none⟩ (I4 0))).alloc (Nat.le_refl _) (.cells #[I4 E,.bool f,U8 v,.bool o,U8 k,U8 u] 45);have hN:=Hp.new (w.setCell ⟨b,79,none⟩ (I4 0)) [I4 E,.bool f,U8 v,.bool o,U8 k,U8 u] 45;rw [hsz] at hN;exact ⟨_,rfl,(h.setM 0).below hB (by rw [hsz];exact a4),hN,qBb (qAb w b 79 _) (qAu hB _),by simp [hsz]⟩
 have f9:=h.hp.frozen 79
 have X:g<Z.heap.size:=by omega
 have R:Z.cell? ⟨g,r+M.pc*5+4,none⟩=some (I4 J):=(qAh Q a2 N).trans Y
 have L:Hid (∀ z:World,Bw Z z->z.cell? ⟨b,3,none⟩=some (.slice (some ⟨g,r,none⟩) xs.length c)/\z.cell? ⟨g,r+M.pc*5+4,none⟩=some (I4 J)/\z.cell? ⟨w.heap.size,0,none⟩=some (I4 E)/\z.cell? ⟨w.heap.size,1,none⟩=some (.bool f)/\z.cell? ⟨w.heap.size,2,none⟩=some (U8 v)/\z.cell? ⟨w.heap.size,3,none⟩=some (.bool o)/\z.cell? ⟨w.heap.size,4,none⟩=some (U8 k)/\z.cell? ⟨w.heap.size,5,none⟩=some (U8 u)):=fun z K=>⟨(I.out.below K I.out.hp.lt).low.2.2.2.1,(K.cell (p:=⟨g,r+M.pc*5+4,none⟩) X).trans R,(B.out.below K A).cell rfl,(B.out.below K A).cell rfl,(B.out.below K A).cell rfl,(B.out.below K A).cell rfl,(B.out.below K A).cell rfl,(B.out.below K A).cell rfl⟩
 have z7:=I.out.last.1;clear Y R hx;go_enter Tryz.func17,Tryz.ntmps17;go_wp2;rw [HZ.out];refine wp_region_held_drew (S:=fun y=>y.cell? ⟨b,3,none⟩=some (.slice (some ⟨g,r,none⟩) xs.length c)/\y.cell? ⟨g,r+M.pc*5+4,none⟩=some (I4 J)/\y.cell? ⟨w.heap.size,0,none⟩=some (I4 E)/\y.cell? ⟨w.heap.size,1,none⟩=some (.bool f)/\y.cell? ⟨w.heap.size,2,none⟩=some (U8 v)/\y.cell? ⟨w.heap.size,3,none⟩=some (.bool o)/\y.cell? ⟨w.heap.size,4,none⟩=some (U8 k)/\y.cell? ⟨w.heap.size,5,none⟩=some (U8 u)) (by kernel_rfl) (L.out _ (qAj (Below.refl _ _))) (fun hHeld=>?_);refine tkGo [0,1,2,3,4,5,6,7,12] ?_
 repeat (refine tkO (v:=?_) rfl ?_ ?_;rotate_left;(intro wy hSw;(try dsimp only at hSw);go_simp;(first|done|with_reducible rfl));try simp only [Act.put,p1q,p2q,p3q,p4q,p5q,p6q])
 refine tkEnd ?_;refine runO 8 (by kernel_rfl) rfl (by rfl) (fun KK hK=>?_);go_simp;refine hK.out _ _ (L.out _ (qAj (Below.refl _ _))) (fun hHeld=>?_);clear hK KK
 try simp only [Act.put,p1q,p2q,p3q,p4q,p5q,p6q]
 refine tkGo [9,10,11] ?_
 repeat (refine tkO (v:=?_) rfl ?_ ?_;rotate_left;(intro wy hSw;(try dsimp only at hSw);go_simp;(first|done|with_reducible rfl));try simp only [Act.put,p1q,p2q,p3q,p4q,p5q,p6q])
 refine tkEnd ?_;refine runO 13 (by kernel_rfl) rfl (by rfl) (fun KK hK=>?_);go_simp
 go_at_call 31
 refine (mvalue_as T _).mono ?_;rintro e U ⟨rfl,V⟩;have F:Bw Z U:=qAf V;go_simp;refine hK.out _ _ (L.out U F) (fun hHeld=>?_);clear hK KK
 try simp only [Act.put,p1q,p2q,p3q,p4q,p5q,p6q]
 have a0:=keepJ (I.out.below F I.out.hp.lt);have a9:=F.size;refine runO 14 (by kernel_rfl) rfl (by rfl) (fun KK hK=>?_);go_simp
 go_at_call 30
 refine (mtakes_any n _ a0.out a3 a5).mono ?_;rintro e G ⟨rfl,l,P⟩;go_simp;have s:=L.out U F;have a1:G.cell? ⟨b,3,none⟩=some (.slice (some ⟨g,r,none⟩) xs.length c)/\G.cell? ⟨g,r+M.pc*5+4,none⟩=some (I4 J)/\G.cell? ⟨w.heap.size,0,none⟩=some (I4 E)/\G.cell? ⟨w.heap.size,1,none⟩=some (.bool f)/\G.cell? ⟨w.heap.size,2,none⟩=some (U8 v)/\G.cell? ⟨w.heap.size,3,none⟩=some (.bool o)/\G.cell? ⟨w.heap.size,4,none⟩=some (U8 k)/\G.cell? ⟨w.heap.size,5,none⟩=some (U8 u):=⟨P.low.2.2.2.1,(qAh l (by omega) N).trans s.2.1,(qAh l (by omega) D).trans s.2.2.1,(qAh l (by omega) D).trans s.2.2.2.1,(qAh l (by omega) D).trans s.2.2.2.2.1,(qAh l (by omega) D).trans s.2.2.2.2.2.1,(qAh l (by omega) D).trans s.2.2.2.2.2.2.1,(qAh l (by omega) D).trans s.2.2.2.2.2.2.2⟩;refine hK.out _ _ a1 (fun hHeld=>?_);clear hK KK
 try simp only [Act.put,p1q,p2q,p3q,p4q,p5q,p6q]
 refine wpAnyH_done (by kernel_rfl) ?_ _;go_wp2;go_ret;exact ⟨rfl,qBb (qBb Q (qAu F _)) l,P⟩
end
theorem right_ab {i:In}(c:i.right=true)(f:i.op<=20):(0<=i.a/\i.a<=7)/\(i.b=8∨(0<=i.b/\i.b<=7)):=by
 obtain ⟨op,d,a,b,g⟩:=i;have h0:=qBp c;unfold In.right at c;simp only at c f h0 ⊢
 by_cases c1:op=0∨op=11
 ·unfold rightB at c;rw [if_pos c1] at c;simp [sourcedB,regB] at c;omega
 by_cases c2:1<=op/\op<=10
 ·rw [qDg c2] at c;simp [sourcedB,regB] at c;omega
 by_cases c3:op=12
 ·subst c3;rw [rightB_12] at c;simp [sourcedB,regB] at c;omega
 by_cases c4:op=13
 ·subst c4;rw [rightB_13] at c;simp at c;omega
 by_cases c5:op=14
 ·subst c5;rw [rightB_14] at c;simp at c;omega
 by_cases c6:op=15
 ·subst c6;rw [rightB_15] at c;simp at c;omega
 by_cases c7:16<=op/\op<=19
 ·rw [rightB_jump c7] at c;simp [sourcedB,regB] at c;omega
 ·obtain rfl:op=20:=by omega
  rw [rightB_20] at c;simp [regB] at c;omega
theorem right_14E {i:In}(c:i.right=true)(f:i.op=14):0<=i.imm/\i.imm<=3:=by
 obtain ⟨op,d,a,b,g⟩:=i;unfold In.right at c;simp only at c f ⊢;subst f;rw [rightB_14] at c;simp at c;omega
theorem hold_none {op a b:Int}(h:op<16∨19<op):holdL op a b=false:=by
 unfold holdL;rw [if_neg (by omega),if_neg (by omega),if_neg (by omega),if_neg (by omega)]
section
variable {b sb:Nat} {vm vc:Value} {ev:Int×Int} {M:Mc}
theorem Sc.chg {w a:World}{ws cs:List Int}{S:Nat->Prop}(h:Sc w sb ws cs)(b:Chg w a S)(c:¬ S sb):Sc a sb ws cs:=⟨h.hp.chg b c,h.lw,h.lc⟩
theorem Ma.chg {w a:World}{S:Nat->Prop}(h:Ma w b sb vm vc ev M)(c:Chg w a S)(d:¬ S b):Ma a b sb vm vc ev M:=⟨h.hp.chg c d,h.wr,h.pc⟩
theorem Ma.same {w:World}{M':Mc}(h:Ma w b sb vm vc ev M)(d:M'.regs=M.regs)(f:M'.turn=M.turn)(c:M'.pc=M.pc)(a:M'.steps=M.steps)(g:M'.mode=M.mode):Ma w b sb vm vc ev M':=by
 obtain ⟨r,t,p,s,m,x,y⟩:=M';simp only at d f c a g;subst d;subst f;subst c;subst a;subst g;exact ⟨h.hp,h.wr,h.pc⟩
theorem mdo_all (i:In)(u:i.right=true)(J:i.op<=20)(w:World)(h:Ma w b sb vm vc ev M)(B:Sc w sb M.ws M.cs)(z:b≠sb)(E:W16 M.ws)(K:(0<=ev.1/\ev.1<=18446744073709551615)/\0<=ev.2/\ev.2<=18446744073709551615)(G:i.op=11∨i.op=12->0<=srcV i M.regs/\srcV i M.regs<=15) :
  Cl 35 #[.pointer (some ⟨b,0,none⟩),instV i.op i.d i.a i.b i.imm] w fun e f=>e=.returned (.tuple #[])/\Chg w f (fun k=>k=b∨k=sb)/\Ma f b sb vm vc ev { M with regs:=(laysE ev i M).1,ws:=(laysE ev i M).2 }/\Sc f sb (laysE ev i M).2 M.cs:=by
 have h0:=qBp u;obtain ⟨r,o⟩:=right_ab u J
 have s:∀ {f:World} {R:List Int},w.grownBy f (some b)->Ma f b sb vm vc ev { M with regs:=R }->laysE ev i M=(R,M.ws)->Chg w f (fun k=>k=b∨k=sb)/\Ma f b sb vm vc ev { M with regs:=(laysE ev i M).1,ws:=(laysE ev i M).2 }/\Sc f sb (laysE ev i M).2 M.cs:=fun {f R} g hm e=>by
  rw [e];exact ⟨Chg.of_grown g (.inl rfl),hm.same rfl rfl rfl rfl rfl,B.grown g (fun e=>z (Option.some.inj e).symm)⟩
 by_cases c0:i.op=0
 ·have l:=qBg u (.inl (by omega));obtain ⟨op,d,a,n,c⟩:=i;simp only at c0 r o l;subst c0;refine (mdo_set d a n c w h l o rfl).mono ?_;rintro e f ⟨rfl,g,hm⟩;exact ⟨rfl,s g hm rfl⟩
 by_cases c1:1<=i.op/\i.op<=10
 ·have l:=qBg u (.inl (by omega));obtain ⟨op,d,a,n,c⟩:=i;simp only at c0 c1 r o l;refine (mdo_three op d a n c w h c1 l r o rfl rfl rfl (doL_in op (h.wr.2 _ (by omega)) (srcV_in h.wr o))).mono ?_;rintro e f ⟨rfl,g,hm⟩;exact ⟨rfl,s g hm (by unfold laysE;rw [if_neg c0,if_pos c1];rfl)⟩
 by_cases c2:i.op=11
 ·have l:=qBg u (.inl (by omega));have y:=G (.inl c2);obtain ⟨op,d,a,n,c⟩:=i;simp only at c0 c1 c2 r o l;subst c2;refine (mdo_load d a n c w h l o rfl y B rfl (E.2 _ (by omega))).mono ?_;rintro e f ⟨rfl,g,hm⟩;exact ⟨rfl,s g hm rfl⟩
 by_cases c3:i.op=12
 ·have y:=G (.inr c3);obtain ⟨op,d,a,n,c⟩:=i;simp only at c3 r o;subst c3;refine (mdo_store d a n c w h r o rfl rfl y B z rfl).mono ?_;rintro e f ⟨rfl,g,F⟩;exact ⟨rfl,Chg.of_grown g (.inr rfl),(h.grown g (fun e=>z (Option.some.inj e))).same rfl rfl rfl rfl rfl,F⟩
 by_cases c4:i.op=13
 ·have l:=qBg u (.inr (.inl c4));obtain ⟨op,d,a,n,c⟩:=i;simp only at c4 r o l;subst c4;refine (mdo_field d a n c w h l rfl (by split<;>omega)).mono ?_;rintro e f ⟨rfl,g,hm⟩;exact ⟨rfl,s g hm rfl⟩
 by_cases c5:i.op=14
 ·have l:=qBg u (.inr (.inr c5));have hi:=right_14E u c5;obtain ⟨op,d,a,n,c⟩:=i;simp only at c5 r o l hi;subst c5;refine (mdo_map d a n c w h l hi).mono ?_;rintro e f ⟨rfl,g,hm⟩;exact ⟨rfl,s g hm rfl⟩
 ·have I:laysE ev i M=(M.regs,M.ws):=by
   unfold laysE;rw [if_neg c0,if_neg c1,if_neg c2,if_neg c3,if_neg c4,if_neg c5]
  rw [I]
  have D:15<=i.op/\i.op<=20:=by omega
  obtain ⟨op,d,a,n,c⟩:=i;simp only at D r o;refine (mdo_none op d a n c w h D r o).mono ?_;rintro e f ⟨rfl,A⟩;exact ⟨rfl,Chg.of_below A,h.below A h.hp.lt,B.below A B.lt⟩
def nextE (i:In) (M:Mc):Int:=if (i.leads&&goesE i M)=true then (M.pc:Int)+i.far else (M.pc:Int)+1
theorem mnext_all (i:In)(G:i.right=true)(L:i.op<=20)(w:World)(h:Ma w b sb vm vc ev M)(O:i.op=20->0<=M.turn M.pc/\M.turn M.pc<=255){p:Int}(N:Hid (nextE i M=p)) :
  Cl 36 #[.pointer (some ⟨b,0,none⟩),instV i.op i.d i.a i.b i.imm] w fun e z=>e=.returned (I4 p)/\w.grownBy z (some b)/\Ma z b sb vm vc ev { M with turn:=turnE i M }:=by
 obtain ⟨s,y⟩:=right_ab G L;have h0:=qBp G;have c:Hid ((if (i.leads&&goesE i M)=true then (M.pc:Int)+i.far else (M.pc:Int)+1)=p):=N;clear N
 rcases qAp i with g|g|g|g
 ·rw [G] at g;cases g.1
 ·obtain ⟨_,o,D,A,E,J,n,u⟩:=g;rw [A,E,Bool.true_and] at c
  have F:turnE i M=M.turn:=by unfold turnE;rw [if_neg (by omega)]
  rw [F]
  by_cases c15:i.op=15
  ·have B:goesE i M=true:=by unfold goesE;rw [if_pos c15]
   rw [B,if_pos rfl] at c;obtain ⟨op,d,a,l,f⟩:=i;simp only at c15 s y n u c;subst c15;refine (mnext_jump d a l f w h ⟨n,u⟩).mono ?_;rintro e z ⟨rfl,k⟩;exact ⟨by rw [<- c.out];congr 2;omega,qAu k _,h.below k h.hp.lt⟩
  ·have B:goesE i M=holdL i.op (regV M.regs i.a) (srcV i M.regs):=by unfold goesE;rw [if_neg c15,if_neg (by omega)]
   rw [B] at c;obtain ⟨op,d,a,l,f⟩:=i;simp only at c15 o D s y n u c;refine (mnext_cond op d a l f w h (by simp;omega) (by simp;omega) s y (r:=holdL op (regV M.regs a) (srcV ⟨op,d,a,l,f⟩ M.regs)) rfl (fun _=>⟨n,u⟩) (p:=p) (by show _=_;rw [<- c.out];split<;>omega)).mono ?_;rintro e z ⟨rfl,k⟩;exact ⟨rfl,qAu k _,h.below k h.hp.lt⟩
 ·obtain ⟨_,o,D,A,E,J,n,u,K⟩:=g;rw [D,A,Bool.true_and] at c;have I:=O o;obtain ⟨op,d,a,l,f⟩:=i;simp only at o s y J n u K c;subst o;refine (mnext_loop d a l f w h ⟨by omega,n⟩ s ⟨u,K⟩ I (p:=p) (by show _=_;rw [<- c.out];split<;>omega)).mono ?_;rintro e z ⟨rfl,B,hm⟩;exact ⟨rfl,B,hm⟩
 ·obtain ⟨_,o,D,A,E⟩:=g;rw [A,Bool.false_and,if_neg (by simp)] at c
  have F:turnE i M=M.turn:=by unfold turnE;rw [if_neg (by omega)]
  rw [F];obtain ⟨op,d,a,l,f⟩:=i;simp only at o s y L h0;have P:holdL op (regV M.regs a) (srcV ⟨op,d,a,l,f⟩ M.regs)=false:=hold_none (by omega);refine (mnext_cond op d a l f w h (by simp;omega) (by simp;omega) s y (r:=false) P (fun h=>by cases h) (p:=p) (by show _=_;rw [<- c.out];rfl)).mono ?_;rintro e z ⟨rfl,k⟩;exact ⟨rfl,qAu k _,h.below k h.hp.lt⟩
end
theorem dlays_all {ev:Int×Int}{b rb tb B c:Nat}{cs:List Value}{M:Mc}{v:Value}{E:List Ak}(i:In)(z:i.right=true)(Z:i.op<=14)(w:World)(h:Rdm w b rb tb cs M)(P:cs[2]? = some (U8 ev.1))(Q:cs[3]? = some (U8 ev.2))(I:cs[4]? = some (.pointer (some ⟨c,0,none⟩)))(D:Bk w B c v E)(X:B<=w.heap.size)(U:E.length<=100000)(K:Tie E M.ws M.cs)(T:i.op=11∨i.op=12->0<=srcV i M.regs/\srcV i M.regs<=15) :
  Cl 40 #[.pointer (some ⟨b,0,none⟩),instV i.op i.d i.a i.b i.imm] w fun e l=>e=.returned (.tuple #[])/\∃ A ks',Bk l B c A ks'/\Tie ks' (laysE ev i M).2 M.cs/\ks'.length<=E.length+1/\RowNew w v A/\Chg w l (fun k=>k=rb∨bkS c v k)/\Hp l rb 26 (nums (laysE ev i M).1):=by
 have h0:=qBp z;obtain ⟨y,s⟩:=right_ab z (by omega);have L:¬ bkS c v rb:=qBh D h.rg (by decide) (by decide)
 have u:∀ {l:World} {R:List Int},w.grownBy l (some rb)->Hp l rb 26 (nums R)->laysE ev i M=(R,M.ws)->∃ A ks',Bk l B c A ks'/\Tie ks' (laysE ev i M).2 M.cs/\ks'.length<=E.length+1/\RowNew w v A/\Chg w l (fun k=>k=rb∨bkS c v k)/\Hp l rb 26 (nums (laysE ev i M).1):=fun {l R} r hm e=>by
  rw [e];have S:Chg w l (fun k=>k=rb):=Chg.of_grown r rfl;exact ⟨v,E,D.chg S (fun e=>L (.inl e.symm)) (fun k Y e=>L (.inr (by rw [<- e];exact Y))),K,by omega,.inl rfl,S.mono (fun _ e=>.inl e),hm⟩
 by_cases c0:i.op=0
 ·have o:=qBg z (.inl (by omega));obtain ⟨op,d,a,g,f⟩:=i;simp only at c0 y s o;subst c0;refine (dlays_set d a g f w h o s rfl).mono ?_;rintro e l ⟨rfl,r,hm⟩;exact ⟨rfl,u r hm rfl⟩
 by_cases c1:1<=i.op/\i.op<=10
 ·have o:=qBg z (.inl (by omega));obtain ⟨op,d,a,g,f⟩:=i;simp only at c0 c1 y s o;refine (dlays_three op d a g f w h c1 o y s rfl rfl rfl).mono ?_;rintro e l ⟨rfl,r,hm⟩;exact ⟨rfl,u r hm (by unfold laysE;rw [if_neg c0,if_pos c1];rfl)⟩
 by_cases c2:i.op=11
 ·have o:=qBg z (.inl (by omega));have F:=T (.inl c2);obtain ⟨op,d,a,g,f⟩:=i;simp only at c0 c1 c2 y s o;subst c2;refine (dlays_load d a g f w h o s rfl F I D (n:=M.ws.getD (srcV ⟨11,d,a,g,f⟩ M.regs).toNat 0) (by show _=_;have V:=K.w (srcV ⟨11,d,a,g,f⟩ M.regs).toNat (by omega);rw [V,show (((srcV ⟨11,d,a,g,f⟩ M.regs).toNat:Nat):Int)=srcV ⟨11,d,a,g,f⟩ M.regs by omega])).mono ?_;rintro e l ⟨rfl,r,hm⟩;exact ⟨rfl,u r hm rfl⟩
 by_cases c3:i.op=12
 ·have F:=T (.inr c3);obtain ⟨op,d,a,g,f⟩:=i;simp only at c3 y s;subst c3;refine (dlays_store d a g f w h y s rfl rfl F I D X U).mono ?_;rintro e l ⟨rfl,A,N,J,O⟩;refine ⟨rfl,A,_,N,?_,by simp,O,J.mono (fun _ e=>.inr e),h.rg.chg J L⟩;have:=K.store (a:=(srcV ⟨12,d,a,g,f⟩ M.regs).toNat) (by omega) (M.regs.getD a.toNat 0);rw [show (((srcV ⟨12,d,a,g,f⟩ M.regs).toNat:Nat):Int)=srcV ⟨12,d,a,g,f⟩ M.regs by omega] at this;exact this
 by_cases c4:i.op=13
 ·have o:=qBg z (.inr (.inl c4));obtain ⟨op,d,a,g,f⟩:=i;simp only at c4 y s o;subst c4
  by_cases hi:f=0
  ·subst hi;refine (dlays_fieldA d a g w h o P).mono ?_;rintro e l ⟨rfl,r,hm⟩;exact ⟨rfl,u r hm rfl⟩
  ·refine (dlays_fieldB d a g f w h o Q hi).mono ?_;rintro e l ⟨rfl,r,hm⟩;exact ⟨rfl,u r hm (by unfold laysE;simp [hi])⟩
 ·have G:i.op=14:=by omega
  have o:=qBg z (.inr (.inr G));have hi:=right_14E z G;obtain ⟨op,d,a,g,f⟩:=i;simp only at G y s o hi;subst G;refine (dlays_map d a g f w h o hi).mono ?_;rintro e l ⟨rfl,r,hm⟩;exact ⟨rfl,u r hm rfl⟩
theorem dgoes_all {b rb tb:Nat}{cs:List Value}{M:Mc}(i:In)(A:i.right=true)(u:15<=i.op/\i.op<=20)(w:World)(h:Rdm w b rb tb cs M)(B:i.op=20->0<=M.turn M.pc/\M.turn M.pc<=255) :
  Cl 39 #[.pointer (some ⟨b,0,none⟩),instV i.op i.d i.a i.b i.imm] w fun e n=>e=.returned (.bool (goesE i M))/\w.grownBy n (some tb)/\Hp n tb 2 (tnC (turnE i M)):=by
 obtain ⟨l,s⟩:=right_ab A u.2;have y:=qAp i
 by_cases c15:i.op=15
 ·have o:goesE i M=true:=by unfold goesE;rw [if_pos c15]
  have r:turnE i M=M.turn:=by unfold turnE;rw [if_neg (by omega)]
  rw [o,r];obtain ⟨op,d,a,k,c⟩:=i;simp only at c15;subst c15;refine (dgoes_jump d a k c w h).mono ?_;rintro e n ⟨rfl,f⟩;exact ⟨rfl,qAu f _,h.tn.below f h.tn.lt⟩
 by_cases c20:i.op=20
 ·have z:=B c20
  have hi:1<=i.imm/\i.imm<=255:=by
   rcases y with g|g|g|g
   ·rw [A] at g;cases g.1
   ·omega
   ·exact g.2.2.2.2.2.2.2
   ·omega
  obtain ⟨op,d,a,k,c⟩:=i;simp only at c20 l hi;subst c20;exact dgoes_loop d a k c w h l hi z
 ·have o:goesE i M=holdL i.op (regV M.regs i.a) (srcV i M.regs):=by unfold goesE;rw [if_neg c15,if_neg c20]
  have r:turnE i M=M.turn:=by unfold turnE;rw [if_neg c20]
  rw [o,r];obtain ⟨op,d,a,k,c⟩:=i;simp only at c15 c20 u l s;refine (dgoes_cond op d a k c w h (by omega) l s rfl).mono ?_;rintro e n ⟨rfl,f⟩;exact ⟨rfl,qAu f _,h.tn.below f h.tn.lt⟩
theorem rvalue_as {h E:Int}{f:Bool}{v:Int}{o:Bool}{k u n:Int}(b:Hid (valL h E f v=n))(w:World):Cl 47 #[I4 h,resV E f v o k u] w fun e a=>e=.returned (U8 n)/\Bw w a:=by
 rw [<- b.out];exact rvalue_any h E f v o k u w
theorem code_cell {w:World}{g k c p:Nat}{xs:List In}(h:SeesI w (.slice (some ⟨g,k,none⟩) xs.length c) xs)(f:p<xs.length):At w g (k+p*5) (nth xs p)/\g<w.heap.size/\xs.length<=c:=by
 obtain ⟨a,cap,u,s,_,_,d⟩:=h;injection u with o y r;subst o;subst r;obtain ⟨b,off,e,l,i⟩:=d (fun e=>by rw [e] at f;simp at f);injection e with e;injection e with e n;subst e;subst n;exact ⟨i p f,l,s⟩
theorem danswer_yes {b rb tb:Nat}{cs:List Value}{M:Mc}(E:Int)(f:Bool)(v:Int)(o:Bool)(k u:Int)(w:World)(h:Rdm w b rb tb cs M)(X:cs[9]? = some (I4 1)){g z s:Nat}{xs:List In}(a2:cs[1]? = some (.slice (some ⟨g,z,none⟩) xs.length s))(hx:SeesI w (.slice (some ⟨g,z,none⟩) xs.length s) xs)(hp:M.pc<xs.length)(ab:g≠rb/\g≠b){n:Int}(hn:Hid (valL (nth xs M.pc).imm E f v=n)) :
  Cl 21 #[.pointer (some ⟨b,0,none⟩),resV E f v o k u] w fun e r=>e=.returned (I4 0)/\Chg w r (fun x=>x=b∨x=rb)/\Hp r rb 26 (nums (M.regs.set 0 n))/\Hp r b 73 ((cs.set 9 (I4 0)).set 7 (I4 ((M.pc+1:Nat):Int))):=by
 have a8:=h.st.lt;have ae:=h.rg.lt;have D:b≠rb:=qBi h.st h.rg (by decide)
 have ad:(M.pc:Int)<xs.length:=by omega
 have a0:(M.pc:Int)<=100:=by have:=h.pc;omega
 obtain ⟨R,a3,ag⟩:=code_cell hx hp;obtain ⟨⟨op,d,a,bb,G⟩,HI⟩:∃ i,Hid (nth xs M.pc=i):=⟨_,rfl⟩;rw [HI.out] at R hn;have aa:Hid (valL G E f v=n):=hn;obtain ⟨_,_,_,_,k4⟩:=R;simp only at k4;obtain ⟨Z,HZ,O,N,ac,z0,z1,z2,z3,z4,z5⟩:∃ Z,Hid (Z=w.alloc (.cells #[I4 E,.bool f,U8 v,.bool o,U8 k,U8 u] 45))/\Hid (Rdm Z b rb tb cs M)/\Bw w Z/\Z.heap.size=w.heap.size+1/\Z.cell? ⟨w.heap.size,0,none⟩=some (I4 E)/\Z.cell? ⟨w.heap.size,1,none⟩=some (.bool f)/\Z.cell? ⟨w.heap.size,2,none⟩=some (U8 v)/\Z.cell? ⟨w.heap.size,3,none⟩=some (.bool o)/\Z.cell? ⟨w.heap.size,4,none⟩=some (U8 k)/\Z.cell? ⟨w.heap.size,5,none⟩=some (U8 u) :=
  ⟨_,rfl,h.below ((Below.refl _ _).alloc (Nat.le_refl _) _),by go_grown,by simp,by go_cell,by go_cell,by go_cell,by go_cell,by go_cell,by go_cell⟩
 have c9:=h.st.cell X
 have B:w.heap.size≠rb:=by omega
 have V:Hid (∀ c:World,Bw Z c->c.cell? ⟨b,5,none⟩=some (.slice (some ⟨rb,0,none⟩) 8 8)/\c.cell? ⟨b,1,none⟩=some (.slice (some ⟨g,z,none⟩) xs.length s)/\c.cell? ⟨b,7,none⟩=some (I4 M.pc)/\c.cell? ⟨g,z+M.pc*5+4,none⟩=some (I4 G)/\c.cell? ⟨w.heap.size,0,none⟩=some (I4 E)/\c.cell? ⟨w.heap.size,1,none⟩=some (.bool f)/\c.cell? ⟨w.heap.size,2,none⟩=some (U8 v)/\c.cell? ⟨w.heap.size,3,none⟩=some (.bool o)/\c.cell? ⟨w.heap.size,4,none⟩=some (U8 k)/\c.cell? ⟨w.heap.size,5,none⟩=some (U8 u)):=fun c l=>⟨(O.out.below l).st.cell h.c5,(O.out.below l).st.cell a2,(O.out.below l).st.cell h.c7,(l.cell (p:=⟨g,z+M.pc*5+4,none⟩) (show g<Z.heap.size by omega)).trans ((N.cell (p:=⟨g,z+M.pc*5+4,none⟩) a3).trans k4),(l.cell (p:=⟨w.heap.size,0,none⟩) (show w.heap.size<Z.heap.size by omega)).trans z0,(l.cell (p:=⟨w.heap.size,1,none⟩) (show w.heap.size<Z.heap.size by omega)).trans z1,(l.cell (p:=⟨w.heap.size,2,none⟩) (show w.heap.size<Z.heap.size by omega)).trans z2,(l.cell (p:=⟨w.heap.size,3,none⟩) (show w.heap.size<Z.heap.size by omega)).trans z3,(l.cell (p:=⟨w.heap.size,4,none⟩) (show w.heap.size<Z.heap.size by omega)).trans z4,(l.cell (p:=⟨w.heap.size,5,none⟩) (show w.heap.size<Z.heap.size by omega)).trans z5⟩
 have a6:Hid (∀ (c:World) (y:Int),(c.cell? ⟨b,5,none⟩=some (.slice (some ⟨rb,0,none⟩) 8 8)/\c.cell? ⟨b,1,none⟩=some (.slice (some ⟨g,z,none⟩) xs.length s)/\c.cell? ⟨b,7,none⟩=some (I4 M.pc)/\c.cell? ⟨g,z+M.pc*5+4,none⟩=some (I4 G)/\c.cell? ⟨w.heap.size,0,none⟩=some (I4 E)/\c.cell? ⟨w.heap.size,1,none⟩=some (.bool f)/\c.cell? ⟨w.heap.size,2,none⟩=some (U8 v)/\c.cell? ⟨w.heap.size,3,none⟩=some (.bool o)/\c.cell? ⟨w.heap.size,4,none⟩=some (U8 k)/\c.cell? ⟨w.heap.size,5,none⟩=some (U8 u))->b<c.heap.size->g<c.heap.size->w.heap.size<c.heap.size->(c.setCell ⟨rb,0,none⟩ (U8 y)).cell? ⟨b,5,none⟩=some (.slice (some ⟨rb,0,none⟩) 8 8)/\(c.setCell ⟨rb,0,none⟩ (U8 y)).cell? ⟨b,1,none⟩=some (.slice (some ⟨g,z,none⟩) xs.length s)/\(c.setCell ⟨rb,0,none⟩ (U8 y)).cell? ⟨b,7,none⟩=some (I4 M.pc)/\(c.setCell ⟨rb,0,none⟩ (U8 y)).cell? ⟨g,z+M.pc*5+4,none⟩=some (I4 G)/\(c.setCell ⟨rb,0,none⟩ (U8 y)).cell? ⟨w.heap.size,0,none⟩=some (I4 E)/\(c.setCell ⟨rb,0,none⟩ (U8 y)).cell? ⟨w.heap.size,1,none⟩=some (.bool f)/\(c.setCell ⟨rb,0,none⟩ (U8 y)).cell? ⟨w.heap.size,2,none⟩=some (U8 v)/\(c.setCell ⟨rb,0,none⟩ (U8 y)).cell? ⟨w.heap.size,3,none⟩=some (.bool o)/\(c.setCell ⟨rb,0,none⟩ (U8 y)).cell? ⟨w.heap.size,4,none⟩=some (U8 k)/\(c.setCell ⟨rb,0,none⟩ (U8 y)).cell? ⟨w.heap.size,5,none⟩=some (U8 u)):=fun c y A l hc I=>⟨(qAi (qAb c rb 0 _) l D).trans A.1,(qAi (qAb c rb 0 _) l D).trans A.2.1,(qAi (qAb c rb 0 _) l D).trans A.2.2.1,(qAi (qAb c rb 0 _) hc ab.1).trans A.2.2.2.1,(qAi (qAb c rb 0 _) I B).trans A.2.2.2.2.1,(qAi (qAb c rb 0 _) I B).trans A.2.2.2.2.2.1,(qAi (qAb c rb 0 _) I B).trans A.2.2.2.2.2.2.1,(qAi (qAb c rb 0 _) I B).trans A.2.2.2.2.2.2.2.1,(qAi (qAb c rb 0 _) I B).trans A.2.2.2.2.2.2.2.2.1,(qAi (qAb c rb 0 _) I B).trans A.2.2.2.2.2.2.2.2.2⟩
 go_enter Tryz.func21,Tryz.ntmps21;go_wp2;rw [<- HZ.out];clear z0 z1 z2 z3 z4 z5 k4 c9
 go_region_held3 (fun r=>r.cell? ⟨b,5,none⟩=some (.slice (some ⟨rb,0,none⟩) 8 8)/\r.cell? ⟨b,1,none⟩=some (.slice (some ⟨g,z,none⟩) xs.length s)/\r.cell? ⟨b,7,none⟩=some (I4 M.pc)/\r.cell? ⟨g,z+M.pc*5+4,none⟩=some (I4 G)/\r.cell? ⟨w.heap.size,0,none⟩=some (I4 E)/\r.cell? ⟨w.heap.size,1,none⟩=some (.bool f)/\r.cell? ⟨w.heap.size,2,none⟩=some (U8 v)/\r.cell? ⟨w.heap.size,3,none⟩=some (.bool o)/\r.cell? ⟨w.heap.size,4,none⟩=some (U8 k)/\r.cell? ⟨w.heap.size,5,none⟩=some (U8 u))
  (first|with_reducible exact P|with_reducible exact T|exact V.out Z (Below.refl _ _))
  (first
   | (go_at_call 47;go_must (refine (rvalue_as aa Z.drew).mono ?_);rintro e J ⟨rfl,L⟩;go_must (have K:Bw Z J:=qAf L;have P:=V.out J K;have F:Bw w J:=N.trans (K.mono N.size);have af:=K.size;have T:=a6.out J n P (by omega) (by omega) (by omega);have y0:=((h.rg.below F h.rg.lt).cell (qBy (show 0<M.regs.length by rw [h.wr.1];omega)));have f0:=(h.rg.below F h.rg.lt).frozen 0;clear L)))
 obtain ⟨Y,HY,a1,Q,a9⟩:∃ Y,Hid (Y=J.setCell ⟨rb,0,none⟩ (U8 n))/\Hid (Hp Y rb 26 (nums (M.regs.set 0 n)))/\Hid (Hp Y b 73 cs)/\Chg w Y (fun x=>x=b∨x=rb) :=
  ⟨_,rfl,(qCo h F n).2,(h.st.below F a8).far D,Chg.of_grown (qCo h F n).1 (.inr rfl)⟩
 have y9:=Q.out.cell X;have f9:=Q.out.frozen 9;rw [<- HY.out];have U:=keepJ (Q.out.set 9 (I4 0));have a5:=keepJ (a1.out.far (b':=b) (i:=9) (v:=I4 0) (Ne.symm D));have a4:Chg w (Y.setCell ⟨b,9,none⟩ (I4 0)) (fun x=>x=b∨x=rb):=a9.trans (Chg.of_grown (qAb Y b 9 _) (S:=fun x=>x=b) rfl) (fun _ _ e=>.inl e)
 have a7:(cs.set 9 (I4 0))[7]? = some (I4 M.pc):=by rw [List.getElem?_set_ne (by omega)];exact h.c7
 clear P T y0 f0
 go_wp2_with (go_at_call 41;go_must (refine (don_any _ U.out a7 a0).mono ?_);rintro e w6 ⟨rfl,rfl⟩)
 go_ret;exact ⟨rfl,a4.trans (Chg.of_grown (qAb _ b 7 _) (S:=fun x=>x=b) rfl) (fun _ _ e=>.inl e),a5.out.far (Ne.symm D),U.out.set 7 _⟩
theorem dcall_note {b rb tb:Nat}{cs:List Value}{M:Mc}(op d a s k g n r o l v:Int)(w:World)(h:Rdm w b rb tb cs M){x:Int}(HX:Hid (regV M.regs 1=x)) :
  Cl 37 #[.pointer (some ⟨b,0,none⟩),instV op d a s 6,actV k g n r o l v] w fun e F=>e=.returned (actV 3 g n r o l x)/\Chg w F (fun x=>x=b∨x=rb)/\Hp F rb 26 (nums (M.regs.set 0 0))/\Hp F b 73 (cs.set 7 (I4 ((M.pc+1:Nat):Int))):=by
 have ac:=h.st.lt;have aa:=h.rg.lt
 have a8:b<w.heap.size+1:=by omega
 have U:b<w.heap.size+1+1:=by omega
 have a7:rb<w.heap.size+1:=by omega
 have X:rb<w.heap.size+1+1:=by omega
 have D:b≠rb:=qBi h.st h.rg (by decide);have c5:=(h.cells (show 1<8 by omega)).1;have T:=(h.cells (show 1<8 by omega)).2.2.2.1;have L:Hid (M.regs.getD 1 0=x):=HX.out;rw [L.out] at T;have c0:=(h.cells (show 0<8 by omega)).2.2.2.1;have ab:=h.rg.frozen 0
 have E:(M.pc:Int)<=100:=by have:=h.pc;omega
 go_enter Tryz.func37,Tryz.ntmps37
 obtain ⟨Y,Z,A,J,K,G,N,a9⟩:∃ Y,Hid (Y=(((w.setCell ⟨rb,0,none⟩ (U8 0)).alloc (instO op d a s 6)).alloc (.cells #[I4 3,I4 g,I4 n,I4 r,U8 o,U8 l,U8 x] 80)).alloc (.cells #[I4 0,I4 0,I4 0,I4 0,U8 0,U8 0,U8 0] 80))/\Hid (Hp Y b 73 cs)/\Hid (Hp Y rb 26 (nums (M.regs.set 0 0)))/\Hid (Hp Y (w.heap.size+1) 80 (actC 3 g n r o l x))/\Hid (Hp Y (w.heap.size+1+1) 80 (actC 0 0 0 0 0 0 0))/\Chg w Y (fun x=>x=b∨x=rb)/\w.heap.size+3<=Y.heap.size:=by
  have P:=qCo h (Below.refl _ _) (k:=0) 0
  have hsz:(w.setCell ⟨rb,0,none⟩ (U8 0)).heap.size=w.heap.size:=by simp [World.setCell]
  refine ⟨_,rfl,(((h.st.far D).alloc _).alloc _).alloc _,((P.2.alloc _).alloc _).alloc _,?_,?_,?_,?_⟩
  ·have:=(Hp.new ((w.setCell ⟨rb,0,none⟩ (U8 0)).alloc (instO op d a s 6)) (actC 3 g n r o l x) 80).alloc (.cells #[I4 0,I4 0,I4 0,I4 0,U8 0,U8 0,U8 0] 80);rw [World.size_alloc,hsz] at this;exact this
  ·have:=Hp.new (((w.setCell ⟨rb,0,none⟩ (U8 0)).alloc (instO op d a s 6)).alloc (.cells #[I4 3,I4 g,I4 n,I4 r,U8 o,U8 l,U8 x] 80)) (actC 0 0 0 0 0 0 0) 80;rw [World.size_alloc,World.size_alloc,hsz] at this;exact this
  ·exact (Chg.of_grown P.1 (.inr rfl)).trans (Chg.of_below (S:=fun _=>False) (by go_grown)) (fun _ _ e=>e.elim)
  ·simp [hsz]
 have y:=keepJ (A.out.set 7 (I4 ((M.pc+1:Nat):Int)))
 have R:w.heap.size+1≠b:=by omega
 have B:w.heap.size+1+1≠b:=by omega
 have I:w.heap.size+1+1≠rb:=by omega
 have f:=keepJ (K.out.far (b':=b) (i:=7) (v:=I4 ((M.pc+1:Nat):Int)) R);have u:=keepJ (J.out.far (b':=b) (i:=7) (v:=I4 ((M.pc+1:Nat):Int)) (Ne.symm D));have z:=keepJ (N.trans (Chg.of_grown (qAb Y b 7 (I4 ((M.pc+1:Nat):Int))) (S:=fun x=>x=b) rfl) (fun _ _ e=>.inl e));have c:=keepJ (G.out.far (b':=b) (i:=7) (v:=I4 ((M.pc+1:Nat):Int)) B)
 go_wp2_with (go_at_call 41;rw [<- Z.out];go_must (refine (don_any _ A.out h.c7 E).mono ?_);rintro e w6 ⟨rfl,rfl⟩;go_must (obtain ⟨V,Q⟩:∃ V,Hid (V=Y.setCell ⟨b,7,none⟩ (I4 ((M.pc+1:Nat):Int))):=⟨_,rfl⟩;rw [<- Q.out] at y f c u z;obtain ⟨⟨a0,a1,a2,a3,a4,a5,a6⟩,-⟩:=hq7 f.out;obtain ⟨⟨o0,o1,o2,o3,o4,o5,o6⟩,q0,q1,q2,q3,q4,q5,q6⟩:=hq7 c.out;rw [<- Q.out]))
 have O:=c.out.sets (actC 3 g n r o l x) 0;rw [qAr (actC 3 g n r o l x) (actC 0 0 0 0 0 0 0) rfl] at O;refine qBv rfl rfl O ⟨rfl,?_,u.out.fars (Ne.symm I) (actC 3 g n r o l x) 0,y.out.fars (Ne.symm B) (actC 3 g n r o l x) 0⟩;exact z.out.trans (Chg.of_grown (qAd (w.heap.size+1+1) (actC 3 g n r o l x) V 0) (S:=fun x=>x=w.heap.size+1+1) rfl) (fun k hk e=>by omega)
theorem dcall_map {b rb tb:Nat}{cs:List Value}{M:Mc}(op d a G c l:Int)(w:World)(h:Rdm w b rb tb cs M){m0:Nat}(ai:cs[9]? = some (I4 m0))(hi:0<=c/\c<=4){mb mo mcap nm j:Nat}(ag:cs[0]? = some (.slice (some ⟨mb,mo,none⟩) nm mcap))(hj:j<nm)(aj:mb<w.heap.size)(az:nm<=mcap){g:Int}(T:w.cell? ⟨mb,mo+j,none⟩=some (I4 g))(ae:mb≠b){y z q:Int}(H1:Hid (regV M.regs 1=(j:Int)))(H2:Hid (regV M.regs 2=y))(H3:Hid (regV M.regs 3=z))(HQ:Hid ((if c=2∨c=4 then z else 0)=q)) :
  Cl 37 #[.pointer (some ⟨b,0,none⟩),instV op d a G c,actV 1 l 0 0 0 0 0] w fun e u=>e=.returned (actV 2 l g c y q 0)/\Chg w u (fun x=>x=b)/\Hp u b 73 (cs.set 9 (I4 1)):=by
 have aq:=h.st.lt;have ax:=h.rg.lt
 have ap:b<w.heap.size+1:=by omega
 have ao:b<w.heap.size+1+1:=by omega
 have am:b≠rb:=qBi h.st h.rg (by decide);have c9:=h.st.cell ai;have f9:=h.st.frozen 9;obtain ⟨ar,au⟩:=hi
 obtain ⟨Y,HY,E,F,s,a7,af,av,x4,X⟩:∃ Y,Hid (Y=(((w.setCell ⟨b,9,none⟩ (I4 1)).alloc (instO op d a G c)).alloc (.cells #[I4 2,I4 l,I4 0,I4 0,U8 0,U8 0,U8 0] 80)).alloc (.cells #[I4 0,I4 0,I4 0,I4 0,U8 0,U8 0,U8 0] 80))/\Hid (Hp Y b 73 (cs.set 9 (I4 1)))/\Hid (Hp Y rb 26 (nums M.regs))/\Hid (Hp Y (w.heap.size+1) 80 (actC 2 l 0 0 0 0 0))/\Hid (Hp Y (w.heap.size+1+1) 80 (actC 0 0 0 0 0 0 0))/\Hid (Chg w Y (fun x=>x=b))/\w.heap.size+3<=Y.heap.size/\Y.cell? ⟨w.heap.size,4,none⟩=some (I4 c)/\Y.cell? ⟨mb,mo+j,none⟩=some (I4 g):=by
  have hsz:(w.setCell ⟨b,9,none⟩ (I4 1)).heap.size=w.heap.size:=by simp [World.setCell]
  have hI:=Hp.new (w.setCell ⟨b,9,none⟩ (I4 1)) [I4 op,I4 d,I4 a,I4 G,I4 c] 43;rw [hsz] at hI
  have hC:Chg w ((((w.setCell ⟨b,9,none⟩ (I4 1)).alloc (instO op d a G c)).alloc (.cells #[I4 2,I4 l,I4 0,I4 0,U8 0,U8 0,U8 0] 80)).alloc (.cells #[I4 0,I4 0,I4 0,I4 0,U8 0,U8 0,U8 0] 80)) (fun x=>x=b):=by
   refine (Chg.of_grown (S:=fun x=>x=b) (qAb w b 9 (I4 1)) rfl).trans (Chg.of_below (S:=fun _=>False) ?_) (fun _ _ e=>e.elim)
   go_grown
  refine ⟨_,rfl,(((h.st.set 9 _).alloc _).alloc _).alloc _,(((h.rg.far (Ne.symm am)).alloc _).alloc _).alloc _,?_,?_,hC,by simp [hsz],((hI.alloc _).alloc _).cell (j:=4) rfl,(hC.cellE aj ae).trans T⟩
  ·have:=(Hp.new ((w.setCell ⟨b,9,none⟩ (I4 1)).alloc (instO op d a G c)) (actC 2 l 0 0 0 0 0) 80).alloc (.cells #[I4 0,I4 0,I4 0,I4 0,U8 0,U8 0,U8 0] 80);rw [World.size_alloc,hsz] at this;exact this
  ·have:=Hp.new (((w.setCell ⟨b,9,none⟩ (I4 1)).alloc (instO op d a G c)).alloc (.cells #[I4 2,I4 l,I4 0,I4 0,U8 0,U8 0,U8 0] 80)) (actC 0 0 0 0 0 0 0) 80;rw [World.size_alloc,World.size_alloc,hsz] at this;exact this
 have o:Y.cell? ⟨b,0,none⟩=some (.slice (some ⟨mb,mo,none⟩) nm mcap)/\Y.cell? ⟨b,5,none⟩=some (.slice (some ⟨rb,0,none⟩) 8 8)/\Y.cell? ⟨rb,1,none⟩=some (U8 j)/\Y.cell? ⟨rb,2,none⟩=some (U8 y)/\Y.cell? ⟨rb,3,none⟩=some (U8 z)/\Y.cell? ⟨mb,mo+j,none⟩=some (I4 g)/\Y.cell? ⟨w.heap.size,4,none⟩=some (I4 c):=by
  have r1:=F.out.cell (qBy (r:=1) (show 1<M.regs.length by rw [h.wr.1];omega));have r2:=F.out.cell (qBy (r:=2) (show 2<M.regs.length by rw [h.wr.1];omega));have r3:=F.out.cell (qBy (r:=3) (show 3<M.regs.length by rw [h.wr.1];omega));rw [show M.regs.getD 1 0=(j:Int) from H1.out] at r1;rw [show M.regs.getD 2 0=y from H2.out] at r2;rw [show M.regs.getD 3 0=z from H3.out] at r3;exact ⟨E.out.cell (by rw [List.getElem?_set_ne (by omega)];exact ag),E.out.cell (by rw [List.getElem?_set_ne (by omega)];exact h.c5),r1,r2,r3,X,x4⟩
 have U:b<Y.heap.size:=E.out.lt;have L:rb<Y.heap.size:=F.out.lt
 have ac:mb<Y.heap.size:=by omega
 have al:w.heap.size<Y.heap.size:=by omega
 have N:b≠w.heap.size+1:=by omega
 have nr:rb≠w.heap.size+1:=by omega
 have ah:mb≠w.heap.size+1:=by omega
 have nw:w.heap.size≠w.heap.size+1:=by omega
 have A:(Y.setCells (w.heap.size+1) 2 [I4 g,I4 c,U8 y,U8 0]).cell? ⟨b,0,none⟩=some (.slice (some ⟨mb,mo,none⟩) nm mcap)/\(Y.setCells (w.heap.size+1) 2 [I4 g,I4 c,U8 y,U8 0]).cell? ⟨b,5,none⟩=some (.slice (some ⟨rb,0,none⟩) 8 8)/\(Y.setCells (w.heap.size+1) 2 [I4 g,I4 c,U8 y,U8 0]).cell? ⟨rb,1,none⟩=some (U8 j)/\(Y.setCells (w.heap.size+1) 2 [I4 g,I4 c,U8 y,U8 0]).cell? ⟨rb,2,none⟩=some (U8 y)/\(Y.setCells (w.heap.size+1) 2 [I4 g,I4 c,U8 y,U8 0]).cell? ⟨rb,3,none⟩=some (U8 z)/\(Y.setCells (w.heap.size+1) 2 [I4 g,I4 c,U8 y,U8 0]).cell? ⟨mb,mo+j,none⟩=some (I4 g)/\(Y.setCells (w.heap.size+1) 2 [I4 g,I4 c,U8 y,U8 0]).cell? ⟨w.heap.size,4,none⟩=some (I4 c):=⟨(qAi (qAd (w.heap.size+1) [I4 g,I4 c,U8 y,U8 0] Y 2) U N).trans o.1,(qAi (qAd (w.heap.size+1) [I4 g,I4 c,U8 y,U8 0] Y 2) U N).trans o.2.1,(qAi (qAd (w.heap.size+1) [I4 g,I4 c,U8 y,U8 0] Y 2) L nr).trans o.2.2.1,(qAi (qAd (w.heap.size+1) [I4 g,I4 c,U8 y,U8 0] Y 2) L nr).trans o.2.2.2.1,(qAi (qAd (w.heap.size+1) [I4 g,I4 c,U8 y,U8 0] Y 2) L nr).trans o.2.2.2.2.1,(qAi (qAd (w.heap.size+1) [I4 g,I4 c,U8 y,U8 0] Y 2) ac ah).trans o.2.2.2.2.2.1,(qAi (qAd (w.heap.size+1) [I4 g,I4 c,U8 y,U8 0] Y 2) al nw).trans o.2.2.2.2.2.2⟩;have ad:Hid (Hp (Y.setCells (w.heap.size+1) 2 [I4 g,I4 c,U8 y,U8 0]) (w.heap.size+1) 80 (actC 2 l g c y 0 0)):=s.out.sets [I4 g,I4 c,U8 y,U8 0] 2;have a8:=keepJ (a7.out.fars (show w.heap.size+1+1≠w.heap.size+1 by omega) [I4 g,I4 c,U8 y,U8 0] 2);have ak:=keepJ (E.out.fars N [I4 g,I4 c,U8 y,U8 0] 2);have a9:=keepJ (af.out.trans (Chg.of_grown (qAd (w.heap.size+1) [I4 g,I4 c,U8 y,U8 0] Y 2) (S:=fun x=>x=w.heap.size+1) rfl) (fun k Q e=>by omega));have b2:=s.out.cell (j:=2) rfl;have b3:=s.out.cell (j:=3) rfl;have b4:=s.out.cell (j:=4) rfl;have b5:=s.out.cell (j:=5) rfl;have e2:=s.out.frozen 2;have e3:=s.out.frozen 3;have e4:=s.out.frozen 4;have e5:=s.out.frozen 5
 have ay:(j:Int)<nm:=by omega
 clear x4 X;go_enter Tryz.func37,Tryz.ntmps37;go_wp2;rw [<- HY.out]
 go_region_held3 (fun u=>u.cell? ⟨b,0,none⟩=some (.slice (some ⟨mb,mo,none⟩) nm mcap)/\u.cell? ⟨b,5,none⟩=some (.slice (some ⟨rb,0,none⟩) 8 8)/\u.cell? ⟨rb,1,none⟩=some (U8 j)/\u.cell? ⟨rb,2,none⟩=some (U8 y)/\u.cell? ⟨rb,3,none⟩=some (U8 z)/\u.cell? ⟨mb,mo+j,none⟩=some (I4 g)/\u.cell? ⟨w.heap.size,4,none⟩=some (I4 c))
  (first|with_reducible exact o|exact A|exact o)
  (fail)
 obtain ⟨V,HV,n,f,J,O,v5,v3,v4⟩:∃ V,Hid (V=((((Y.setCell ⟨w.heap.size+1,2,none⟩ (I4 g)).setCell ⟨w.heap.size+1,3,none⟩ (I4 c)).setCell ⟨w.heap.size+1,4,none⟩ (U8 y)).setCell ⟨w.heap.size+1,5,none⟩ (U8 0)))/\Hid (Hp V (w.heap.size+1) 80 (actC 2 l g c y 0 0))/\Hid (Hp V (w.heap.size+1+1) 80 (actC 0 0 0 0 0 0 0))/\Hid (Hp V b 73 (cs.set 9 (I4 1)))/\Hid (Chg w V (fun x=>x=b))/\V.cell? ⟨b,5,none⟩=some (.slice (some ⟨rb,0,none⟩) 8 8)/\V.cell? ⟨rb,3,none⟩=some (U8 z)/\V.cell? ⟨w.heap.size,4,none⟩=some (I4 c) :=
  ⟨_,rfl,ad.out,a8.out,ak.out,a9.out,A.2.1,A.2.2.2.2.1,A.2.2.2.2.2.2⟩
 rw [<- HV.out];have a0:=n.out.cell (j:=0) rfl;have a1:=n.out.cell (j:=1) rfl;have a2:=n.out.cell (j:=2) rfl;have a3:=n.out.cell (j:=3) rfl;have a4:=n.out.cell (j:=4) rfl;have a5:=n.out.cell (j:=5) rfl;have a6:=n.out.cell (j:=6) rfl;have aw:=n.out.frozen 5;obtain ⟨⟨o0,o1,o2,o3,o4,o5,o6⟩,q0,q1,q2,q3,q4,q5,q6⟩:=hq7 f.out;clear b2 b3 b4 b5 e2 e3 e4 e5 o A
 by_cases h2:c=2
 ·have Z:(c==2)=true:=by simpa using h2
  have B:c=2∨c=4:=.inl h2;clear h2;have ab:=keepJ (n.out.set 5 (U8 z));have I:=keepJ (f.out.far (b':=w.heap.size+1) (i:=5) (v:=U8 z) (show w.heap.size+1+1≠w.heap.size+1 by omega));have P:=keepJ (J.out.far (b':=w.heap.size+1) (i:=5) (v:=U8 z) N);have R:=keepJ (O.out.trans (Chg.of_grown (qAb V (w.heap.size+1) 5 (U8 z)) (S:=fun x=>x=w.heap.size+1) rfl) (fun k Q e=>by omega))
  have K:Hid (z=q):=by show _=_;rw [<- HQ.out,if_pos B]
  go_wp2;have D:=I.out.sets (actC 2 l g c y z 0) 0;rw [qAr (actC 2 l g c y z 0) (actC 0 0 0 0 0 0 0) rfl] at D;rw [<- K.out];refine qBv rfl rfl D.drew ⟨rfl,?_,(P.out.fars (show b≠w.heap.size+1+1 by omega) (actC 2 l g c y z 0) 0).drew⟩;exact Chg.drew (R.out.trans (Chg.of_grown (qAd (w.heap.size+1+1) (actC 2 l g c y z 0) _ 0) (S:=fun x=>x=w.heap.size+1+1) rfl) (fun k Q e=>by omega))
 by_cases h4:c=4
 ·have Z:(c==2)=false:=by simpa using h2
  have aa:(c==4)=true:=by simpa using h4
  have B:c=2∨c=4:=.inr h4;clear h2 h4;have ab:=keepJ (n.out.set 5 (U8 z));have I:=keepJ (f.out.far (b':=w.heap.size+1) (i:=5) (v:=U8 z) (show w.heap.size+1+1≠w.heap.size+1 by omega));have P:=keepJ (J.out.far (b':=w.heap.size+1) (i:=5) (v:=U8 z) N);have R:=keepJ (O.out.trans (Chg.of_grown (qAb V (w.heap.size+1) 5 (U8 z)) (S:=fun x=>x=w.heap.size+1) rfl) (fun k Q e=>by omega))
  have K:Hid (z=q):=by show _=_;rw [<- HQ.out,if_pos B]
  go_wp2;have D:=I.out.sets (actC 2 l g c y z 0) 0;rw [qAr (actC 2 l g c y z 0) (actC 0 0 0 0 0 0 0) rfl] at D;rw [<- K.out];refine qBv rfl rfl D.drew ⟨rfl,?_,(P.out.fars (show b≠w.heap.size+1+1 by omega) (actC 2 l g c y z 0) 0).drew⟩;exact Chg.drew (R.out.trans (Chg.of_grown (qAd (w.heap.size+1+1) (actC 2 l g c y z 0) _ 0) (S:=fun x=>x=w.heap.size+1+1) rfl) (fun k Q e=>by omega))
 ·have Z:(c==2)=false:=by simpa using h2
  have aa:(c==4)=false:=by simpa using h4
  have B:¬ (c=2∨c=4):=by omega
  clear h2 h4
  have K:Hid (0=q):=by show _=_;rw [<- HQ.out,if_neg B]
  go_wp2;have D:=f.out.sets (actC 2 l g c y 0 0) 0;rw [qAr (actC 2 l g c y 0 0) (actC 0 0 0 0 0 0 0) rfl] at D;rw [<- K.out];refine qBv rfl rfl D.drew ⟨rfl,?_,(J.out.fars (show b≠w.heap.size+1+1 by omega) (actC 2 l g c y 0 0) 0).drew⟩;exact Chg.drew (O.out.trans (Chg.of_grown (qAd (w.heap.size+1+1) (actC 2 l g c y 0 0) V 0) (S:=fun x=>x=w.heap.size+1+1) rfl) (fun k Q e=>by omega))
theorem book_high {w:World}{B c k:Nat}{v:Value}{b:List Ak}(a:Bk w B c v b)(d:w.heap.size<=k):¬ bkS c v k:=by
 rintro (e|e)
 ·have:=a.hp.lt;omega
 ·have:=(a.row.lt _ e).2;omega
theorem dcall_mark {b rb tb:Nat}{cs:List Value}{M:Mc}(op d a L l:Int)(w:World)(h:Rdm w b rb tb cs M){y n:Int}(H1:Hid (regV M.regs 1=y))(hy:0<=y/\y<=15){B c:Nat}{v:Value}{G:List Ak}(b2:cs[4]? = some (.pointer (some ⟨c,0,none⟩)))(E:Bk w B c v G)(hB:B<=w.heap.size)(ap:G.length<=100000)(HN:Hid (countA (G++[⟨3,y,1⟩]) y=n)) :
  Cl 37 #[.pointer (some ⟨b,0,none⟩),instV op d a L 5,actV 1 l 0 0 0 0 0] w fun e F=>e=.returned (actV 1 l 0 0 0 0 n)/\Chg w F (fun x=>x=b∨x=rb∨bkS c v x)/\Hp F rb 26 (nums (M.regs.set 0 n))/\Hp F b 73 (cs.set 7 (I4 ((M.pc+1:Nat):Int)))/\∃ v',Bk F B c v' (G++[⟨3,y,1⟩])/\RowNew w v v':=by
 have b5:IntKind.i64.wrap y=y:=by rw [IntKind.wrap_i64];omega
 have al:Hid (inB y=true):=decide_eq_true (by omega);have b4:=h.st.lt;have b8:=h.rg.lt;have af:b≠rb:=qBi h.st h.rg (by decide)
 have ai:(M.pc:Int)<=100:=by have:=h.pc;omega
 have nb:¬ bkS c v b:=qBh E h.st (by decide) (by decide);have nr:¬ bkS c v rb:=qBh E h.rg (by decide) (by decide)
 obtain ⟨Y,HY,A,av,ak,a9,b7,x4⟩:∃ Y,Hid (Y=((w.alloc (instO op d a L 5)).alloc (.cells #[I4 1,I4 l,I4 0,I4 0,U8 0,U8 0,U8 0] 80)).alloc (.cells #[I4 0,I4 0,I4 0,I4 0,U8 0,U8 0,U8 0] 80))/\Hid (Rdm Y b rb tb cs M)/\Hid (Hp Y (w.heap.size+1) 80 (actC 1 l 0 0 0 0 0))/\Hid (Hp Y (w.heap.size+1+1) 80 (actC 0 0 0 0 0 0 0))/\Bw w Y/\Y.heap.size=w.heap.size+3/\Y.cell? ⟨w.heap.size,4,none⟩=some (I4 5):=by
  have Z:Bw w (((w.alloc (instO op d a L 5)).alloc (.cells #[I4 1,I4 l,I4 0,I4 0,U8 0,U8 0,U8 0] 80)).alloc (.cells #[I4 0,I4 0,I4 0,I4 0,U8 0,U8 0,U8 0] 80)):=by go_grown
  have hI:=Hp.new w [I4 op,I4 d,I4 a,I4 L,I4 5] 43;refine ⟨_,rfl,h.below Z,?_,?_,Z,by simp,((hI.alloc _).alloc _).cell (j:=4) rfl⟩
  ·have:=(Hp.new (w.alloc (instO op d a L 5)) (actC 1 l 0 0 0 0 0) 80).alloc (.cells #[I4 0,I4 0,I4 0,I4 0,U8 0,U8 0,U8 0] 80);rw [World.size_alloc] at this;exact this
  ·have:=Hp.new ((w.alloc (instO op d a L 5)).alloc (.cells #[I4 1,I4 l,I4 0,I4 0,U8 0,U8 0,U8 0] 80)) (actC 0 0 0 0 0 0 0) 80;rw [World.size_alloc,World.size_alloc] at this;exact this
 have aj:=E.below a9;have aq:Hid (M.regs.getD 1 0=y):=H1.out
 have z:Y.cell? ⟨b,4,none⟩=some (.pointer (some ⟨c,0,none⟩))/\Y.cell? ⟨b,5,none⟩=some (.slice (some ⟨rb,0,none⟩) 8 8)/\Y.cell? ⟨rb,1,none⟩=some (U8 y):=by
  have r1:=A.out.rg.cell (qBy (r:=1) (show 1<M.regs.length by rw [h.wr.1];omega));rw [aq.out] at r1;exact ⟨A.out.st.cell b2,A.out.st.cell h.c5,r1⟩
 go_enter Tryz.func37,Tryz.ntmps37;go_wp2;rw [<- HY.out]
 go_region_held3 (fun F=>F.cell? ⟨b,4,none⟩=some (.pointer (some ⟨c,0,none⟩))/\F.cell? ⟨b,5,none⟩=some (.slice (some ⟨rb,0,none⟩) 8 8)/\F.cell? ⟨rb,1,none⟩=some (U8 y))
  (first|with_reducible exact R|with_reducible exact z|exact z)
  (first
   | (go_at_call 62;go_must (refine (bmark_in y al Y.drew aj.drew (by rw [show Y.drew.heap.size=Y.heap.size from rfl];omega) ap HN).mono ?_);rintro e D ⟨rfl,u,s,X,ag⟩;go_must (have g:Chg Y D (bkS c v):=X.undrew;have R:D.cell? ⟨b,4,none⟩=some (.pointer (some ⟨c,0,none⟩))/\D.cell? ⟨b,5,none⟩=some (.slice (some ⟨rb,0,none⟩) 8 8)/\D.cell? ⟨rb,1,none⟩=some (U8 y):=⟨(g.cellE (show b<Y.heap.size by omega) nb).trans z.1,(g.cellE (show b<Y.heap.size by omega) nb).trans z.2.1,(g.cellE (show rb<Y.heap.size by omega) nr).trans z.2.2⟩)))
 have J:=keepJ (av.out.chg g (book_high E (show w.heap.size<=w.heap.size+1 by omega)));have ab:=keepJ (ak.out.chg g (book_high E (show w.heap.size<=w.heap.size+1+1 by omega)));have aa:=keepJ (A.out.st.chg g nb);have I:=keepJ (A.out.rg.chg g nr);have b6:=g.size;have ao:Chg w D (fun x=>x=b∨x=rb∨bkS c v x):=(Chg.of_below (S:=fun x=>x=b∨x=rb∨bkS c v x) a9).trans g (fun k _ e=>.inr (.inr e))
 have Q:w.heap.size+1≠b:=by omega
 have N:w.heap.size+1≠rb:=by omega
 have O:w.heap.size+1+1≠b:=by omega
 have P:w.heap.size+1+1≠rb:=by omega
 have ah:w.heap.size+1+1≠w.heap.size+1:=by omega
 have k5:∀ x,(x=w.heap.size+1∨x=rb∨x=b∨x=w.heap.size+1+1)->¬ bkS c u x->True:=fun _ _ _=>trivial
 clear k5;have ar:¬ bkS c u b:=qBh s aa.out (by decide) (by decide);have b1:¬ bkS c u rb:=qBh s I.out (by decide) (by decide);have am:¬ bkS c u (w.heap.size+1):=qBh s J.out (by decide) (by decide);have ay:¬ bkS c u (w.heap.size+1+1):=qBh s ab.out (by decide) (by decide)
 have K:∀ (wx wy:World) (x:Nat),Bk wx B c u (G++[⟨3,y,1⟩])->wx.grownBy wy (some x)->¬ bkS c u x->Bk wy B c u (G++[⟨3,y,1⟩]):=fun wx wy x Z hg hx=>Z.chg (Chg.of_grown (S:=fun k=>k=x) hg rfl) (fun e=>hx (.inl e.symm)) (fun k T e=>hx (.inr (by rw [<- e];exact T)))
 obtain ⟨U,HU,ae,au,az,b3,aw,ax⟩:∃ U,Hid (U=(D.setCell ⟨w.heap.size+1,6,none⟩ (U8 n)).setCell ⟨rb,0,none⟩ (U8 n))/\Hid (Hp U b 73 cs)/\Hid (Hp U rb 26 (nums (M.regs.set 0 n)))/\Hid (Hp U (w.heap.size+1) 80 (actC 1 l 0 0 0 0 n))/\Hid (Hp U (w.heap.size+1+1) 80 (actC 0 0 0 0 0 0 0))/\Hid (Chg w U (fun x=>x=b∨x=rb∨bkS c v x))/\Hid (Bk U B c u (G++[⟨3,y,1⟩])):=by
  have e1:=(I.out.far (b':=w.heap.size+1) (i:=6) (v:=U8 n) (Ne.symm N)).set 0 (U8 n);rw [nums_setI] at e1;refine ⟨_,rfl,(aa.out.far (Ne.symm Q)).far af,e1,(J.out.set 6 (U8 n)).far N,(ab.out.far ah).far P,?_,K _ _ _ (K _ _ _ s (qAb D (w.heap.size+1) 6 _) am) (qAb _ rb 0 _) b1⟩;exact (ao.trans (Chg.of_grown (qAb D (w.heap.size+1) 6 (U8 n)) (S:=fun x=>x=w.heap.size+1) rfl) (fun k T e=>by omega)).trans (Chg.of_grown (qAb _ rb 0 (U8 n)) (S:=fun x=>x=rb) rfl) (fun k T e=>.inr (.inl e))
 have ad:=keepJ (ae.out.set 7 (I4 ((M.pc+1:Nat):Int)));have ac:=keepJ (au.out.far (b':=b) (i:=7) (v:=I4 ((M.pc+1:Nat):Int)) (Ne.symm af));have o:=keepJ (az.out.far (b':=b) (i:=7) (v:=I4 ((M.pc+1:Nat):Int)) Q);have f:=keepJ (b3.out.far (b':=b) (i:=7) (v:=I4 ((M.pc+1:Nat):Int)) O);have a8:=keepJ (aw.out.trans (Chg.of_grown (qAb U b 7 (I4 ((M.pc+1:Nat):Int))) (S:=fun x=>x=b) rfl) (fun _ _ e=>.inl e));have a7:=keepJ (K _ _ _ ax.out (qAb U b 7 (I4 ((M.pc+1:Nat):Int))) ar);have w0:=J.out.cell (j:=6) rfl;have g0:=J.out.frozen 6;have w1:=I.out.cell (qBy (r:=0) (show 0<M.regs.length by rw [h.wr.1];omega));have g1:=I.out.frozen 0;have s5:=R.2.1;clear z R
 go_wp2_with (go_at_call 41;rw [<- HU.out];go_must (refine (don_any _ ae.out h.c7 ai).mono ?_);rintro e w6 ⟨rfl,rfl⟩;go_must (obtain ⟨V,HV⟩:∃ V,Hid (V=U.setCell ⟨b,7,none⟩ (I4 ((M.pc+1:Nat):Int))):=⟨_,rfl⟩;rw [<- HV.out] at ad o f ac a8 a7;obtain ⟨⟨a0,a1,a2,a3,a4,a5,a6⟩,-⟩:=hq7 o.out;obtain ⟨⟨o0,o1,o2,o3,o4,o5,o6⟩,q0,q1,q2,q3,q4,q5,q6⟩:=hq7 f.out;rw [<- HV.out]))
 have hO:=f.out.sets (actC 1 l 0 0 0 0 n) 0;rw [qAr (actC 1 l 0 0 0 0 n) (actC 0 0 0 0 0 0 0) rfl] at hO;refine qBv rfl rfl hO ⟨rfl,?_,ac.out.fars (Ne.symm P) (actC 1 l 0 0 0 0 n) 0,ad.out.fars (Ne.symm O) (actC 1 l 0 0 0 0 n) 0,u,K _ _ _ a7.out (qAd (w.heap.size+1+1) (actC 1 l 0 0 0 0 n) V 0) ay,?_⟩
 ·exact a8.out.trans (Chg.of_grown (qAd (w.heap.size+1+1) (actC 1 l 0 0 0 0 n) V 0) (S:=fun x=>x=w.heap.size+1+1) rfl) (fun k T e=>by omega)
 ·rcases ag with e|⟨k,e,T⟩
  ·exact .inl e
  ·exact .inr ⟨k,e,by have:Y.drew.heap.size=Y.heap.size:=rfl;omega⟩
theorem Rdm.drewE {w:World}{b rb tb:Nat}{cs:List Value}{M:Mc}(h:Rdm w b rb tb cs M):Rdm w.drew b rb tb cs M:=⟨h.st.drew,h.c5,h.c6,h.c7,h.rg.drew,h.tn.drew,h.wr,h.pc⟩
theorem dstep_wait {b rb tb:Nat}{cs:List Value}{M:Mc}{l n z:Nat}{xs:List In}(w:World)(h:Rdm w b rb tb cs M)(af:cs[1]? = some (.slice (some ⟨l,n,none⟩) xs.length z))(hx:SeesI w (.slice (some ⟨l,n,none⟩) xs.length z) xs)(hp:M.pc<xs.length){m:Nat}(ae:cs[9]? = some (I4 m)){op d a r k:Int}(HI:Hid (nth xs M.pc=⟨op,d,a,r,k⟩))(hm:m=1) :
  Cl 19 #[.pointer (some ⟨b,0,none⟩)] w fun e A=>e=.returned (actV 5 M.pc 0 0 0 0 0)/\Bw w A:=by
 subst hm;have ak:=h.st.lt
 have aj:(M.pc:Int)<xs.length:=by omega
 have ah:(M.pc:Int)<=100:=by have:=h.pc;omega
 obtain ⟨N,a9,am,ai⟩:=codeL hx hp;rw [HI.out] at N;obtain ⟨k0,k1,k2,k3,k4⟩:=N;simp only at k0 k1 k2 k3 k4;have HX:=keepJ hx;clear hx;obtain ⟨V,HV,al,ad,F,I⟩:∃ V,Hid (w.alloc (.cells #[I4 0,I4 0,I4 0,I4 0,U8 0,U8 0,U8 0] 80)=V)/\Hid (Rdm V b rb tb cs M)/\Hid (Hp V w.heap.size 80 (actC 0 0 0 0 0 0 0))/\Bw w V/\V.heap.size=w.heap.size+1 :=
  ⟨_,rfl,h.below ((Below.refl _ _).alloc (Nat.le_refl _) _),Hp.new w _ _,(Below.refl _ _).alloc (Nat.le_refl _) _,by simp⟩
 have G:Hid (∀ o:World,Bw V o->o.cell? ⟨b,1,none⟩=some (.slice (some ⟨l,n,none⟩) xs.length z)/\o.cell? ⟨b,7,none⟩=some (I4 M.pc)/\o.cell? ⟨l,n+M.pc*5,none⟩=some (I4 op)/\o.cell? ⟨l,n+M.pc*5+1,none⟩=some (I4 d)/\o.cell? ⟨l,n+M.pc*5+2,none⟩=some (I4 a)/\o.cell? ⟨l,n+M.pc*5+3,none⟩=some (I4 r)/\o.cell? ⟨l,n+M.pc*5+4,none⟩=some (I4 k)):=fun o hb=>by
  have D:Bw w o:=F.trans (hb.mono F.size)
  have J:∀ {j:Nat} {u:Value},w.cell? ⟨l,j,none⟩=some u->o.cell? ⟨l,j,none⟩=some u:=fun {j u} e=>(D.cell (p:=⟨l,j,none⟩) a9).trans e
  exact ⟨(h.below D).st.cell af,(h.below D).st.cell h.c7,J k0,J k1,J k2,J k3,J k4⟩
 clear k0 k1 k2 k3 k4;go_enter Tryz.func19,Tryz.ntmps19;go_wp2;rw [HV.out];refine wp_region_held_drew (S:=fun A=>A.cell? ⟨b,1,none⟩=some (.slice (some ⟨l,n,none⟩) xs.length z)/\A.cell? ⟨b,7,none⟩=some (I4 M.pc)/\A.cell? ⟨l,n+M.pc*5,none⟩=some (I4 op)/\A.cell? ⟨l,n+M.pc*5+1,none⟩=some (I4 d)/\A.cell? ⟨l,n+M.pc*5+2,none⟩=some (I4 a)/\A.cell? ⟨l,n+M.pc*5+3,none⟩=some (I4 r)/\A.cell? ⟨l,n+M.pc*5+4,none⟩=some (I4 k)) (by kernel_rfl) (G.out _ (qAj (Below.refl _ _))) (fun hHeld=>?_);refine tkGo [0,1,2,3,4,5,6,7,8,9,10] ?_
 repeat (refine tkO (v:=?_) rfl ?_ ?_;rotate_left;(intro wy hSw;(try dsimp only at hSw);go_simp;(first|done|with_reducible rfl));try simp only [Act.put,p1q,p2q,p3q,p4q,p5q,p6q])
 refine tkEnd ?_;refine runO 11 (by kernel_rfl) rfl (by rfl) (fun KK hK=>?_);go_simp;obtain ⟨Y,HY,E,a7,i,ac⟩:∃ Y,Hid (V.alloc (.cells #[I4 0,I4 0,I4 0,I4 0,I4 0] 43)=Y)/\Bw V Y/\Hid (Hp Y w.heap.size 80 (actC 0 0 0 0 0 0 0))/\Hid (Hp Y (w.heap.size+1) 43 [I4 0,I4 0,I4 0,I4 0,I4 0])/\Y.heap.size=w.heap.size+2 :=
  ⟨_,rfl,(Below.refl _ _).alloc (Nat.le_refl _) _,ad.out.alloc _,by have:=Hp.new V [I4 0,I4 0,I4 0,I4 0,I4 0] 43;rw [I] at this;exact this,by simp [I]⟩
 try rw [I]
 rw [HY.out];refine hK.out _ _ (G.out _ (qAj E)) (fun hHeld=>?_);clear hK KK
 try simp only [Act.put,p1q,p2q,p3q,p4q,p5q,p6q]
 obtain ⟨⟨a0,a1,a2,a3,a4⟩,q0,q1,q2,q3,q4⟩:=hq5 i.out;refine runO 12 (by kernel_rfl) rfl (by rfl) (fun KK hK=>?_);go_simp
 obtain ⟨U,HU,aa,a8,ag,y,P⟩:∃ U,Hid (((((Y.setCell ⟨w.heap.size+1,0,none⟩ (I4 op)).setCell ⟨w.heap.size+1,1,none⟩ (I4 d)).setCell ⟨w.heap.size+1,2,none⟩ (I4 a)).setCell ⟨w.heap.size+1,3,none⟩ (I4 r)).setCell ⟨w.heap.size+1,4,none⟩ (I4 k)=U)/\Bw w U/\Hid (Rdm U b rb tb cs M)/\Hid (Hp U w.heap.size 80 (actC 0 0 0 0 0 0 0))/\Hid (Hp U (w.heap.size+1) 43 [I4 op,I4 d,I4 a,I4 r,I4 k])/\U.heap.size=w.heap.size+2:=by
  have hg:=qAd (w.heap.size+1) [I4 op,I4 d,I4 a,I4 r,I4 k] Y 0;have D:Bw V (Y.setCells (w.heap.size+1) 0 [I4 op,I4 d,I4 a,I4 r,I4 k]):=E.trans (qAg hg (by omega) E.size);have O:Bw w (Y.setCells (w.heap.size+1) 0 [I4 op,I4 d,I4 a,I4 r,I4 k]):=F.trans (D.mono F.size);exact ⟨_,rfl,O,h.below O,a7.out.grown hg (fun e=>by have:=Option.some.inj e;omega),i.out.sets [I4 op,I4 d,I4 a,I4 r,I4 k] 0,by simp [World.setCell,ac]⟩
 have Z:Bw V U:=by have h1:=HU.out;rw [<- h1];exact E.trans (qAg (qAd (w.heap.size+1) [I4 op,I4 d,I4 a,I4 r,I4 k] Y 0) (by omega) E.size)
 rw [HU.out];refine hK.out _ _ (G.out _ (qAj Z)) (fun hHeld=>?_);clear hK KK
 try simp only [Act.put,p1q,p2q,p3q,p4q,p5q,p6q]
 refine wpAnyH_done (by kernel_rfl) ?_ _;clear a0 a1 a2 a3 a4 q0 q1 q2 q3 q4 hHeld;obtain ⟨⟨i0,i1,i2,i3,i4⟩,-⟩:=hq5 y.out
 obtain ⟨T,HT,ab,K,f,B,g,ao⟩:∃ T,Hid (U.alloc (.cells #[I4 1,I4 M.pc,I4 0,I4 0,U8 0,U8 0,U8 0] 80)=T)/\Bw w T/\Hid (Rdm T b rb tb cs M)/\Hid (Hp T w.heap.size 80 (actC 0 0 0 0 0 0 0))/\Hid (Hp T (w.heap.size+1) 43 [I4 op,I4 d,I4 a,I4 r,I4 k])/\Hid (Hp T (w.heap.size+2) 80 (actC 1 M.pc 0 0 0 0 0))/\T.heap.size=w.heap.size+3:=by
  have D:=aa.alloc (by omega) (.cells #[I4 1,I4 M.pc,I4 0,I4 0,U8 0,U8 0,U8 0] 80);have hN:=Hp.new U (actC 1 M.pc 0 0 0 0 0) 80;rw [P] at hN;exact ⟨_,rfl,D,h.below D,ag.out.alloc _,y.out.alloc _,hN,by simp [P]⟩
 have u7:=a8.out.st.cell h.c7;have t7:=K.out.st.cell h.c7;have t9:=K.out.st.cell ae;obtain ⟨⟨o0,o1,o2,o3,o4,o5,o6⟩,p0,p1,p2,p3,p4,p5,p6⟩:=hq7 f.out;obtain ⟨⟨e0,e1,e2,e3,e4,e5,e6⟩,g0,g1,g2,g3,g4,g5,g6⟩:=hq7 g.out;obtain ⟨⟨j0,j1,j2,j3,j4⟩,-⟩:=hq5 B.out;obtain ⟨X,L,R⟩:∃ X,Hid (T.setCell ⟨w.heap.size+2,0,none⟩ (I4 5)=X)/\T.grownBy X (some (w.heap.size+2)):=⟨_,rfl,qAb T _ 0 _⟩
 have s:Hid (Hp X (w.heap.size+2) 80 (actC 5 M.pc 0 0 0 0 0)):=by have h1:=L.out;rw [<- h1];exact g.out.set 0 (I4 5)
 have c:=keepJ (f.out.grown R (show some w.heap.size≠some (w.heap.size+2) from fun e=>by have:=Option.some.inj e;omega))

 go_wp2_with (first
  | rw [HT.out]
  | (rw [L.out];obtain ⟨⟨a0,a1,a2,a3,a4,a5,a6⟩,-⟩:=hq7 s.out;  obtain ⟨⟨b0,b1,b2,b3,b4,b5,b6⟩,q0,q1,q2,q3,q4,q5,q6⟩:=hq7 c.out;  clear e0 e1 e2 e3 e4 e5 e6))
 have hO:=c.out.sets (actC 5 M.pc 0 0 0 0 0) 0;rw [qAr (actC 5 M.pc 0 0 0 0 0) (actC 0 0 0 0 0 0 0) rfl] at hO;have hG:=qAd w.heap.size (actC 5 M.pc 0 0 0 0 0) X 0;have Q:Bw w X:=ab.trans (qAg R (by omega) (by omega))

 exact qBv rfl rfl hO.drew ⟨rfl,qAj (Q.trans (qAg hG (Nat.le_refl _) Q.size))⟩
section
variable {b sb:Nat} {vm:Value} {ev:Int×Int} {M:Mc}
theorem Chg.drewE {w a:World}{S:Nat->Prop}(h:Chg w a S):Chg w a.drew S:=⟨h.os,h.tape,h.output,h.size,h.block⟩
theorem mstep_wait {n:Value}(w:World)(h:Ma w b sb vm n ev M)(hm:M.mode=1) :
  Cl 18 #[.pointer (some ⟨b,0,none⟩)] w fun e r=>e=.returned (actV 5 M.pc 0 0 0 0 0)/\Bw w r:=by
 have u:=h.hp.lt;have o:=h.last.2.2;rw [hm] at o;obtain ⟨V,s,i,f,d,y⟩:=boxO h;go_enter Tryz.func18,Tryz.ntmps18
 go_wp2_with (go_at_call 32;rw [s.out];go_must (refine (mtold_any 5 0 V i.out).mono ?_);rintro e l ⟨rfl,c⟩;go_must (have a:=keepJ (f.out.below c f.out.lt);obtain ⟨⟨J,A,I,F,B,z,G⟩,q0,E,L,N,K,D,O⟩:=hq7 a.out;  skip))
 have g:=a.out.sets (actC 5 M.pc 0 0 0 0 0) 0;rw [qAr (actC 5 M.pc 0 0 0 0 0) (actC 0 0 0 0 0 0 0) rfl] at g;have k:=qAd w.heap.size (actC 5 M.pc 0 0 0 0 0) l 0;exact qBv rfl rfl g ⟨rfl,(d.trans (c.mono (by omega))).trans (qAg k (Nat.le_refl _) (d.trans (c.mono (by omega))).size)⟩
theorem mstep_over {B A f:Nat}{xs:List In}(w:World)(h:Ma w b sb vm (.slice (some ⟨B,A,none⟩) xs.length f) ev M)(y:SeesI w (.slice (some ⟨B,A,none⟩) xs.length f) xs)(J:M.pc<xs.length)(hm:M.mode=2)(I:0<=(nth xs M.pc).a/\(nth xs M.pc).a<=7){n:Int}(D:Hid (regV M.regs (nth xs M.pc).a=n)) :
  Cl 18 #[.pointer (some ⟨b,0,none⟩)] w fun e K=>e=.returned (actV 6 M.pc 0 0 0 0 n)/\Bw w K:=by
 have O:=h.hp.lt;have G:=h.last.2.2;rw [hm] at G;obtain ⟨V,L,g,l,i,P⟩:=boxO h;have u:=keepJ (y.below i);clear y;go_enter Tryz.func18,Tryz.ntmps18
 go_wp2_with (first
  | (go_at_call 33;rw [L.out];go_must (refine (mresult_any V g.out u.out J I D).mono ?_);rintro e s ⟨rfl,d⟩;go_must (have r:=keepJ (g.out.below d g.out.hp.lt);have N:=d.size))
  | (go_at_call 32;go_must (refine (mtold_any 6 n s r.out).mono ?_);rintro e F ⟨rfl,k⟩;go_must (have c:=keepJ ((l.out.below d l.out.lt).below k (by omega));obtain ⟨⟨o0,R,Z,X,S,Q,Y⟩,q0,U,q2,q3,q4,T,q6⟩:=hq7 c.out;  skip)))
 have z:=c.out.sets (actC 6 M.pc 0 0 0 0 n) 0;rw [qAr (actC 6 M.pc 0 0 0 0 n) (actC 0 0 0 0 0 0 0) rfl] at z;have E:=qAd w.heap.size (actC 6 M.pc 0 0 0 0 n) F 0;have o:=(i.trans (d.mono (by omega))).trans (k.mono (show w.heap.size<=s.heap.size by omega));exact qBv rfl rfl z ⟨rfl,o.trans (qAg E (Nat.le_refl _) o.size)⟩
end
section
variable {b sb:Nat} {vm:Value} {ev:Int×Int} {M:Mc}
theorem mstep_call {f l n:Nat}{xs:List In}(w:World)(h:Ma w b sb vm (.slice (some ⟨f,l,none⟩) xs.length n) ev M)(hx:SeesI w (.slice (some ⟨f,l,none⟩) xs.length n) xs)(hp:M.pc<xs.length)(hm:M.mode=0)(aw:M.steps<=1000)(a5:f≠b){op d a y g:Int}(HI:Hid (nth xs M.pc=⟨op,d,a,y,g⟩))(ho:op=21)(hi:0<=g/\g<=6){ak apc am ao aq av an:Int}{Q:World->Prop}(HC:Hid (∀ U:World,Ma U b sb vm (.slice (some ⟨f,l,none⟩) xs.length n) ev { M with steps:=M.steps+1 }->Chg w U (fun k=>k=b)->Cl 34 #[.pointer (some ⟨b,0,none⟩),I4 g] U fun e o=>e=.returned (actV ak apc am ao aq av an)/\Chg U o (fun k=>k=b∨k=sb)/\Q o))(al:sb<w.heap.size) :
  Cl 18 #[.pointer (some ⟨b,0,none⟩)] w fun e o=>e=.returned (actV ak apc am ao aq av an)/\Chg w o (fun k=>k=b∨k=sb)/\∃ A,Q A/\A.grownBy o (some w.heap.size):=by
 have ap:(op==21)=true:=by simp [ho]
 clear ho
 have ax:IntKind.i64.wrap g=g:=by rw [IntKind.wrap_i64];omega
 have a8:=h.hp.lt
 have ah:(M.pc:Int)<xs.length:=by omega
 have af:(M.pc:Int)<=100:=by have:=h.pc;omega
 have ae:(M.steps:Int)<=1000:=by omega
 obtain ⟨N,aa,ai,ag⟩:=codeL hx hp;rw [HI.out] at N;obtain ⟨k0,O,k2,Z,X⟩:=N;simp only at k0 O k2 Z X;have HX:=keepJ hx;clear hx;have c9:=h.last.2.2;have c8:=h.last.2.1;have f8:=h.hp.frozen 78;rw [hm] at c9
 have aj:w.heap.size≠b:=by omega
 obtain ⟨V,HV,s,ac,I,F⟩:∃ V,Hid ((w.setCell ⟨b,78,none⟩ (I4 ((M.steps:Int)+1))).alloc (.cells #[I4 0,I4 0,I4 0,I4 0,U8 0,U8 0,U8 0] 80)=V)/\Hid (Ma V b sb vm (.slice (some ⟨f,l,none⟩) xs.length n) ev { M with steps:=M.steps+1 })/\Hid (Hp V w.heap.size 80 (actC 0 0 0 0 0 0 0))/\Hid (Chg w V (fun k=>k=b))/\V.heap.size=w.heap.size+1:=by
  have hsz:(w.setCell ⟨b,78,none⟩ (I4 ((M.steps:Int)+1))).heap.size=w.heap.size:=by simp [World.setCell]
  have D:=(Below.refl (w.setCell ⟨b,78,none⟩ (I4 ((M.steps:Int)+1))).heap.size (w.setCell ⟨b,78,none⟩ (I4 ((M.steps:Int)+1)))).alloc (Nat.le_refl _) (.cells #[I4 0,I4 0,I4 0,I4 0,U8 0,U8 0,U8 0] 80);have hN:=Hp.new (w.setCell ⟨b,78,none⟩ (I4 ((M.steps:Int)+1))) (actC 0 0 0 0 0 0 0) 80;rw [hsz] at hN;have hM:=h.setN (M.steps+1);rw [show ((M.steps+1:Nat):Int)=(M.steps:Int)+1 by omega] at hM;exact ⟨_,rfl,hM.below D (by rw [hsz];exact a8),hN,(Chg.of_grown (S:=fun k=>k=b) (qAb w b 78 _) rfl).trans (Chg.of_below (S:=fun _=>False) D) (fun _ _ e=>e.elim),by simp [hsz]⟩
 have B:Hid (∀ r:World,Bw V r->r.cell? ⟨b,3,none⟩=some (.slice (some ⟨f,l,none⟩) xs.length n)/\r.cell? ⟨b,77,none⟩=some (I4 M.pc)/\r.cell? ⟨f,l+M.pc*5,none⟩=some (I4 op)/\r.cell? ⟨f,l+M.pc*5+1,none⟩=some (I4 d)/\r.cell? ⟨f,l+M.pc*5+2,none⟩=some (I4 a)/\r.cell? ⟨f,l+M.pc*5+3,none⟩=some (I4 y)/\r.cell? ⟨f,l+M.pc*5+4,none⟩=some (I4 g)):=fun r R=>by
  have G:∀ {j:Nat} {u:Value},w.cell? ⟨f,j,none⟩=some u->r.cell? ⟨f,j,none⟩=some u:=fun {j u} e=>(R.cell (p:=⟨f,j,none⟩) (show f<V.heap.size by omega)).trans ((I.out.cellL aa a5).trans e)
  exact ⟨(s.out.below R s.out.hp.lt).low.2.2.2.1,(s.out.below R s.out.hp.lt).last.1,G k0,G O,G k2,G Z,G X⟩
 clear k0 O k2 Z X;go_enter Tryz.func18,Tryz.ntmps18;go_wp2;rw [HV.out];refine wp_region_held_drew (S:=fun o=>o.cell? ⟨b,3,none⟩=some (.slice (some ⟨f,l,none⟩) xs.length n)/\o.cell? ⟨b,77,none⟩=some (I4 M.pc)/\o.cell? ⟨f,l+M.pc*5,none⟩=some (I4 op)/\o.cell? ⟨f,l+M.pc*5+1,none⟩=some (I4 d)/\o.cell? ⟨f,l+M.pc*5+2,none⟩=some (I4 a)/\o.cell? ⟨f,l+M.pc*5+3,none⟩=some (I4 y)/\o.cell? ⟨f,l+M.pc*5+4,none⟩=some (I4 g)) (by kernel_rfl) (B.out _ (qAj (Below.refl _ _))) (fun hHeld=>?_);refine tkGo [0,1,2,3,4,5,6,7,8,9] ?_
 repeat (refine tkO (v:=?_) rfl ?_ ?_;rotate_left;(intro wy hSw;(try dsimp only at hSw);go_simp;(first|done|with_reducible rfl));try simp only [Act.put,p1q,p2q,p3q,p4q,p5q,p6q])
 refine tkEnd ?_;refine runO 10 (by kernel_rfl) rfl (by rfl) (fun KK hK=>?_);go_simp;obtain ⟨Y,HY,E,a6,i,ar⟩:∃ Y,Hid (V.alloc (.cells #[I4 0,I4 0,I4 0,I4 0,I4 0] 43)=Y)/\Bw V Y/\Hid (Hp Y w.heap.size 80 (actC 0 0 0 0 0 0 0))/\Hid (Hp Y (w.heap.size+1) 43 [I4 0,I4 0,I4 0,I4 0,I4 0])/\Y.heap.size=w.heap.size+2 :=
  ⟨_,rfl,(Below.refl _ _).alloc (Nat.le_refl _) _,ac.out.alloc _,by have:=Hp.new V [I4 0,I4 0,I4 0,I4 0,I4 0] 43;rw [F] at this;exact this,by simp [F]⟩
 try rw [F]
 rw [HY.out];refine hK.out _ _ (B.out _ (qAj E)) (fun hHeld=>?_);clear hK KK
 try simp only [Act.put,p1q,p2q,p3q,p4q,p5q,p6q]
 obtain ⟨⟨a0,a1,a2,a3,a4⟩,q0,q1,q2,q3,q4⟩:=hq5 i.out;refine runO 11 (by kernel_rfl) rfl (by rfl) (fun KK hK=>?_);go_simp
 obtain ⟨U,HU,J,a7,ad,z,au⟩:∃ U,Hid (((((Y.setCell ⟨w.heap.size+1,0,none⟩ (I4 op)).setCell ⟨w.heap.size+1,1,none⟩ (I4 d)).setCell ⟨w.heap.size+1,2,none⟩ (I4 a)).setCell ⟨w.heap.size+1,3,none⟩ (I4 y)).setCell ⟨w.heap.size+1,4,none⟩ (I4 g)=U)/\Bw V U/\Hid (Ma U b sb vm (.slice (some ⟨f,l,none⟩) xs.length n) ev { M with steps:=M.steps+1 })/\Hid (Hp U w.heap.size 80 (actC 0 0 0 0 0 0 0))/\Hid (Hp U (w.heap.size+1) 43 [I4 op,I4 d,I4 a,I4 y,I4 g])/\w.heap.size+2<=U.heap.size:=by
  have P:=qAd (w.heap.size+1) [I4 op,I4 d,I4 a,I4 y,I4 g] Y 0;have D:Bw V (Y.setCells (w.heap.size+1) 0 [I4 op,I4 d,I4 a,I4 y,I4 g]):=E.trans (qAg P (by omega) E.size);exact ⟨_,rfl,D,s.out.below D s.out.hp.lt,a6.out.grown P (fun e=>by have:=Option.some.inj e;omega),i.out.sets [I4 op,I4 d,I4 a,I4 y,I4 g] 0,by have:=P.size;show w.heap.size+2<=(Y.setCells (w.heap.size+1) 0 [I4 op,I4 d,I4 a,I4 y,I4 g]).heap.size;omega⟩
 rw [HU.out];refine hK.out _ _ (B.out _ (qAj J)) (fun hHeld=>?_);clear hK KK
 try simp only [Act.put,p1q,p2q,p3q,p4q,p5q,p6q]
 refine wpAnyH_done (by kernel_rfl) ?_ _;clear a0 a1 a2 a3 a4 q0 q1 q2 q3 q4 hHeld;have L:=keepJ (I.out.trans (Chg.of_below (S:=fun _=>False) J) (fun _ _ e=>e.elim));obtain ⟨⟨i0,i1,i2,i3,i4⟩,-⟩:=hq5 z.out
 go_wp2_with (go_at_call 34;go_must (refine (HC.out _ a7.out.drew L.out.drewE).mono ?_);rintro e A ⟨rfl,K,ab⟩;go_must (have c:=keepJ (ad.out.drew.chg K (fun e=>by omega));obtain ⟨⟨o0,o1,o2,o3,o4,o5,o6⟩,q0,q1,q2,q3,q4,q5,q6⟩:=hq7 c.out;  skip))
 have hO:=c.out.sets (actC ak apc am ao aq av an) 0;rw [qAr (actC ak apc am ao aq av an) (actC 0 0 0 0 0 0 0) rfl] at hO;have hG:=qAd w.heap.size (actC ak apc am ao aq av an) A 0;have a9:Chg w A (fun k=>k=b∨k=sb):=(L.out.drewE.mono (fun _ e=>.inl e)).trans (T:=fun k=>k=b∨k=sb) K (fun _ _ e=>e);exact qBv rfl rfl hO ⟨rfl,a9.trans (Chg.of_grown hG (S:=fun k=>k=w.heap.size) rfl) (fun k hk e=>by omega),A,ab,hG⟩
end
theorem SeesI.chg {w l:World}{g y d n:Nat}{xs:List In}{S:Nat->Prop}(h:SeesI w (.slice (some ⟨g,y,none⟩) n d) xs)(s:Chg w l S)(K:¬ S g):SeesI l (.slice (some ⟨g,y,none⟩) n d) xs:=by
 obtain ⟨a,cap,e,G,D,J,F⟩:=h;refine ⟨a,cap,e,G,D,J,fun r=>?_⟩;obtain ⟨b,off,rfl,i,o⟩:=F r;injection e with f O N;injection f with f;injection f with f L;subst f;subst L;refine ⟨_,_,rfl,Nat.lt_of_lt_of_le i s.size,fun k E=>?_⟩
 have c:∀ {j:Nat} {u:Value},w.cell? ⟨g,j,none⟩=some u->l.cell? ⟨g,j,none⟩=some u:=fun {j u} e=>(s.cellL i K).trans e
 obtain ⟨B,M,A,I,z⟩:=o k E;exact ⟨c B,c M,c A,c I,c z⟩
theorem SeesI.drewI {w:World}{v:Value}{xs:List In}(h:SeesI w v xs):SeesI w.drew v xs:=h
section
variable {b sb:Nat} {vm:Value} {ev:Int×Int} {M:Mc}
theorem mstep_exit {f g l:Nat}{xs:List In}(w:World)(h:Ma w b sb vm (.slice (some ⟨f,g,none⟩) xs.length l) ev M)(hx:SeesI w (.slice (some ⟨f,g,none⟩) xs.length l) xs)(hp:M.pc<xs.length)(hm:M.mode=0)(av:M.steps<=1000)(N:f≠b){op d a z o:Int}(HI:Hid (nth xs M.pc=⟨op,d,a,z,o⟩))(ho:op=22)(ha:0<=a/\a<=7){n:Int}(hn:Hid (regV M.regs a=n)) :
  Cl 18 #[.pointer (some ⟨b,0,none⟩)] w fun e s=>e=.returned (actV 4 M.pc 0 0 0 0 n)/\Chg w s (fun k=>k=b)/\Ma s b sb vm (.slice (some ⟨f,g,none⟩) xs.length l) ev { M with steps:=M.steps+1,mode:=2 }:=by
 have aq:(op==21)=false:=by simp;omega
 have ak:(op==22)=true:=by simp [ho]
 clear ho;have a8:=h.hp.lt
 have aj:(M.pc:Int)<xs.length:=by omega
 have ah:(M.pc:Int)<=100:=by have:=h.pc;omega
 have ag:(M.steps:Int)<=1000:=by omega
 obtain ⟨Z,a9,al,ai⟩:=codeL hx hp;rw [HI.out] at Z;obtain ⟨k0,k1,k2,k3,k4⟩:=Z;simp only at k0 k1 k2 k3 k4;have HX:=keepJ hx;clear hx;have c9:=h.last.2.2;have c8:=h.last.2.1;have f8:=h.hp.frozen 78;rw [hm] at c9
 have ap:w.heap.size≠b:=by omega
 obtain ⟨V,HV,y,ad,Q,K⟩:∃ V,Hid ((w.setCell ⟨b,78,none⟩ (I4 ((M.steps:Int)+1))).alloc (.cells #[I4 0,I4 0,I4 0,I4 0,U8 0,U8 0,U8 0] 80)=V)/\Hid (Ma V b sb vm (.slice (some ⟨f,g,none⟩) xs.length l) ev { M with steps:=M.steps+1 })/\Hid (Hp V w.heap.size 80 (actC 0 0 0 0 0 0 0))/\Hid (Chg w V (fun k=>k=b))/\V.heap.size=w.heap.size+1:=by
  have hsz:(w.setCell ⟨b,78,none⟩ (I4 ((M.steps:Int)+1))).heap.size=w.heap.size:=by simp [World.setCell]
  have G:=(Below.refl (w.setCell ⟨b,78,none⟩ (I4 ((M.steps:Int)+1))).heap.size (w.setCell ⟨b,78,none⟩ (I4 ((M.steps:Int)+1)))).alloc (Nat.le_refl _) (.cells #[I4 0,I4 0,I4 0,I4 0,U8 0,U8 0,U8 0] 80);have hN:=Hp.new (w.setCell ⟨b,78,none⟩ (I4 ((M.steps:Int)+1))) (actC 0 0 0 0 0 0 0) 80;rw [hsz] at hN;have hM:=h.setN (M.steps+1);rw [show ((M.steps+1:Nat):Int)=(M.steps:Int)+1 by omega] at hM;exact ⟨_,rfl,hM.below G (by rw [hsz];exact a8),hN,(Chg.of_grown (S:=fun k=>k=b) (qAb w b 78 _) rfl).trans (Chg.of_below (S:=fun _=>False) G) (fun _ _ e=>e.elim),by simp [hsz]⟩
 have D:Hid (∀ r:World,Bw V r->r.cell? ⟨b,3,none⟩=some (.slice (some ⟨f,g,none⟩) xs.length l)/\r.cell? ⟨b,77,none⟩=some (I4 M.pc)/\r.cell? ⟨f,g+M.pc*5,none⟩=some (I4 op)/\r.cell? ⟨f,g+M.pc*5+1,none⟩=some (I4 d)/\r.cell? ⟨f,g+M.pc*5+2,none⟩=some (I4 a)/\r.cell? ⟨f,g+M.pc*5+3,none⟩=some (I4 z)/\r.cell? ⟨f,g+M.pc*5+4,none⟩=some (I4 o)):=fun r hb=>by
  have L:∀ {j:Nat} {u:Value},w.cell? ⟨f,j,none⟩=some u->r.cell? ⟨f,j,none⟩=some u:=fun {j u} e=>(hb.cell (p:=⟨f,j,none⟩) (show f<V.heap.size by omega)).trans ((Q.out.cellL a9 N).trans e)
  exact ⟨(y.out.below hb y.out.hp.lt).low.2.2.2.1,(y.out.below hb y.out.hp.lt).last.1,L k0,L k1,L k2,L k3,L k4⟩
 clear k0 k1 k2 k3 k4;go_enter Tryz.func18,Tryz.ntmps18;go_wp2;rw [HV.out];refine wp_region_held_drew (S:=fun s=>s.cell? ⟨b,3,none⟩=some (.slice (some ⟨f,g,none⟩) xs.length l)/\s.cell? ⟨b,77,none⟩=some (I4 M.pc)/\s.cell? ⟨f,g+M.pc*5,none⟩=some (I4 op)/\s.cell? ⟨f,g+M.pc*5+1,none⟩=some (I4 d)/\s.cell? ⟨f,g+M.pc*5+2,none⟩=some (I4 a)/\s.cell? ⟨f,g+M.pc*5+3,none⟩=some (I4 z)/\s.cell? ⟨f,g+M.pc*5+4,none⟩=some (I4 o)) (by kernel_rfl) (D.out _ (qAj (Below.refl _ _))) (fun hHeld=>?_);refine tkGo [0,1,2,3,4,5,6,7,8,9] ?_
 repeat (refine tkO (v:=?_) rfl ?_ ?_;rotate_left;(intro wy hSw;(try dsimp only at hSw);go_simp;(first|done|with_reducible rfl));try simp only [Act.put,p1q,p2q,p3q,p4q,p5q,p6q])
 refine tkEnd ?_;refine runO 10 (by kernel_rfl) rfl (by rfl) (fun KK hK=>?_);go_simp;obtain ⟨Y,HY,J,a7,i,ar⟩:∃ Y,Hid (V.alloc (.cells #[I4 0,I4 0,I4 0,I4 0,I4 0] 43)=Y)/\Bw V Y/\Hid (Hp Y w.heap.size 80 (actC 0 0 0 0 0 0 0))/\Hid (Hp Y (w.heap.size+1) 43 [I4 0,I4 0,I4 0,I4 0,I4 0])/\Y.heap.size=w.heap.size+2 :=
  ⟨_,rfl,(Below.refl _ _).alloc (Nat.le_refl _) _,ad.out.alloc _,by have:=Hp.new V [I4 0,I4 0,I4 0,I4 0,I4 0] 43;rw [K] at this;exact this,by simp [K]⟩
 try rw [K]
 rw [HY.out];refine hK.out _ _ (D.out _ (qAj J)) (fun hHeld=>?_);clear hK KK
 try simp only [Act.put,p1q,p2q,p3q,p4q,p5q,p6q]
 obtain ⟨⟨a0,a1,a2,a3,a4⟩,q0,q1,q2,q3,q4⟩:=hq5 i.out;refine runO 11 (by kernel_rfl) rfl (by rfl) (fun KK hK=>?_);go_simp
 obtain ⟨U,HU,R,E,af,A,au⟩:∃ U,Hid (((((Y.setCell ⟨w.heap.size+1,0,none⟩ (I4 op)).setCell ⟨w.heap.size+1,1,none⟩ (I4 d)).setCell ⟨w.heap.size+1,2,none⟩ (I4 a)).setCell ⟨w.heap.size+1,3,none⟩ (I4 z)).setCell ⟨w.heap.size+1,4,none⟩ (I4 o)=U)/\Bw V U/\Hid (Ma U b sb vm (.slice (some ⟨f,g,none⟩) xs.length l) ev { M with steps:=M.steps+1 })/\Hid (Hp U w.heap.size 80 (actC 0 0 0 0 0 0 0))/\Hid (Hp U (w.heap.size+1) 43 [I4 op,I4 d,I4 a,I4 z,I4 o])/\w.heap.size+2<=U.heap.size:=by
  have hg:=qAd (w.heap.size+1) [I4 op,I4 d,I4 a,I4 z,I4 o] Y 0;have G:Bw V (Y.setCells (w.heap.size+1) 0 [I4 op,I4 d,I4 a,I4 z,I4 o]):=J.trans (qAg hg (by omega) J.size);exact ⟨_,rfl,G,y.out.below G y.out.hp.lt,a7.out.grown hg (fun e=>by have:=Option.some.inj e;omega),i.out.sets [I4 op,I4 d,I4 a,I4 z,I4 o] 0,by have:=hg.size;show w.heap.size+2<=(Y.setCells (w.heap.size+1) 0 [I4 op,I4 d,I4 a,I4 z,I4 o]).heap.size;omega⟩
 rw [HU.out];refine hK.out _ _ (D.out _ (qAj R)) (fun hHeld=>?_);clear hK KK
 try simp only [Act.put,p1q,p2q,p3q,p4q,p5q,p6q]
 refine wpAnyH_done (by kernel_rfl) ?_ _;clear a0 a1 a2 a3 a4 q0 q1 q2 q3 q4 hHeld;have ab:=keepJ (Q.out.trans (Chg.of_below (S:=fun _=>False) R) (fun _ _ e=>e.elim));obtain ⟨⟨i0,i1,i2,i3,i4⟩,-⟩:=hq5 A.out;obtain ⟨T,HT,F,a5,P⟩:∃ T,Hid (U.setCell ⟨b,79,none⟩ (I4 2)=T)/\Hid (Ma T b sb vm (.slice (some ⟨f,g,none⟩) xs.length l) ev { M with steps:=M.steps+1,mode:=2 })/\Hid (Chg w T (fun k=>k=b))/\U.grownBy T (some b) :=
  ⟨_,rfl,E.out.setM 2,ab.out.trans (Chg.of_grown (S:=fun k=>k=b) (qAb U b 79 _) rfl) (fun _ _ e=>e),qAb U b 79 _⟩
 have X:=keepJ (af.out.grown P (fun e=>by have:=Option.some.inj e;omega));have ac:=keepJ (HX.out.chg a5.out N);have HA:=keepJ ha;have t9:=E.out.last.2.2;have u9:=E.out.hp.frozen 79;have am:=P.size
 go_wp2_with (first
  | rw [HT.out]
  | (go_at_call 33;go_must (refine (mresult_any T.drew F.out.drew ac.out.drewI hp (show 0<=(nth xs M.pc).a/\(nth xs M.pc).a<=7 by rw [HI.out];exact HA.out) (show Hid (regV M.regs (nth xs M.pc).a=n) by show _=_;rw [HI.out];exact hn.out)).mono ?_);rintro e w5 ⟨rfl,a6⟩;go_must (have B:Bw T w5:=qAf a6;have I:=keepJ (F.out.below B F.out.hp.lt);have ao:=B.size))
  | (go_at_call 32;go_must (refine (mtold_any 4 n w5 I.out).mono ?_);rintro e w6 ⟨rfl,O⟩;go_must (have c:=keepJ ((X.out.below B X.out.lt).below O (by omega));have aa:=keepJ (I.out.below O I.out.hp.lt);obtain ⟨⟨o0,o1,o2,o3,o4,o5,o6⟩,q0,q1,q2,q3,q4,q5,q6⟩:=hq7 c.out;  skip)))
 have hO:=c.out.sets (actC 4 M.pc 0 0 0 0 n) 0;rw [qAr (actC 4 M.pc 0 0 0 0 n) (actC 0 0 0 0 0 0 0) rfl] at hO;have hG:=qAd w.heap.size (actC 4 M.pc 0 0 0 0 n) w6 0;have ae:Chg w w6 (fun k=>k=b):=(a5.out.trans (Chg.of_below (S:=fun _=>False) B) (fun _ _ e=>e.elim)).trans (Chg.of_below (S:=fun _=>False) O) (fun _ _ e=>e.elim);exact qBv rfl rfl hO ⟨rfl,ae.trans (Chg.of_grown hG (S:=fun k=>k=w.heap.size) rfl) (fun k hk e=>by omega),aa.out.grown hG (fun e=>by have:=Option.some.inj e;omega)⟩
end
end Go.Proofs.YtmdhljoicnommaaGreat
