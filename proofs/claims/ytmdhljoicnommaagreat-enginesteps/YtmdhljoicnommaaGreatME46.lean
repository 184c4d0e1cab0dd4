/-
  JInquire
  JRun
  JPull
  E11Safe
  E11Step
  E11Run
  RAtB
  JJudge
  JTypes
  E11Tr
-/
import Derived.Test.YtmdhljoicnommaaGreatME38
import Derived.Test.YtmdhljoicnommaaGreatME30
import Derived.Test.YtmdhljoicnommaaGreatME45
namespace Go.Proofs.YtmdhljoicnommaaGreat
set_option maxHeartbeats 12800000
open Go.RowKit
set_option linter.unusedVariables false
set_option linter.unusedSimpArgs false
set_option maxRecDepth 100000
def qFn (xs:List In) (p:Nat) (K:Kn):Kn:=K.set p ((K.getD p kn0).1,qNi xs p (qAk xs) (K.getD p kn0).2)
def qWj (xs:List In) (nm p:Nat) (K:Kn):Int:=qEc nm (nth xs p) (K.getD p kn0).2 (K.getD ((p:Int)+(nth xs p).far).toNat kn0).2
def qJq (xs:List In) (nm p:Nat) (K:Kn):Except Int Kn :=
 if (K.getD p kn0).1=false then .ok K
 else if qWj xs nm p (qFn xs p K)≠0 then .error (qWj xs nm p (qFn xs p K))
 else .ok (qGh (nth xs p) p (qFn xs p K))
def qEq (xs:List In) (nm:Nat):Nat->Except (Nat×Int) Kn
 | 0=>.ok (qFg (List.replicate xs.length kn0) 0 true stZ)
 | p+1=>match qEq xs nm p with
  | .error e=>.error e
  | .ok K=>match qJq xs nm p K with
   | .error E=>.error (p,E)
   | .ok K'=>.ok K'
theorem yYy {xs : List In}{nm p : Nat}{e : Nat × Int}(h : qEq xs nm p = .error e) : ∀ n, p <= n -> qEq xs nm n = .error e := by
  intro n a
  induction n with
  | zero => obtain rfl : p = 0 := by omega
            exact h
  | succ n ih =>
    by_cases hp : p = n + 1
    · subst hp; exact h
    · rw [qEq, ih (by omega)]
theorem yHy (i:In)(p:Nat)(K:Kn):(qGh i p K).length=K.length:=by
 unfold qGh
 split
 ·rfl
 split
 ·exact qKo _ _ _ _
 split
 ·rw [qKo,qKo]
 ·exact qKo _ _ _ _
theorem qMw {nm:Nat}{xs:List In}{p:Nat}{K:Kn}(h:MadeK nm K):MadeK nm (qFn xs p K):=h.set p (qRn _ (h.at p))
theorem qTp {nm:Nat}{i:In}{p:Nat}{K:Kn}{head:St}(b:i.right=true)(a:MadeK nm K)(c:qEc nm i (K.getD p kn0).2 head=0):MadeK nm (qGh i p K):=by
 unfold qGh
 split
 ·exact a
 split
 ·exact qLm a _ _ (a.at p)
 split
 ·rename_i ho
  exact qLm (qLm a _ _ (qOd b (a.at p) c ho)) _ _ (qOd b (a.at p) c ho)
 ·rename_i ho
  exact qLm a _ _ (qKd b (a.at p) c (qOs b _ ho false))
theorem qLz (nm n:Nat):MadeK nm (List.replicate n kn0):=fun p a=>by rw [List.eq_of_mem_replicate a];exact qHp nm
theorem yEh (n j:Nat)(b:j<n*33):(qDw (List.replicate n kn0))[j]? = zeroC[j%33]? := by
 have a:Eight (List.replicate n kn0):=(qLz 0 n).eight;have:=yDn a (k:=j / 33) (j:=j%33) (by simp;omega) (by omega);rw [show j / 33*33+j%33=j by omega] at this;rw [this,show (List.replicate n kn0).getD (j / 33) kn0=kn0 by simp [List.getD,List.getElem?_replicate];split<;>rfl]
 rfl
theorem yJc (n:Nat):madeCells zeroC.toArray (n*33)=(qDw (List.replicate n kn0)).toArray:=by
 have c:Eight (List.replicate n kn0):=(qLz 0 n).eight
 apply Array.ext_getElem?
 intro j
 by_cases hj:j<n*33
 ·rw [show (qDw (List.replicate n kn0)).toArray[j]? = (qDw (List.replicate n kn0))[j]? from List.getElem?_toArray,yEh n j hj];have b:zeroC.toArray.size=33:=rfl;simp only [madeCells,Array.getElem?_map];rw [Array.getElem?_range];simp only [hj,if_true,Option.map_some,b]
  have a:j%33<zeroC.length:=by rw [qCa];omega
  rw [List.getElem?_eq_getElem a]
  simp [a]
 ·rw [Array.getElem?_eq_none (by rw [size_madeCells];omega),show (qDw (List.replicate n kn0)).toArray[j]? = (qDw (List.replicate n kn0))[j]? from List.getElem?_toArray,List.getElem?_eq_none (by rw [qXn c,List.length_replicate];omega)]
theorem yQg (n:Nat)(d:n<=64)(w:World):(Instr.makeSlice 117 (I4 n) (I4 n)).run Tryz.prog w=.ok (.slice (some ⟨w.heap.size,0,none⟩) n n) (w.alloc (.cells (qDw (List.replicate n kn0)).toArray 156)):=by
 have hi:∃ i,Tryz.prog.info? 156=some i/\i.size=33/\i.zero=some (.agg zeroC.toArray)/\i.bytes<=1000000:=⟨_,rfl,rfl,rfl,by decide⟩;obtain ⟨i,b,c,a,f⟩:=hi;have:=run_make (P:=Tryz.prog) w 117 156 i _ Tryz.underlying117 b a .i64 .i64 n n (by omega) (Int.le_refl _) (by have:(i.bytes:Int)*n<=1000000*64:=Int.mul_le_mul (by omega) (by omega) (by omega) (by omega);omega) (by omega);rw [c] at this;simp only [Int.toNat_natCast,Value.cells] at this;rw [yJc] at this;exact this
def xCh (w3 wc:World) (nm:Nat) (vl:Value) (cb co ccap:Nat) (xs:List In) (ls:List Lp) (v:Value):Prop:=∃ qb kb,v=.pointer (some ⟨qb,0,none⟩)/\Inq w3 wc qb kb nm vl cb co ccap xs ls (List.replicate xs.length kn0)
theorem yCu {w a:World}{x:Nat}{u v:Value}(h:w.cell? ⟨x,0,none⟩=some u/\w.cell? ⟨x,1,none⟩=some v)(b:Bw w a)(c:x<w.heap.size):a.cell? ⟨x,0,none⟩=some u/\a.cell? ⟨x,1,none⟩=some v:=by
 rw [b.cell (p:=⟨x,0,none⟩) c,b.cell (p:=⟨x,1,none⟩) c];exact h
theorem yWo (vm:Value)(ms:List Int)(cb co ccap:Nat)(xs:List In)(w:World)(hm:Sees .i64 w vm ms)(hx:SeesI w (.slice (some ⟨cb,co,none⟩) xs.length ccap) xs)(au:Hid (qGa ms=true))(hE:Hid (0=qLu xs)) :
  Cl 48 #[.agg #[vm,.slice (some ⟨cb,co,none⟩) xs.length ccap]] w fun e l =>
   (∃ (p:Nat) (E:Int),qEq xs ms.length xs.length=.error (p,E)/\E≠0/\p<xs.length/\e=.returned (.tuple #[.slice none 0 0,I4 p,I4 E])/\Bw w l) ∨
   (∃ (K:Kn) (kb:Nat),qEq xs ms.length xs.length=.ok K/\e=.returned (.tuple #[.slice (some ⟨kb,0,none⟩) xs.length xs.length,I4 0,I4 0])/\Hp l kb 156 (qDw K)/\w.heap.size<=kb/\K.length=xs.length/\MadeK ms.length K/\Bw w l):=by
 have hT:Taken xs:=check_ok.1 hE.out.symm;have Z:=qAa hT;have HX:=qAa hx;have ad:=qAa hm
 obtain ⟨ma,mcap,rfl⟩:∃ a c,vm=.slice a ms.length c:=by obtain ⟨a,c,h,_⟩:=hm;exact ⟨a,c,h⟩
 obtain ⟨nm,ah⟩:∃ nm,Hid (ms.length=nm):=⟨_,rfl⟩;rw [ah.out] at ad ⊢;obtain ⟨P,ap⟩:∃ P,Hid (P=(qCh xs).1):=⟨_,rfl⟩;have av:=hT.top
 have az:(xs.length:Int)<=64:=by omega
 have ae:0<xs.length:=hT.pos;obtain ⟨W,HW,T,am,b1,m0,z⟩:∃ W,Hid (W=w.alloc (Obj.cells #[.slice ma nm mcap,.slice (some ⟨cb,co,none⟩) xs.length ccap] 25))/\Hid (Bw w W)/\w.heap.size<W.heap.size/\W.heap.size<=w.heap.size+1/\W.cell? ⟨w.heap.size,0,none⟩=some (.slice ma nm mcap)/\W.cell? ⟨w.heap.size,1,none⟩=some (.slice (some ⟨cb,co,none⟩) xs.length ccap) :=
  ⟨_,rfl,qAa (by go_grown),by simp,by simp,by go_cell,by go_cell⟩
 have aa:=qAa (HX.out.below T.out);have ar:=qAa (ad.out.below T.out (Nat.le_refl _));clear hx hm hT;go_enter Tryz.func48,Tryz.ntmps48
 go_wp2_with (first
  | (go_at_call 71;rw [<- HW.out];go_must (refine (qNp _ ms _ ar.out au).mono ?_);rintro e l ⟨rfl,rfl⟩)
  | (go_at_call 72;go_must (refine (qQo aa.out ap hE).mono ?_);rintro e w2 ⟨rfl,J⟩;go_must (have ak:=yCu ⟨m0,z⟩ J am;have an:=J.size;have ac:=qAa (aa.out.below J);clear m0 z;obtain ⟨m0,z⟩:=ak))
  | (go_at_call 73;go_must (refine (yHq _ xs _ ac.out hE).mono ?_);rintro e b ⟨u3,rfl,A,I⟩;go_must (have aq:=yCu ⟨m0,z⟩ I (by omega);have b3:=I.size;have a7:=qAa (ac.out.below I);have a2:=qAa (qMg A);have G:=qAa (T.out.trans ((J.trans (I.mono an)).mono T.out.size));obtain ⟨g,f,rfl⟩:=qIo A;clear m0 z A J I;obtain ⟨m0,z⟩:=aq)))
 -- THE REGION
 obtain ⟨ls,ab,X⟩:∃ ls,Hid (qMs xs=ls)/\Hid (ls=qAk xs):=⟨_,rfl,by show _=_;unfold qMs;rw [if_pos hE.out.symm]⟩;rw [ab.out] at a2 ⊢;clear ab;obtain ⟨n,R⟩:∃ n,Hid (n=qDw (List.replicate xs.length kn0)):=⟨_,rfl⟩
 have af:∀ wx:World,(Instr.makeSlice 117 (I4 xs.length) (I4 xs.length)).run Tryz.prog wx=.ok (.slice (some ⟨wx.heap.size,0,none⟩) xs.length xs.length) (wx.alloc (.cells n.toArray 156)):=fun wx=>by rw [R.out];exact yQg xs.length av wx
 have L:Hid (∀ l,Bw b l->l.cell? ⟨w.heap.size,0,none⟩=some (.slice ma nm mcap)/\l.cell? ⟨w.heap.size,1,none⟩=some (.slice (some ⟨cb,co,none⟩) xs.length ccap)):=fun l ay=>yCu ⟨m0,z⟩ ay (by omega)
 go_cut [9] from 12 (fun v9 wc=>xCh b wc nm (.slice g ls.length f) cb co ccap xs ls v9)
 case first =>
  clear m0 z;refine wp_region_held_drew (S:=fun l=>l.cell? ⟨w.heap.size,0,none⟩=some (.slice ma nm mcap)/\l.cell? ⟨w.heap.size,1,none⟩=some (.slice (some ⟨cb,co,none⟩) xs.length ccap)) (by kernel_rfl) (L.out _ (Below.refl _ _).drew) (fun hHeld=>?_);refine qBb [0,1,2,3,4,5,6,7,8] ?_
  repeat (refine tkO (v:=?_) rfl ?_ ?_;rotate_left;(intro wy hSw;(try dsimp only at hSw);go_simp;(first|done|with_reducible rfl));try simp only [Act.put,p1q,p2q,p3q,p4q,p5q,p6q])
  refine qAs ?_;refine qOc 9 11 (by kernel_rfl) rfl rfl (by rfl) (by rfl) (fun KK hK=>?_) (fun KK hK=>?_)
  ·go_simp;refine hK.out _ _ (L.out _ ((Below.refl _ _).alloc (Nat.le_refl _) _).drew) (fun hHeld=>?_);clear hK KK
   try simp only [Act.put,p1q,p2q,p3q,p4q,p5q,p6q]
   refine qBb [10] ?_
   repeat (refine tkO (v:=?_) rfl ?_ ?_;rotate_left;(intro wy hSw;(try dsimp only at hSw);go_simp;(first|done|with_reducible rfl));try simp only [Act.put,p1q,p2q,p3q,p4q,p5q,p6q])
   refine qAs ?_;refine qAr 11 (by kernel_rfl) rfl (by rfl) (fun KK hK=>?_);go_simp;obtain ⟨Y,HY,d,a1,u,aw⟩:∃ Y,Hid (Y=(b.alloc (Obj.cells n.toArray 156)).alloc (Obj.cells #[I4 0,.slice none 0 0,.slice none 0 0,.slice none 0 0] 147))/\Hid (Hp Y (b.heap.size+1) 147 [I4 0,.slice none 0 0,.slice none 0 0,.slice none 0 0])/\Hid (Hp Y b.heap.size 156 n)/\Bw b Y/\b.heap.size+2<=Y.heap.size :=
    ⟨_,rfl,qAa (by have:=Hp.new (b.alloc (Obj.cells n.toArray 156)) [I4 0,.slice none 0 0,.slice none 0 0,.slice none 0 0] 147;simpa using this),(Hp.new b n _).alloc _,by go_grown,by simp⟩
   rw [<- HY.out];clear HY;refine hK.out _ _ (L.out _ u.drew) (fun hHeld=>?_);clear hK KK
   try simp only [Act.put,p1q,p2q,p3q,p4q,p5q,p6q]
   have n0:Y.cell? ⟨(b.heap.size+1),0,none⟩=some (I4 0):=d.out.cell rfl;have n1:Y.cell? ⟨(b.heap.size+1),1,none⟩=some (.slice none 0 0):=d.out.cell rfl;have n2:Y.cell? ⟨(b.heap.size+1),2,none⟩=some (.slice none 0 0):=d.out.cell rfl;have n3:Y.cell? ⟨(b.heap.size+1),3,none⟩=some (.slice none 0 0):=d.out.cell rfl;have f0:=d.out.frozen 0;have f1:=d.out.frozen 1;have f2:=d.out.frozen 2;have f3:=d.out.frozen 3;refine qAr 12 (by kernel_rfl) rfl (by rfl) (fun KK hK=>?_);go_simp;clear n0 n1 n2 n3 f0 f1 f2 f3;obtain ⟨V,HV,a5,a0,B⟩:∃ V,Hid (V=((((Y.setCell ⟨(b.heap.size+1),0,none⟩ (I4 nm)).setCell ⟨(b.heap.size+1),1,none⟩ (.slice (some ⟨cb,co,none⟩) xs.length ccap)).setCell ⟨(b.heap.size+1),2,none⟩ (.slice g ls.length f)).setCell ⟨(b.heap.size+1),3,none⟩ (.slice (some ⟨b.heap.size,0,none⟩) xs.length xs.length)))/\Hid (Hp V (b.heap.size+1) 147 (qC nm (.slice (some ⟨cb,co,none⟩) xs.length ccap) (.slice g ls.length f) b.heap.size xs.length))/\Hid (Hp V b.heap.size 156 n)/\Bw b V:=⟨_,rfl,d.out.sets (qC nm (.slice (some ⟨cb,co,none⟩) xs.length ccap) (.slice g ls.length f) b.heap.size xs.length) 0,a1.out.fars (by omega) (qC nm (.slice (some ⟨cb,co,none⟩) xs.length ccap) (.slice g ls.length f) b.heap.size xs.length) 0,u.trans (qAi (qAd _ (qC nm (.slice (some ⟨cb,co,none⟩) xs.length ccap) (.slice g ls.length f) b.heap.size xs.length) Y 0) (by omega) u.size)⟩;rw [<- HV.out];clear HV;refine hK.out _ _ (L.out _ B.drew) (fun hHeld=>?_);clear hK KK
   try simp only [Act.put,p1q,p2q,p3q,p4q,p5q,p6q]
   refine wpAnyH_done (by kernel_rfl) ?_ _;go_wp2
   go_meet
   case rel=>exact ⟨(b.heap.size+1),b.heap.size,rfl,B.drew,a5.out.drew,by rw [<- R.out];exact a0.out.drew,by simp,by omega,by omega,by omega,(qLz 0 _).eight,a7.out,a2.out⟩
  ·go_simp;refine hK.out _ _ (L.out _ ((Below.refl _ _).alloc (Nat.le_refl _) _).drew) (fun hHeld=>?_);clear hK KK
   try simp only [Act.put,p1q,p2q,p3q,p4q,p5q,p6q]
   refine qAr 9 (by kernel_rfl) rfl (by rfl) (fun KK hK=>?_);go_simp;obtain ⟨Y,HY,d,a1,u,aw⟩:∃ Y,Hid (Y=(b.alloc (Obj.cells #[I4 0,.slice none 0 0,.slice none 0 0,.slice none 0 0] 147)).alloc (Obj.cells n.toArray 156))/\Hid (Hp Y b.heap.size 147 [I4 0,.slice none 0 0,.slice none 0 0,.slice none 0 0])/\Hid (Hp Y (b.heap.size+1) 156 n)/\Bw b Y/\b.heap.size+2<=Y.heap.size :=
    ⟨_,rfl,(Hp.new b [I4 0,.slice none 0 0,.slice none 0 0,.slice none 0 0] _).alloc _,qAa (by have:=Hp.new (b.alloc (Obj.cells #[I4 0,.slice none 0 0,.slice none 0 0,.slice none 0 0] 147)) n 156;simpa using this),by go_grown,by simp⟩
   rw [<- HY.out];clear HY;refine hK.out _ _ (L.out _ u.drew) (fun hHeld=>?_);clear hK KK
   try simp only [Act.put,p1q,p2q,p3q,p4q,p5q,p6q]
   refine qBb [10] ?_
   repeat (refine tkO (v:=?_) rfl ?_ ?_;rotate_left;(intro wy hSw;(try dsimp only at hSw);go_simp;(first|done|with_reducible rfl));try simp only [Act.put,p1q,p2q,p3q,p4q,p5q,p6q])
   refine qAs ?_;have n0:Y.cell? ⟨b.heap.size,0,none⟩=some (I4 0):=d.out.cell rfl;have n1:Y.cell? ⟨b.heap.size,1,none⟩=some (.slice none 0 0):=d.out.cell rfl;have n2:Y.cell? ⟨b.heap.size,2,none⟩=some (.slice none 0 0):=d.out.cell rfl;have n3:Y.cell? ⟨b.heap.size,3,none⟩=some (.slice none 0 0):=d.out.cell rfl;have f0:=d.out.frozen 0;have f1:=d.out.frozen 1;have f2:=d.out.frozen 2;have f3:=d.out.frozen 3;refine qAr 12 (by kernel_rfl) rfl (by rfl) (fun KK hK=>?_);go_simp;clear n0 n1 n2 n3 f0 f1 f2 f3;obtain ⟨V,HV,a5,a0,B⟩:∃ V,Hid (V=((((Y.setCell ⟨b.heap.size,0,none⟩ (I4 nm)).setCell ⟨b.heap.size,1,none⟩ (.slice (some ⟨cb,co,none⟩) xs.length ccap)).setCell ⟨b.heap.size,2,none⟩ (.slice g ls.length f)).setCell ⟨b.heap.size,3,none⟩ (.slice (some ⟨(b.heap.size+1),0,none⟩) xs.length xs.length)))/\Hid (Hp V b.heap.size 147 (qC nm (.slice (some ⟨cb,co,none⟩) xs.length ccap) (.slice g ls.length f) (b.heap.size+1) xs.length))/\Hid (Hp V (b.heap.size+1) 156 n)/\Bw b V:=⟨_,rfl,d.out.sets (qC nm (.slice (some ⟨cb,co,none⟩) xs.length ccap) (.slice g ls.length f) (b.heap.size+1) xs.length) 0,a1.out.fars (by omega) (qC nm (.slice (some ⟨cb,co,none⟩) xs.length ccap) (.slice g ls.length f) (b.heap.size+1) xs.length) 0,u.trans (qAi (qAd _ (qC nm (.slice (some ⟨cb,co,none⟩) xs.length ccap) (.slice g ls.length f) (b.heap.size+1) xs.length) Y 0) (by omega) u.size)⟩;rw [<- HV.out];clear HV;refine hK.out _ _ (L.out _ B.drew) (fun hHeld=>?_);clear hK KK
   try simp only [Act.put,p1q,p2q,p3q,p4q,p5q,p6q]
   refine wpAnyH_done (by kernel_rfl) ?_ _;go_wp2
   go_meet
   case rel=>exact ⟨b.heap.size,(b.heap.size+1),rfl,B.drew,a5.out.drew,by rw [<- R.out];exact a0.out.drew,by simp,by omega,by omega,by omega,(qLz 0 _).eight,a7.out,a2.out⟩
 case rest =>
  obtain ⟨qb,kb,rfl,a6⟩:=hcut;have HQ:=qAa a6;have ax:Made8 nm stZ:=qHp nm;have aj:=qAa (qLz nm xs.length);have H0:Hid ((0:Int)=((0:Nat):Int)):=rfl;clear a6 af L m0 z R
  go_wp2_with (first
   | (go_at_call 74;go_must (refine (qKc HQ.out H0 ae true ax aj.out).mono ?_);rintro e w5 ⟨rfl,ao,a3,a8⟩;go_must (have al:=qAa a3;have ag:=qAa a8;have q1:w5.cell? ⟨qb,1,none⟩=some (.slice (some ⟨cb,co,none⟩) xs.length ccap):=a3.q.cell rfl;clear ao a3 a8)))
  clear q1
  go_loopw [48] (fun i wr=>∃ k:Nat,k<=xs.length/\i=I4 k/\Hid (∃ K,qEq xs nm k=.ok K/\Inq b wr qb kb nm (.slice g ls.length f) cb co ccap xs ls K/\MadeK nm K)) (fun i _=>xs.length-(intOf i).toNat)
  case atStart=>exact ⟨0,by omega,rfl,_,rfl,al.out,ag.out⟩
  case round =>
   obtain ⟨k,hk,rfl,HI⟩:=hrel;obtain ⟨K,O,Q,hM⟩:=HI.out;have U:=qAa O;have o:=qAa Q;have y:=qAa hM;have q3:wr.cell? ⟨qb,3,none⟩=some (.slice (some ⟨kb,0,none⟩) xs.length xs.length):=Q.q.cell rfl
   by_cases hlt:k<xs.length
   ·have b2:(k:Int)<xs.length:=by omega
    obtain ⟨r,s,HR⟩:∃ r s,Hid (K.getD k kn0=(r,s)):=⟨_,_,rfl⟩;have k0:wr.cell? ⟨kb,k*33,none⟩=some (.bool r):=(Q.k.state Q.e8 (by rw [Q.len];exact hlt) HR.out).cell;clear O Q hM HI
    cases r with
    | false =>
     have HN:Hid (qEq xs nm (k+1)=.ok K):=by show _=_;rw [qEq,U.out];simp only [qJq];rw [HR.out];rfl
     go_wp2
     go_roundw
     case rel=>exact ⟨k+1,by omega,by go_num,K,HN.out,o.out,y.out⟩
     case measure=>simp [intOf];omega
    | true =>
     obtain ⟨E,HE⟩:∃ E,Hid (E=qWj xs nm k (qFn xs k K)):=⟨_,rfl⟩
     by_cases hE0:E=0
     ·subst hE0
      have HN:Hid (qEq xs nm (k+1)=.ok (qGh (nth xs k) k (qFn xs k K))):=by show _=_;rw [qEq,U.out];simp only [qJq];rw [HR.out,if_neg (by simp),<- HE.out,if_neg (by simp)]
      go_wp2_with (first
       | (go_at_call 75;go_must (refine (qWx o.out Z.out X.out hlt y.out).mono ?_);rintro e w6 ⟨rfl,D⟩;go_must (have M:Hid (Inq b w6 qb kb nm (.slice g ls.length f) cb co ccap xs ls (qFn xs k K)):=(by have:=D;rw [X.out] at this ⊢;exact this);have F:=qAa (qMw (xs:=xs) (p:=k) y.out);clear D))
       | (go_at_call 76;go_must (refine (yAq M.out Z.out hlt F.out HE).mono ?_);rintro e w7 ⟨rfl,N⟩;go_must (have a4:=qAa (M.out.below N);clear N))
       | (go_at_call 77;go_must (refine (yKn a4.out Z.out hlt F.out HE.out.symm).mono ?_);rintro e w8 ⟨rfl,a9⟩;go_must (have ai:=qAa a9;clear a9)))
      go_roundw
      case rel=>exact ⟨k+1,by omega,by go_num,_,HN.out,ai.out,qTp (Z.out.right hlt) F.out HE.out.symm⟩
      case measure=>simp [intOf];omega
     ·have HN:Hid (qEq xs nm xs.length=.error (k,E)):=yYy (p:=k+1) (by rw [qEq,U.out];simp only [qJq];rw [HR.out,if_neg (by simp),<- HE.out,if_pos hE0]) _ (by omega)
      go_wp2_with (first
       | (go_at_call 75;go_must (refine (qWx o.out Z.out X.out hlt y.out).mono ?_);rintro e w6 ⟨rfl,D⟩;go_must (have M:Hid (Inq b w6 qb kb nm (.slice g ls.length f) cb co ccap xs ls (qFn xs k K)):=(by have:=D;rw [X.out] at this ⊢;exact this);have F:=qAa (qMw (xs:=xs) (p:=k) y.out);clear D))
       | (go_at_call 76;go_must (refine (yAq M.out Z.out hlt F.out HE).mono ?_);rintro e w7 ⟨rfl,N⟩;go_must (have a4:=qAa (M.out.below N);clear N)))
      go_ret3
      exact .inl ⟨k,E,HN.out,hE0,hlt,rfl,G.out.trans (a4.out.b0.mono G.out.size)⟩
   ·obtain rfl:k=xs.length:=by omega
    clear O Q hM HI;go_wp2
    go_ret3
    exact .inr ⟨K,kb,U.out,rfl,o.out.k,Nat.le_trans G.out.size o.out.hk,o.out.len,y.out,G.out.trans (o.out.b0.mono G.out.size)⟩
theorem qHm {i:In}(a:i.right=true)(b:15<=i.op/\i.op<=19):1<=i.far/\i.leads=true:=by
 rcases qBf i with h|h|h|h
 ·rw [a] at h;cases h.1
 ·exact ⟨by omega,h.2.2.2.2.1⟩
 ·omega
 ·omega
theorem yRy {xs:List In}(c:Taken xs){k:Nat}(b:k<xs.length)(d:(nth xs k).leads=true){l:Lp}(hm:l∈qAk xs){x:Int}(f:x=k+(nth xs k).far)(g:l.h<x)(i:x<=l.t):l.h<=k/\(k:Int)<=l.t:=by
 have h:=c.intr k b;unfold qIa at h;rw [d,Bool.true_and,List.any_eq_false] at h;have a:=h l hm;rw [enters_iff] at a
 by_cases hc:l.h<=k/\(k:Int)<=l.t
 ·exact hc
 ·exact absurd ⟨hc,by omega,by omega⟩ a
theorem qOm {K:Kn}{p x:Nat}{y:Bool×St}(h:x≠p):(K.set p y).getD x kn0=K.getD x kn0:=by
 simp [List.getD,List.getElem?_set,h,Ne.symm h]
theorem qOh {K:Kn}{p x:Nat}{r:Bool}{s:St}(h:x≠p):(qFg K p r s).getD x kn0=K.getD x kn0:=by
 unfold qFg
 split
 ·rfl
 split
 ·exact qOm h
 ·exact qOm h
theorem qPj {K:Kn}{p x:Nat}{y:Bool×St}(h:¬ p<K.length):(K.set p y).getD x kn0=K.getD x kn0:=by
 rw [List.set_eq_of_length_le (by omega)]
theorem qOt {K:Kn}{p x:Nat}{r:Bool}{s:St}(h:(K.getD x kn0).1=true):((qFg K p r s).getD x kn0).1=true:=by
 by_cases hx:x=p
 ·subst hx;unfold qFg
  split
  ·exact h
  rename_i hr
  by_cases hl:x<K.length
  ·split
   ·rename_i h2;rw [h] at h2;cases h2
   ·rw [qKf hl];exact h
  ·split
   ·rw [qPj hl];exact h
   ·rw [qPj hl];exact h
 ·rw [qOh hx];exact h
theorem qOb {K:Kn}{p x:Nat}{r:Bool}{s:St}(h:((qFg K p r s).getD x kn0).1=true):(K.getD x kn0).1=true∨x=p:=by
 by_cases hx:x=p
 ·exact .inr hx
 ·rw [qOh hx] at h;exact .inl h
theorem qTc {xs:List In}{p x:Nat}{K:Kn}:((qFn xs p K).getD x kn0).1=(K.getD x kn0).1:=by
 unfold qFn
 by_cases hx:x=p
 ·subst hx
  by_cases hl:x<K.length
  ·rw [qKf hl]
  ·rw [qPj hl]
 ·rw [qOm hx]
theorem qWt {xs:List In}{p x:Nat}{K:Kn}(h:x≠p):(qFn xs p K).getD x kn0=K.getD x kn0:=qOm h
theorem yRm {xs:List In}{p x:Nat}{K:Kn}(a:(nth xs p).right=true)(c:x<=p):(qGh (nth xs p) p K).getD x kn0=K.getD x kn0:=by
 have d:=qBf (nth xs p);unfold qGh
 split
 ·rfl
 rename_i c22
 split
 ·rename_i c15
  refine qOh ?_;have b:=(qHm a (by omega)).1
  omega
 rename_i c15
 split
 ·rename_i c16
  have b:=(qHm a (by omega)).1;rw [qOh (by omega),qOh (by omega)]
 ·exact qOh (by omega)
theorem qTk {i:In}{p x:Nat}{K:Kn}(h:(K.getD x kn0).1=true):((qGh i p K).getD x kn0).1=true:=by
 unfold qGh
 split
 ·exact h
 split
 ·exact qOt h
 split
 ·exact qOt (qOt h)
 ·exact qOt h
theorem yKf {xs:List In}{p x:Nat}{K:Kn}(b:(nth xs p).right=true)(h:((qGh (nth xs p) p K).getD x kn0).1=true):(K.getD x kn0).1=true∨x=p+1∨((nth xs p).leads=true/\(x:Int)=p+(nth xs p).far):=by
 have c:=qBf (nth xs p);unfold qGh at h
 split at h
 ·exact .inl h
 split at h
 ·rename_i c15
  rcases qOb h with h|h
  ·exact .inl h
  ·have a:=qHm b (by omega);exact .inr (.inr ⟨a.2,by omega⟩)
 split at h
 ·rename_i c16
  have a:=qHm b (by omega)
  rcases qOb h with h|h
  ·rcases qOb h with h|h
   ·exact .inl h
   ·exact .inr (.inl h)
  ·exact .inr (.inr ⟨a.2,by omega⟩)
 ·rcases qOb h with h|h
  ·exact .inl h
  ·exact .inr (.inl h)
theorem yWl {xs:List In}{nm n:Nat}{K:Kn}(h:qEq xs nm (n+1)=.ok K):∃ K0,qEq xs nm n=.ok K0/\qJq xs nm n K0=.ok K:=by
 rw [qEq] at h
 cases h0:qEq xs nm n with
 | error e=>rw [h0] at h;cases h
 | ok K0 =>
  rw [h0] at h;simp only at h
  cases h1:qJq xs nm n K0 with
  | error e=>rw [h1] at h;cases h
  | ok K1=>rw [h1] at h;simp only at h;injection h with h;subst h;exact ⟨K0,rfl,h1⟩
theorem qPt {xs:List In}{nm p:Nat}{K a:Kn}(h:qJq xs nm p K=.ok a):((K.getD p kn0).1=false/\a=K)∨((K.getD p kn0).1=true/\qWj xs nm p (qFn xs p K)=0/\a=qGh (nth xs p) p (qFn xs p K)):=by
 unfold qJq at h
 split at h
 ·rename_i h1;injection h with h;exact .inl ⟨h1,h.symm⟩
 ·rename_i h1
  split at h
  ·cases h
  ·rename_i h2;injection h with h;exact .inr ⟨by simpa using h1,by simpa using h2,h.symm⟩
theorem qSb {xs:List In}{nm:Nat}(f:Taken xs):∀ {n:Nat} {K:Kn},n<=xs.length->qEq xs nm n=.ok K->(K.getD 0 kn0).1=true/\∀ l∈qAk xs,∀ x:Nat,l.h<x->(x:Int)<=l.t->(K.getD x kn0).1=true->(K.getD l.h.toNat kn0).1=true:=by
 intro n
 induction n with
 | zero =>
  intro K _ h;rw [qEq] at h;injection h with h;subst h;have r:=f.pos;refine ⟨?_,fun l b x k i a=>?_⟩
  ·unfold qFg;rw [if_neg (by simp),if_pos (by simp [List.getD,List.getElem?_replicate,r];rfl),qKf (by simp;exact r)]
  ·rcases qOb a with a|a
   ·exfalso
    rw [show (List.replicate xs.length kn0).getD x kn0=kn0 by simp [List.getD,List.getElem?_replicate];split<;>rfl] at a
    cases a
   ·have:=(f.loops l b).1
    omega
 | succ n ih =>
  intro K z h;obtain ⟨u,h0,w⟩:=yWl h;obtain ⟨o,g⟩:=ih (by omega) h0;have s:=f.right (show n<xs.length by omega)
  rcases qPt w with ⟨_,rfl⟩|⟨c,_,rfl⟩
  ·exact ⟨o,g⟩
  ·refine ⟨qTk (by rw [qTc];exact o),fun l b x k i a=>qTk (by
    rw [qTc];have y:=f.loops l b
    have d:(u.getD x kn0).1=true∨x=n+1∨((nth xs n).leads=true/\(x:Int)=n+(nth xs n).far):=by
     rcases yKf s a with h|h
     ·rw [qTc] at h;exact .inl h
     ·exact .inr h
    rcases d with h|h|h
    ·exact g l b x k i h
    ·by_cases hnh:(n:Int)=l.h
     ·rw [<- hnh];simpa using c
     ·exact g l b n (by omega) (by omega) c
    ·have d:=yRy f (by omega) h.1 b h.2 k i
     by_cases hnh:(n:Int)=l.h
     ·rw [<- hnh];simpa using c
     ·exact g l b n (by omega) d.2 c)⟩
theorem qRw (C:List St)(n:Nat):(qDp C n).length=n:=by simp [qDp]
theorem qQq (C:List St){n r:Nat}(a:r<n):(qDp C n).getD r Ty.nil=qEn (C.map fun s=>s.getD r Ty.nil):=by
 unfold qDp
 simp [List.getD,List.getElem?_map,List.getElem?_range a]
theorem yDx {a b:St}(g:a.length=8)(f:b.length=8)(h:∀ r,r<8->a.getD r Ty.nil=b.getD r Ty.nil):a=b:=by
 apply List.ext_getElem (by omega)
 intro r c d;have:=h r (by omega);rw [List.getD_eq_getElem?_getD,List.getD_eq_getElem?_getD,List.getElem?_eq_getElem c,List.getElem?_eq_getElem d] at this;exact this
theorem qSj {nm:Nat}{s:St}(h:Made8 nm s):qDp [s] 8=s :=
 yDx (qRw _ _) h.1 fun r a=>by rw [qQq _ a];exact yOz (h.get a)
theorem qJp {nm:Nat}{C:List St}(a:C≠[])(h:∀ c∈C,Made8 nm c):Made8 nm (qDp C 8):=by
 refine ⟨qRw _ _,fun t d=>?_⟩;obtain ⟨r,f,rfl⟩:=List.mem_map.1 d;have b:=List.mem_range.1 f
 refine qXr (by simpa using a) fun u i=>?_
 obtain ⟨c,g,rfl⟩:=List.mem_map.1 i;exact (h c g).get b
theorem qLe {nm:Nat}{C:List St}{s:St}(b:C≠[])(h:∀ c∈C,Made8 nm c)(d:Made8 nm s):qDp (C++[s]) 8=qFz (qDp C 8) s 8 :=
 yDx (qRw _ _) (qGd _ _ _) fun r a=>by
  rw [qQq _ a,qKk _ _ a,if_pos a,qQq _ a,List.map_append];refine yJi (nm:=nm) (by simpa using b) (fun u g=>?_) (d.get a);obtain ⟨c,f,rfl⟩:=List.mem_map.1 g;exact (h c f).get a
theorem yIk {nm:Nat}{a b:Ty}(d:Made nm a)(c:Made nm b):qGj a b=qGj b a:=by
 rw [qHo d c,qHo c d]
 by_cases h1:a.k=1/\b.k=1
 ·rw [if_pos h1,if_pos ⟨h1.2,h1.1⟩,Int.min_comm,Int.max_comm]
 ·rw [if_neg h1,if_neg (show ¬ (b.k=1/\a.k=1) from fun h=>h1 ⟨h.2,h.1⟩)]
  by_cases h2:a.k=2/\b.k=2/\a.m=b.m
  ·rw [if_pos h2,if_pos ⟨h2.2.1,h2.1,h2.2.2.symm⟩,ty_eq]
   rcases d with h|h|h<;>rcases c with f|f|f<;>omega
  ·rw [if_neg h2,if_neg (fun h=>h2 ⟨h.2.1,h.1,h.2.2.symm⟩)]
theorem yLb {nm:Nat}{C:List St}{a b:St}(h:∀ c∈C,Made8 nm c)(g:Made8 nm a)(f:Made8 nm b):qDp (C++[a]++[b]) 8=qDp (C++[b]++[a]) 8:=by
 have hm:∀ {x:St},Made8 nm x->∀ c∈C++[x],Made8 nm c:=fun {x} hx c hc=>by
  rcases List.mem_append.1 hc with i|i
  ·exact h c i
  ·rw [List.mem_singleton.1 i];exact hx
 rw [qLe (by simp) (hm g) f,qLe (by simp) (hm f) g]
 refine yDx (qGd _ _ _) (qGd _ _ _) fun r d=>?_
 rw [qKk _ _ d,qKk _ _ d,if_pos d,if_pos d]
 by_cases hne:C=[]
 ·subst hne;rw [List.nil_append,List.nil_append,qSj g,qSj f];exact yIk (g.get d) (f.get d)
 ·rw [qLe hne h g,qLe hne h f,qKk _ _ d,qKk _ _ d,if_pos d,if_pos d];exact yLl ((qJp hne h).get d) (g.get d) (f.get d)

def qLf (K:Kn) (x:Nat) (C:List St):Prop:=((K.getD x kn0).1=true↔C≠[])/\(C≠[]->(K.getD x kn0).2=qDp C 8)
theorem qNz {nm:Nat}{K:Kn}{x p:Nat}{C:List St}{r:Bool}{s:St}(b:p<K.length)(a:qLf K x C)(g:∀ c∈C,Made8 nm c)(f:Made8 nm s):qLf (qFg K p r s) x (C++if x=p/\r=true then [s] else []):=by
 by_cases hx:x=p
 ·subst hx
  cases r with
  | false=>rw [if_neg (by simp),List.append_nil];exact a
  | true =>
   rw [if_pos ⟨rfl,rfl⟩];unfold qFg;rw [if_neg (by simp)]
   by_cases hne:C=[]
   ·subst hne
    have d:(K.getD x kn0).1=false:=by
     cases h:(K.getD x kn0).1 with
     | false=>rfl
     | true=>exact absurd rfl (a.1.1 h)
    rw [if_pos d];refine ⟨by rw [qKf b];simp,fun _=>?_⟩;rw [qKf b,List.nil_append,qSj f]
   ·have d:=a.1.2 hne;rw [if_neg (by rw [d];simp)];refine ⟨by rw [qKf b,d];simp,fun _=>?_⟩;rw [qKf b,qLe hne g f,a.2 hne]
 ·rw [if_neg (fun h=>hx h.1),List.append_nil];unfold qLf;rw [qOh hx];exact a
theorem yMe {nm:Nat}{K:Kn}{x:Nat}{C A B:List St}(g:∀ c∈C,Made8 nm c)(hA:A=[]∨∃ a,A=[a]/\Made8 nm a)(i:B=[]∨∃ b,B=[b]/\Made8 nm b)(h:qLf K x (C++A++B)):qLf K x (C++B++A):=by
 rcases hA with rfl|⟨a,rfl,f⟩
 ·simpa using h
 rcases i with rfl|⟨b,rfl,d⟩
 ·simpa using h
 refine ⟨?_,fun _=>?_⟩
 ·have:=h.1
  simpa using this
 ·rw [h.2 (by simp),yLb g f d]

theorem yLq {nm:Nat}{xs:List In}{s:St}(h:Made8 nm s)(q:Nat):qHx s (nth xs q)=qKg xs s q:=by
 unfold qHx qKg
 split
 ·unfold qKy qBg
  generalize (nth xs q).wr.1.toNat=r
  by_cases hr:r<8
  ·have hm:=h.get hr
   by_cases h1:(s.getD r Ty.nil).k=1
   ·rw [if_pos h1,if_pos h1]
   ·rw [if_neg h1,if_neg h1]
    by_cases h2:(s.getD r Ty.nil).k=2
    ·rw [if_pos h2]
    ·rw [if_neg h2]
     have e:s.getD r Ty.nil=Ty.nil:=by
      rcases hm with a|a|a
      ·exact ty_eq.2 ⟨a.1,a.2.1,a.2.2.1,a.2.2.2⟩
      ·omega
      ·omega
     rw [show s.set r Ty.nil=s.set r (s.getD r Ty.nil) by rw [e]]
     have c:r<s.length:=by rw [h.1];exact hr
     rw [List.getD_eq_getElem?_getD,List.getElem?_eq_getElem c]
     simp
  ·have b:∀ t,s.set r t=s:=fun t=>List.set_eq_of_length_le (by rw [h.1];omega)
   rw [b,b,b]
   split
   ·rfl
   ·split<;>rfl
 ·rfl
theorem yBh {nm:Nat}{xs:List In}{p:Nat}{s:St}(h:Made8 nm s):∀ n,p+n<=xs.length->(qKb xs p n).foldl qHx s=qJc xs s p n
 | 0,_=>rfl
 | n+1,hn=>by
  have e:qKb xs p (n+1)=qKb xs p n++[nth xs (p+n)]:=by
   unfold qKb
   have a:n<(xs.drop p).length:=by rw [List.length_drop];omega
   rw [List.take_add_one,List.getElem?_eq_getElem a,List.getElem_drop];unfold nth;rw [List.getD_eq_getElem?_getD,List.getElem?_eq_getElem (by omega)]
   rfl
  rw [e,List.foldl_append,yBh h n (by omega),qJc];exact yLq (qKz h p n) _
theorem qVn {nm:Nat}{xs:List In}(b:Taken xs){p:Nat}{s:St}(h:Made8 nm s):∀ n,n<=xs.length->(qBt xs n).foldl (qHa xs p) s=qFd xs p s n
 | 0,_=>rfl
 | n+1,hn=>by
  rw [qBt,List.foldl_append,qVn b h n (by omega),qFd];unfold lps qWb
  by_cases h20:(nth xs n).op=20
  ·rw [if_pos h20,List.foldl_cons,List.foldl_nil]
   have g:(nth xs n).far = -(nth xs n).d/\1<=(nth xs n).d:=by
    have c:=b.right (show n<xs.length by omega)
    rcases qBf (nth xs n) with h|h|h|h
    ·rw [c] at h;cases h.1
    ·omega
    ·exact ⟨h.2.2.1,h.2.2.2.2.2.1⟩
    ·omega
   have hm:=qHq (xs:=xs) h p n;unfold qHa qBm;simp only
   by_cases hh:(n:Int)-(nth xs n).d=p
   ·rw [if_pos (by omega),if_pos (by rw [Bool.and_eq_true];exact ⟨decide_eq_true h20,decide_eq_true hh⟩)]
    have f:p<n:=by omega
    rw [show ((n:Int)+1-(p:Int)).toNat=n+1-p by omega];exact yBh hm _ (by omega)
   ·rw [if_neg (by omega),if_neg (fun a=>hh (of_decide_eq_true (Bool.and_eq_true_iff.1 a).2))]
  ·rw [if_neg h20,List.foldl_nil,if_neg (fun a=>h20 (of_decide_eq_true (Bool.and_eq_true_iff.1 a).1))]
theorem qZx {nm:Nat}{xs:List In}(a:Taken xs){p:Nat}{s:St}(h:Made8 nm s):qNi xs p (qAk xs) s=qFd xs p s xs.length:=qVn a h _ (Nat.le_refl _)

def qNy (i:In) (p x:Nat) (s:St):List St:=if (i.leads&&decide ((p:Int)+i.far=x))=true then (qBp i s true).toList else []
def onL (i:In) (p x:Nat) (s:St):List St:=if (i.on&&decide (p+1=x))=true then (qBp i s false).toList else []
theorem qNe {nm:Nat}{i:In}{s head:St}(g:i.right=true)(d:Made8 nm s)(f:qEc nm i s head=0)(b c:Bool):(if c=true then (qBp i s b).toList else [])=[]∨∃ a,(if c=true then (qBp i s b).toList else [])=[a]/\Made8 nm a:=by
 cases c with
 | false=>exact .inl rfl
 | true =>
  rw [if_pos rfl]
  cases h:qBp i s b with
  | none=>exact .inl rfl
  | some s'=>exact .inr ⟨s',rfl,qKd g d f h⟩
theorem yLa {nm:Nat}{xs:List In}{p x:Nat}{K:Kn}{head:St}{C:List St}(J:Taken xs)(D:p<xs.length)(Q:K.length=xs.length)(P:MadeK nm K)(O:(K.getD p kn0).1=true)(o:qEc nm (nth xs p) (K.getD p kn0).2 head=0)(R:p<x)(w:qLf K x C)(r:∀ c∈C,Made8 nm c) :
  qLf (qGh (nth xs p) p K) x (C++qNy (nth xs p) p x (K.getD p kn0).2++onL (nth xs p) p x (K.getD p kn0).2):=by
 have d:=J.right D;have z:=qEl D (J.place p D);have k:=P.at p;have g:=qBf (nth xs p);unfold qGh
 generalize hi:nth xs p=i at *
 generalize hS:(K.getD p kn0).2=s at *
 rw [O]
 by_cases c22:i.op=22
 ·rw [if_pos c22]
  have:qNy i p x s=[]/\onL i p x s=[]:=by
   rcases g with h|h|h|h
   ·rw [d] at h;cases h.1
   ·omega
   ·omega
   ·unfold qNy onL;rw [h.2.2.2.1,h.2.2.2.2]
    simp [c22]
  rw [this.1,this.2]
  simpa using w
 rw [if_neg c22]
 by_cases c15:i.op=15
 ·rw [if_pos c15];have B:=qHm d (by omega)
  have f:i.on=false:=by
   rcases g with h|h|h|h
   ·rw [d] at h;cases h.1
   ·rw [h.2.2.2.2.2.1];simp [c15]
   ·omega
   ·omega
  have u:onL i p x s=[]:=by unfold onL;rw [f];simp
  have l:qNy i p x s=if x=((p:Int)+i.far).toNat/\true=true then [s] else []:=by
   unfold qNy;rw [B.2]
   have M:qBp i s true=some s:=by
    unfold qBp
    have E:¬ qAv i.op=true:=by unfold qAv;simp;omega
    have N:¬ qBw i.op=true:=by unfold qBw;simp;omega
    rw [if_neg (by omega),if_neg E,if_neg (by omega),if_neg (by omega),if_neg (by omega),if_neg N]
   rw [M]
   by_cases b:(p:Int)+i.far=x
   ·rw [if_pos (by simp [b]),if_pos ⟨by omega,rfl⟩];rfl
   ·rw [if_neg (by simp [b]),if_neg (fun h=>b (by omega))]
  rw [u,l,List.append_nil];exact qNz (by omega) w r k
 rw [if_neg c15]
 by_cases c16:16<=i.op/\i.op<=19
 ·rw [if_pos c16];have B:=qHm d (by omega)
  have f:i.on=true:=by
   rcases g with h|h|h|h
   ·rw [d] at h;cases h.1
   ·rw [h.2.2.2.2.2.1];simp [c15]
   ·omega
   ·omega
  have u:onL i p x s=if x=p+1/\(qJb i true s false).1=true then [(qJb i true s false).2] else []:=by
   unfold onL;rw [f,qQm s c16]
   by_cases b:p+1=x
   ·subst b
    cases h:qBp i s false<;>simp
   ·rw [if_neg (by simp [b]),if_neg (fun h=>b h.1.symm)]
  have l:qNy i p x s=if x=((p:Int)+i.far).toNat/\(qJb i true s true).1=true then [(qJb i true s true).2] else []:=by
   unfold qNy;rw [B.2,qQm s c16]
   by_cases b:(p:Int)+i.far=x
   ·have G:x=((p:Int)+i.far).toNat:=by omega
    rw [if_pos (by simp [b])]
    cases h:qBp i s true with
    | none=>simp
    | some s'=>rw [if_pos ⟨G,rfl⟩];rfl
   ·rw [if_neg (by simp [b]),if_neg (fun h=>b (by have:=h.1;omega))]
  have F:=qNe d k o false (i.on&&decide (p+1=x));have L:=qNe d k o true (i.leads&&decide ((p:Int)+i.far=x));refine yMe r F L ?_
  change qLf _ x (C++onL i p x s++qNy i p x s)
  have I:∀ c∈C++onL i p x s,Made8 nm c:=by
   intro c b
   rcases List.mem_append.1 b with y|y
   ·exact r c y
   ·rcases F with A|⟨a,A,E⟩
    ·have n:c∈([]:List St):=by rw [<- A];exact y
     cases n
    ·have n:c∈[a]:=by rw [<- A];exact y
     rw [List.mem_singleton.1 n];exact E
  rw [l];refine qNz (nm:=nm) (by rw [qKo];omega) ?_ I (qOd d k o c16);rw [u];exact qNz (by have:=z.2.2.2 f;omega) w r (qOd d k o c16)
 rw [if_neg c16]
 have f:i.on=true:=by
  rcases g with h|h|h|h
  ·rw [d] at h;cases h.1
  ·omega
  ·exact h.2.2.2.2.1
  ·rw [h.2.2.2.2];simp [c22]
 have u:onL i p x s=if x=p+1/\true=true then [wrS i s] else []:=by
  unfold onL;rw [f,qOs d s c16 false]
  by_cases b:p+1=x
  ·rw [if_pos (by simp [b]),if_pos ⟨b.symm,rfl⟩];rfl
  ·rw [if_neg (by simp [b]),if_neg (fun h=>b h.1.symm)]
 have l:qNy i p x s=[]:=by
  unfold qNy
  rcases g with h|h|h|h
  ·rw [d] at h;cases h.1
  ·omega
  ·rw [if_neg (by simp;intro _;omega)]
  ·rw [h.2.2.2.1];simp
 rw [u,l,List.append_nil];exact qNz (by have:=z.2.2.2 f;omega) w r (qKd d k o (qOs d s c16 false))

theorem qJw (xs:List In)(a:List St)(x n:Nat):qAy xs a x (n+1)=qAy xs a x n++qHr xs a x n:=by
 unfold qAy;rw [List.range_succ,List.flatMap_append,List.append_assoc]
 simp
theorem yJw {xs:List In}{b a:List St}{x q:Nat}(h:b.getD q []=a.getD q []):qHr xs b x q=qHr xs a x q:=by
 unfold qHr;rw [h]
theorem qTe {xs:List In}{b a:List St}{x:Nat}:∀ n,(∀ q,q<n->b.getD q []=a.getD q [])->qAy xs b x n=qAy xs a x n
 | 0,_=>rfl
 | n+1,h=>by rw [qJw,qJw,qTe n (fun q c=>h q (by omega)),yJw (h n (by omega))]
theorem qJs {l m:List St}{q:Nat}(h:q<l.length):(l++m).getD q []=l.getD q []:=by
 simp [List.getD,List.getElem?_append_left h]
theorem qTu {l:List St}{s:St}:(l++[s]).getD l.length []=s:=by
 simp [List.getD]
structure Pull (xs:List In) (nm n:Nat) (K:Kn) (known:List St):Prop where
 len:known.length=n
 klen:K.length=xs.length
 made:MadeK nm K
 low:∀ x,x<n->known.getD x []=if (K.getD x kn0).1=true then (K.getD x kn0).2 else []
 high:∀ x,n<=x->x<xs.length->qLf K x (qAy xs known x n)
 cm:∀ x,∀ c∈qAy xs known x n,Made8 nm c
theorem yHh {xs:List In}(nm:Nat)(g:Taken xs):Pull xs nm 0 (qFg (List.replicate xs.length kn0) 0 true stZ) []:=by
 have b:∀ x,(List.replicate xs.length kn0).getD x kn0=kn0:=fun x=>by simp [List.getD,List.getElem?_replicate];split<;>rfl
 have d:∀ x,qAy xs [] x 0=[]++if x=0/\true=true then [stZ] else []:=fun x=>by
  unfold qAy stZ
  by_cases h:x=0
  ·subst h;rfl
  ·rw [if_neg h,if_neg (fun a=>h a.1)];rfl
 refine ⟨rfl,by rw [qKo];simp,qLm (qLz nm _) _ _ (qHp nm),fun x f=>by omega,fun x _ f=>?_,fun x c h=>?_⟩
 ·rw [d];refine qNz (nm:=nm) (by simpa using g.pos) ⟨by rw [b];simp [kn0],fun h=>absurd rfl h⟩ (fun c h=>by cases h) (qHp nm)
 ·rw [d] at h
  split at h
  ·have a:c∈[stZ]:=by simpa using h
   rw [List.mem_singleton.1 a];exact qHp nm
  ·simp at h
theorem yRh {nm:Nat}{i:In}{s h a:St}(b:i.op=20->h=a):qEc nm i s h=qEc nm i s a:=by
 by_cases h20:i.op=20
 ·rw [b h20]
 ·unfold qEc;simp only [h20,if_false]
theorem qWk {xs:List In}{nm n:Nat}{K:Kn}{a:List St}(f:Taken xs)(c:n<xs.length)(h:Pull xs nm n K a):atJ xs a n=if (K.getD n kn0).1=true then ((qFn xs n K).getD n kn0).2 else []:=by
 have b:=h.high n (Nat.le_refl _) c;unfold atJ
 by_cases hne:qAy xs a n n=[]
 ·rw [hne,if_pos (show ([]:List St).length=0 from rfl),if_neg (fun d=>(b.1.1 d) hne)]
 ·rw [if_neg (by simpa using hne),if_pos (b.1.2 hne)];unfold qFn;rw [qKf (by rw [h.klen];exact c),b.2 hne];exact (qZx f (qJp hne (h.cm n))).symm
theorem yCc {xs:List In}{nm n:Nat}{K:Kn}{a:List St}(c:Taken xs)(b:n<xs.length)(h:Pull xs nm n K a)(i:qEq xs nm n=.ok K)(o:(K.getD n kn0).1=true):qLq xs nm a (atJ xs a n) n=qWj xs nm n (qFn xs n K):=by
 have e:=qWk c b h;rw [if_pos o] at e;unfold qLq qWj;rw [e];have hm:=qMw (xs:=xs) (p:=n) h.made;have w:=(hm.at n).1;rw [if_neg (by omega)]
 refine yRh fun g=>?_
 have r:=c.right b;have u:=qEl b (c.place n b)
 have y:(nth xs n).far = -(nth xs n).d/\1<=(nth xs n).d:=by
  rcases qBf (nth xs n) with h|h|h|h
  ·rw [r] at h;cases h.1
  ·omega
  ·exact ⟨h.2.2.1,h.2.2.2.2.2.1⟩
  ·omega
 unfold qQa;rw [if_pos g]
 have l:((n:Int)-(nth xs n).d).toNat<n:=by omega
 rw [qJs (by rw [h.len];exact l),h.low _ l];have k:qBm xs n∈qAk xs:=loopsU_mem.2 ⟨n,b,g,rfl⟩;have f:=(qSb c (by omega) i).2 _ k n (by show (n:Int)+(nth xs n).far<n;omega) (Int.le_refl _) o
 have s:(qBm xs n).h.toNat=((n:Int)-(nth xs n).d).toNat:=by show ((n:Int)+(nth xs n).far).toNat=_;omega
 rw [s] at f;rw [if_pos f,show ((n:Int)+(nth xs n).far).toNat=((n:Int)-(nth xs n).d).toNat by omega,qWt (by omega)]
theorem yNz {xs:List In}{nm n:Nat}{K G:Kn}{b:List St}(F:Taken xs)(E:n<xs.length)(h:Pull xs nm n K b)(J:qJq xs nm n K=.ok G):Pull xs nm (n+1) G (b++[atJ xs b n]):=by
 have y:=F.right E;have s:=qWk F E h
 have d:∀ x,qAy xs (b++[atJ xs b n]) x n=qAy xs b x n:=fun x=>qTe n fun q L=>qJs (by rw [h.len];exact L)
 have o:(b++[atJ xs b n]).getD n []=atJ xs b n:=by have:=@qTu b (atJ xs b n);rwa [h.len] at this
 rcases qPt J with ⟨w,rfl⟩|⟨w,z,rfl⟩
 ·rw [w,if_neg (by simp)] at s
  have k:∀ x,qHr xs (b++[atJ xs b n]) x n=[]:=fun x=>by
   unfold qHr;rw [o,s,if_pos (show ([]:St).length=0 from rfl)]
  refine ⟨by simp [h.len],h.klen,h.made,fun x M=>?_,fun x r f=>?_,fun x c u=>?_⟩
  ·by_cases hxn:x=n
   ·subst hxn;rw [o,s,w,if_neg (by simp)]
   ·rw [qJs (by rw [h.len];omega)];exact h.low x (by omega)
  ·rw [qJw,d,k,List.append_nil];exact h.high x (by omega) f
  ·rw [qJw,d,k,List.append_nil] at u;exact h.cm x c u
 ·rw [if_pos w] at s;have i:=qMw (xs:=xs) (p:=n) h.made
  have B:(qFn xs n K).length=xs.length:=by unfold qFn;rw [List.length_set];exact h.klen
  have A:((qFn xs n K).getD n kn0).1=true:=by rw [qTc];exact w
  have k:∀ x,qHr xs (b++[atJ xs b n]) x n=qNy (nth xs n) n x ((qFn xs n K).getD n kn0).2++onL (nth xs n) n x ((qFn xs n K).getD n kn0).2:=fun x=>by
   unfold qHr;rw [o,s,if_neg (by have:=(i.at n).1;omega)]
   rfl
  have I:∀ x,n<x->x<xs.length->qLf (qFn xs n K) x (qAy xs b x n):=fun x r f=>by
   have:=h.high x (by omega) f;unfold qLf at this ⊢;rw [qWt (by omega)];exact this
  refine ⟨by simp [h.len],by rw [yHy];exact B,qTp y i z,fun x M=>?_,fun x r f=>?_,fun x c u=>?_⟩
  ·rw [yRm y (by omega)]
   by_cases hxn:x=n
   ·subst hxn;rw [o,s,if_pos A]
   ·rw [qJs (by rw [h.len];omega),qWt hxn];exact h.low x (by omega)
  ·rw [qJw,d,k,<- List.append_assoc];exact yLa F E B i A z (by omega) (I x (by omega) f) (h.cm x)
  ·rw [qJw,d,k] at u
   rcases List.mem_append.1 u with r|r
   ·exact h.cm x c r
   ·rcases List.mem_append.1 r with f|f
    ·rcases qNe y (i.at n) z true ((nth xs n).leads&&decide ((n:Int)+(nth xs n).far=x)) with l|⟨a,l,D⟩
     ·have g:c∈([]:List St):=by rw [<- l];exact f
      cases g
     ·have g:c∈[a]:=by rw [<- l];exact f
      rw [List.mem_singleton.1 g];exact D
    ·rcases qNe y (i.at n) z false ((nth xs n).on&&decide (n+1=x)) with l|⟨a,l,D⟩
     ·have g:c∈([]:List St):=by rw [<- l];exact f
      cases g
     ·have g:c∈[a]:=by rw [<- l];exact f
      rw [List.mem_singleton.1 g];exact D
theorem qNo {xs:List In}{nm:Nat}(d:Taken xs):∀ n,n<=xs.length->(∃ e,qEq xs nm n=.error e/\qFh xs nm n=.error ((e.1:Int),e.2))∨(∃ K a,qEq xs nm n=.ok K/\qFh xs nm n=.ok a/\Pull xs nm n K a)
 | 0,_=>.inr ⟨_,[],rfl,rfl,yHh nm d⟩
 | n+1,hn=>by
  rcases qNo (nm:=nm) d n (by omega) with ⟨e,f,i⟩|⟨K,a,f,i,g⟩
  ·exact .inl ⟨e,by rw [qEq,f],by rw [qFh,i]⟩
  ·have c:n<xs.length:=by omega
   rw [qEq,qFh,f,i];simp only
   cases b:qJq xs nm n K with
   | error E =>
    left
    unfold qJq at b
    split at b
    ·cases b
    rename_i hk
    split at b
    ·rename_i hE
     injection b with b;have:=yCc d c g f (by simpa using hk);rw [this,if_neg hE,b];exact ⟨_,rfl,rfl⟩
    ·cases b
   | ok K' =>
    right
    have hE:qLq xs nm a (atJ xs a n) n=0:=by
     rcases qPt b with ⟨hk,_⟩|⟨hk,k,_⟩
     ·have:=qWk d c g;rw [hk,if_neg (by simp)] at this;unfold qLq;rw [this,if_pos (show ([]:St).length=0 from rfl)]
     ·rw [yCc d c g f hk,k]
    rw [if_pos hE];exact ⟨K',_,rfl,rfl,yNz d c g b⟩
def qHz (t:Ty) (v:Int):Prop:=(t.k=1->t.lo<=v/\v<=t.hi)/\(t.k=2->v=t.m)
def HoldS (s:St) (R:List Int):Prop:=∀ r,r<8->qHz (s.getD r Ty.nil) (R.getD r 0)
theorem qTw (v:Int):qHz Ty.nil v:=⟨fun h=>(by cases h),fun h=>(by cases h)⟩
theorem qRm {v:Int}(a:0<=v/\v<=18446744073709551615):qHz qEe v:=⟨fun _=>a,fun h=>(by cases h)⟩
theorem qQb {lo hi v:Int}(h:lo<=v/\v<=hi):qHz (qHk lo hi) v:=⟨fun _=>h,fun h=>(by cases h)⟩
theorem HoldS.set {s:St}{R:List Int}(h:HoldS s R)(c:s.length=8)(b:R.length=8){k:Nat}{t:Ty}{v:Int}(d:qHz t v):HoldS (s.set k t) (R.set k v):=by
 intro r a
 by_cases e:k=r
 ·subst e;rw [show (s.set k t).getD k Ty.nil=t by simp [List.getD,List.getElem?_set,c,a],show (R.set k v).getD k 0=v by simp [List.getD,List.getElem?_set,b,a]];exact d
 ·rw [show (s.set k t).getD r Ty.nil=s.getD r Ty.nil by simp [List.getD,List.getElem?_set,e],show (R.set k v).getD r 0=R.getD r 0 by simp [List.getD,List.getElem?_set,e]];exact h r a
theorem HoldS.setT {s:St}{R:List Int}(h:HoldS s R)(b:s.length=8){k:Nat}{t:Ty}(c:qHz t (R.getD k 0)):HoldS (s.set k t) R:=by
 intro r a
 by_cases e:k=r
 ·subst e;rw [show (s.set k t).getD k Ty.nil=t by simp [List.getD,List.getElem?_set,b,a]];exact c
 ·rw [show (s.set k t).getD r Ty.nil=s.getD r Ty.nil by simp [List.getD,List.getElem?_set,e]];exact h r a
theorem qTr {a A b B:Int}(h:qDs a A b B=true):b<=a/\A<=B:=by
 simp only [qDs,qGv,Bool.and_eq_true,decide_eq_true_eq] at h
 omega
theorem yOt {a b:Ty}{v:Int}(h:qGt a b=true)(d:qHz a v):qHz b v:=by
 unfold qGt at h
 split at h
 ·rename_i h0
  exact ⟨fun h1=>by omega,fun c=>by omega⟩
 split at h
 ·cases h
 rename_i h0 hk
 have hk:a.k=b.k:=by omega
 split at h
 ·rename_i h1
  have:=qTr h;have:=d.1 (by omega);exact ⟨fun _=>by omega,fun c=>by omega⟩
 ·rename_i h1
  have e:=of_decide_eq_true h;exact ⟨fun c=>by omega,fun c=>by rw [d.2 (by omega),e]⟩
theorem yBm {s h:St}{R:List Int}(a:qIx s h=true)(c:HoldS s R):HoldS h R:=fun r b=>by
 unfold qIx at a;exact yOt ((List.all_eq_true.1 a) r (List.mem_range.2 b)) (c r b)
theorem yJl {nm:Nat}{l:List Ty}{t:Ty}{v:Int}(r:∀ u∈l,Made nm u)(d:t∈l)(h:qHz t v):qHz (qEn l) v:=by
 unfold qEn
 split
 ·rename_i ha
  have f:=(List.all_eq_true.1 ha) t d;simp only [qFc,Bool.and_eq_true,decide_eq_true_eq,Bool.not_eq_true',Bool.and_eq_false_iff,decide_eq_false_iff_not] at f
  split
  ·rename_i h1
   have k:qCj (qCm l)=true:=by
    unfold qCj;rw [Bool.and_eq_true];refine ⟨by cases l with|nil=>cases d|cons a b=>rfl,List.all_eq_true.2 fun s n=>?_⟩;obtain ⟨u,i,rfl⟩:=List.mem_map.1 n;have g:=(List.all_eq_true.1 ha) u i;simp only [qFc,Bool.and_eq_true,decide_eq_true_eq] at g;have w:=g.1;refine decide_eq_true ?_
    rcases r u i with c|c|c<;>(simp only;omega)
   have:=yGz k (List.mem_map.2 ⟨t,d,rfl⟩);simp only at this;have c:=h.1 (by omega);exact qQb ⟨by omega,by omega⟩
  ·rename_i h1
   refine ⟨fun c=>absurd c h1,fun c=>?_⟩;have y:=h.2 (by omega)
   have:t.m=(l.getD 0 Ty.nil).m:=by
    rcases f.2 with o|o
    ·omega
    ·omega
   omega
 ·exact qTw v
theorem qUu {nm:Nat}{C:List St}{c:St}{R:List Int}(g:∀ c∈C,Made8 nm c)(b:c∈C)(h:HoldS c R):HoldS (qDp C 8) R:=fun r a=>by
 rw [qQq C a];refine yJl (nm:=nm) (fun u i=>?_) (List.mem_map.2 ⟨c,b,rfl⟩) (h r a);obtain ⟨d,f,rfl⟩:=List.mem_map.1 i;exact (g d f).get a
theorem yLj {xs:List In}{s:St}{R:List Int}{q:Nat}(b:WR R)(a:s.length=8)(h:HoldS s R):HoldS (qKg xs s q) R:=by
 unfold qKg
 split
 ·split
  ·by_cases hr:(nth xs q).wr.1.toNat<8
   ·exact h.setT a (qRm (b.2 _ hr))
   ·rw [List.set_eq_of_length_le (by omega)];exact h
  ·split
   ·exact h.setT a (qTw _)
   ·exact h
 ·exact h
theorem qUx {nm:Nat}{xs:List In}{s:St}{R:List Int}{p:Nat}(a:WR R)(b:Made8 nm s)(h:HoldS s R):∀ n,HoldS (qJc xs s p n) R
 | 0=>h
 | n+1=>yLj a (qKz b p n).1 (qUx a b h n)
theorem qNb {nm:Nat}{xs:List In}{s:St}{R:List Int}{p:Nat}(a:WR R)(b:Made8 nm s)(h:HoldS s R):∀ l,HoldS (qFd xs p s l) R
 | 0=>h
 | l+1=>by
  unfold qFd
  split
  ·exact qUx a (qHq b p l) (qNb a b h l) _
  ·exact qNb a b h l
theorem qQk {i:In}{s:St}{R:List Int}(h:HoldS s R)(a:i.b=8∨(0<=i.b/\i.b<=7)):qHz (qBa i s) (qCk i R):=by
 unfold qBa qCk
 split
 ·exact qQb ⟨Int.le_refl _,Int.le_refl _⟩
 ·exact h _ (by omega)
theorem yXn {nm:Nat}{op:Int}{a b:Ty}{x y:Int}(c:1<=op/\op<=10)(n:Made nm a)(i:Made nm b)(o:a.k=1)(kb:b.k=1)(l:qHz a x)(g:qHz b y):qHz (doT op a b) (doL op x y):=by
 have d:0<=a.lo/\a.lo<=a.hi/\a.hi<=18446744073709551615:=by rcases n with h|h|h<;>omega
 have f:0<=b.lo/\b.lo<=b.hi/\b.hi<=18446744073709551615:=by rcases i with h|h|h<;>omega
 unfold doT doR;rw [if_pos ⟨c,d.2.1,f.2.1⟩];exact qQb (qVo c d.1 d.2.2 f.1 f.2.2 (l.1 o) (g.1 kb))
theorem qNl {xs:List In}{nm:Nat}:∀ {n:Nat} {a:List St},qFh xs nm n=.ok a->∀ x,x<=n->qFh xs nm x=.ok (a.take x)/\a.length=n:=by
 intro n
 induction n with
 | zero =>
  intro a h x c
  obtain rfl:x=0:=by omega
  rw [qFh] at h;injection h with h;subst h;exact ⟨rfl,rfl⟩
 | succ n ih =>
  intro a h x c;rw [qFh] at h
  cases h0:qFh xs nm n with
  | error e=>rw [h0] at h;cases h
  | ok k0 =>
   rw [h0] at h;simp only at h
   split at h
   ·rename_i he
    injection h with h;subst h;obtain ⟨_,b⟩:=ih h0 0 (by omega);refine ⟨?_,by simp [b]⟩
    by_cases hxn:x=n+1
    ·subst hxn;rw [qFh,h0];simp only;rw [if_pos he,List.take_of_length_le (by simp [b])]
    ·have:=(ih h0 x (by omega)).1;rw [this,List.take_append_of_le_length (by omega)]
   ·cases h
theorem qVy {xs:List In}{nm n:Nat}{a:List St}(h:qFh xs nm n=.ok a){x:Nat}(f:x<n):a.getD x []=atJ xs (a.take x) x/\qLq xs nm (a.take x) (a.getD x []) x=0:=by
 have b:=(qNl h (x+1) (by omega)).1;have h0:=(qNl h x (by omega)).1;have g:=(qNl h x (by omega)).2;rw [qFh,h0] at b;simp only at b
 split at b
 ·rename_i he
  injection b with b
  have e:a.getD x []=atJ xs (a.take x) x:=by
   have c:(a.take x++[atJ xs (a.take x) x]).getD x []=(a.take (x+1)).getD x []:=by rw [b]
   rw [show (a.take (x+1)).getD x []=a.getD x [] by simp [List.getD,List.getElem?_take]] at c;rw [<- c]
   have d:(a.take x).length=x:=by rw [List.length_take];omega
   have:=@qTu (a.take x) (atJ xs (a.take x) x);rw [d] at this;exact this
  exact ⟨e,by rw [e];exact he⟩
 ·cases b
theorem qUa {a:List St}{x q:Nat}(b:q<x):(a.take x).getD q []=a.getD q []:=by simp [List.getD,List.getElem?_take,b]
structure Known (xs:List In) (nm:Nat) (known:List St):Prop where
 T:Taken xs
 run:qFh xs nm xs.length=.ok known
theorem Known.pull {xs:List In}{nm:Nat}{b:List St}(h:Known xs nm b){x:Nat}(c:x<=xs.length):∃ K,qEq xs nm x=.ok K/\Pull xs nm x K (b.take x):=by
 have h0:=(qNl h.run x c).1
 rcases qNo (nm:=nm) h.T x c with ⟨e,d,a⟩|⟨K,k,d,a,f⟩
 ·rw [h0] at a;cases a
 ·rw [h0] at a;injection a with a;subst a;exact ⟨K,d,f⟩
theorem Known.made {xs:List In}{nm:Nat}{a:List St}(h:Known xs nm a){p:Nat}(d:p<xs.length)(c:a.getD p []≠[]):Made8 nm (a.getD p []):=by
 obtain ⟨K,_,b⟩:=h.pull (Nat.le_refl _);rw [List.take_of_length_le (by rw [(qNl h.run 0 (by omega)).2];exact Nat.le_refl _)] at b;have:=b.low p d;rw [this] at c ⊢
 split
 ·exact b.made.at p
 ·rename_i h1;rw [if_neg h1] at c;exact absurd rfl c
theorem Known.first {xs:List In}{nm:Nat}{a:List St}(h:Known xs nm a):a.getD 0 []≠[]/\∀ R,WR R->HoldS (a.getD 0 []) R:=by
 have d:=h.T.pos;have e:=(qVy h.run d).1;have b:qAy xs (a.take 0) 0 0=[List.replicate 8 Ty.nil]:=rfl;unfold atJ at e;rw [b,if_neg (by simp)] at e;have hm:Made8 nm (qDp [List.replicate 8 Ty.nil] 8):=qJp (by simp) (fun c b=>by rw [List.mem_singleton.1 b];exact qHp nm);refine ⟨fun h0=>?_,fun R i=>?_⟩
 ·have f:=(qHq (xs:=xs) hm 0 xs.length).1;rw [<- e,h0] at f
  cases f
 ·rw [e];refine qNb i hm (qUu (nm:=nm) (fun c b=>by rw [List.mem_singleton.1 b];exact qHp nm) (List.mem_singleton.2 rfl) fun r g=>?_) _;rw [show (List.replicate 8 Ty.nil).getD r Ty.nil=Ty.nil by rw [List.getD_eq_getElem?_getD,List.getElem?_replicate,if_pos g];rfl];exact qTw _
theorem Known.way {xs:List In}{nm:Nat}{a:List St}(h:Known xs nm a){p x:Nat}(u:x<xs.length)(g:p<x)(w:a.getD p []≠[]){b:Bool}(r:(b=true/\(nth xs p).leads=true/\(p:Int)+(nth xs p).far=x)∨(b=false/\(nth xs p).on=true/\p+1=x)){k:St}(n:qBp (nth xs p) (a.getD p []) b=some k) :
  a.getD x []≠[]/\∀ R,WR R->HoldS k R->HoldS (a.getD x []) R:=by
 obtain ⟨K,y,l⟩:=h.pull (x:=x) (by omega);have e:=(qVy h.run u).1
 have c:k∈qAy xs (a.take x) x x:=by
  unfold qAy;refine List.mem_append_right _ (List.mem_flatMap.2 ⟨p,List.mem_range.2 g,?_⟩);unfold qHr;rw [qUa g,if_neg (fun h0=>w (List.length_eq_zero_iff.1 h0))]
  rcases r with ⟨rfl,d,i⟩|⟨rfl,d,i⟩
  ·refine List.mem_append_left _ ?_;rw [d,Bool.true_and,if_pos (decide_eq_true i),n]
   simp
  ·refine List.mem_append_right _ ?_;rw [d,Bool.true_and,if_pos (decide_eq_true i),n]
   simp
 have f:qAy xs (a.take x) x x≠[]:=fun h0=>by rw [h0] at c;cases c
 unfold atJ at e;rw [if_neg (fun h0=>f (List.length_eq_zero_iff.1 h0))] at e;have hm:=qJp f (l.cm x);refine ⟨fun h0=>?_,fun R s o=>?_⟩
 ·have d:=(qHq (xs:=xs) hm x xs.length).1;rw [<- e,h0] at d
  cases d
 ·rw [e];exact qNb s hm (qUu (l.cm x) c o) _
theorem Known.asks {xs:List In}{nm:Nat}{a:List St}(h:Known xs nm a){p:Nat}(c:p<xs.length)(b:a.getD p []≠[]):qEc nm (nth xs p) (a.getD p []) (qQa xs (a.take p) (a.getD p []) p)=0:=by
 have:=(qVy h.run c).2;unfold qLq at this
 rwa [if_neg (fun h0=>b (List.length_eq_zero_iff.1 h0))] at this
theorem Known.back {xs:List In}{nm:Nat}{a:List St}(h:Known xs nm a){p:Nat}(c:p<xs.length)(w:a.getD p []≠[])(g:(nth xs p).op=20):∃ q:Nat,(q:Int)=p+(nth xs p).far/\q<p/\a.getD q []≠[]/\∀ R,HoldS (a.getD p []) R->HoldS (a.getD q []) R:=by
 obtain ⟨K,B,k⟩:=h.pull (x:=p) (by omega);have z:=h.T.right c;have D:=qEl c (h.T.place p c)
 have E:(nth xs p).far = -(nth xs p).d/\1<=(nth xs p).d:=by
  rcases qBf (nth xs p) with h|h|h|h
  ·rw [z] at h;cases h.1
  ·omega
  ·exact ⟨h.2.2.1,h.2.2.2.2.2.1⟩
  ·omega
 have f:((p:Int)-(nth xs p).d).toNat<p:=by omega
 have b:=h.asks c w
 have o:qAy xs (a.take p) p p≠[]:=fun h0=>by
  have e:=(qVy h.run c).1;unfold atJ at e;rw [h0,if_pos (show ([]:List St).length=0 from rfl)] at e;exact w e
 have s:=(k.high p (Nat.le_refl _) c).1.2 o;have u:qBm xs p∈qAk xs:=loopsU_mem.2 ⟨p,c,g,rfl⟩;have n:=(qSb h.T (by omega) B).2 _ u p (by show (p:Int)+(nth xs p).far<p;omega) (Int.le_refl _) s
 have y:(qBm xs p).h.toNat=((p:Int)-(nth xs p).d).toNat:=by show ((p:Int)+(nth xs p).far).toNat=_;omega
 rw [y] at n;have i:=k.low _ f;rw [qUa f,if_pos n] at i
 have l:qQa xs (a.take p) (a.getD p []) p=a.getD ((p:Int)-(nth xs p).d).toNat []:=by
  unfold qQa;rw [if_pos g,qJs (by rw [k.len];exact f),qUa f]
 rw [l] at b;refine ⟨((p:Int)-(nth xs p).d).toNat,by omega,f,fun h0=>?_,fun R A=>?_⟩
 ·have r:=(k.made.at ((p:Int)-(nth xs p).d).toNat).1;rw [<- i,h0] at r
  cases r
 ·unfold qEc at b;rw [if_neg (by omega),if_neg (by omega),if_neg (by omega),if_neg (by omega),if_neg (by omega),if_pos g] at b
  split at b
  ·cases b
  split at b
  ·rename_i hf;exact yBm hf A
  ·cases b
structure Safe (xs:List In) (nm:Nat) (known:List St) (M:Mc):Prop where
 pc:M.pc<xs.length
 kn:known.getD M.pc []≠[]
 wr:WR M.regs
 hold:HoldS (known.getD M.pc []) M.regs
 cnt:Cnt (qAk xs) M.turn
 ws:W16 M.ws
 cs:W16 M.cs
 mode:M.mode=0∨(M.mode=1/\(nth xs M.pc).op=21/\(nth xs M.pc).imm<=4)∨(M.mode=2/\(nth xs M.pc).op=22)
theorem qUp {xs:List In}{nm:Nat}{a:List St}(h:Known xs nm a):Safe xs nm a startE:=by
 have f:WR (List.replicate 8 0):=⟨rfl,fun r c=>by rw [show (List.replicate 8 (0:Int)).getD r 0=0 by rw [List.getD_eq_getElem?_getD,List.getElem?_replicate,if_pos c];rfl];decide⟩;have d:W16 (List.replicate 16 0):=⟨rfl,fun r c=>by rw [show (List.replicate 16 (0:Int)).getD r 0=0 by rw [List.getD_eq_getElem?_getD,List.getElem?_replicate,if_pos c];rfl];decide⟩;exact ⟨h.T.pos,h.first.1,f,h.first.2 _ f,fun l g=>⟨Int.le_refl _,by have:=qJl h.T.place l g;show (0:Int)<=l.b;omega⟩,d,d,.inl rfl⟩
theorem qSm {nm:Nat}{i:In}{s head:St}{R:List Int}(f:i.right=true)(k:WR R)(d:HoldS s R)(a:qEc nm i s head=0)(g:i.op=11∨i.op=12):0<=qCk i R/\qCk i R<=15:=by
 have b:=qDq f (.inl (show i.op<=12 by omega));have c:=qQk d b.2;have l:=qIu k b.2
 have hA:qJe i s=qBa i s:=by unfold qJe;rw [if_pos b.1]
 unfold qEc at a;rw [if_neg (by omega),if_neg (by omega),if_neg (by omega),if_neg (by omega),hA] at a
 rcases g with h|h
 ·rw [if_pos h] at a
  split at a
  ·cases a
  rename_i k1
  split at a
  ·cases a
  rename_i k2
  have:=c.1 (by omega)
  omega
 ·rw [if_neg (by omega),if_neg (by omega),if_neg (by omega)] at a
  split at a
  ·cases a
  rename_i k1
  split at a
  ·cases a
  rename_i k2
  have:=c.1 (by omega)
  omega
theorem yDr {nm:Nat}{i:In}{s head:St}(d:i.right=true)(b:qEc nm i s head=0)(f:(1<=i.op/\i.op<=10)∨(16<=i.op/\i.op<=19)):(qBg s i.a).k=1/\(qBa i s).k=1:=by
 have c:=qDq d (show i.op<=12∨(16<=i.op/\i.op<=19) by omega)
 have hA:qJe i s=qBa i s:=by unfold qJe;rw [if_pos c.1]
 unfold qEc at b;rw [if_neg (by omega),if_neg (by omega),if_neg (by omega),if_neg (by omega),if_neg (by omega),if_neg (by omega),if_neg (by omega),hA] at b
 split at b
 ·cases b
 ·rename_i k1;omega
theorem qLl {a t:Ty}{l b:List Ty}(h:qFw (a :: l) (t :: b)=0):a.k=t.k/\(t.k=1->qDs a.lo a.hi t.lo t.hi=true):=by
 have h1:qFi a t=0:=by
  rw [qFw] at h
  split at h
  ·exact h
  ·rename_i h1;exact Decidable.not_not.1 h1
 unfold qFi at h1
 split at h1
 ·cases h1
 rename_i hk
 split at h1
 ·cases h1
 rename_i hw
 refine ⟨by omega,fun c=>?_⟩
 cases hb:qDs a.lo a.hi t.lo t.hi with
 | true=>rfl
 | false=>exact absurd ⟨c,hb⟩ hw
theorem qQd {nm:Nat}{i:In}{s head:St}{R:List Int}(J:i.right=true)(w:Made8 nm s)(K:WR R)(B:HoldS s R)(l:qEc nm i s head=0)(z:i.op=21):(i.imm<=4->0<=qBj R 1/\qBj R 1<nm)/\(i.imm=5->0<=qBj R 1/\qBj R 1<=15):=by
 have T:=qLb J z;unfold qEc at l;rw [if_neg (by omega),if_neg (by omega),if_neg (by omega),if_pos z] at l;have u:=B 1 (by omega);have y:=w.get (r:=1) (by omega);have S:=K.2 1 (by omega);have X:qBj R 1=R.getD 1 0:=rfl
 obtain ⟨s0,n,D,F,G,E,N,O,rfl⟩:∃ a b c d e f g h,s=[a,b,c,d,e,f,g,h]:=by
  have M:=w.1
  match s,M with
  | [a,b,c,d,e,f,g,h],_=>exact ⟨a,b,c,d,e,f,g,h,rfl⟩
 have P:[s0,n,D,F,G,E,N,O].getD 1 Ty.nil=n:=rfl;rw [P] at u y;unfold qDr at l;rw [if_neg (by omega)] at l
 split at l
 ·cases l
 refine ⟨fun V=>?_,fun I=>?_⟩
 ·have Q:n.k=2:=by
   have o:i.imm=0∨i.imm=1∨i.imm=2∨i.imm=3∨i.imm=4:=by omega
   rcases o with h|h|h|h|h
   ·rw [h] at l;exact (qLl (a:=n) (t:=qFv) l).1
   ·rw [h] at l;exact (qLl (a:=n) (t:=qFv) l).1
   ·rw [h] at l;exact (qLl (a:=n) (t:=qFv) l).1
   ·rw [h] at l;exact (qLl (a:=n) (t:=qFv) l).1
   ·rw [h] at l;exact (qLl (a:=n) (t:=qFv) l).1
  have L:=u.2 Q
  rcases y with h|h|h<;>omega
 ·rw [I] at l;have A:=qLl (a:=n) (t:=qBl 15) l;have U:=qTr (A.2 rfl);have L:=u.1 A.1;have Y:(qBl 15).hi=15:=rfl
  omega
theorem yTq {h E v:Int}{f:Bool}(c:0<=h/\h<=4)(b:0<=v/\v<=18446744073709551615):qHz (qCs h).1 (yCd h E f v)/\(0<=yCd h E f v/\yCd h E f v<=18446744073709551615):=by
 have a:h=0∨h=1∨h=2∨h=3∨h=4:=by omega
 unfold yCd
 rcases a with rfl|rfl|rfl|rfl|rfl
 ·exact ⟨⟨fun _=>b,fun h=>(by cases h)⟩,b⟩
 ·rw [if_neg (by omega)]
  split
  ·exact ⟨⟨fun _=>⟨by decide,by decide⟩,fun h=>(by cases h)⟩,by decide,by decide⟩
  ·exact ⟨⟨fun _=>⟨by decide,by decide⟩,fun h=>(by cases h)⟩,by decide,by decide⟩
 ·rw [if_neg (by omega)]
  split
  ·exact ⟨⟨fun _=>⟨by decide,by decide⟩,fun h=>(by cases h)⟩,by decide,by decide⟩
  ·exact ⟨⟨fun _=>⟨by decide,by decide⟩,fun h=>(by cases h)⟩,by decide,by decide⟩
 ·rw [if_neg (by omega)]
  split
  ·exact ⟨⟨fun _=>⟨by decide,by decide⟩,fun h=>(by cases h)⟩,by decide,by decide⟩
  ·exact ⟨⟨fun _=>⟨by decide,by decide⟩,fun h=>(by cases h)⟩,by decide,by decide⟩
 ·exact ⟨⟨fun _=>b,fun h=>(by cases h)⟩,b⟩
theorem yQa {nm:Nat}{ev:Int×Int}{i:In}{s head:St}{M:Mc}(l:i.right=true)(n:Made8 nm s)(c:WR M.regs)(f:W16 M.ws)(A:(0<=ev.1/\ev.1<=18446744073709551615)/\0<=ev.2/\ev.2<=18446744073709551615)(g:HoldS s M.regs)(u:qEc nm i s head=0)(D:i.op<=14∨i.op=20) :
  ∃ s',qBp i s false=some s'/\HoldS s' (qBy ev i M).1/\WR (qBy ev i M).1/\W16 (qBy ev i M).2:=by
 have h0:=qDm l;unfold qBp qBy
 by_cases c0:i.op=0
 ·have k:=qDq l (.inl (show i.op<=12 by omega));rw [if_pos c0,if_pos c0];exact ⟨_,rfl,g.set n.1 c.1 (qQk g k.2),c.set _ (qIu c k.2),f⟩
 rw [if_neg c0,if_neg c0]
 by_cases c1:1<=i.op/\i.op<=10
 ·have k:=qDq l (.inl (show i.op<=12 by omega));have r:=qDc l (.inl c1);obtain ⟨w,z⟩:=yDr l u (.inl c1);rw [if_pos (show qAv i.op=true by unfold qAv;simp;omega),if_pos c1];have y:=yXn (x:=qBj M.regs i.a) c1 (n.reg r) (qJh n k.2) w z (g _ (by omega)) (qQk g k.2);exact ⟨_,rfl,g.set n.1 c.1 y,c.set _ (qVh i.op (c.2 _ (by omega)) (qIu c k.2)),f⟩
 rw [if_neg (show ¬ qAv i.op=true by unfold qAv;simp;omega),if_neg c1]
 by_cases c2:i.op=11
 ·have E:=qSm l c g u (.inl c2);have o:=f.2 (qCk i M.regs).toNat (by omega);rw [if_pos (.inl c2),if_pos c2];exact ⟨_,rfl,g.set n.1 c.1 (qRm o),c.set _ o,f⟩
 rw [if_neg c2]
 by_cases c3:i.op=12
 ·have r:=qDc l (.inr (.inl c3));rw [if_neg (by omega),if_neg (by omega),if_neg (by omega),if_neg (show ¬ qBw i.op=true by unfold qBw;simp;omega),if_pos c3];exact ⟨_,rfl,g,c,f.set _ (c.2 _ (by omega))⟩
 rw [if_neg c3]
 by_cases c4:i.op=13
 ·rw [if_pos (.inr c4),if_pos c4]
  have o:0<=(if i.imm=0 then ev.1 else ev.2)/\(if i.imm=0 then ev.1 else ev.2)<=18446744073709551615:=by split<;>omega
  exact ⟨_,rfl,g.set n.1 c.1 (qRm o),c.set _ o,f⟩
 rw [if_neg c4,if_neg (by omega)]
 by_cases c5:i.op=14
 ·rw [if_pos c5,if_pos c5]
  have hm:0<=i.imm/\i.imm<=18446744073709551615:=by
   obtain ⟨op,d,a,b,B⟩:=i;simp only at c5;subst c5;have h:=l;unfold In.right at h;rw [qJo] at h
   simp at h
   simp only
   omega
  exact ⟨_,rfl,g.set n.1 c.1 ⟨fun h=>(by cases h),fun _=>rfl⟩,c.set _ hm,f⟩
 rw [if_neg c5,if_neg c5,if_neg (by omega),if_neg (show ¬ qBw i.op=true by unfold qBw;simp;omega)];exact ⟨_,rfl,g,c,f⟩
theorem qPz {op:Int}(h:¬ (1<=op/\op<=10)):¬ qAv op=true:=by unfold qAv;simp;omega
theorem yYt {op:Int}(h:¬ (16<=op/\op<=19)):¬ qBw op=true:=by unfold qBw;simp;omega
theorem yVw {op:Int}(h:16<=op/\op<=19):qBw op=true:=by unfold qBw;simp;omega
theorem yBa {nm:Nat}{i:In}{s head:St}{R:List Int}(g:i.right=true)(f:Made8 nm s)(I:WR R)(d:HoldS s R)(E:qEc nm i s head=0)(b:16<=i.op/\i.op<=19) :
  ∃ s',qBp i s (qCo i.op (qBj R i.a) (qCk i R))=some s'/\HoldS s' R:=by
 have c:=qDq g (.inr b);have k:=qDc g (.inr (.inr (.inl (show 16<=i.op/\i.op<=20 by omega))));obtain ⟨n,y⟩:=yDr g E (.inr b);have r:=f.reg k;have A:=qJh f c.2
 have B:(qBg s i.a).lo<=(qBg s i.a).hi:=by rcases r with h|h|h<;>omega
 have z:(qBa i s).lo<=(qBa i s).hi:=by rcases A with h|h|h<;>omega
 have D:qHz (qBg s i.a) (qBj R i.a):=d _ (by omega);have o:=qQk d c.2;obtain ⟨l,u,e,G,F,_⟩:=yAg (h:=qCo i.op (qBj R i.a) (qCk i R)) b (D.1 n) (o.1 y) rfl
 have w:qDb i.op (qBg s i.a).lo (qBg s i.a).hi (qBa i s).lo (qBa i s).hi (qCo i.op (qBj R i.a) (qCk i R))=some (l,u):=by
  unfold qDb;rw [if_pos ⟨b,B,z⟩];exact e
 refine ⟨s.set i.a.toNat (qHk l u),?_,d.setT f.1 (qQb ⟨G,F⟩)⟩;unfold qBp;rw [if_neg (by omega),if_neg (qPz (by omega)),if_neg (by omega),if_neg (by omega),if_neg (by omega),if_pos (yVw b),w]
def pot (xs:List In) (M:Mc):Int:=M.steps+left (qAk xs) M.pc M.turn xs.length-(if M.mode=0 then 0 else 1)
theorem Safe.pot_le {xs:List In}{nm:Nat}{a:List St}{M:Mc}(b:Taken xs)(h:Safe xs nm a M):(M.steps:Int)+(if M.mode=0 then 1 else 0)<=pot xs M:=by
 have:=yVc h.cnt (qJl b.place) M.pc xs.length h.pc;unfold pot
 split<;>omega
theorem qYh {xs:List In}(d:Taken xs):pot xs startE<=qMe (qAk xs) xs.length:=by
 have a:=qJl d.place;have:=yNy (ls:=qAk xs) (p:=0) (c:=fun _=>0) (fun l f=>⟨Int.le_refl _,by have:=a l f;show (0:Int)<=l.b;omega⟩) a xs.length;have e:pot xs startE=((0:Nat):Int)+left (qAk xs) 0 (fun _=>0) xs.length-0:=rfl;rw [e]
 omega
theorem yCx {xs:List In}(a:Taken xs):qMe (qAk xs) xs.length<=256:=by
 have h:=yAx (qJl a.place) xs.length;have b:=a.cost;have:=h.2.2 b
 omega
theorem qPy {xs:List In}{ms:List Int}{b:List St}{ev:Int×Int}{M:Mc}(hK:Known xs ms.length b)(h:Safe xs ms.length b M)(h0:M.mode=0)(a5:(0<=ev.1/\ev.1<=18446744073709551615)/\0<=ev.2/\ev.2<=18446744073709551615) :
  Safe xs ms.length b (qBe ms xs ev M).2/\pot xs (qBe ms xs ev M).2<=pot xs M/\(qBe ms xs ev M).2.steps=M.steps+1:=by
 have G:=hK.T;have d:=G.right h.pc;have Y:=qEl h.pc (G.place M.pc h.pc);have A:=qBf (nth xs M.pc);have hm:=hK.made h.pc h.kn;have J:=hK.asks h.pc h.kn;have a8:=qDm d;unfold qBe;rw [if_neg (by omega),if_neg (by omega)]
 have a3:(nth xs M.pc).op≠15->(nth xs M.pc).op≠22->(nth xs M.pc).on=true:=fun F E=>by
  rcases A with h|h|h|h
  ·rw [d] at h;cases h.1
  ·rw [h.2.2.2.2.2.1];exact decide_eq_true F
  ·exact h.2.2.2.2.1
  ·rw [h.2.2.2.2];exact decide_eq_true E
 /- on to the g place -/
 have g:∀ (M':Mc) (k:St),qBp (nth xs M.pc) (b.getD M.pc []) false=some k->HoldS k M'.regs->WR M'.regs->W16 M'.ws->W16 M'.cs->M'.mode=0->M'.pc=M.pc+1->M'.steps=M.steps+1->(∀ t:Int,t≠M.pc->M'.turn t=M.turn t)->((nth xs M.pc).op=20->M'.turn M.pc=0)->(nth xs M.pc).op≠15->(nth xs M.pc).op≠22 ->
   Safe xs ms.length b M'/\pot xs M'<=pot xs M/\M'.steps=M.steps+1:=by
  intro M' k i hs hw Z a4 y z N r B F E;have Q:=a3 F E;have L:=Y.2.2.2 Q;obtain ⟨P,S⟩:=hK.way (x:=M.pc+1) L (by omega) h.kn (.inr ⟨rfl,Q,rfl⟩) i;obtain ⟨D,_,_,s⟩:=qQh G (k':=(M.pc:Int)+1) h.pc h.cnt r (.inl ⟨rfl,B,Q⟩);refine ⟨⟨by rw [z];exact L,by rw [z];exact P,hw,by rw [z];exact S _ hw hs,D,Z,a4,.inl y⟩,?_,N⟩;unfold pot;rw [y,h0,z,N,show ((M.pc+1:Nat):Int)=(M.pc:Int)+1 by omega];simp only [if_true]
  omega
 by_cases c21:(nth xs M.pc).op=21
 ·rw [if_pos c21];have hc:=qLb d c21;obtain ⟨a1,a2⟩:=qQd d hm h.wr h.hold J c21
  have i:qBp (nth xs M.pc) (b.getD M.pc []) false=some ((b.getD M.pc []).set 0 (qCs (nth xs M.pc).imm).1):=by
   unfold qBp;rw [if_neg (by omega),if_neg (qPz (by omega)),if_neg (by omega),if_neg (by omega),if_pos c21]
  unfold qPo
  by_cases s:(nth xs M.pc).imm<=4
  ·rw [if_pos s];refine ⟨⟨h.pc,h.kn,h.wr,h.hold,h.cnt,h.ws,h.cs,.inr (.inl ⟨rfl,c21,s⟩)⟩,?_,rfl⟩;unfold pot;simp only [h0,if_true];rw [if_neg (by omega)]
   omega
  rw [if_neg s]
  by_cases c5:(nth xs M.pc).imm=5
  ·rw [if_pos c5];have O:=yDc (M.cs.getD (qBj M.regs 1).toNat 0) 1;refine g _ _ i (h.hold.set hm.1 h.wr.1 ?_) (h.wr.set _ O) h.ws (h.cs.set _ O) h0 rfl rfl (fun _ _=>rfl) (fun B=>by omega) (by omega) (by omega);rw [c5];exact ⟨fun _=>O,fun h=>(by cases h)⟩
  ·rw [if_neg c5]
   have c6:(nth xs M.pc).imm=6:=by omega
   refine g _ _ i (h.hold.set hm.1 h.wr.1 ?_) (h.wr.set _ (by decide)) h.ws h.cs h0 rfl rfl (fun _ _=>rfl) (fun B=>by omega) (by omega) (by omega);rw [c6];exact ⟨fun _=>⟨by decide,by decide⟩,fun h=>(by cases h)⟩
 rw [if_neg c21]
 by_cases c22:(nth xs M.pc).op=22
 ·rw [if_pos c22];refine ⟨⟨h.pc,h.kn,h.wr,h.hold,h.cnt,h.ws,h.cs,.inr (.inr ⟨rfl,c22⟩)⟩,?_,rfl⟩;unfold pot;simp only [h0,if_true];rw [if_neg (by omega)]
  omega
 rw [if_neg c22]
 cases hgo:((nth xs M.pc).leads&&qCz (nth xs M.pc) M) with
 | true =>
  rw [if_pos rfl];obtain ⟨n,f⟩:=Bool.and_eq_true_iff.1 hgo
  by_cases c:(nth xs M.pc).op=20
  ·obtain ⟨q,hq,a7,a0,V⟩:=hK.back h.pc h.kn c
   have R:0<qBj M.regs (nth xs M.pc).a/\M.turn M.pc<(nth xs M.pc).imm:=by
    unfold qCz at f;rw [if_neg (by omega),if_pos c] at f;exact of_decide_eq_true f
   have u:∀ t:Int,t≠M.pc->qCg (nth xs M.pc) M t=M.turn t:=fun t r=>by
    unfold qCg;rw [if_pos c];exact if_neg r
   have w:qCg (nth xs M.pc) M M.pc=M.turn M.pc+1:=by
    unfold qCg;rw [if_pos c];exact (if_pos rfl).trans (if_pos f)
   obtain ⟨D,_,_,s⟩:=qQh G (k':=(M.pc:Int)+(nth xs M.pc).far) h.pc h.cnt u (.inr (.inr ⟨rfl,c,R.2,w⟩))
   have e:((M.pc:Int)+(nth xs M.pc).far).toNat=q:=by omega
   refine ⟨⟨by simp only [e];omega,by simp only [e];exact a0,h.wr,by simp only [e];exact V _ h.hold,D,h.ws,h.cs,.inl h0⟩,?_,rfl⟩;unfold pot;simp only [e,h0,if_true];rw [<- hq] at s
   omega
  ·have I:15<=(nth xs M.pc).op/\(nth xs M.pc).op<=19:=by
    rcases A with h|h|h|h
    ·rw [d] at h;cases h.1
    ·omega
    ·exact absurd h.2.1 c
    ·rw [h.2.2.2.1] at n;cases n
   have K:=qHm d I
   obtain ⟨k,i,o⟩:∃ k,qBp (nth xs M.pc) (b.getD M.pc []) true=some k/\HoldS k M.regs:=by
    by_cases l:(nth xs M.pc).op=15
    ·refine ⟨b.getD M.pc [],?_,h.hold⟩;unfold qBp;rw [if_neg (by omega),if_neg (qPz (by omega)),if_neg (by omega),if_neg (by omega),if_neg (by omega),if_neg (yYt (by omega))]
    ·have:=yBa d hm h.wr h.hold J (by omega);unfold qCz at f;rw [if_neg l,if_neg c] at f;rw [f] at this;exact this
   have r:qCg (nth xs M.pc) M=M.turn:=by unfold qCg;rw [if_neg c]
   have hx:((M.pc:Int)+(nth xs M.pc).far).toNat<xs.length:=by omega
   obtain ⟨P,S⟩:=hK.way hx (show M.pc<((M.pc:Int)+(nth xs M.pc).far).toNat by omega) h.kn (.inl ⟨rfl,n,by omega⟩) i;obtain ⟨D,_,_,s⟩:=qQh G (k':=(M.pc:Int)+(nth xs M.pc).far) h.pc h.cnt (c':=M.turn) (fun _ _=>rfl) (.inr (.inl ⟨rfl,n,c⟩));refine ⟨⟨hx,P,h.wr,S _ h.wr o,by simp only [r];exact D,h.ws,h.cs,.inl h0⟩,?_,rfl⟩;unfold pot;simp only [h0,if_true,r];rw [show ((((M.pc:Int)+(nth xs M.pc).far).toNat:Nat):Int)=(M.pc:Int)+(nth xs M.pc).far by omega]
   omega
 | false =>
  rw [if_neg (by simp)]
  have l:(nth xs M.pc).op≠15:=fun l=>by
   have K:=qHm d (by omega);rw [K.2,Bool.true_and] at hgo;unfold qCz at hgo;rw [if_pos l] at hgo
   cases hgo
  have u:∀ t:Int,t≠M.pc->qCg (nth xs M.pc) M t=M.turn t:=fun t r=>by
   unfold qCg
   split
   ·exact if_neg r
   ·rfl
  have w:(nth xs M.pc).op=20->qCg (nth xs M.pc) M M.pc=0:=fun c=>by
   have n:(nth xs M.pc).leads=true:=by
    rcases A with h|h|h|h
    ·rw [d] at h;cases h.1
    ·omega
    ·exact h.2.2.2.1
    ·omega
   rw [n,Bool.true_and] at hgo;unfold qCg;rw [if_pos c];exact (if_pos rfl).trans (if_neg (by rw [hgo];simp))
  by_cases c16:16<=(nth xs M.pc).op/\(nth xs M.pc).op<=19
  ·have K:=qHm d (by omega);rw [K.2,Bool.true_and] at hgo;unfold qCz at hgo;rw [if_neg l,if_neg (by omega)] at hgo;obtain ⟨k,i,o⟩:=yBa d hm h.wr h.hold J c16;rw [hgo] at i
   have X:qBy ev (nth xs M.pc) M=(M.regs,M.ws):=by
    unfold qBy;rw [if_neg (by omega),if_neg (by omega),if_neg (by omega),if_neg (by omega),if_neg (by omega),if_neg (by omega)]
   rw [X];exact g { M with turn:=qCg (nth xs M.pc) M,steps:=M.steps+1,pc:=M.pc+1 } k i o h.wr h.ws h.cs h0 rfl rfl u w l c22
  ·obtain ⟨k,i,o,a6,U⟩:=yQa d hm h.wr h.ws a5 h.hold J (by omega);exact g _ k i o a6 U h.cs h0 rfl rfl u w l c22
theorem qMf {xs:List In}{nm:Nat}{a:List St}{M:Mc}(hK:Known xs nm a)(h:Safe xs nm a M)(B:M.mode=1){E v:Int}{f:Bool}(r:0<=v/\v<=18446744073709551615) :
  Safe xs nm a (qGk xs M E f v)/\pot xs (qGk xs M E f v)<=pot xs M/\(qGk xs M E f v).steps=M.steps:=by
 have i:=hK.T;have l:=i.right h.pc;have k:=qEl h.pc (i.place M.pc h.pc);have hm:=hK.made h.pc h.kn
 obtain ⟨_,c,D⟩:M.mode=1/\(nth xs M.pc).op=21/\(nth xs M.pc).imm<=4:=by
  rcases h.mode with g|g|g
  ·omega
  ·exact g
  ·omega
 have w:=qLb l c
 have d:(nth xs M.pc).on=true:=by
  rcases qBf (nth xs M.pc) with h|h|h|h
  ·rw [l] at h;cases h.1
  ·omega
  ·omega
  ·rw [h.2.2.2.2];exact decide_eq_true (by omega)
 have b:=k.2.2.2 d
 have z:qBp (nth xs M.pc) (a.getD M.pc []) false=some ((a.getD M.pc []).set 0 (qCs (nth xs M.pc).imm).1):=by
  unfold qBp;rw [if_neg (by omega),if_neg (qPz (by omega)),if_neg (by omega),if_neg (by omega),if_pos c]
 obtain ⟨y,u⟩:=yTq (E:=E) (f:=f) ⟨w.1,D⟩ r;have n:=h.wr.set 0 u;obtain ⟨s,A⟩:=hK.way (x:=M.pc+1) b (by omega) h.kn (.inr ⟨rfl,d,rfl⟩) z;obtain ⟨o,_,_,G⟩:=qQh i (k':=(M.pc:Int)+1) h.pc h.cnt (c':=M.turn) (fun _ _=>rfl) (.inl ⟨rfl,fun F=>by omega,d⟩);refine ⟨⟨b,s,n,A _ n (h.hold.set hm.1 h.wr.1 y),o,h.ws,h.cs,.inl rfl⟩,?_,rfl⟩;unfold pot qGk;simp only [if_true,B];rw [if_neg (by omega),show ((M.pc+1:Nat):Int)=(M.pc:Int)+1 by omega]
 omega
theorem qMz {i:In}{r:Int}{b:Bool}(h:Hid (i.wr=(r,b)))(w:World):Cl 84 #[qAl i.op i.d i.a i.b i.imm] w fun e f=>e=.returned (.tuple #[I4 r,.bool b])/\Bw w f:=by
 have c:=h.out;unfold In.wr at c;have:=yHz i.op i.d i.a i.b i.imm w;rw [c] at this;exact this
theorem yHd {a wq d:World}{f:St}{v:Value}{n:Nat}{l:List Value}{o:Obj}(h:Row8 a wq f)(i:wq.ownsRow (a.heap.size+1) 153 4 v n l)(g:(wq.alloc o).grownBy d v.ownBlock):Row8 a d f:=by
 have k:=h.lt
 have b:∀ j,v.ownBlock=some j->a.heap.size+1<=j:=fun j c=>(i.lt j c).1
 refine ⟨(h.own.alloc o).kept g (.inr fun e=>?_),(h.bel.alloc h.bel.size o).grown g (by simp;omega) (fun j c=>by have:=b j c;omega)⟩;have:=b a.heap.size (by rw [<- e];rfl)
 omega
theorem xAz {i:In}{r:Int}(b:i.right=true)(h:i.wr=(r,true)):0<=r/\r<=7:=by
 rcases qMj i (by rw [h]) b with ⟨a,c⟩|⟨a,c⟩
 ·rw [h] at a;injection a with a;have:=qCy b (by omega)
  omega
 ·rw [h] at a;injection a with a
  omega
theorem yVq {xs:List In}{s:St}{q:Nat}{r:Int}(h:(nth xs q).wr=(r,false)):qKg xs s q=s:=by
 unfold qKg;rw [h,if_neg (by simp)]
theorem yNx {xs:List In}{s:St}{q r:Nat}(h:(nth xs q).wr=((r:Int),true)):qKg xs s q=if (s.getD r Ty.nil).k=1 then s.set r qEe else if (s.getD r Ty.nil).k=2 then s.set r Ty.nil else s:=by
 unfold qKg qBg;rw [h,if_pos rfl]
 rfl
theorem yIu (xs:List In)(s:St){p q:Nat}(h:p<=q):qJc xs s p (q+1-p)=qKg xs (qJc xs s p (q-p)) q:=by
 rw [show q+1-p=(q-p)+1 by omega,qJc,show p+(q-p)=q by omega]
theorem qOg {c wr:World}{a b:St}(h:Row8 c wr a)(e:a=b):Row8 c wr b:=e ▸ h
theorem qTb (vm:Value)(cb co ccap:Nat)(xs:List In)(p:Nat)(vk:Value)(K:List St)(nm B:Nat)(w:World)(hc:SeesI w (.slice (some ⟨cb,co,none⟩) xs.length ccap) xs)(hk:Ss B w vk K)(hT:Taken xs)(hp:p<xs.length)(be:p<=K.length)(ao:∀ s∈K,s=[]∨Made8 nm s)(a3:∀ c∈qAy xs K p p,Made8 nm c)(P:qAy xs K p p≠[]) :
  Cl 51 #[.agg #[vm,.slice (some ⟨cb,co,none⟩) xs.length ccap],I4 p,vk] w fun e w'=>∃ u,e=.returned u/\w'.ownsRow w.heap.size 153 4 u 8 (qAo (qFd xs p (qDp (qAy xs K p p) 8) xs.length))/\Bw w w':=by
 obtain ⟨i0,hi,bn,bo,aw⟩:=qEk;obtain ⟨CS,an⟩:∃ CS,Hid (CS=(qAo (List.replicate 8 Ty.nil)).toArray):=⟨_,rfl⟩
 have aa:∀ J:World,(Instr.makeSlice 124 (I4 8) (I4 8)).run Tryz.prog J=.ok (.slice (some ⟨J.heap.size,0,none⟩) 8 8) (J.alloc (.cells CS 153)):=fun J=>by rw [an.out];exact qYc J
 have HC:=qAa hc;have HK:=qAa hk;have HT:=qAa hT;have a9:=qAa ao;have ch:xs.length<=64:=hT.top;have a6:=qSd xs K p p;obtain ⟨C,ah⟩:∃ C,Hid (qAy xs K p p=C):=⟨_,rfl⟩;rw [ah.out] at a6 a3 P ⊢;have af:=qAa a3
 have ci:C.length<=200:=by omega
 have b6:0<C.length:=List.length_pos_iff.2 P
 have ce:((C.length:Int)==0)=false:=by simp;exact P
 have b8:=qAa P;have HJ:Hid (Made8 nm (qDp C 8)):=qJp P a3;obtain ⟨W,HW,a2,c5⟩:∃ W,Hid (W=w.alloc (Obj.cells #[vm,.slice (some ⟨cb,co,none⟩) xs.length ccap] 25))/\Hid (Bw w W)/\W.heap.size=w.heap.size+1 :=
  ⟨_,rfl,qAa (by go_grown),by simp⟩
 have HM:Hid (W.cell? ⟨w.heap.size,0,none⟩=some vm/\W.cell? ⟨w.heap.size,1,none⟩=some (.slice (some ⟨cb,co,none⟩) xs.length ccap)):=by
  rw [HW.out];exact ⟨by go_cell,by go_cell⟩
 clear hc hk hT ao a3 P a6;go_enter Tryz.func51,Tryz.ntmps51
 go_wp2_with (go_at_call 82;rw [<- HW.out];go_must (refine (qYr vm cb co ccap xs p vk K nm B _ (HC.out.below a2.out) (HK.out.below a2.out (Nat.le_refl _)) HT.out hp be a9.out).mono ?_);rintro e O ⟨u,rfl,hS,hb⟩;go_must (rw [ah.out] at hS;have HS:=qAa hS;have ar:=qAa hb;have ai:=hb.size;obtain ⟨ag,ac,ua,uc,rfl,c6,bx,_⟩:=hS.get (i:=0) b6;clear hS hb))
 have ad:Hid (∀ J,Bw O J->J.cell? ⟨w.heap.size,0,none⟩=some vm/\J.cell? ⟨w.heap.size,1,none⟩=some (.slice (some ⟨cb,co,none⟩) xs.length ccap)/\SeesI J (.slice (some ⟨cb,co,none⟩) xs.length ccap) xs):=fun J hb =>
  have a7:Bw W J:=ar.out.trans (hb.mono ai)
  ⟨(a7.cell (p:=⟨w.heap.size,0,none⟩) (show w.heap.size<W.heap.size by omega)).trans HM.out.1,(a7.cell (p:=⟨w.heap.size,1,none⟩) (show w.heap.size<W.heap.size by omega)).trans HM.out.2,HC.out.below (a2.out.trans (a7.mono (by omega)))⟩
 clear HM a9 HK HC
 go_loopw [9] (fun v9 wr=>∃ r:Nat,r<=8/\v9=I4 r/\Hid (Row8 O wr (stU C r))) (fun v9 _=>8-(intOf v9).toNat)
 case atStart =>
  refine ⟨0,by omega,rfl,?_,?_⟩
  ·rw [ySw,an.out];exact xBq O _ (Nat.le_refl _) _ (by decide)
  ·exact (Below.refl _ _).alloc (Nat.le_refl _) _
 case round =>
  rename World=>w3
  obtain ⟨r,hr,rfl,o⟩:=hrel
  by_cases hr8:r<8
  ·have bm:(r:Int)<8:=by omega
   clear aa;go_wp2
   go_loopw [10,11] (fun v10 v11 wq=>∃ i:Nat,i<=C.length/\v11=I4 i/\Hid (wq.ownsRow (O.heap.size+1) 153 4 v10 ((qIg C r).take i).length (qAo ((qIg C r).take i)))/\Hid (Row8 O wq (stU C r))) (fun _ v11 _=>C.length-(intOf v11).toNat)
   case atStart=>exact ⟨0,by omega,rfl,World.ownsRow_nil _ _ _ _,o.out⟩
   case round =>
    clear o
    rename World=>w4
    obtain ⟨i,bw,rfl,HL,o⟩:=hrel;have av:=o.out.lt
    by_cases hic:i<C.length
    ·have ax:(i:Int)<C.length:=by omega
     obtain ⟨a,ca,a1,a0,A⟩:=(HS.out.below o.out.bel (Nat.le_refl _)).at (i:=i) hic;obtain ⟨s,a8⟩:∃ s,Hid (C.getD i []=s):=⟨_,rfl⟩;rw [a8.out] at a1 a0 A
     have b9:Made8 nm s:=by
      rw [<- a8.out,List.getD_eq_getElem?_getD,List.getElem?_eq_getElem hic];exact af.out _ (List.getElem_mem _)
     have Y:=b9.1;rw [Y] at a1 A;obtain ⟨g,c,hv,hg,c7,cd⟩:=qEm A;injection hv with ay cf ba;subst ay;subst ba;obtain ⟨⟨M,tl,th,tm⟩,y⟩:∃ t,Hid (s.getD r Ty.nil=t):=⟨_,rfl⟩
     have F:w4.cell? ⟨g,r*4,none⟩=some (I4 M):=by have:=A.cellAt (r*4+0) (by omega);rw [qHu s r 0 (by omega) (by omega),y.out] at this;exact this
     have E:w4.cell? ⟨g,r*4+1,none⟩=some (U8 tl):=by have:=A.cellAt (r*4+1) (by omega);rw [qHu s r 1 (by omega) (by omega),y.out] at this;exact this
     have I:w4.cell? ⟨g,r*4+2,none⟩=some (U8 th):=by have:=A.cellAt (r*4+2) (by omega);rw [qHu s r 2 (by omega) (by omega),y.out] at this;exact this
     have G:w4.cell? ⟨g,r*4+3,none⟩=some (I4 tm):=by have:=A.cellAt (r*4+3) (by omega);rw [qHu s r 3 (by omega) (by omega),y.out] at this;exact this
     have D:Hid ((qIg C r).take (i+1)=(qIg C r).take i++[⟨M,tl,th,tm⟩]):=by show _=_;rw [yRk C r hic,a8.out,y.out]
     have b5:((qIg C r).take i).length<=200:=by rw [List.length_take];omega
     obtain ⟨L,bi⟩:∃ L,Hid ((qIg C r).take i=L):=⟨_,rfl⟩;rw [bi.out] at HL D b5;clear a0 A
     go_wp2_with (at_builtin;go_must (refine qCc rfl (.tmp 34) (.tmp 42) 123 rfl (O.heap.size+1) 153 i0 (tyV Ty.nil) Tryz.underlying123 hi bn bo aw rfl _ L rfl (HL.out.alloc _) _ [⟨M,tl,th,tm⟩] rfl (SeesT.lit w4 _ [⟨M,tl,th,tm⟩] _ 1 rfl rfl (by simp)) (by unfold maxLen;(first|omega|(simp;omega))) (by first|omega|(simp;omega)) (by first|omega|(simp;omega)) ?_);intro v6 w6 a5 ak;go_must (have f:Hid (Row8 O w6 (stU C r)):=yHd o.out HL.out ak;have b4:=qAa a5;clear ak a5))
     go_roundw
     case rel=>exact ⟨i+1,by omega,by go_num,by show World.ownsRow _ _ _ _ _ _ _;rw [D.out];exact b4.out,f.out⟩
     case measure=>simp [intOf];omega
    ·have ax:¬ (i:Int)<C.length:=by omega
     have D:Hid ((qIg C r).take i=qIg C r):=by show _=_;rw [List.take_of_length_le (by simp [qIg];omega)]
     rw [D.out] at HL;have bk:=qAa (qGc HL.out);obtain ⟨M,tl,th,tm,y⟩:∃ k lo hi m,Hid (qEn (qIg C r)=⟨k,lo,hi,m⟩):=⟨_,_,_,_,rfl⟩
     have bp:Hid (∀ u∈qIg C r,Made nm u):=fun u hu=>by
      obtain ⟨c,hc,rfl⟩:=List.mem_map.1 hu;exact (af.out c hc).get hr8
     have b2:Hid (qIg C r≠[]):=fun h=>b8.out (List.map_eq_nil_iff.1 h)
     have bl:Hid ((qIg C r).length<=1048576):=by show _<=_;simp [qIg];omega
     go_wp2_with (go_at_call 83;go_must (refine (yQi (nm:=nm) bk.out b2.out bp.out bl.out y).mono ?_);rintro e w6 ⟨rfl,z⟩;go_must (have f:=qAa (o.out.below z);obtain ⟨F,E,I,G⟩:=f.out.cells (qSv C r) hr8;have f0:=f.out.own.frozenAt (r*4);have f1:=f.out.own.frozenAt (r*4+1);have f2:=f.out.own.frozenAt (r*4+2);have f3:=f.out.own.frozenAt (r*4+3);clear z))
     go_roundw
     case rel=>exact ⟨r+1,by omega,by go_num,by have:=f.out.set (qSv C r) hr8 ⟨M,tl,th,tm⟩;rw [<- y.out,show (stU C r).set r (qEn (qIg C r))=stU C (r+1) from yVl C hr8,y.out] at this;exact this⟩
     case measure=>simp [intOf];omega
  ·have bm:¬ (r:Int)<8:=by omega
   have D:Hid (stU C r=qDp C 8):=by show _=_;rw [show r=8 by omega];exact yXq C
   rw [D.out] at o;go_wp2;clear aa
   go_loopw [12] (fun v12 wr=>∃ l:Nat,l<=xs.length/\v12=I4 l/\Hid (Row8 O wr (qFd xs p (qDp C 8) l))) (fun v12 _=>xs.length-(intOf v12).toNat)
   case atStart=>exact ⟨0,by omega,rfl,o.out⟩
   case round =>
    clear o
    rename World=>w4
    obtain ⟨l,hl,rfl,o⟩:=hrel;have av:=o.out.lt;obtain ⟨m0,m1,Z⟩:=ad.out w4 o.out.bel
    by_cases hlx:l<xs.length
    ·have b1:(l:Int)<xs.length:=by omega
     have bu:(xs.length:Int)<=64:=by omega
     obtain ⟨X,b3,bd⟩:=qNu Z hlx;clear Z;obtain ⟨⟨op,d,a,b,bc⟩,HI⟩:∃ i,Hid (nth xs l=i):=⟨_,rfl⟩;rw [HI.out] at X;obtain ⟨c0,c1,c2,c3,c4⟩:=X;simp only at c0 c1 c2 c3 c4;have U:Hid (qFd xs p (qDp C 8) (l+1)=if qWb xs p l=true then qJc xs (qFd xs p (qDp C 8) l) p (l+1-p) else qFd xs p (qDp C 8) l):=rfl
     have T:Hid (qWb xs p l=(decide (op=20)&&decide ((l:Int)-d=p))):=by show _=_;unfold qWb;rw [HI.out]
     by_cases h20:op=20
     ·subst h20
      have bj:1<=d/\d<=63:=by
       have hr:=HT.out.right hlx;rw [HI.out] at hr
       rcases qBf ⟨20,d,a,b,bc⟩ with h|h|h|h
       ·rw [hr] at h;cases h.1
       ·exact absurd h.2.2.1 (by simp)
       ·exact ⟨h.2.2.2.2.2.1,h.2.2.2.2.2.2.1⟩
       ·exact absurd h.2.1 (by simp)
      obtain ⟨c8,cj⟩:=bj
      by_cases hd:(l:Int)-d=p
      ·have bb:((l:Int)-d != p)=false:=by simp [hd]
       have D:Hid (qFd xs p (qDp C 8) (l+1)=qJc xs (qFd xs p (qDp C 8) l) p (l+1-p)):=by show _=_;rw [U.out,T.out,if_pos (by simp [hd])]
       have am:Hid (Made8 nm (qFd xs p (qDp C 8) l)):=qHq HJ.out p l;obtain ⟨sw,bh⟩:∃ sw,Hid (qFd xs p (qDp C 8) l=sw):=⟨_,rfl⟩;rw [bh.out] at D am o
       have cg:p<=l:=by omega
       clear U T;go_wp2
       go_loopw [13] (fun v13 wq=>∃ q:Nat,p<=q/\q<=l+1/\v13=I4 q/\Hid (Row8 O wq (qJc xs sw p (q-p)))) (fun v13 _=>l+1-(intOf v13).toNat)
       case atStart=>exact ⟨p,by omega,by omega,rfl,by show Row8 _ _ _;rw [Nat.sub_self];exact o.out⟩
       case round =>
        clear o m0 m1 c0 c1 c2 c3 c4
        rename World=>w5
        obtain ⟨q,bf,bz,rfl,o⟩:=hrel;have bq:=o.out.lt;obtain ⟨m0,m1,Z⟩:=ad.out w5 o.out.bel
        by_cases hqI:q<=l
        ·have bg:(q:Int)<=l:=by omega
         have ae:q<xs.length:=by omega
         have c9:(q:Int)<xs.length:=by omega
         obtain ⟨X,b3,bd⟩:=qNu Z ae;clear Z;have aq:=HT.out.right ae;obtain ⟨⟨V,d',a',b',N⟩,ap⟩:∃ i,Hid (nth xs q=i):=⟨_,rfl⟩;rw [ap.out] at X aq;obtain ⟨c0,c1,c2,c3,c4⟩:=X;simp only at c0 c1 c2 c3 c4;obtain ⟨ri,rb,R⟩:∃ r b,Hid (In.wr ⟨V,d',a',b',N⟩=(r,b)):=⟨_,_,rfl⟩;have HQ:=qAa (yIu xs sw bf);have ab:Hid (Made8 nm (qJc xs sw p (q-p))):=qKz am.out p _;obtain ⟨st,b7⟩:∃ st,Hid (qJc xs sw p (q-p)=st):=⟨_,rfl⟩;rw [b7.out] at HQ ab o;have Y:=ab.out.1
         have al:Hid ((nth xs q).wr=(ri,rb)):=by show _=_;rw [ap.out];exact R.out
         cases rb with
         | false =>
          go_wp2_with (go_at_call 84;go_must (refine (qMz (i:=⟨V,d',a',b',N⟩) R _).mono ?_);rintro e w6 ⟨rfl,z⟩;go_must (have f:=qAa (o.out.below z);clear z))
          go_roundw
          case rel=>exact ⟨q+1,by omega,by omega,by go_num,qOg f.out (by rw [HQ.out];exact (yVq al.out).symm)⟩
          case measure=>simp [intOf];omega
         | true =>
          have aj:=xAz aq R.out;obtain ⟨n,rfl⟩:=Int.eq_ofNat_of_zero_le aj.1
          have S:n<8:=by omega
          have cc:(n:Int)<8:=by omega
          clear aj;have a4:=qAa (yNx (s:=st) al.out);obtain ⟨⟨M,tl,th,tm⟩,y⟩:∃ t,Hid (st.getD n Ty.nil=t):=⟨_,rfl⟩;rw [y.out] at a4
          by_cases hk1:M=1
          ·subst hk1
           go_wp2_with (first
            | (go_at_call 84;go_must (refine (qMz (i:=⟨V,d',a',b',N⟩) R _).mono ?_);rintro e w6 ⟨rfl,z⟩;go_must (have f:=qAa (o.out.below z);obtain ⟨F,E,I,G⟩:=f.out.cells Y S;rw [y.out] at F E I G;simp only at F E I G;clear z))
            | (go_at_call 85;go_must (refine (qSq _).mono ?_);rintro e w7 ⟨rfl,au⟩;go_must (have Q:=qAa (f.out.below au);clear F E I G;obtain ⟨F,E,I,G⟩:=Q.out.cells Y S;rw [y.out] at F E I G;simp only at F E I G;have f0:=Q.out.own.frozenAt (n*4);have f1:=Q.out.own.frozenAt (n*4+1);have f2:=Q.out.own.frozenAt (n*4+2);have f3:=Q.out.own.frozenAt (n*4+3);clear au)))
           go_roundw
           case rel=>exact ⟨q+1,by omega,by omega,by go_num,qOg (Q.out.set Y S qEe) (by rw [HQ.out,a4.out];rfl)⟩
           case measure=>simp [intOf];omega
          ·have br:(M==1)=false:=by simpa using hk1
           by_cases hk2:M=2
           ·subst hk2
            go_wp2_with (go_at_call 84;go_must (refine (qMz (i:=⟨V,d',a',b',N⟩) R _).mono ?_);rintro e w6 ⟨rfl,z⟩;go_must (have f:=qAa (o.out.below z);obtain ⟨F,E,I,G⟩:=f.out.cells Y S;rw [y.out] at F E I G;simp only at F E I G;have f0:=f.out.own.frozenAt (n*4);have f1:=f.out.own.frozenAt (n*4+1);have f2:=f.out.own.frozenAt (n*4+2);have f3:=f.out.own.frozenAt (n*4+3);clear z))
            go_roundw
            case rel=>exact ⟨q+1,by omega,by omega,by go_num,qOg (f.out.set Y S Ty.nil) (by rw [HQ.out,a4.out];rfl)⟩
            case measure=>simp [intOf];omega
           ·have bs:(M==2)=false:=by simpa using hk2
            go_wp2_with (go_at_call 84;go_must (refine (qMz (i:=⟨V,d',a',b',N⟩) R _).mono ?_);rintro e w6 ⟨rfl,z⟩;go_must (have f:=qAa (o.out.below z);obtain ⟨F,E,I,G⟩:=f.out.cells Y S;rw [y.out] at F E I G;simp only at F E I G;clear z))
            go_roundw
            case rel=>exact ⟨q+1,by omega,by omega,by go_num,qOg f.out (by rw [HQ.out,a4.out,if_neg hk1,if_neg hk2])⟩
            case measure=>simp [intOf];omega
        ·have bg:¬ (q:Int)<=l:=by omega
         have az:Hid (q-p=l+1-p):=by show _=_;omega
         rw [az.out] at o;go_wp2
         go_roundw
         case rel=>exact ⟨l+1,by omega,by go_num,qOg o.out D.out.symm⟩
         case measure=>simp [intOf];omega
      ·have bb:((l:Int)-d != p)=true:=by simpa using hd
       have D:Hid (qFd xs p (qDp C 8) l=qFd xs p (qDp C 8) (l+1)):=by show _=_;rw [U.out,T.out,if_neg (by simp [hd])]
       clear U T;go_wp2
       go_roundw
       case rel=>exact ⟨l+1,by omega,by go_num,qOg o.out D.out⟩
       case measure=>simp [intOf];omega
     ·have bt:(op != 20)=true:=by simpa using h20
      have D:Hid (qFd xs p (qDp C 8) l=qFd xs p (qDp C 8) (l+1)):=by show _=_;rw [U.out,T.out,if_neg (by simp [h20])]
      clear U T;go_wp2
      go_roundw
      case rel=>exact ⟨l+1,by omega,by go_num,qOg o.out D.out⟩
      case measure=>simp [intOf];omega
    ·have b1:¬ (l:Int)<xs.length:=by omega
     have D:Hid (l=xs.length):=by show _=_;omega
     go_wp2;go_ret;have h1:=o.out;rw [D.out] at h1;exact ⟨_,rfl,qCe h1.own (by omega),(a2.out.trans ((ar.out.trans (h1.bel.mono ai)).mono (by omega)))⟩
def qKj (ms:List Int) (xs:List In):Except (Int×Int) Kn :=
 if qGa ms=false then .error (0,2) else if qLu xs≠0 then .error ((qCh xs).1,qLu xs)
 else match qEq xs ms.length xs.length with
  | .error e=>.error (e.1,e.2)
  | .ok K=>.ok K
def qFq (ms:List Int) (xs:List In):Int×Int:=match qKj ms xs with|.error e=>e|.ok _=>(0,0)
theorem yDi {p:Nat->Bool}{n k:Nat}(h:first p n=some k):k<n:=by
 unfold first at h
 exact List.mem_range.1 (List.mem_of_find?_eq_some h)
theorem qVr:∀ (r a:List Lp)(t:Int),qEd a r=some t->∃ l∈r,l.t=t
 | [],a,t,h=>by simp [qEd] at h
 | x :: r,a,t,h=>by
  rw [qEd] at h
  split at h
  ·injection h with h;exact ⟨x,by simp,h⟩
  ·obtain ⟨l,b,e⟩:=qVr r _ t h;exact ⟨l,by simp [b],e⟩
theorem yEu (xs:List In):0<=(qCh xs).1/\((qCh xs).1=0∨(qCh xs).1<xs.length):=by
 unfold qCh
 split
 ·exact ⟨by decide,.inl rfl⟩
 split
 ·exact ⟨by decide,.inl rfl⟩
 split
 ·rename_i k hk
  have:=yDi hk;exact ⟨by simp,.inr (by simp;omega)⟩
 split
 ·rename_i t ht
  obtain ⟨l,a,rfl⟩:=qVr _ _ _ ht;obtain ⟨k,hk,_,rfl⟩:=loopsU_mem.1 a;exact ⟨by simp [qBm],.inr (by simp [qBm];omega)⟩
 split
 ·rename_i k hk
  have:=yDi hk;exact ⟨by simp,.inr (by simp;omega)⟩
 split
 ·exact ⟨by decide,.inl rfl⟩
 ·exact ⟨by decide,.inl rfl⟩
theorem yPj (vm g:Value)(ms:List Int)(w:World)(hm:Sees .i64 w vm ms)(b:Hid (qGa ms=false)) :
  Cl 48 #[.agg #[vm,g]] w fun e d=>e=.returned (.tuple #[.slice none 0 0,I4 0,I4 2])/\Bw w d:=by
 have f:=qAa hm
 obtain ⟨i,mcap,rfl⟩:∃ a c,vm=.slice a ms.length c:=by obtain ⟨a,c,h,_⟩:=hm;exact ⟨a,c,h⟩
 go_enter Tryz.func48,Tryz.ntmps48
 go_wp2_with (go_at_call 71;go_must (refine (qNp _ ms _ (f.out.below ((Below.refl _ _).alloc (Nat.le_refl _) _) (Nat.le_refl _)) b).mono ?_);rintro e d ⟨rfl,rfl⟩)
 go_ret3
 exact ⟨rfl,by go_grown⟩
theorem yMx (vm:Value)(ms:List Int)(g:Value)(xs:List In)(w:World)(hm:Sees .i64 w vm ms)(f:SeesI w g xs)(i:Hid (qGa ms=true)){P E:Int}(n:Hid (P=(qCh xs).1))(r:Hid (E=qLu xs))(d:E≠0) :
  Cl 48 #[.agg #[vm,g]] w fun e k=>e=.returned (.tuple #[.slice none 0 0,I4 P,I4 E])/\Bw w k:=by
 have o:=qAa hm;have s:=qAa f
 obtain ⟨z,mcap,rfl⟩:∃ a c,vm=.slice a ms.length c:=by obtain ⟨a,c,h,_⟩:=hm;exact ⟨a,c,h⟩
 obtain ⟨y,ccap,rfl⟩:∃ a c,g=.slice a xs.length c:=by obtain ⟨a,c,h,_⟩:=f;exact ⟨a,c,h⟩
 have u:¬ E=0:=d;clear hm f d;go_enter Tryz.func48,Tryz.ntmps48
 go_wp2_with (first
  | (go_at_call 71;go_must (refine (qNp _ ms _ (o.out.below ((Below.refl _ _).alloc (Nat.le_refl _) _) (Nat.le_refl _)) i).mono ?_);rintro e k ⟨rfl,rfl⟩)
  | (go_at_call 72;go_must (refine (qQo (s.out.below ((Below.refl _ _).alloc (Nat.le_refl _) _)) n r).mono ?_);rintro e A ⟨rfl,b⟩;go_must (have l:=qAt b;clear b)))
 go_ret3
 exact ⟨rfl,l⟩
theorem yDf (vm:Value)(ms:List Int)(g:Value)(xs:List In)(w:World)(hm:Sees .i64 w vm ms)(i:SeesI w g xs) :
  Cl 48 #[.agg #[vm,g]] w fun e d =>
   (∃ P E:Int,qKj ms xs=.error (P,E)/\E≠0/\(0<=P/\(P=0∨P<xs.length))/\e=.returned (.tuple #[.slice none 0 0,I4 P,I4 E])/\Bw w d) ∨
   (∃ (K:Kn) (kb:Nat),qKj ms xs=.ok K/\Taken xs/\qGa ms=true/\qEq xs ms.length xs.length=.ok K/\e=.returned (.tuple #[.slice (some ⟨kb,0,none⟩) xs.length xs.length,I4 0,I4 0])/\Hp d kb 156 (qDw K)/\w.heap.size<=kb/\K.length=xs.length/\MadeK ms.length K/\Bw w d):=by
 unfold qKj
 cases hmf:qGa ms with
 | false =>
  refine (yPj vm g ms w hm hmf).mono ?_;rintro e d ⟨rfl,c⟩;exact .inl ⟨0,2,by simp,by decide,⟨by decide,.inl rfl⟩,rfl,c⟩
 | true =>
  by_cases hE:qLu xs=0
  ·have n:Taken xs:=check_ok.1 hE;obtain ⟨a,cap,o,D,B,G,s⟩:=id i;obtain ⟨b,off,rfl,A,z⟩:=s (fun e=>by have:=n.pos;rw [e] at this;simp at this);subst o;refine (yWo vm ms b off cap xs w hm i hmf hE.symm).mono ?_;rintro e d (⟨p,E,f,k,F,rfl,c⟩|⟨K,kb,f,rfl,u,l,r,y,c⟩)
   ·refine .inl ⟨p,E,?_,k,⟨by omega,.inr (by omega)⟩,rfl,c⟩;rw [if_neg (by simp),if_neg (by simp [hE]),f]
   ·refine .inr ⟨K,kb,?_,n,rfl,f,rfl,u,l,r,y,c⟩;rw [if_neg (by simp),if_neg (by simp [hE]),f]
  ·refine (yMx vm ms g xs w hm i hmf rfl rfl hE).mono ?_;rintro e d ⟨rfl,c⟩;exact .inl ⟨(qCh xs).1,qLu xs,by rw [if_neg (by simp),if_pos hE],hE,yEu xs,rfl,c⟩
theorem yLe (vm:Value)(ms:List Int)(g:Value)(xs:List In)(w:World)(hm:Sees .i64 w vm ms)(f:SeesI w g xs) :
  Cl 23 #[.agg #[vm,g]] w fun e r=>∃ P E:Int,qFq ms xs=(P,E)/\(E=0↔∃ K,qKj ms xs=.ok K)/\(0<=P/\(P=0∨P<xs.length))/\e=.returned (.tuple #[I4 P,I4 E])/\Bw w r:=by
 have l:=qAa hm;have n:=qAa f
 obtain ⟨z,mcap,rfl⟩:∃ a c,vm=.slice a ms.length c:=by obtain ⟨a,c,h,_⟩:=hm;exact ⟨a,c,h⟩
 obtain ⟨D,ccap,rfl⟩:∃ a c,g=.slice a xs.length c:=by obtain ⟨a,c,h,_⟩:=f;exact ⟨a,c,h⟩
 clear hm f;go_enter Tryz.func23,Tryz.ntmps23
 go_wp2_with (go_at_call 48;go_must (refine (yDf _ ms _ xs _ (l.out.below ((Below.refl _ _).alloc (Nat.le_refl _) _) (Nat.le_refl _)) (n.out.below ((Below.refl _ _).alloc (Nat.le_refl _) _))).mono ?_);rintro e y (⟨P,E,hi,k,o,rfl,d⟩|⟨K,kb,hi,I,s,A,rfl,F,u,B,G,d⟩)<;>(have i:=qAa (qAt d);have b:=qAa hi;clear d hi))
 ·go_ret2;exact ⟨P,E,by unfold qFq;rw [b.out],⟨fun h=>absurd h k,fun ⟨K,h⟩=>by rw [b.out] at h;cases h⟩,o,rfl,i.out⟩
 ·go_ret2;exact ⟨0,0,by unfold qFq;rw [b.out],⟨fun _=>⟨K,b.out⟩,fun _=>rfl⟩,⟨by decide,.inl rfl⟩,rfl,i.out⟩
def xCr:Value:=.slice none 0 0
theorem qYs {w:World}{base:Nat}{e:TypeId}{z:Nat}{v:Value}{n:Nat}{xs:List Value}(h:w.ownsRow base e z v n xs)(i:0<n):∃ g cap,v=.slice (some ⟨g,0,none⟩) n cap/\base<=g/\g<w.heap.size/\n<=cap:=by
 rcases h with ⟨f,⟨rfl,rfl⟩|⟨g,cap,d,rfl,a,c,b,k,_⟩⟩
 ·omega
 ·exact ⟨g,cap,rfl,a,(Array.getElem?_eq_some_iff.1 c).1,b⟩
theorem getD_some {vs:List Value}{k:Nat}(a:k<vs.length):vs[k]? = some (vs.getD k xCr):=by simp [List.getD,List.getElem?_eq_getElem a]
structure Rs where
 E:Int
 f:Bool
 v:Int
 o:Bool
 k:Int
 u:Int
def Rs.nil:Rs:=⟨0,false,0,false,0,0⟩
def qFs (ms:List Int) (xs:List In) (ev:Int×Int):Nat->Mc->List Rs->List Ac
 | 0,_,_=>[]
 | n+1,M,rs=>(qBe ms xs ev M).1 ::
  (if (qBe ms xs ev M).1.k=4 then [] else if (qBe ms xs ev M).1.k=2 then
   (match rs with|[]=>[]|r :: rest=>qFs ms xs ev n (qGk xs (qBe ms xs ev M).2 r.E r.f r.v) rest)
  else qFs ms xs ev n (qBe ms xs ev M).2 rs)
theorem qVt {ms:List Int}{xs:List In}{ev:Int×Int}{M:Mc}(h0:M.mode=0) :
  ((qBe ms xs ev M).1.k=4/\(qBe ms xs ev M).2.mode=2)∨((qBe ms xs ev M).1.k=2/\(qBe ms xs ev M).2.mode=1)∨(((qBe ms xs ev M).1.k=1∨(qBe ms xs ev M).1.k=3)/\(qBe ms xs ev M).2.mode=0):=by
 unfold qBe;rw [if_neg (by omega),if_neg (by omega)]
 split
 ·unfold qPo
  split
  ·exact .inr (.inl ⟨rfl,rfl⟩)
  ·split
   ·exact .inr (.inr ⟨.inl rfl,h0⟩)
   ·exact .inr (.inr ⟨.inr rfl,h0⟩)
 ·split
  ·exact .inl ⟨rfl,rfl⟩
  ·split
   ·exact .inr (.inr ⟨.inl rfl,h0⟩)
   ·exact .inr (.inr ⟨.inl rfl,h0⟩)
theorem yLw {ms:List Int}{xs:List In}{ev:Int×Int}{M:Mc}{n:Nat}{rs:List Rs}(h:(qBe ms xs ev M).1.k=4):qFs ms xs ev (n+1) M rs=[(qBe ms xs ev M).1]:=by
 cases rs<;>(rw [qFs];rw [if_pos h])
theorem yJa {ms:List Int}{xs:List In}{ev:Int×Int}{M:Mc}{n:Nat}(h:(qBe ms xs ev M).1.k=2):qFs ms xs ev (n+1) M []=[(qBe ms xs ev M).1]:=by
 rw [qFs,if_neg (by omega),if_pos h]
theorem yOb {ms:List Int}{xs:List In}{ev:Int×Int}{M:Mc}{n:Nat}{r:Rs}{rs:List Rs}(h:(qBe ms xs ev M).1.k=2):qFs ms xs ev (n+1) M (r :: rs)=(qBe ms xs ev M).1 :: qFs ms xs ev n (qGk xs (qBe ms xs ev M).2 r.E r.f r.v) rs:=by
 rw [qFs,if_neg (by omega),if_pos h]
theorem yWg {ms:List Int}{xs:List In}{ev:Int×Int}{M:Mc}{n:Nat}{rs:List Rs}(h:(qBe ms xs ev M).1.k≠4/\(qBe ms xs ev M).1.k≠2):qFs ms xs ev (n+1) M rs=(qBe ms xs ev M).1 :: qFs ms xs ev n (qBe ms xs ev M).2 rs:=by
 cases rs<;>(rw [qFs];rw [if_neg h.1,if_neg h.2])
end Go.Proofs.YtmdhljoicnommaaGreat
