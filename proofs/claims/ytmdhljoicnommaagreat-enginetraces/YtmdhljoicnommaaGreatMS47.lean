/-
  JInquire
  JRun
  JPull
  E11Safe
  E11Step
  E11Run
  RAtB
  JJudge
  JTypes
  E11Tr
-/
import Derived.Test.YtmdhljoicnommaaGreatMS42
import Derived.Test.YtmdhljoicnommaaGreatMS30
import Derived.Test.YtmdhljoicnommaaGreatMS46
namespace Go.Proofs.YtmdhljoicnommaaGreat
set_option maxHeartbeats 12800000
open Go.RowKit
set_option linter.unusedVariables false
set_option linter.unusedSimpArgs false
set_option maxRecDepth 100000
def blurK (xs:List In) (p:Nat) (K:Kn):Kn:=K.set p ((K.getD p kn0).1,blurAll xs p (loopsL xs) (K.getD p kn0).2)
def askE (xs:List In) (nm p:Nat) (K:Kn):Int:=asksJ nm (nth xs p) (K.getD p kn0).2 (K.getD ((p:Int)+(nth xs p).far).toNat kn0).2
def stepK (xs:List In) (nm p:Nat) (K:Kn):Except Int Kn :=
 if (K.getD p kn0).1=false then .ok K
 else if askE xs nm p (blurK xs p K)≠0 then .error (askE xs nm p (blurK xs p K))
 else .ok (leaveK (nth xs p) p (blurK xs p K))
def runK (xs:List In) (nm:Nat):Nat->Except (Nat×Int) Kn
 | 0=>.ok (arrK (List.replicate xs.length kn0) 0 true stZ)
 | p+1=>match runK xs nm p with
  | .error e=>.error e
  | .ok K=>match stepK xs nm p K with
   | .error E=>.error (p,E)
   | .ok K'=>.ok K'
theorem run_err {xs : List In}{nm p : Nat}{e : Nat × Int}(h : runK xs nm p = .error e) : ∀ n, p <= n -> runK xs nm n = .error e := by
  intro n a
  induction n with
  | zero => obtain rfl : p = 0 := by omega
            exact h
  | succ n ih =>
    by_cases hp : p = n + 1
    · subst hp; exact h
    · rw [runK, ih (by omega)]
theorem leaveK_len (i:In)(p:Nat)(K:Kn):(leaveK i p K).length=K.length:=by
 unfold leaveK
 split
 ·rfl
 split
 ·exact arrK_len _ _ _ _
 split
 ·rw [arrK_len,arrK_len]
 ·exact arrK_len _ _ _ _
theorem made_blurK {nm:Nat}{xs:List In}{p:Nat}{K:Kn}(h:MadeK nm K):MadeK nm (blurK xs p K):=h.set p (made_blurAll _ (h.at p))
theorem made_leaveK {nm:Nat}{i:In}{p:Nat}{K:Kn}{head:St}(b:i.right=true)(a:MadeK nm K)(c:asksJ nm i (K.getD p kn0).2 head=0):MadeK nm (leaveK i p K):=by
 unfold leaveK
 split
 ·exact a
 split
 ·exact made_arr a _ _ (a.at p)
 split
 ·rename_i ho
  exact made_arr (made_arr a _ _ (made_ref b (a.at p) c ho)) _ _ (made_ref b (a.at p) c ho)
 ·rename_i ho
  exact made_arr a _ _ (made_leaves b (a.at p) c (wr_leaves b _ ho false))
theorem made_rep (nm n:Nat):MadeK nm (List.replicate n kn0):=fun p a=>by rw [List.eq_of_mem_replicate a];exact made_zero nm
theorem flat_rep_at (n j:Nat)(b:j<n*33):(flatK (List.replicate n kn0))[j]? = zeroC[j%33]? := by
 have a:Eight (List.replicate n kn0):=(made_rep 0 n).eight;have:=flatK_at a (k:=j / 33) (j:=j%33) (by simp;omega) (by omega);rw [show j / 33*33+j%33=j by omega] at this;rw [this,show (List.replicate n kn0).getD (j / 33) kn0=kn0 by simp [List.getD,List.getElem?_replicate];split<;>rfl]
 rfl
theorem made_cells (n:Nat):madeCells zeroC.toArray (n*33)=(flatK (List.replicate n kn0)).toArray:=by
 have b:Eight (List.replicate n kn0):=(made_rep 0 n).eight
 apply Array.ext_getElem?
 intro j
 by_cases hj:j<n*33
 ·rw [show (flatK (List.replicate n kn0)).toArray[j]? = (flatK (List.replicate n kn0))[j]? from List.getElem?_toArray,flat_rep_at n j hj];have c:zeroC.toArray.size=33:=rfl;simp only [madeCells,Array.getElem?_map];rw [Array.getElem?_range];simp only [hj,if_true,Option.map_some,c]
  have a:j%33<zeroC.length:=by rw [qAv];omega
  rw [List.getElem?_eq_getElem a]
  simp [a]
 ·rw [Array.getElem?_eq_none (by rw [size_madeCells];omega),show (flatK (List.replicate n kn0)).toArray[j]? = (flatK (List.replicate n kn0))[j]? from List.getElem?_toArray,List.getElem?_eq_none (by rw [flatK_len b,List.length_replicate];omega)]
theorem run_makeK (n:Nat)(d:n<=64)(w:World):(Instr.makeSlice 117 (I4 n) (I4 n)).run Tryz.prog w=.ok (.slice (some ⟨w.heap.size,0,none⟩) n n) (w.alloc (.cells (flatK (List.replicate n kn0)).toArray 156)):=by
 have hi:∃ i,Tryz.prog.info? 156=some i/\i.size=33/\i.zero=some (.agg zeroC.toArray)/\i.bytes<=1000000:=⟨_,rfl,rfl,rfl,by decide⟩;obtain ⟨i,b,c,a,f⟩:=hi;have:=run_make (P:=Tryz.prog) w 117 156 i _ Tryz.underlying117 b a .i64 .i64 n n (by omega) (Int.le_refl _) (by have:(i.bytes:Int)*n<=1000000*64:=Int.mul_le_mul (by omega) (by omega) (by omega) (by omega);omega) (by omega);rw [c] at this;simp only [Int.toNat_natCast,Value.cells] at this;rw [made_cells] at this;exact this
def Begun (w3 wc:World) (nm:Nat) (vl:Value) (cb co ccap:Nat) (xs:List In) (ls:List Lp) (v:Value):Prop:=∃ qb kb,v=.pointer (some ⟨qb,0,none⟩)/\Inq w3 wc qb kb nm vl cb co ccap xs ls (List.replicate xs.length kn0)
theorem keepM2 {w a:World}{x:Nat}{u v:Value}(h:w.cell? ⟨x,0,none⟩=some u/\w.cell? ⟨x,1,none⟩=some v)(b:Bw w a)(c:x<w.heap.size):a.cell? ⟨x,0,none⟩=some u/\a.cell? ⟨x,1,none⟩=some v:=by
 rw [b.cell (p:=⟨x,0,none⟩) c,b.cell (p:=⟨x,1,none⟩) c];exact h
theorem linq_run (vm:Value)(ms:List Int)(n l d:Nat)(xs:List In)(w:World)(hm:Sees .i64 w vm ms)(hx:SeesI w (.slice (some ⟨n,l,none⟩) xs.length d) xs)(az:Hid (mapsJ ms=true))(hE:Hid (0=errL xs)) :
  Cl 48 #[.agg #[vm,.slice (some ⟨n,l,none⟩) xs.length d]] w fun e y =>
   (∃ (p:Nat) (E:Int),runK xs ms.length xs.length=.error (p,E)/\E≠0/\p<xs.length/\e=.returned (.tuple #[.slice none 0 0,I4 p,I4 E])/\Bw w y) ∨
   (∃ (K:Kn) (kb:Nat),runK xs ms.length xs.length=.ok K/\e=.returned (.tuple #[.slice (some ⟨kb,0,none⟩) xs.length xs.length,I4 0,I4 0])/\Hp y kb 156 (flatK K)/\w.heap.size<=kb/\K.length=xs.length/\MadeK ms.length K/\Bw w y):=by
 have hT:Taken xs:=check_ok.1 hE.out.symm;have HT:=keepJ hT;have HX:=keepJ hx;have ad:=keepJ hm
 obtain ⟨ma,mcap,rfl⟩:∃ a c,vm=.slice a ms.length c:=by obtain ⟨a,c,h,_⟩:=hm;exact ⟨a,c,h⟩
 obtain ⟨nm,b1⟩:∃ nm,Hid (ms.length=nm):=⟨_,rfl⟩;rw [b1.out] at ad ⊢;obtain ⟨P,ai⟩:∃ P,Hid (P=(checkL xs).1):=⟨_,rfl⟩;have ak:=hT.top
 have b4:(xs.length:Int)<=64:=by omega
 have ag:0<xs.length:=hT.pos;obtain ⟨W,HW,Z,ar,b3,m0,F⟩:∃ W,Hid (W=w.alloc (Obj.cells #[.slice ma nm mcap,.slice (some ⟨n,l,none⟩) xs.length d] 25))/\Hid (Bw w W)/\w.heap.size<W.heap.size/\W.heap.size<=w.heap.size+1/\W.cell? ⟨w.heap.size,0,none⟩=some (.slice ma nm mcap)/\W.cell? ⟨w.heap.size,1,none⟩=some (.slice (some ⟨n,l,none⟩) xs.length d) :=
  ⟨_,rfl,keepJ (by go_grown),by simp,by simp,by go_cell,by go_cell⟩
 have af:=keepJ (HX.out.below Z.out);have am:=keepJ (ad.out.below Z.out (Nat.le_refl _));clear hx hm hT;go_enter Tryz.func48,Tryz.ntmps48
 go_wp2_with (first
  | (go_at_call 71;rw [<- HW.out];go_must (refine (lmapsFit_any _ ms _ am.out az).mono ?_);rintro e y ⟨rfl,rfl⟩)
  | (go_at_call 72;go_must (refine (check_as af.out ai hE).mono ?_);rintro e w2 ⟨rfl,N⟩;go_must (have aw:=keepM2 ⟨m0,F⟩ N ar;have au:=N.size;have a9:=keepJ (af.out.below N);clear m0 F;obtain ⟨m0,F⟩:=aw))
  | (go_at_call 73;go_must (refine (lloops_any _ xs _ a9.out hE).mono ?_);rintro e b ⟨u3,rfl,D,L⟩;go_must (have aq:=keepM2 ⟨m0,F⟩ L (by omega);have b6:=L.size;have aa:=keepJ (a9.out.below L);have a2:=keepJ (own_seesL D);have J:=keepJ (Z.out.trans ((N.trans (L.mono au)).mono Z.out.size));obtain ⟨o,f,rfl⟩:=own_shapeT D;clear m0 F D N L;obtain ⟨m0,F⟩:=aq)))
 -- THE REGION
 obtain ⟨ls,ab,a1⟩:∃ ls,Hid (loopsA xs=ls)/\Hid (ls=loopsL xs):=⟨_,rfl,by show _=_;unfold loopsA;rw [if_pos hE.out.symm]⟩;rw [ab.out] at a2 ⊢;clear ab;obtain ⟨u,X⟩:∃ u,Hid (u=flatK (List.replicate xs.length kn0)):=⟨_,rfl⟩
 have ah:∀ wx:World,(Instr.makeSlice 117 (I4 xs.length) (I4 xs.length)).run Tryz.prog wx=.ok (.slice (some ⟨wx.heap.size,0,none⟩) xs.length xs.length) (wx.alloc (.cells u.toArray 156)):=fun wx=>by rw [X.out];exact run_makeK xs.length ak wx
 have I:Hid (∀ y,Bw b y->y.cell? ⟨w.heap.size,0,none⟩=some (.slice ma nm mcap)/\y.cell? ⟨w.heap.size,1,none⟩=some (.slice (some ⟨n,l,none⟩) xs.length d)):=fun y ay=>keepM2 ⟨m0,F⟩ ay (by omega)
 go_cut [9] from 12 (fun v9 wc=>Begun b wc nm (.slice o ls.length f) n l d xs ls v9)
 case first =>
  clear m0 F;refine wp_region_held_drew (S:=fun y=>y.cell? ⟨w.heap.size,0,none⟩=some (.slice ma nm mcap)/\y.cell? ⟨w.heap.size,1,none⟩=some (.slice (some ⟨n,l,none⟩) xs.length d)) (by kernel_rfl) (I.out _ (Below.refl _ _).drew) (fun hHeld=>?_);refine tkGo [0,1,2,3,4,5,6,7,8] ?_
  repeat (refine tkO (v:=?_) rfl ?_ ?_;rotate_left;(intro wy hSw;(try dsimp only at hSw);go_simp;(first|done|with_reducible rfl));try simp only [Act.put,p1q,p2q,p3q,p4q,p5q,p6q])
  refine tkEnd ?_;refine runT 9 11 (by kernel_rfl) rfl rfl (by rfl) (by rfl) (fun KK hK=>?_) (fun KK hK=>?_)
  ·go_simp;refine hK.out _ _ (I.out _ ((Below.refl _ _).alloc (Nat.le_refl _) _).drew) (fun hHeld=>?_);clear hK KK
   try simp only [Act.put,p1q,p2q,p3q,p4q,p5q,p6q]
   refine tkGo [10] ?_
   repeat (refine tkO (v:=?_) rfl ?_ ?_;rotate_left;(intro wy hSw;(try dsimp only at hSw);go_simp;(first|done|with_reducible rfl));try simp only [Act.put,p1q,p2q,p3q,p4q,p5q,p6q])
   refine tkEnd ?_;refine runO 11 (by kernel_rfl) rfl (by rfl) (fun KK hK=>?_);go_simp;obtain ⟨Y,HY,g,a8,A,av⟩:∃ Y,Hid (Y=(b.alloc (Obj.cells u.toArray 156)).alloc (Obj.cells #[I4 0,.slice none 0 0,.slice none 0 0,.slice none 0 0] 147))/\Hid (Hp Y (b.heap.size+1) 147 [I4 0,.slice none 0 0,.slice none 0 0,.slice none 0 0])/\Hid (Hp Y b.heap.size 156 u)/\Bw b Y/\b.heap.size+2<=Y.heap.size :=
    ⟨_,rfl,keepJ (by have:=Hp.new (b.alloc (Obj.cells u.toArray 156)) [I4 0,.slice none 0 0,.slice none 0 0,.slice none 0 0] 147;simpa using this),(Hp.new b u _).alloc _,by go_grown,by simp⟩
   rw [<- HY.out];clear HY;refine hK.out _ _ (I.out _ A.drew) (fun hHeld=>?_);clear hK KK
   try simp only [Act.put,p1q,p2q,p3q,p4q,p5q,p6q]
   have n0:Y.cell? ⟨(b.heap.size+1),0,none⟩=some (I4 0):=g.out.cell rfl;have n1:Y.cell? ⟨(b.heap.size+1),1,none⟩=some (.slice none 0 0):=g.out.cell rfl;have n2:Y.cell? ⟨(b.heap.size+1),2,none⟩=some (.slice none 0 0):=g.out.cell rfl;have n3:Y.cell? ⟨(b.heap.size+1),3,none⟩=some (.slice none 0 0):=g.out.cell rfl;have f0:=g.out.frozen 0;have f1:=g.out.frozen 1;have f2:=g.out.frozen 2;have f3:=g.out.frozen 3;refine runO 12 (by kernel_rfl) rfl (by rfl) (fun KK hK=>?_);go_simp;clear n0 n1 n2 n3 f0 f1 f2 f3;obtain ⟨V,HV,a7,a4,O⟩:∃ V,Hid (V=((((Y.setCell ⟨(b.heap.size+1),0,none⟩ (I4 nm)).setCell ⟨(b.heap.size+1),1,none⟩ (.slice (some ⟨n,l,none⟩) xs.length d)).setCell ⟨(b.heap.size+1),2,none⟩ (.slice o ls.length f)).setCell ⟨(b.heap.size+1),3,none⟩ (.slice (some ⟨b.heap.size,0,none⟩) xs.length xs.length)))/\Hid (Hp V (b.heap.size+1) 147 (qC nm (.slice (some ⟨n,l,none⟩) xs.length d) (.slice o ls.length f) b.heap.size xs.length))/\Hid (Hp V b.heap.size 156 u)/\Bw b V:=⟨_,rfl,g.out.sets (qC nm (.slice (some ⟨n,l,none⟩) xs.length d) (.slice o ls.length f) b.heap.size xs.length) 0,a8.out.fars (by omega) (qC nm (.slice (some ⟨n,l,none⟩) xs.length d) (.slice o ls.length f) b.heap.size xs.length) 0,A.trans (qAg (qAd _ (qC nm (.slice (some ⟨n,l,none⟩) xs.length d) (.slice o ls.length f) b.heap.size xs.length) Y 0) (by omega) A.size)⟩;rw [<- HV.out];clear HV;refine hK.out _ _ (I.out _ O.drew) (fun hHeld=>?_);clear hK KK
   try simp only [Act.put,p1q,p2q,p3q,p4q,p5q,p6q]
   refine wpAnyH_done (by kernel_rfl) ?_ _;go_wp2
   go_meet
   case rel=>exact ⟨(b.heap.size+1),b.heap.size,rfl,O.drew,a7.out.drew,by rw [<- X.out];exact a4.out.drew,by simp,by omega,by omega,by omega,(made_rep 0 _).eight,aa.out,a2.out⟩
  ·go_simp;refine hK.out _ _ (I.out _ ((Below.refl _ _).alloc (Nat.le_refl _) _).drew) (fun hHeld=>?_);clear hK KK
   try simp only [Act.put,p1q,p2q,p3q,p4q,p5q,p6q]
   refine runO 9 (by kernel_rfl) rfl (by rfl) (fun KK hK=>?_);go_simp;obtain ⟨Y,HY,g,a8,A,av⟩:∃ Y,Hid (Y=(b.alloc (Obj.cells #[I4 0,.slice none 0 0,.slice none 0 0,.slice none 0 0] 147)).alloc (Obj.cells u.toArray 156))/\Hid (Hp Y b.heap.size 147 [I4 0,.slice none 0 0,.slice none 0 0,.slice none 0 0])/\Hid (Hp Y (b.heap.size+1) 156 u)/\Bw b Y/\b.heap.size+2<=Y.heap.size :=
    ⟨_,rfl,(Hp.new b [I4 0,.slice none 0 0,.slice none 0 0,.slice none 0 0] _).alloc _,keepJ (by have:=Hp.new (b.alloc (Obj.cells #[I4 0,.slice none 0 0,.slice none 0 0,.slice none 0 0] 147)) u 156;simpa using this),by go_grown,by simp⟩
   rw [<- HY.out];clear HY;refine hK.out _ _ (I.out _ A.drew) (fun hHeld=>?_);clear hK KK
   try simp only [Act.put,p1q,p2q,p3q,p4q,p5q,p6q]
   refine tkGo [10] ?_
   repeat (refine tkO (v:=?_) rfl ?_ ?_;rotate_left;(intro wy hSw;(try dsimp only at hSw);go_simp;(first|done|with_reducible rfl));try simp only [Act.put,p1q,p2q,p3q,p4q,p5q,p6q])
   refine tkEnd ?_;have n0:Y.cell? ⟨b.heap.size,0,none⟩=some (I4 0):=g.out.cell rfl;have n1:Y.cell? ⟨b.heap.size,1,none⟩=some (.slice none 0 0):=g.out.cell rfl;have n2:Y.cell? ⟨b.heap.size,2,none⟩=some (.slice none 0 0):=g.out.cell rfl;have n3:Y.cell? ⟨b.heap.size,3,none⟩=some (.slice none 0 0):=g.out.cell rfl;have f0:=g.out.frozen 0;have f1:=g.out.frozen 1;have f2:=g.out.frozen 2;have f3:=g.out.frozen 3;refine runO 12 (by kernel_rfl) rfl (by rfl) (fun KK hK=>?_);go_simp;clear n0 n1 n2 n3 f0 f1 f2 f3;obtain ⟨V,HV,a7,a4,O⟩:∃ V,Hid (V=((((Y.setCell ⟨b.heap.size,0,none⟩ (I4 nm)).setCell ⟨b.heap.size,1,none⟩ (.slice (some ⟨n,l,none⟩) xs.length d)).setCell ⟨b.heap.size,2,none⟩ (.slice o ls.length f)).setCell ⟨b.heap.size,3,none⟩ (.slice (some ⟨(b.heap.size+1),0,none⟩) xs.length xs.length)))/\Hid (Hp V b.heap.size 147 (qC nm (.slice (some ⟨n,l,none⟩) xs.length d) (.slice o ls.length f) (b.heap.size+1) xs.length))/\Hid (Hp V (b.heap.size+1) 156 u)/\Bw b V:=⟨_,rfl,g.out.sets (qC nm (.slice (some ⟨n,l,none⟩) xs.length d) (.slice o ls.length f) (b.heap.size+1) xs.length) 0,a8.out.fars (by omega) (qC nm (.slice (some ⟨n,l,none⟩) xs.length d) (.slice o ls.length f) (b.heap.size+1) xs.length) 0,A.trans (qAg (qAd _ (qC nm (.slice (some ⟨n,l,none⟩) xs.length d) (.slice o ls.length f) (b.heap.size+1) xs.length) Y 0) (by omega) A.size)⟩;rw [<- HV.out];clear HV;refine hK.out _ _ (I.out _ O.drew) (fun hHeld=>?_);clear hK KK
   try simp only [Act.put,p1q,p2q,p3q,p4q,p5q,p6q]
   refine wpAnyH_done (by kernel_rfl) ?_ _;go_wp2
   go_meet
   case rel=>exact ⟨b.heap.size,(b.heap.size+1),rfl,O.drew,a7.out.drew,by rw [<- X.out];exact a4.out.drew,by simp,by omega,by omega,by omega,(made_rep 0 _).eight,aa.out,a2.out⟩
 case rest =>
  obtain ⟨qb,kb,rfl,a3⟩:=hcut;have HQ:=keepJ a3;have al:Made8 nm stZ:=made_zero nm;have aj:=keepJ (made_rep nm xs.length);have H0:Hid ((0:Int)=((0:Nat):Int)):=rfl;clear a3 ah I m0 F X
  go_wp2_with (first
   | (go_at_call 74;go_must (refine (larrive_inq HQ.out H0 ag true al aj.out).mono ?_);rintro e w5 ⟨rfl,ax,a5,ac⟩;go_must (have ao:=keepJ a5;have ap:=keepJ ac;have q1:w5.cell? ⟨qb,1,none⟩=some (.slice (some ⟨n,l,none⟩) xs.length d):=a5.q.cell rfl;clear ax a5 ac)))
  clear q1
  go_loopw [48] (fun i wr=>∃ k:Nat,k<=xs.length/\i=I4 k/\Hid (∃ K,runK xs nm k=.ok K/\Inq b wr qb kb nm (.slice o ls.length f) n l d xs ls K/\MadeK nm K)) (fun i _=>xs.length-(intOf i).toNat)
  case atStart=>exact ⟨0,by omega,rfl,_,rfl,ao.out,ap.out⟩
  case round =>
   obtain ⟨k,hk,rfl,HI⟩:=hrel;obtain ⟨K,T,U,hM⟩:=HI.out;have a0:=keepJ T;have z:=keepJ U;have B:=keepJ hM;have q3:wr.cell? ⟨qb,3,none⟩=some (.slice (some ⟨kb,0,none⟩) xs.length xs.length):=U.q.cell rfl
   by_cases hlt:k<xs.length
   ·have b5:(k:Int)<xs.length:=by omega
    obtain ⟨r,s,HR⟩:∃ r s,Hid (K.getD k kn0=(r,s)):=⟨_,_,rfl⟩;have k0:wr.cell? ⟨kb,k*33,none⟩=some (.bool r):=(U.k.state U.e8 (by rw [U.len];exact hlt) HR.out).cell;clear T U hM HI
    cases r with
    | false =>
     have HN:Hid (runK xs nm (k+1)=.ok K):=by show _=_;rw [runK,a0.out];simp only [stepK];rw [HR.out];rfl
     go_wp2
     go_roundw
     case rel=>exact ⟨k+1,by omega,by go_num,K,HN.out,z.out,B.out⟩
     case measure=>simp [intOf];omega
    | true =>
     obtain ⟨E,HE⟩:∃ E,Hid (E=askE xs nm k (blurK xs k K)):=⟨_,rfl⟩
     by_cases hE0:E=0
     ·subst hE0
      have HN:Hid (runK xs nm (k+1)=.ok (leaveK (nth xs k) k (blurK xs k K))):=by show _=_;rw [runK,a0.out];simp only [stepK];rw [HR.out,if_neg (by simp),<- HE.out,if_neg (by simp)]
      go_wp2_with (first
       | (go_at_call 75;go_must (refine (lblur_any z.out HT.out a1.out hlt B.out).mono ?_);rintro e w6 ⟨rfl,R⟩;go_must (have Q:Hid (Inq b w6 qb kb nm (.slice o ls.length f) n l d xs ls (blurK xs k K)):=(by have:=R;rw [a1.out] at this ⊢;exact this);have M:=keepJ (made_blurK (xs:=xs) (p:=k) B.out);clear R))
       | (go_at_call 76;go_must (refine (lask_any Q.out HT.out hlt M.out HE).mono ?_);rintro e w7 ⟨rfl,G⟩;go_must (have a6:=keepJ (Q.out.below G);clear G))
       | (go_at_call 77;go_must (refine (lleave_any a6.out HT.out hlt M.out HE.out.symm).mono ?_);rintro e w8 ⟨rfl,ae⟩;go_must (have b2:=keepJ ae;clear ae)))
      go_roundw
      case rel=>exact ⟨k+1,by omega,by go_num,_,HN.out,b2.out,made_leaveK (HT.out.right hlt) M.out HE.out.symm⟩
      case measure=>simp [intOf];omega
     ·have HN:Hid (runK xs nm xs.length=.error (k,E)):=run_err (p:=k+1) (by rw [runK,a0.out];simp only [stepK];rw [HR.out,if_neg (by simp),<- HE.out,if_pos hE0]) _ (by omega)
      go_wp2_with (first
       | (go_at_call 75;go_must (refine (lblur_any z.out HT.out a1.out hlt B.out).mono ?_);rintro e w6 ⟨rfl,R⟩;go_must (have Q:Hid (Inq b w6 qb kb nm (.slice o ls.length f) n l d xs ls (blurK xs k K)):=(by have:=R;rw [a1.out] at this ⊢;exact this);have M:=keepJ (made_blurK (xs:=xs) (p:=k) B.out);clear R))
       | (go_at_call 76;go_must (refine (lask_any Q.out HT.out hlt M.out HE).mono ?_);rintro e w7 ⟨rfl,G⟩;go_must (have a6:=keepJ (Q.out.below G);clear G)))
      go_ret3
      exact .inl ⟨k,E,HN.out,hE0,hlt,rfl,J.out.trans (a6.out.b0.mono J.out.size)⟩
   ·obtain rfl:k=xs.length:=by omega
    clear T U hM HI;go_wp2
    go_ret3
    exact .inr ⟨K,kb,a0.out,rfl,z.out.k,Nat.le_trans J.out.size z.out.hk,z.out.len,B.out,J.out.trans (z.out.b0.mono J.out.size)⟩
theorem goes_jump {i:In}(a:i.right=true)(b:15<=i.op/\i.op<=19):1<=i.far/\i.leads=true:=by
 rcases qAp i with h|h|h|h
 ·rw [a] at h;cases h.1
 ·exact ⟨by omega,h.2.2.2.2.1⟩
 ·omega
 ·omega
theorem no_enter {xs:List In}(c:Taken xs){k:Nat}(d:k<xs.length)(b:(nth xs k).leads=true){l:Lp}(hm:l∈loopsL xs){x:Int}(g:x=k+(nth xs k).far)(f:l.h<x)(i:x<=l.t):l.h<=k/\(k:Int)<=l.t:=by
 have h:=c.intr k d;unfold intrB at h;rw [b,Bool.true_and,List.any_eq_false] at h;have a:=h l hm;rw [enters_iff] at a
 by_cases hc:l.h<=k/\(k:Int)<=l.t
 ·exact hc
 ·exact absurd ⟨hc,by omega,by omega⟩ a
theorem kn_set_ne {K:Kn}{p x:Nat}{y:Bool×St}(h:x≠p):(K.set p y).getD x kn0=K.getD x kn0:=by
 simp [List.getD,List.getElem?_set,h,Ne.symm h]
theorem arr_ne {K:Kn}{p x:Nat}{r:Bool}{s:St}(h:x≠p):(arrK K p r s).getD x kn0=K.getD x kn0:=by
 unfold arrK
 split
 ·rfl
 split
 ·exact kn_set_ne h
 ·exact kn_set_ne h
theorem kn_set_out {K:Kn}{p x:Nat}{y:Bool×St}(h:¬ p<K.length):(K.set p y).getD x kn0=K.getD x kn0:=by
 rw [List.set_eq_of_length_le (by omega)]
theorem arr_keeps {K:Kn}{p x:Nat}{r:Bool}{s:St}(h:(K.getD x kn0).1=true):((arrK K p r s).getD x kn0).1=true:=by
 by_cases hx:x=p
 ·subst hx;unfold arrK
  split
  ·exact h
  rename_i hr
  by_cases hl:x<K.length
  ·split
   ·rename_i h2;rw [h] at h2;cases h2
   ·rw [kn_set hl];exact h
  ·split
   ·rw [kn_set_out hl];exact h
   ·rw [kn_set_out hl];exact h
 ·rw [arr_ne hx];exact h
theorem arr_from {K:Kn}{p x:Nat}{r:Bool}{s:St}(h:((arrK K p r s).getD x kn0).1=true):(K.getD x kn0).1=true∨x=p:=by
 by_cases hx:x=p
 ·exact .inr hx
 ·rw [arr_ne hx] at h;exact .inl h
theorem blur_at {xs:List In}{p x:Nat}{K:Kn}:((blurK xs p K).getD x kn0).1=(K.getD x kn0).1:=by
 unfold blurK
 by_cases hx:x=p
 ·subst hx
  by_cases hl:x<K.length
  ·rw [kn_set hl]
  ·rw [kn_set_out hl]
 ·rw [kn_set_ne hx]
theorem blur_ne {xs:List In}{p x:Nat}{K:Kn}(h:x≠p):(blurK xs p K).getD x kn0=K.getD x kn0:=kn_set_ne h
theorem leave_low {xs:List In}{p x:Nat}{K:Kn}(a:(nth xs p).right=true)(d:x<=p):(leaveK (nth xs p) p K).getD x kn0=K.getD x kn0:=by
 have c:=qAp (nth xs p);unfold leaveK
 split
 ·rfl
 rename_i c22
 split
 ·rename_i c15
  refine arr_ne ?_;have b:=(goes_jump a (by omega)).1
  omega
 rename_i c15
 split
 ·rename_i c16
  have b:=(goes_jump a (by omega)).1;rw [arr_ne (by omega),arr_ne (by omega)]
 ·exact arr_ne (by omega)
theorem leave_keeps {i:In}{p x:Nat}{K:Kn}(h:(K.getD x kn0).1=true):((leaveK i p K).getD x kn0).1=true:=by
 unfold leaveK
 split
 ·exact h
 split
 ·exact arr_keeps h
 split
 ·exact arr_keeps (arr_keeps h)
 ·exact arr_keeps h
theorem leave_from {xs:List In}{p x:Nat}{K:Kn}(b:(nth xs p).right=true)(h:((leaveK (nth xs p) p K).getD x kn0).1=true):(K.getD x kn0).1=true∨x=p+1∨((nth xs p).leads=true/\(x:Int)=p+(nth xs p).far):=by
 have c:=qAp (nth xs p);unfold leaveK at h
 split at h
 ·exact .inl h
 split at h
 ·rename_i c15
  rcases arr_from h with h|h
  ·exact .inl h
  ·have a:=goes_jump b (by omega);exact .inr (.inr ⟨a.2,by omega⟩)
 split at h
 ·rename_i c16
  have a:=goes_jump b (by omega)
  rcases arr_from h with h|h
  ·rcases arr_from h with h|h
   ·exact .inl h
   ·exact .inr (.inl h)
  ·exact .inr (.inr ⟨a.2,by omega⟩)
 ·rcases arr_from h with h|h
  ·exact .inl h
  ·exact .inr (.inl h)
theorem run_step {xs:List In}{nm n:Nat}{K:Kn}(h:runK xs nm (n+1)=.ok K):∃ K0,runK xs nm n=.ok K0/\stepK xs nm n K0=.ok K:=by
 rw [runK] at h
 cases h0:runK xs nm n with
 | error e=>rw [h0] at h;cases h
 | ok K0 =>
  rw [h0] at h;simp only at h
  cases h1:stepK xs nm n K0 with
  | error e=>rw [h1] at h;cases h
  | ok K1=>rw [h1] at h;simp only at h;injection h with h;subst h;exact ⟨K0,rfl,h1⟩
theorem step_cases {xs:List In}{nm p:Nat}{K a:Kn}(h:stepK xs nm p K=.ok a):((K.getD p kn0).1=false/\a=K)∨((K.getD p kn0).1=true/\askE xs nm p (blurK xs p K)=0/\a=leaveK (nth xs p) p (blurK xs p K)):=by
 unfold stepK at h
 split at h
 ·rename_i h1;injection h with h;exact .inl ⟨h1,h.symm⟩
 ·rename_i h1
  split at h
  ·cases h
  ·rename_i h2;injection h with h;exact .inr ⟨by simpa using h1,by simpa using h2,h.symm⟩
theorem run_heads {xs:List In}{nm:Nat}(d:Taken xs):∀ {n:Nat} {K:Kn},n<=xs.length->runK xs nm n=.ok K->(K.getD 0 kn0).1=true/\∀ l∈loopsL xs,∀ x:Nat,l.h<x->(x:Int)<=l.t->(K.getD x kn0).1=true->(K.getD l.h.toNat kn0).1=true:=by
 intro n
 induction n with
 | zero =>
  intro K _ h;rw [runK] at h;injection h with h;subst h;have o:=d.pos;refine ⟨?_,fun l a x i k b=>?_⟩
  ·unfold arrK;rw [if_neg (by simp),if_pos (by simp [List.getD,List.getElem?_replicate,o];rfl),kn_set (by simp;exact o)]
  ·rcases arr_from b with b|b
   ·exfalso
    rw [show (List.replicate xs.length kn0).getD x kn0=kn0 by simp [List.getD,List.getElem?_replicate];split<;>rfl] at b
    cases b
   ·have:=(d.loops l a).1
    omega
 | succ n ih =>
  intro K z h;obtain ⟨u,h0,w⟩:=run_step h;obtain ⟨r,g⟩:=ih (by omega) h0;have s:=d.right (show n<xs.length by omega)
  rcases step_cases w with ⟨_,rfl⟩|⟨c,_,rfl⟩
  ·exact ⟨r,g⟩
  ·refine ⟨leave_keeps (by rw [blur_at];exact r),fun l a x i k b=>leave_keeps (by
    rw [blur_at];have y:=d.loops l a
    have f:(u.getD x kn0).1=true∨x=n+1∨((nth xs n).leads=true/\(x:Int)=n+(nth xs n).far):=by
     rcases leave_from s b with h|h
     ·rw [blur_at] at h;exact .inl h
     ·exact .inr h
    rcases f with h|h|h
    ·exact g l a x i k h
    ·by_cases hnh:(n:Int)=l.h
     ·rw [<- hnh];simpa using c
     ·exact g l a n (by omega) (by omega) c
    ·have f:=no_enter d (by omega) h.1 a h.2 i k
     by_cases hnh:(n:Int)=l.h
     ·rw [<- hnh];simpa using c
     ·exact g l a n (by omega) f.2 c)⟩
theorem joinS_len (C:List St)(n:Nat):(joinS C n).length=n:=by simp [joinS]
theorem joinS_at (C:List St){n r:Nat}(a:r<n):(joinS C n).getD r Ty.nil=joinT (C.map fun s=>s.getD r Ty.nil):=by
 unfold joinS
 simp [List.getD,List.getElem?_map,List.getElem?_range a]
theorem st_ext {a b:St}(f:a.length=8)(g:b.length=8)(h:∀ r,r<8->a.getD r Ty.nil=b.getD r Ty.nil):a=b:=by
 apply List.ext_getElem (by omega)
 intro r d c;have:=h r (by omega);rw [List.getD_eq_getElem?_getD,List.getD_eq_getElem?_getD,List.getElem?_eq_getElem d,List.getElem?_eq_getElem c] at this;exact this
theorem joinS_one {nm:Nat}{s:St}(h:Made8 nm s):joinS [s] 8=s :=
 st_ext (joinS_len _ _) h.1 fun r a=>by rw [joinS_at _ a];exact joinT_one (h.get a)
theorem made_joinS {nm:Nat}{C:List St}(b:C≠[])(h:∀ c∈C,Made8 nm c):Made8 nm (joinS C 8):=by
 refine ⟨joinS_len _ _,fun t i=>?_⟩;obtain ⟨r,f,rfl⟩:=List.mem_map.1 i;have a:=List.mem_range.1 f
 refine made_join (by simpa using b) fun u g=>?_
 obtain ⟨c,d,rfl⟩:=List.mem_map.1 g;exact (h c d).get a
theorem joinS_snoc {nm:Nat}{C:List St}{s:St}(b:C≠[])(h:∀ c∈C,Made8 nm c)(g:Made8 nm s):joinS (C++[s]) 8=joinU (joinS C 8) s 8 :=
 st_ext (joinS_len _ _) (qCq _ _ _) fun r a=>by
  rw [joinS_at _ a,joinU_at _ _ a,if_pos a,joinS_at _ a,List.map_append];refine joinT_snoc (nm:=nm) (by simpa using b) (fun u f=>?_) (g.get a);obtain ⟨c,d,rfl⟩:=List.mem_map.1 f;exact (h c d).get a
theorem join2_comm {nm:Nat}{a b:Ty}(c:Made nm a)(d:Made nm b):join2 a b=join2 b a:=by
 rw [qDc c d,qDc d c]
 by_cases h1:a.k=1/\b.k=1
 ·rw [if_pos h1,if_pos ⟨h1.2,h1.1⟩,Int.min_comm,Int.max_comm]
 ·rw [if_neg h1,if_neg (show ¬ (b.k=1/\a.k=1) from fun h=>h1 ⟨h.2,h.1⟩)]
  by_cases h2:a.k=2/\b.k=2/\a.m=b.m
  ·rw [if_pos h2,if_pos ⟨h2.2.1,h2.1,h2.2.2.symm⟩,ty_eq]
   rcases c with h|h|h<;>rcases d with f|f|f<;>omega
  ·rw [if_neg h2,if_neg (fun h=>h2 ⟨h.2.1,h.1,h.2.2.symm⟩)]
theorem joinS_swap {nm:Nat}{C:List St}{a b:St}(h:∀ c∈C,Made8 nm c)(f:Made8 nm a)(g:Made8 nm b):joinS (C++[a]++[b]) 8=joinS (C++[b]++[a]) 8:=by
 have hm:∀ {x:St},Made8 nm x->∀ c∈C++[x],Made8 nm c:=fun {x} hx c hc=>by
  rcases List.mem_append.1 hc with i|i
  ·exact h c i
  ·rw [List.mem_singleton.1 i];exact hx
 rw [joinS_snoc (by simp) (hm f) g,joinS_snoc (by simp) (hm g) f]
 refine st_ext (qCq _ _ _) (qCq _ _ _) fun r d=>?_
 rw [joinU_at _ _ d,joinU_at _ _ d,if_pos d,if_pos d]
 by_cases hne:C=[]
 ·subst hne;rw [List.nil_append,List.nil_append,joinS_one f,joinS_one g];exact join2_comm (f.get d) (g.get d)
 ·rw [joinS_snoc hne h f,joinS_snoc hne h g,joinU_at _ _ d,joinU_at _ _ d,if_pos d,if_pos d];exact join2_swap ((made_joinS hne h).get d) (f.get d) (g.get d)

def GoodK (K:Kn) (x:Nat) (C:List St):Prop:=((K.getD x kn0).1=true↔C≠[])/\(C≠[]->(K.getD x kn0).2=joinS C 8)
theorem good_arr {nm:Nat}{K:Kn}{x p:Nat}{C:List St}{r:Bool}{s:St}(b:p<K.length)(a:GoodK K x C)(g:∀ c∈C,Made8 nm c)(f:Made8 nm s):GoodK (arrK K p r s) x (C++if x=p/\r=true then [s] else []):=by
 by_cases hx:x=p
 ·subst hx
  cases r with
  | false=>rw [if_neg (by simp),List.append_nil];exact a
  | true =>
   rw [if_pos ⟨rfl,rfl⟩];unfold arrK;rw [if_neg (by simp)]
   by_cases hne:C=[]
   ·subst hne
    have d:(K.getD x kn0).1=false:=by
     cases h:(K.getD x kn0).1 with
     | false=>rfl
     | true=>exact absurd rfl (a.1.1 h)
    rw [if_pos d];refine ⟨by rw [kn_set b];simp,fun _=>?_⟩;rw [kn_set b,List.nil_append,joinS_one f]
   ·have d:=a.1.2 hne;rw [if_neg (by rw [d];simp)];refine ⟨by rw [kn_set b,d];simp,fun _=>?_⟩;rw [kn_set b,joinS_snoc hne g f,a.2 hne]
 ·rw [if_neg (fun h=>hx h.1),List.append_nil];unfold GoodK;rw [arr_ne hx];exact a
theorem good_swap {nm:Nat}{K:Kn}{x:Nat}{C A B:List St}(g:∀ c∈C,Made8 nm c)(hA:A=[]∨∃ a,A=[a]/\Made8 nm a)(i:B=[]∨∃ b,B=[b]/\Made8 nm b)(h:GoodK K x (C++A++B)):GoodK K x (C++B++A):=by
 rcases hA with rfl|⟨a,rfl,f⟩
 ·simpa using h
 rcases i with rfl|⟨b,rfl,d⟩
 ·simpa using h
 refine ⟨?_,fun _=>?_⟩
 ·have:=h.1
  simpa using this
 ·rw [h.2 (by simp),joinS_swap g f d]

theorem blurI_wide {nm:Nat}{xs:List In}{s:St}(h:Made8 nm s)(q:Nat):blurI s (nth xs q)=wideQ xs s q:=by
 unfold blurI wideQ
 split
 ·unfold blurT regT
  generalize (nth xs q).wr.1.toNat=r
  by_cases hr:r<8
  ·have hm:=h.get hr
   by_cases h1:(s.getD r Ty.nil).k=1
   ·rw [if_pos h1,if_pos h1]
   ·rw [if_neg h1,if_neg h1]
    by_cases h2:(s.getD r Ty.nil).k=2
    ·rw [if_pos h2]
    ·rw [if_neg h2]
     have e:s.getD r Ty.nil=Ty.nil:=by
      rcases hm with a|a|a
      ·exact ty_eq.2 ⟨a.1,a.2.1,a.2.2.1,a.2.2.2⟩
      ·omega
      ·omega
     rw [show s.set r Ty.nil=s.set r (s.getD r Ty.nil) by rw [e]]
     have c:r<s.length:=by rw [h.1];exact hr
     rw [List.getD_eq_getElem?_getD,List.getElem?_eq_getElem c]
     simp
  ·have b:∀ t,s.set r t=s:=fun t=>List.set_eq_of_length_le (by rw [h.1];omega)
   rw [b,b,b]
   split
   ·rfl
   ·split<;>rfl
 ·rfl
theorem seg_wide {nm:Nat}{xs:List In}{p:Nat}{s:St}(h:Made8 nm s):∀ n,p+n<=xs.length->(segI xs p n).foldl blurI s=wideU xs s p n
 | 0,_=>rfl
 | n+1,hn=>by
  have e:segI xs p (n+1)=segI xs p n++[nth xs (p+n)]:=by
   unfold segI
   have a:n<(xs.drop p).length:=by rw [List.length_drop];omega
   rw [List.take_add_one,List.getElem?_eq_getElem a,List.getElem_drop];unfold nth;rw [List.getD_eq_getElem?_getD,List.getElem?_eq_getElem (by omega)]
   rfl
  rw [e,List.foldl_append,seg_wide h n (by omega),wideU];exact blurI_wide (made_wideU h p n) _
theorem blur_widen {nm:Nat}{xs:List In}(b:Taken xs){p:Nat}{s:St}(h:Made8 nm s):∀ n,n<=xs.length->(loopsU xs n).foldl (blurOne xs p) s=widen xs p s n
 | 0,_=>rfl
 | n+1,hn=>by
  rw [loopsU,List.foldl_append,blur_widen b h n (by omega),widen];unfold lps headB
  by_cases h20:(nth xs n).op=20
  ·rw [if_pos h20,List.foldl_cons,List.foldl_nil]
   have f:(nth xs n).far = -(nth xs n).d/\1<=(nth xs n).d:=by
    have c:=b.right (show n<xs.length by omega)
    rcases qAp (nth xs n) with h|h|h|h
    ·rw [c] at h;cases h.1
    ·omega
    ·exact ⟨h.2.2.1,h.2.2.2.2.2.1⟩
    ·omega
   have hm:=qDd (xs:=xs) h p n;unfold blurOne lpAt;simp only
   by_cases hh:(n:Int)-(nth xs n).d=p
   ·rw [if_pos (by omega),if_pos (by rw [Bool.and_eq_true];exact ⟨decide_eq_true h20,decide_eq_true hh⟩)]
    have g:p<n:=by omega
    rw [show ((n:Int)+1-(p:Int)).toNat=n+1-p by omega];exact seg_wide hm _ (by omega)
   ·rw [if_neg (by omega),if_neg (fun a=>hh (of_decide_eq_true (Bool.and_eq_true_iff.1 a).2))]
  ·rw [if_neg h20,List.foldl_nil,if_neg (fun a=>h20 (of_decide_eq_true (Bool.and_eq_true_iff.1 a).1))]
theorem blurAll_widen {nm:Nat}{xs:List In}(a:Taken xs){p:Nat}{s:St}(h:Made8 nm s):blurAll xs p (loopsL xs) s=widen xs p s xs.length:=blur_widen a h _ (Nat.le_refl _)

def ledL (i:In) (p x:Nat) (s:St):List St:=if (i.leads&&decide ((p:Int)+i.far=x))=true then (leavesJ i s true).toList else []
def onL (i:In) (p x:Nat) (s:St):List St:=if (i.on&&decide (p+1=x))=true then (leavesJ i s false).toList else []
theorem one_leaves {nm:Nat}{i:In}{s head:St}(f:i.right=true)(g:Made8 nm s)(d:asksJ nm i s head=0)(b c:Bool):(if c=true then (leavesJ i s b).toList else [])=[]∨∃ a,(if c=true then (leavesJ i s b).toList else [])=[a]/\Made8 nm a:=by
 cases c with
 | false=>exact .inl rfl
 | true =>
  rw [if_pos rfl]
  cases h:leavesJ i s b with
  | none=>exact .inl rfl
  | some s'=>exact .inr ⟨s',rfl,made_leaves f g d h⟩
theorem leave_good {nm:Nat}{xs:List In}{p x:Nat}{K:Kn}{head:St}{C:List St}(I:Taken xs)(D:p<xs.length)(Q:K.length=xs.length)(M:MadeK nm K)(N:(K.getD p kn0).1=true)(o:asksJ nm (nth xs p) (K.getD p kn0).2 head=0)(R:p<x)(w:GoodK K x C)(n:∀ c∈C,Made8 nm c) :
  GoodK (leaveK (nth xs p) p K) x (C++ledL (nth xs p) p x (K.getD p kn0).2++onL (nth xs p) p x (K.getD p kn0).2):=by
 have d:=I.right D;have z:=qCd D (I.place p D);have k:=M.at p;have g:=qAp (nth xs p);unfold leaveK
 generalize hi:nth xs p=i at *
 generalize hS:(K.getD p kn0).2=s at *
 rw [N]
 by_cases c22:i.op=22
 ·rw [if_pos c22]
  have:ledL i p x s=[]/\onL i p x s=[]:=by
   rcases g with h|h|h|h
   ·rw [d] at h;cases h.1
   ·omega
   ·omega
   ·unfold ledL onL;rw [h.2.2.2.1,h.2.2.2.2]
    simp [c22]
  rw [this.1,this.2]
  simpa using w
 rw [if_neg c22]
 by_cases c15:i.op=15
 ·rw [if_pos c15];have B:=goes_jump d (by omega)
  have f:i.on=false:=by
   rcases g with h|h|h|h
   ·rw [d] at h;cases h.1
   ·rw [h.2.2.2.2.2.1];simp [c15]
   ·omega
   ·omega
  have r:onL i p x s=[]:=by unfold onL;rw [f];simp
  have u:ledL i p x s=if x=((p:Int)+i.far).toNat/\true=true then [s] else []:=by
   unfold ledL;rw [B.2]
   have L:leavesJ i s true=some s:=by
    unfold leavesJ
    have E:¬ threeB i.op=true:=by unfold threeB;simp;omega
    have O:¬ jumpB i.op=true:=by unfold jumpB;simp;omega
    rw [if_neg (by omega),if_neg E,if_neg (by omega),if_neg (by omega),if_neg (by omega),if_neg O]
   rw [L]
   by_cases b:(p:Int)+i.far=x
   ·rw [if_pos (by simp [b]),if_pos ⟨by omega,rfl⟩];rfl
   ·rw [if_neg (by simp [b]),if_neg (fun h=>b (by omega))]
  rw [r,u,List.append_nil];exact good_arr (by omega) w n k
 rw [if_neg c15]
 by_cases c16:16<=i.op/\i.op<=19
 ·rw [if_pos c16];have B:=goes_jump d (by omega)
  have f:i.on=true:=by
   rcases g with h|h|h|h
   ·rw [d] at h;cases h.1
   ·rw [h.2.2.2.2.2.1];simp [c15]
   ·omega
   ·omega
  have r:onL i p x s=if x=p+1/\(refS i true s false).1=true then [(refS i true s false).2] else []:=by
   unfold onL;rw [f,ref_leaves s c16]
   by_cases b:p+1=x
   ·subst b
    cases h:leavesJ i s false<;>simp
   ·rw [if_neg (by simp [b]),if_neg (fun h=>b h.1.symm)]
  have u:ledL i p x s=if x=((p:Int)+i.far).toNat/\(refS i true s true).1=true then [(refS i true s true).2] else []:=by
   unfold ledL;rw [B.2,ref_leaves s c16]
   by_cases b:(p:Int)+i.far=x
   ·have J:x=((p:Int)+i.far).toNat:=by omega
    rw [if_pos (by simp [b])]
    cases h:leavesJ i s true with
    | none=>simp
    | some s'=>rw [if_pos ⟨J,rfl⟩];rfl
   ·rw [if_neg (by simp [b]),if_neg (fun h=>b (by have:=h.1;omega))]
  have F:=one_leaves d k o false (i.on&&decide (p+1=x));have P:=one_leaves d k o true (i.leads&&decide ((p:Int)+i.far=x));refine good_swap n F P ?_
  change GoodK _ x (C++onL i p x s++ledL i p x s)
  have G:∀ c∈C++onL i p x s,Made8 nm c:=by
   intro c b
   rcases List.mem_append.1 b with y|y
   ·exact n c y
   ·rcases F with A|⟨a,A,E⟩
    ·have l:c∈([]:List St):=by rw [<- A];exact y
     cases l
    ·have l:c∈[a]:=by rw [<- A];exact y
     rw [List.mem_singleton.1 l];exact E
  rw [u];refine good_arr (nm:=nm) (by rw [arrK_len];omega) ?_ G (made_ref d k o c16);rw [r];exact good_arr (by have:=z.2.2.2 f;omega) w n (made_ref d k o c16)
 rw [if_neg c16]
 have f:i.on=true:=by
  rcases g with h|h|h|h
  ·rw [d] at h;cases h.1
  ·omega
  ·exact h.2.2.2.2.1
  ·rw [h.2.2.2.2];simp [c22]
 have r:onL i p x s=if x=p+1/\true=true then [wrS i s] else []:=by
  unfold onL;rw [f,wr_leaves d s c16 false]
  by_cases b:p+1=x
  ·rw [if_pos (by simp [b]),if_pos ⟨b.symm,rfl⟩];rfl
  ·rw [if_neg (by simp [b]),if_neg (fun h=>b h.1.symm)]
 have u:ledL i p x s=[]:=by
  unfold ledL
  rcases g with h|h|h|h
  ·rw [d] at h;cases h.1
  ·omega
  ·rw [if_neg (by simp;intro _;omega)]
  ·rw [h.2.2.2.1];simp
 rw [r,u,List.append_nil];exact good_arr (by have:=z.2.2.2 f;omega) w n (made_leaves d k o (wr_leaves d s c16 false))

theorem comes_succ (xs:List In)(a:List St)(x n:Nat):comesU xs a x (n+1)=comesU xs a x n++stepC xs a x n:=by
 unfold comesU;rw [List.range_succ,List.flatMap_append,List.append_assoc]
 simp
theorem step_congr {xs:List In}{b a:List St}{x q:Nat}(h:b.getD q []=a.getD q []):stepC xs b x q=stepC xs a x q:=by
 unfold stepC;rw [h]
theorem comes_congr {xs:List In}{b a:List St}{x:Nat}:∀ n,(∀ q,q<n->b.getD q []=a.getD q [])->comesU xs b x n=comesU xs a x n
 | 0,_=>rfl
 | n+1,h=>by rw [comes_succ,comes_succ,comes_congr n (fun q c=>h q (by omega)),step_congr (h n (by omega))]
theorem getD_app_l {l m:List St}{q:Nat}(h:q<l.length):(l++m).getD q []=l.getD q []:=by
 simp [List.getD,List.getElem?_append_left h]
theorem getD_app_at {l:List St}{s:St}:(l++[s]).getD l.length []=s:=by
 simp [List.getD]
structure Pull (xs:List In) (nm n:Nat) (K:Kn) (known:List St):Prop where
 len:known.length=n
 klen:K.length=xs.length
 made:MadeK nm K
 low:∀ x,x<n->known.getD x []=if (K.getD x kn0).1=true then (K.getD x kn0).2 else []
 high:∀ x,n<=x->x<xs.length->GoodK K x (comesU xs known x n)
 cm:∀ x,∀ c∈comesU xs known x n,Made8 nm c
theorem pull_start {xs:List In}(nm:Nat)(f:Taken xs):Pull xs nm 0 (arrK (List.replicate xs.length kn0) 0 true stZ) []:=by
 have d:∀ x,(List.replicate xs.length kn0).getD x kn0=kn0:=fun x=>by simp [List.getD,List.getElem?_replicate];split<;>rfl
 have b:∀ x,comesU xs [] x 0=[]++if x=0/\true=true then [stZ] else []:=fun x=>by
  unfold comesU stZ
  by_cases h:x=0
  ·subst h;rfl
  ·rw [if_neg h,if_neg (fun a=>h a.1)];rfl
 refine ⟨rfl,by rw [arrK_len];simp,made_arr (made_rep nm _) _ _ (made_zero nm),fun x g=>by omega,fun x _ g=>?_,fun x c h=>?_⟩
 ·rw [b];refine good_arr (nm:=nm) (by simpa using f.pos) ⟨by rw [d];simp [kn0],fun h=>absurd rfl h⟩ (fun c h=>by cases h) (made_zero nm)
 ·rw [b] at h
  split at h
  ·have a:c∈[stZ]:=by simpa using h
   rw [List.mem_singleton.1 a];exact made_zero nm
  ·simp at h
theorem asks_head {nm:Nat}{i:In}{s h a:St}(b:i.op=20->h=a):asksJ nm i s h=asksJ nm i s a:=by
 by_cases h20:i.op=20
 ·rw [b h20]
 ·unfold asksJ;simp only [h20,if_false]
theorem pull_at {xs:List In}{nm n:Nat}{K:Kn}{a:List St}(d:Taken xs)(c:n<xs.length)(h:Pull xs nm n K a):atJ xs a n=if (K.getD n kn0).1=true then ((blurK xs n K).getD n kn0).2 else []:=by
 have b:=h.high n (Nat.le_refl _) c;unfold atJ
 by_cases hne:comesU xs a n n=[]
 ·rw [hne,if_pos (show ([]:List St).length=0 from rfl),if_neg (fun f=>(b.1.1 f) hne)]
 ·rw [if_neg (by simpa using hne),if_pos (b.1.2 hne)];unfold blurK;rw [kn_set (by rw [h.klen];exact c),b.2 hne];exact (blurAll_widen d (made_joinS hne (h.cm n))).symm
theorem pull_err {xs:List In}{nm n:Nat}{K:Kn}{a:List St}(c:Taken xs)(b:n<xs.length)(h:Pull xs nm n K a)(i:runK xs nm n=.ok K)(o:(K.getD n kn0).1=true):errJ xs nm a (atJ xs a n) n=askE xs nm n (blurK xs n K):=by
 have e:=pull_at c b h;rw [if_pos o] at e;unfold errJ askE;rw [e];have hm:=made_blurK (xs:=xs) (p:=n) h.made;have y:=(hm.at n).1;rw [if_neg (by omega)]
 refine asks_head fun f=>?_
 have r:=c.right b;have u:=qCd b (c.place n b)
 have w:(nth xs n).far = -(nth xs n).d/\1<=(nth xs n).d:=by
  rcases qAp (nth xs n) with h|h|h|h
  ·rw [r] at h;cases h.1
  ·omega
  ·exact ⟨h.2.2.1,h.2.2.2.2.2.1⟩
  ·omega
 unfold headJ;rw [if_pos f]
 have k:((n:Int)-(nth xs n).d).toNat<n:=by omega
 rw [getD_app_l (by rw [h.len];exact k),h.low _ k];have l:lpAt xs n∈loopsL xs:=loopsU_mem.2 ⟨n,b,f,rfl⟩;have g:=(run_heads c (by omega) i).2 _ l n (by show (n:Int)+(nth xs n).far<n;omega) (Int.le_refl _) o
 have s:(lpAt xs n).h.toNat=((n:Int)-(nth xs n).d).toNat:=by show ((n:Int)+(nth xs n).far).toNat=_;omega
 rw [s] at g;rw [if_pos g,show ((n:Int)+(nth xs n).far).toNat=((n:Int)-(nth xs n).d).toNat by omega,blur_ne (by omega)]
theorem pull_step {xs:List In}{nm n:Nat}{K G:Kn}{b:List St}(E:Taken xs)(D:n<xs.length)(h:Pull xs nm n K b)(M:stepK xs nm n K=.ok G):Pull xs nm (n+1) G (b++[atJ xs b n]):=by
 have y:=E.right D;have r:=pull_at E D h
 have d:∀ x,comesU xs (b++[atJ xs b n]) x n=comesU xs b x n:=fun x=>comes_congr n fun q J=>getD_app_l (by rw [h.len];exact J)
 have o:(b++[atJ xs b n]).getD n []=atJ xs b n:=by have:=@getD_app_at b (atJ xs b n);rwa [h.len] at this
 rcases step_cases M with ⟨u,rfl⟩|⟨u,z,rfl⟩
 ·rw [u,if_neg (by simp)] at r
  have k:∀ x,stepC xs (b++[atJ xs b n]) x n=[]:=fun x=>by
   unfold stepC;rw [o,r,if_pos (show ([]:St).length=0 from rfl)]
  refine ⟨by simp [h.len],h.klen,h.made,fun x L=>?_,fun x s f=>?_,fun x c w=>?_⟩
  ·by_cases hxn:x=n
   ·subst hxn;rw [o,r,u,if_neg (by simp)]
   ·rw [getD_app_l (by rw [h.len];omega)];exact h.low x (by omega)
  ·rw [comes_succ,d,k,List.append_nil];exact h.high x (by omega) f
  ·rw [comes_succ,d,k,List.append_nil] at w;exact h.cm x c w
 ·rw [if_pos u] at r;have i:=made_blurK (xs:=xs) (p:=n) h.made
  have B:(blurK xs n K).length=xs.length:=by unfold blurK;rw [List.length_set];exact h.klen
  have A:((blurK xs n K).getD n kn0).1=true:=by rw [blur_at];exact u
  have k:∀ x,stepC xs (b++[atJ xs b n]) x n=ledL (nth xs n) n x ((blurK xs n K).getD n kn0).2++onL (nth xs n) n x ((blurK xs n K).getD n kn0).2:=fun x=>by
   unfold stepC;rw [o,r,if_neg (by have:=(i.at n).1;omega)]
   rfl
  have I:∀ x,n<x->x<xs.length->GoodK (blurK xs n K) x (comesU xs b x n):=fun x s f=>by
   have:=h.high x (by omega) f;unfold GoodK at this ⊢;rw [blur_ne (by omega)];exact this
  refine ⟨by simp [h.len],by rw [leaveK_len];exact B,made_leaveK y i z,fun x L=>?_,fun x s f=>?_,fun x c w=>?_⟩
  ·rw [leave_low y (by omega)]
   by_cases hxn:x=n
   ·subst hxn;rw [o,r,if_pos A]
   ·rw [getD_app_l (by rw [h.len];omega),blur_ne hxn];exact h.low x (by omega)
  ·rw [comes_succ,d,k,<- List.append_assoc];exact leave_good E D B i A z (by omega) (I x (by omega) f) (h.cm x)
  ·rw [comes_succ,d,k] at w
   rcases List.mem_append.1 w with s|s
   ·exact h.cm x c s
   ·rcases List.mem_append.1 s with f|f
    ·rcases one_leaves y (i.at n) z true ((nth xs n).leads&&decide ((n:Int)+(nth xs n).far=x)) with l|⟨a,l,F⟩
     ·have g:c∈([]:List St):=by rw [<- l];exact f
      cases g
     ·have g:c∈[a]:=by rw [<- l];exact f
      rw [List.mem_singleton.1 g];exact F
    ·rcases one_leaves y (i.at n) z false ((nth xs n).on&&decide (n+1=x)) with l|⟨a,l,F⟩
     ·have g:c∈([]:List St):=by rw [<- l];exact f
      cases g
     ·have g:c∈[a]:=by rw [<- l];exact f
      rw [List.mem_singleton.1 g];exact F
theorem pull_run {xs:List In}{nm:Nat}(d:Taken xs):∀ n,n<=xs.length->(∃ e,runK xs nm n=.error e/\runU xs nm n=.error ((e.1:Int),e.2))∨(∃ K a,runK xs nm n=.ok K/\runU xs nm n=.ok a/\Pull xs nm n K a)
 | 0,_=>.inr ⟨_,[],rfl,rfl,pull_start nm d⟩
 | n+1,hn=>by
  rcases pull_run (nm:=nm) d n (by omega) with ⟨e,f,i⟩|⟨K,a,f,i,g⟩
  ·exact .inl ⟨e,by rw [runK,f],by rw [runU,i]⟩
  ·have c:n<xs.length:=by omega
   rw [runK,runU,f,i];simp only
   cases b:stepK xs nm n K with
   | error E =>
    left
    unfold stepK at b
    split at b
    ·cases b
    rename_i hk
    split at b
    ·rename_i hE
     injection b with b;have:=pull_err d c g f (by simpa using hk);rw [this,if_neg hE,b];exact ⟨_,rfl,rfl⟩
    ·cases b
   | ok K' =>
    right
    have hE:errJ xs nm a (atJ xs a n) n=0:=by
     rcases step_cases b with ⟨hk,_⟩|⟨hk,k,_⟩
     ·have:=pull_at d c g;rw [hk,if_neg (by simp)] at this;unfold errJ;rw [this,if_pos (show ([]:St).length=0 from rfl)]
     ·rw [pull_err d c g f hk,k]
    rw [if_pos hE];exact ⟨K',_,rfl,rfl,pull_step d c g b⟩
def HoldT (t:Ty) (v:Int):Prop:=(t.k=1->t.lo<=v/\v<=t.hi)/\(t.k=2->v=t.m)
def HoldS (s:St) (R:List Int):Prop:=∀ r,r<8->HoldT (s.getD r Ty.nil) (R.getD r 0)
theorem hold_nil (v:Int):HoldT Ty.nil v:=⟨fun h=>(by cases h),fun h=>(by cases h)⟩
theorem hold_full {v:Int}(a:0<=v/\v<=18446744073709551615):HoldT fullT v:=⟨fun _=>a,fun h=>(by cases h)⟩
theorem hold_num {lo hi v:Int}(h:lo<=v/\v<=hi):HoldT (num2 lo hi) v:=⟨fun _=>h,fun h=>(by cases h)⟩
theorem HoldS.set {s:St}{R:List Int}(h:HoldS s R)(c:s.length=8)(b:R.length=8){k:Nat}{t:Ty}{v:Int}(d:HoldT t v):HoldS (s.set k t) (R.set k v):=by
 intro r a
 by_cases e:k=r
 ·subst e;rw [show (s.set k t).getD k Ty.nil=t by simp [List.getD,List.getElem?_set,c,a],show (R.set k v).getD k 0=v by simp [List.getD,List.getElem?_set,b,a]];exact d
 ·rw [show (s.set k t).getD r Ty.nil=s.getD r Ty.nil by simp [List.getD,List.getElem?_set,e],show (R.set k v).getD r 0=R.getD r 0 by simp [List.getD,List.getElem?_set,e]];exact h r a
theorem HoldS.setT {s:St}{R:List Int}(h:HoldS s R)(b:s.length=8){k:Nat}{t:Ty}(c:HoldT t (R.getD k 0)):HoldS (s.set k t) R:=by
 intro r a
 by_cases e:k=r
 ·subst e;rw [show (s.set k t).getD k Ty.nil=t by simp [List.getD,List.getElem?_set,b,a]];exact c
 ·rw [show (s.set k t).getD r Ty.nil=s.getD r Ty.nil by simp [List.getD,List.getElem?_set,e]];exact h r a
theorem within_ends {a A b B:Int}(h:withinB a A b B=true):b<=a/\A<=B:=by
 simp only [withinB,hasN,Bool.and_eq_true,decide_eq_true_eq] at h
 omega
theorem fits_hold {a b:Ty}{v:Int}(h:fitsJ a b=true)(d:HoldT a v):HoldT b v:=by
 unfold fitsJ at h
 split at h
 ·rename_i h0
  exact ⟨fun h1=>by omega,fun c=>by omega⟩
 split at h
 ·cases h
 rename_i h0 hk
 have hk:a.k=b.k:=by omega
 split at h
 ·rename_i h1
  have:=within_ends h;have:=d.1 (by omega);exact ⟨fun _=>by omega,fun c=>by omega⟩
 ·rename_i h1
  have e:=of_decide_eq_true h;exact ⟨fun c=>by omega,fun c=>by rw [d.2 (by omega),e]⟩
theorem fitsAll_hold {s h:St}{R:List Int}(b:fitsAll s h=true)(c:HoldS s R):HoldS h R:=fun r a=>by
 unfold fitsAll at b;exact fits_hold ((List.all_eq_true.1 b) r (List.mem_range.2 a)) (c r a)
theorem joinT_hold {nm:Nat}{l:List Ty}{t:Ty}{v:Int}(k:∀ u∈l,Made nm u)(d:t∈l)(h:HoldT t v):HoldT (joinT l) v:=by
 unfold joinT
 split
 ·rename_i ha
  have i:=(List.all_eq_true.1 ha) t d;simp only [likeB,Bool.and_eq_true,decide_eq_true_eq,Bool.not_eq_true',Bool.and_eq_false_iff,decide_eq_false_iff_not] at i
  split
  ·rename_i h1
   have n:joinB (spansT l)=true:=by
    unfold joinB;rw [Bool.and_eq_true];refine ⟨by cases l with|nil=>cases d|cons a b=>rfl,List.all_eq_true.2 fun s r=>?_⟩;obtain ⟨u,f,rfl⟩:=List.mem_map.1 r;have g:=(List.all_eq_true.1 ha) u f;simp only [likeB,Bool.and_eq_true,decide_eq_true_eq] at g;have w:=g.1;refine decide_eq_true ?_
    rcases k u f with c|c|c<;>(simp only;omega)
   have:=join_holds n (List.mem_map.2 ⟨t,d,rfl⟩);simp only at this;have c:=h.1 (by omega);exact hold_num ⟨by omega,by omega⟩
  ·rename_i h1
   refine ⟨fun c=>absurd c h1,fun c=>?_⟩;have y:=h.2 (by omega)
   have:t.m=(l.getD 0 Ty.nil).m:=by
    rcases i.2 with o|o
    ·omega
    ·omega
   omega
 ·exact hold_nil v
theorem joinS_hold {nm:Nat}{C:List St}{c:St}{R:List Int}(g:∀ c∈C,Made8 nm c)(b:c∈C)(h:HoldS c R):HoldS (joinS C 8) R:=fun r a=>by
 rw [joinS_at C a];refine joinT_hold (nm:=nm) (fun u f=>?_) (List.mem_map.2 ⟨c,b,rfl⟩) (h r a);obtain ⟨d,i,rfl⟩:=List.mem_map.1 f;exact (g d i).get a
theorem wideQ_hold {xs:List In}{s:St}{R:List Int}{q:Nat}(b:WR R)(a:s.length=8)(h:HoldS s R):HoldS (wideQ xs s q) R:=by
 unfold wideQ
 split
 ·split
  ·by_cases hr:(nth xs q).wr.1.toNat<8
   ·exact h.setT a (hold_full (b.2 _ hr))
   ·rw [List.set_eq_of_length_le (by omega)];exact h
  ·split
   ·exact h.setT a (hold_nil _)
   ·exact h
 ·exact h
theorem wideU_hold {nm:Nat}{xs:List In}{s:St}{R:List Int}{p:Nat}(a:WR R)(b:Made8 nm s)(h:HoldS s R):∀ n,HoldS (wideU xs s p n) R
 | 0=>h
 | n+1=>wideQ_hold a (made_wideU b p n).1 (wideU_hold a b h n)
theorem widen_hold {nm:Nat}{xs:List In}{s:St}{R:List Int}{p:Nat}(a:WR R)(b:Made8 nm s)(h:HoldS s R):∀ l,HoldS (widen xs p s l) R
 | 0=>h
 | l+1=>by
  unfold widen
  split
  ·exact wideU_hold a (qDd b p l) (widen_hold a b h l) _
  ·exact widen_hold a b h l
theorem src_hold {i:In}{s:St}{R:List Int}(h:HoldS s R)(a:i.b=8∨(0<=i.b/\i.b<=7)):HoldT (srcT i s) (srcV i R):=by
 unfold srcT srcV
 split
 ·exact hold_num ⟨Int.le_refl _,Int.le_refl _⟩
 ·exact h _ (by omega)
theorem do_hold {nm:Nat}{op:Int}{a b:Ty}{x y:Int}(c:1<=op/\op<=10)(l:Made nm a)(i:Made nm b)(o:a.k=1)(kb:b.k=1)(n:HoldT a x)(g:HoldT b y):HoldT (doT op a b) (doL op x y):=by
 have d:0<=a.lo/\a.lo<=a.hi/\a.hi<=18446744073709551615:=by rcases l with h|h|h<;>omega
 have f:0<=b.lo/\b.lo<=b.hi/\b.hi<=18446744073709551615:=by rcases i with h|h|h<;>omega
 unfold doT doR;rw [if_pos ⟨c,d.2.1,f.2.1⟩];exact hold_num (span_sound c d.1 d.2.2 f.1 f.2.2 (n.1 o) (g.1 kb))
theorem run_take {xs:List In}{nm:Nat}:∀ {n:Nat} {a:List St},runU xs nm n=.ok a->∀ x,x<=n->runU xs nm x=.ok (a.take x)/\a.length=n:=by
 intro n
 induction n with
 | zero =>
  intro a h x c
  obtain rfl:x=0:=by omega
  rw [runU] at h;injection h with h;subst h;exact ⟨rfl,rfl⟩
 | succ n ih =>
  intro a h x c;rw [runU] at h
  cases h0:runU xs nm n with
  | error e=>rw [h0] at h;cases h
  | ok k0 =>
   rw [h0] at h;simp only at h
   split at h
   ·rename_i he
    injection h with h;subst h;obtain ⟨_,b⟩:=ih h0 0 (by omega);refine ⟨?_,by simp [b]⟩
    by_cases hxn:x=n+1
    ·subst hxn;rw [runU,h0];simp only;rw [if_pos he,List.take_of_length_le (by simp [b])]
    ·have:=(ih h0 x (by omega)).1;rw [this,List.take_append_of_le_length (by omega)]
   ·cases h
theorem run_at {xs:List In}{nm n:Nat}{a:List St}(h:runU xs nm n=.ok a){x:Nat}(g:x<n):a.getD x []=atJ xs (a.take x) x/\errJ xs nm (a.take x) (a.getD x []) x=0:=by
 have b:=(run_take h (x+1) (by omega)).1;have h0:=(run_take h x (by omega)).1;have f:=(run_take h x (by omega)).2;rw [runU,h0] at b;simp only at b
 split at b
 ·rename_i he
  injection b with b
  have e:a.getD x []=atJ xs (a.take x) x:=by
   have c:(a.take x++[atJ xs (a.take x) x]).getD x []=(a.take (x+1)).getD x []:=by rw [b]
   rw [show (a.take (x+1)).getD x []=a.getD x [] by simp [List.getD,List.getElem?_take]] at c;rw [<- c]
   have d:(a.take x).length=x:=by rw [List.length_take];omega
   have:=@getD_app_at (a.take x) (atJ xs (a.take x) x);rw [d] at this;exact this
  exact ⟨e,by rw [e];exact he⟩
 ·cases b
theorem take_at9 {a:List St}{x q:Nat}(b:q<x):(a.take x).getD q []=a.getD q []:=by simp [List.getD,List.getElem?_take,b]
structure Known (xs:List In) (nm:Nat) (known:List St):Prop where
 T:Taken xs
 run:runU xs nm xs.length=.ok known
theorem Known.pull {xs:List In}{nm:Nat}{b:List St}(h:Known xs nm b){x:Nat}(d:x<=xs.length):∃ K,runK xs nm x=.ok K/\Pull xs nm x K (b.take x):=by
 have h0:=(run_take h.run x d).1
 rcases pull_run (nm:=nm) h.T x d with ⟨e,c,a⟩|⟨K,k,c,a,f⟩
 ·rw [h0] at a;cases a
 ·rw [h0] at a;injection a with a;subst a;exact ⟨K,c,f⟩
theorem Known.made {xs:List In}{nm:Nat}{a:List St}(h:Known xs nm a){p:Nat}(d:p<xs.length)(c:a.getD p []≠[]):Made8 nm (a.getD p []):=by
 obtain ⟨K,_,b⟩:=h.pull (Nat.le_refl _);rw [List.take_of_length_le (by rw [(run_take h.run 0 (by omega)).2];exact Nat.le_refl _)] at b;have:=b.low p d;rw [this] at c ⊢
 split
 ·exact b.made.at p
 ·rename_i h1;rw [if_neg h1] at c;exact absurd rfl c
theorem Known.first {xs:List In}{nm:Nat}{a:List St}(h:Known xs nm a):a.getD 0 []≠[]/\∀ R,WR R->HoldS (a.getD 0 []) R:=by
 have d:=h.T.pos;have e:=(run_at h.run d).1;have b:comesU xs (a.take 0) 0 0=[List.replicate 8 Ty.nil]:=rfl;unfold atJ at e;rw [b,if_neg (by simp)] at e;have hm:Made8 nm (joinS [List.replicate 8 Ty.nil] 8):=made_joinS (by simp) (fun c b=>by rw [List.mem_singleton.1 b];exact made_zero nm);refine ⟨fun h0=>?_,fun R i=>?_⟩
 ·have f:=(qDd (xs:=xs) hm 0 xs.length).1;rw [<- e,h0] at f
  cases f
 ·rw [e];refine widen_hold i hm (joinS_hold (nm:=nm) (fun c b=>by rw [List.mem_singleton.1 b];exact made_zero nm) (List.mem_singleton.2 rfl) fun r g=>?_) _;rw [show (List.replicate 8 Ty.nil).getD r Ty.nil=Ty.nil by rw [List.getD_eq_getElem?_getD,List.getElem?_replicate,if_pos g];rfl];exact hold_nil _
theorem Known.way {xs:List In}{nm:Nat}{a:List St}(h:Known xs nm a){p x:Nat}(s:x<xs.length)(f:p<x)(w:a.getD p []≠[]){b:Bool}(r:(b=true/\(nth xs p).leads=true/\(p:Int)+(nth xs p).far=x)∨(b=false/\(nth xs p).on=true/\p+1=x)){k:St}(l:leavesJ (nth xs p) (a.getD p []) b=some k) :
  a.getD x []≠[]/\∀ R,WR R->HoldS k R->HoldS (a.getD x []) R:=by
 obtain ⟨K,y,n⟩:=h.pull (x:=x) (by omega);have e:=(run_at h.run s).1
 have c:k∈comesU xs (a.take x) x x:=by
  unfold comesU;refine List.mem_append_right _ (List.mem_flatMap.2 ⟨p,List.mem_range.2 f,?_⟩);unfold stepC;rw [take_at9 f,if_neg (fun h0=>w (List.length_eq_zero_iff.1 h0))]
  rcases r with ⟨rfl,d,i⟩|⟨rfl,d,i⟩
  ·refine List.mem_append_left _ ?_;rw [d,Bool.true_and,if_pos (decide_eq_true i),l]
   simp
  ·refine List.mem_append_right _ ?_;rw [d,Bool.true_and,if_pos (decide_eq_true i),l]
   simp
 have g:comesU xs (a.take x) x x≠[]:=fun h0=>by rw [h0] at c;cases c
 unfold atJ at e;rw [if_neg (fun h0=>g (List.length_eq_zero_iff.1 h0))] at e;have hm:=made_joinS g (n.cm x);refine ⟨fun h0=>?_,fun R u o=>?_⟩
 ·have d:=(qDd (xs:=xs) hm x xs.length).1;rw [<- e,h0] at d
  cases d
 ·rw [e];exact widen_hold u hm (joinS_hold (n.cm x) c o) _
theorem Known.asks {xs:List In}{nm:Nat}{a:List St}(h:Known xs nm a){p:Nat}(b:p<xs.length)(c:a.getD p []≠[]):asksJ nm (nth xs p) (a.getD p []) (headJ xs (a.take p) (a.getD p []) p)=0:=by
 have:=(run_at h.run b).2;unfold errJ at this
 rwa [if_neg (fun h0=>c (List.length_eq_zero_iff.1 h0))] at this
theorem Known.back {xs:List In}{nm:Nat}{a:List St}(h:Known xs nm a){p:Nat}(c:p<xs.length)(s:a.getD p []≠[])(i:(nth xs p).op=20):∃ q:Nat,(q:Int)=p+(nth xs p).far/\q<p/\a.getD q []≠[]/\∀ R,HoldS (a.getD p []) R->HoldS (a.getD q []) R:=by
 obtain ⟨K,A,l⟩:=h.pull (x:=p) (by omega);have y:=h.T.right c;have D:=qCd c (h.T.place p c)
 have E:(nth xs p).far = -(nth xs p).d/\1<=(nth xs p).d:=by
  rcases qAp (nth xs p) with h|h|h|h
  ·rw [y] at h;cases h.1
  ·omega
  ·exact ⟨h.2.2.1,h.2.2.2.2.2.1⟩
  ·omega
 have f:((p:Int)-(nth xs p).d).toNat<p:=by omega
 have b:=h.asks c s
 have r:comesU xs (a.take p) p p≠[]:=fun h0=>by
  have e:=(run_at h.run c).1;unfold atJ at e;rw [h0,if_pos (show ([]:List St).length=0 from rfl)] at e;exact s e
 have u:=(l.high p (Nat.le_refl _) c).1.2 r;have o:lpAt xs p∈loopsL xs:=loopsU_mem.2 ⟨p,c,i,rfl⟩;have n:=(run_heads h.T (by omega) A).2 _ o p (by show (p:Int)+(nth xs p).far<p;omega) (Int.le_refl _) u
 have z:(lpAt xs p).h.toNat=((p:Int)-(nth xs p).d).toNat:=by show ((p:Int)+(nth xs p).far).toNat=_;omega
 rw [z] at n;have g:=l.low _ f;rw [take_at9 f,if_pos n] at g
 have k:headJ xs (a.take p) (a.getD p []) p=a.getD ((p:Int)-(nth xs p).d).toNat []:=by
  unfold headJ;rw [if_pos i,getD_app_l (by rw [l.len];exact f),take_at9 f]
 rw [k] at b;refine ⟨((p:Int)-(nth xs p).d).toNat,by omega,f,fun h0=>?_,fun R B=>?_⟩
 ·have w:=(l.made.at ((p:Int)-(nth xs p).d).toNat).1;rw [<- g,h0] at w
  cases w
 ·unfold asksJ at b;rw [if_neg (by omega),if_neg (by omega),if_neg (by omega),if_neg (by omega),if_neg (by omega),if_pos i] at b
  split at b
  ·cases b
  split at b
  ·rename_i hf;exact fitsAll_hold hf B
  ·cases b
structure Safe (xs:List In) (nm:Nat) (known:List St) (M:Mc):Prop where
 pc:M.pc<xs.length
 kn:known.getD M.pc []≠[]
 wr:WR M.regs
 hold:HoldS (known.getD M.pc []) M.regs
 cnt:Cnt (loopsL xs) M.turn
 ws:W16 M.ws
 cs:W16 M.cs
 mode:M.mode=0∨(M.mode=1/\(nth xs M.pc).op=21/\(nth xs M.pc).imm<=4)∨(M.mode=2/\(nth xs M.pc).op=22)
theorem safe_start {xs:List In}{nm:Nat}{a:List St}(h:Known xs nm a):Safe xs nm a startE:=by
 have f:WR (List.replicate 8 0):=⟨rfl,fun r c=>by rw [show (List.replicate 8 (0:Int)).getD r 0=0 by rw [List.getD_eq_getElem?_getD,List.getElem?_replicate,if_pos c];rfl];decide⟩;have d:W16 (List.replicate 16 0):=⟨rfl,fun r c=>by rw [show (List.replicate 16 (0:Int)).getD r 0=0 by rw [List.getD_eq_getElem?_getD,List.getElem?_replicate,if_pos c];rfl];decide⟩;exact ⟨h.T.pos,h.first.1,f,h.first.2 _ f,fun l g=>⟨Int.le_refl _,by have:=bnd_ok h.T.place l g;show (0:Int)<=l.b;omega⟩,d,d,.inl rfl⟩
theorem asks_word {nm:Nat}{i:In}{s head:St}{R:List Int}(f:i.right=true)(k:WR R)(g:HoldS s R)(a:asksJ nm i s head=0)(d:i.op=11∨i.op=12):0<=srcV i R/\srcV i R<=15:=by
 have b:=qBs f (.inl (show i.op<=12 by omega));have c:=src_hold g b.2;have l:=srcV_in k b.2
 have hA:srcA i s=srcT i s:=by unfold srcA;rw [if_pos b.1]
 unfold asksJ at a;rw [if_neg (by omega),if_neg (by omega),if_neg (by omega),if_neg (by omega),hA] at a
 rcases d with h|h
 ·rw [if_pos h] at a
  split at a
  ·cases a
  rename_i k1
  split at a
  ·cases a
  rename_i k2
  have:=c.1 (by omega)
  omega
 ·rw [if_neg (by omega),if_neg (by omega),if_neg (by omega)] at a
  split at a
  ·cases a
  rename_i k1
  split at a
  ·cases a
  rename_i k2
  have:=c.1 (by omega)
  omega
theorem asks_two {nm:Nat}{i:In}{s head:St}(d:i.right=true)(b:asksJ nm i s head=0)(f:(1<=i.op/\i.op<=10)∨(16<=i.op/\i.op<=19)):(regT s i.a).k=1/\(srcT i s).k=1:=by
 have c:=qBs d (show i.op<=12∨(16<=i.op/\i.op<=19) by omega)
 have hA:srcA i s=srcT i s:=by unfold srcA;rw [if_pos c.1]
 unfold asksJ at b;rw [if_neg (by omega),if_neg (by omega),if_neg (by omega),if_neg (by omega),if_neg (by omega),if_neg (by omega),if_neg (by omega),hA] at b
 split at b
 ·cases b
 ·rename_i k1;omega
theorem fit_head {a t:Ty}{l c:List Ty}(h:fitL (a :: l) (t :: c)=0):a.k=t.k/\(t.k=1->withinB a.lo a.hi t.lo t.hi=true):=by
 have h1:fitsL a t=0:=by
  rw [fitL] at h
  split at h
  ·exact h
  ·rename_i h1;exact Decidable.not_not.1 h1
 unfold fitsL at h1
 split at h1
 ·cases h1
 rename_i hk
 split at h1
 ·cases h1
 rename_i hw
 refine ⟨by omega,fun b=>?_⟩
 cases hb:withinB a.lo a.hi t.lo t.hi with
 | true=>rfl
 | false=>exact absurd ⟨b,hb⟩ hw
theorem asks_callE {nm:Nat}{i:In}{s head:St}{R:List Int}(F:i.right=true)(A:Made8 nm s)(Q:WR R)(P:HoldS s R)(l:asksJ nm i s head=0)(w:i.op=21):(i.imm<=4->0<=regV R 1/\regV R 1<nm)/\(i.imm=5->0<=regV R 1/\regV R 1<=15):=by
 have S:=right_call F w;unfold asksJ at l;rw [if_neg (by omega),if_neg (by omega),if_neg (by omega),if_pos w] at l;have u:=P 1 (by omega);have y:=A.get (r:=1) (by omega);have V:=Q.2 1 (by omega);have U:regV R 1=R.getD 1 0:=rfl
 obtain ⟨s0,n,J,M,I,N,G,E,rfl⟩:∃ a b c d e f g h,s=[a,b,c,d,e,f,g,h]:=by
  have B:=A.1
  match s,B with
  | [a,b,c,d,e,f,g,h],_=>exact ⟨a,b,c,d,e,f,g,h,rfl⟩
 have D:[s0,n,J,M,I,N,G,E].getD 1 Ty.nil=n:=rfl;rw [D] at u y;unfold hcheckL at l;rw [if_neg (by omega)] at l
 split at l
 ·cases l
 refine ⟨fun T=>?_,fun O=>?_⟩
 ·have L:n.k=2:=by
   have o:i.imm=0∨i.imm=1∨i.imm=2∨i.imm=3∨i.imm=4:=by omega
   rcases o with h|h|h|h|h
   ·rw [h] at l;exact (fit_head (a:=n) (t:=handleT) l).1
   ·rw [h] at l;exact (fit_head (a:=n) (t:=handleT) l).1
   ·rw [h] at l;exact (fit_head (a:=n) (t:=handleT) l).1
   ·rw [h] at l;exact (fit_head (a:=n) (t:=handleT) l).1
   ·rw [h] at l;exact (fit_head (a:=n) (t:=handleT) l).1
  have K:=u.2 L
  rcases y with h|h|h<;>omega
 ·rw [O] at l;have z:=fit_head (a:=n) (t:=numT 15) l;have X:=within_ends (z.2 rfl);have K:=u.1 z.1;have Y:(numT 15).hi=15:=rfl
  omega
theorem res_hold {h E v:Int}{f:Bool}(c:0<=h/\h<=4)(a:0<=v/\v<=18446744073709551615):HoldT (resL h).1 (valE h E f v)/\(0<=valE h E f v/\valE h E f v<=18446744073709551615):=by
 have b:h=0∨h=1∨h=2∨h=3∨h=4:=by omega
 unfold valE
 rcases b with rfl|rfl|rfl|rfl|rfl
 ·exact ⟨⟨fun _=>a,fun h=>(by cases h)⟩,a⟩
 ·rw [if_neg (by omega)]
  split
  ·exact ⟨⟨fun _=>⟨by decide,by decide⟩,fun h=>(by cases h)⟩,by decide,by decide⟩
  ·exact ⟨⟨fun _=>⟨by decide,by decide⟩,fun h=>(by cases h)⟩,by decide,by decide⟩
 ·rw [if_neg (by omega)]
  split
  ·exact ⟨⟨fun _=>⟨by decide,by decide⟩,fun h=>(by cases h)⟩,by decide,by decide⟩
  ·exact ⟨⟨fun _=>⟨by decide,by decide⟩,fun h=>(by cases h)⟩,by decide,by decide⟩
 ·rw [if_neg (by omega)]
  split
  ·exact ⟨⟨fun _=>⟨by decide,by decide⟩,fun h=>(by cases h)⟩,by decide,by decide⟩
  ·exact ⟨⟨fun _=>⟨by decide,by decide⟩,fun h=>(by cases h)⟩,by decide,by decide⟩
 ·exact ⟨⟨fun _=>a,fun h=>(by cases h)⟩,a⟩
theorem lays_hold {nm:Nat}{ev:Int×Int}{i:In}{s head:St}{M:Mc}(l:i.right=true)(n:Made8 nm s)(c:WR M.regs)(f:W16 M.ws)(A:(0<=ev.1/\ev.1<=18446744073709551615)/\0<=ev.2/\ev.2<=18446744073709551615)(g:HoldS s M.regs)(u:asksJ nm i s head=0)(D:i.op<=14∨i.op=20) :
  ∃ s',leavesJ i s false=some s'/\HoldS s' (laysE ev i M).1/\WR (laysE ev i M).1/\W16 (laysE ev i M).2:=by
 have h0:=qBp l;unfold leavesJ laysE
 by_cases c0:i.op=0
 ·have k:=qBs l (.inl (show i.op<=12 by omega));rw [if_pos c0,if_pos c0];exact ⟨_,rfl,g.set n.1 c.1 (src_hold g k.2),c.set _ (srcV_in c k.2),f⟩
 rw [if_neg c0,if_neg c0]
 by_cases c1:1<=i.op/\i.op<=10
 ·have k:=qBs l (.inl (show i.op<=12 by omega));have r:=qBn l (.inl c1);obtain ⟨z,w⟩:=asks_two l u (.inl c1);rw [if_pos (show threeB i.op=true by unfold threeB;simp;omega),if_pos c1];have y:=do_hold (x:=regV M.regs i.a) c1 (n.reg r) (made_src n k.2) z w (g _ (by omega)) (src_hold g k.2);exact ⟨_,rfl,g.set n.1 c.1 y,c.set _ (doL_in i.op (c.2 _ (by omega)) (srcV_in c k.2)),f⟩
 rw [if_neg (show ¬ threeB i.op=true by unfold threeB;simp;omega),if_neg c1]
 by_cases c2:i.op=11
 ·have E:=asks_word l c g u (.inl c2);have o:=f.2 (srcV i M.regs).toNat (by omega);rw [if_pos (.inl c2),if_pos c2];exact ⟨_,rfl,g.set n.1 c.1 (hold_full o),c.set _ o,f⟩
 rw [if_neg c2]
 by_cases c3:i.op=12
 ·have r:=qBn l (.inr (.inl c3));rw [if_neg (by omega),if_neg (by omega),if_neg (by omega),if_neg (show ¬ jumpB i.op=true by unfold jumpB;simp;omega),if_pos c3];exact ⟨_,rfl,g,c,f.set _ (c.2 _ (by omega))⟩
 rw [if_neg c3]
 by_cases c4:i.op=13
 ·rw [if_pos (.inr c4),if_pos c4]
  have o:0<=(if i.imm=0 then ev.1 else ev.2)/\(if i.imm=0 then ev.1 else ev.2)<=18446744073709551615:=by split<;>omega
  exact ⟨_,rfl,g.set n.1 c.1 (hold_full o),c.set _ o,f⟩
 rw [if_neg c4,if_neg (by omega)]
 by_cases c5:i.op=14
 ·rw [if_pos c5,if_pos c5]
  have hm:0<=i.imm/\i.imm<=18446744073709551615:=by
   obtain ⟨op,d,a,b,B⟩:=i;simp only at c5;subst c5;have h:=l;unfold In.right at h;rw [rightB_14] at h
   simp at h
   simp only
   omega
  exact ⟨_,rfl,g.set n.1 c.1 ⟨fun h=>(by cases h),fun _=>rfl⟩,c.set _ hm,f⟩
 rw [if_neg c5,if_neg c5,if_neg (by omega),if_neg (show ¬ jumpB i.op=true by unfold jumpB;simp;omega)];exact ⟨_,rfl,g,c,f⟩
theorem three_no {op:Int}(h:¬ (1<=op/\op<=10)):¬ threeB op=true:=by unfold threeB;simp;omega
theorem jump_no {op:Int}(h:¬ (16<=op/\op<=19)):¬ jumpB op=true:=by unfold jumpB;simp;omega
theorem jump_yes {op:Int}(h:16<=op/\op<=19):jumpB op=true:=by unfold jumpB;simp;omega
theorem ref_hold {nm:Nat}{i:In}{s head:St}{R:List Int}(d:i.right=true)(g:Made8 nm s)(I:WR R)(f:HoldS s R)(r:asksJ nm i s head=0)(b:16<=i.op/\i.op<=19) :
  ∃ s',leavesJ i s (holdL i.op (regV R i.a) (srcV i R))=some s'/\HoldS s' R:=by
 have c:=qBs d (.inr b);have k:=qBn d (.inr (.inr (.inl (show 16<=i.op/\i.op<=20 by omega))));obtain ⟨F,y⟩:=asks_two d r (.inr b);have w:=g.reg k;have o:=made_src g c.2
 have D:(regT s i.a).lo<=(regT s i.a).hi:=by rcases w with h|h|h<;>omega
 have z:(srcT i s).lo<=(srcT i s).hi:=by rcases o with h|h|h<;>omega
 have E:HoldT (regT s i.a) (regV R i.a):=f _ (by omega);have n:=src_hold f c.2;obtain ⟨l,u,e,G,B,_⟩:=refine_sound (h:=holdL i.op (regV R i.a) (srcV i R)) b (E.1 F) (n.1 y) rfl
 have A:refineR i.op (regT s i.a).lo (regT s i.a).hi (srcT i s).lo (srcT i s).hi (holdL i.op (regV R i.a) (srcV i R))=some (l,u):=by
  unfold refineR;rw [if_pos ⟨b,D,z⟩];exact e
 refine ⟨s.set i.a.toNat (num2 l u),?_,f.setT g.1 (hold_num ⟨G,B⟩)⟩;unfold leavesJ;rw [if_neg (by omega),if_neg (three_no (by omega)),if_neg (by omega),if_neg (by omega),if_neg (by omega),if_pos (jump_yes b),A]
def pot (xs:List In) (M:Mc):Int:=M.steps+left (loopsL xs) M.pc M.turn xs.length-(if M.mode=0 then 0 else 1)
theorem Safe.pot_le {xs:List In}{nm:Nat}{a:List St}{M:Mc}(b:Taken xs)(h:Safe xs nm a M):(M.steps:Int)+(if M.mode=0 then 1 else 0)<=pot xs M:=by
 have:=left_pos h.cnt (bnd_ok b.place) M.pc xs.length h.pc;unfold pot
 split<;>omega
theorem pot_start {xs:List In}(f:Taken xs):pot xs startE<=costT (loopsL xs) xs.length:=by
 have a:=bnd_ok f.place;have:=left_cost (ls:=loopsL xs) (p:=0) (c:=fun _=>0) (fun l d=>⟨Int.le_refl _,by have:=a l d;show (0:Int)<=l.b;omega⟩) a xs.length;have e:pot xs startE=((0:Nat):Int)+left (loopsL xs) 0 (fun _=>0) xs.length-0:=rfl;rw [e]
 omega
theorem cost_256 {xs:List In}(a:Taken xs):costT (loopsL xs) xs.length<=256:=by
 have h:=costC_le (bnd_ok a.place) xs.length;have b:=a.cost;have:=h.2.2 b
 omega
theorem safe_run {xs:List In}{ms:List Int}{b:List St}{ev:Int×Int}{M:Mc}(hK:Known xs ms.length b)(h:Safe xs ms.length b M)(h0:M.mode=0)(a4:(0<=ev.1/\ev.1<=18446744073709551615)/\0<=ev.2/\ev.2<=18446744073709551615) :
  Safe xs ms.length b (stepE ms xs ev M).2/\pot xs (stepE ms xs ev M).2<=pot xs M/\(stepE ms xs ev M).2.steps=M.steps+1:=by
 have D:=hK.T;have d:=D.right h.pc;have a5:=qCd h.pc (D.place M.pc h.pc);have A:=qAp (nth xs M.pc);have hm:=hK.made h.pc h.kn;have J:=hK.asks h.pc h.kn;have a9:=qBp d;unfold stepE;rw [if_neg (by omega),if_neg (by omega)]
 have a3:(nth xs M.pc).op≠15->(nth xs M.pc).op≠22->(nth xs M.pc).on=true:=fun F G=>by
  rcases A with h|h|h|h
  ·rw [d] at h;cases h.1
  ·rw [h.2.2.2.2.2.1];exact decide_eq_true F
  ·exact h.2.2.2.2.1
  ·rw [h.2.2.2.2];exact decide_eq_true G
 /- on to the f place -/
 have f:∀ (M':Mc) (l:St),leavesJ (nth xs M.pc) (b.getD M.pc []) false=some l->HoldS l M'.regs->WR M'.regs->W16 M'.ws->W16 M'.cs->M'.mode=0->M'.pc=M.pc+1->M'.steps=M.steps+1->(∀ t:Int,t≠M.pc->M'.turn t=M.turn t)->((nth xs M.pc).op=20->M'.turn M.pc=0)->(nth xs M.pc).op≠15->(nth xs M.pc).op≠22 ->
   Safe xs ms.length b M'/\pot xs M'<=pot xs M/\M'.steps=M.steps+1:=by
  intro M' l g hs hw X a0 z y L o E F G;have O:=a3 F G;have N:=a5.2.2.2 O;obtain ⟨U,S⟩:=hK.way (x:=M.pc+1) N (by omega) h.kn (.inr ⟨rfl,O,rfl⟩) g;obtain ⟨B,_,_,s⟩:=way_step D (k':=(M.pc:Int)+1) h.pc h.cnt o (.inl ⟨rfl,E,O⟩);refine ⟨⟨by rw [y];exact N,by rw [y];exact U,hw,by rw [y];exact S _ hw hs,B,X,a0,.inl z⟩,?_,L⟩;unfold pot;rw [z,h0,y,L,show ((M.pc+1:Nat):Int)=(M.pc:Int)+1 by omega];simp only [if_true]
  omega
 by_cases c21:(nth xs M.pc).op=21
 ·rw [if_pos c21];have hc:=right_call d c21;obtain ⟨a1,a2⟩:=asks_callE d hm h.wr h.hold J c21
  have g:leavesJ (nth xs M.pc) (b.getD M.pc []) false=some ((b.getD M.pc []).set 0 (resL (nth xs M.pc).imm).1):=by
   unfold leavesJ;rw [if_neg (by omega),if_neg (three_no (by omega)),if_neg (by omega),if_neg (by omega),if_pos c21]
  unfold callE
  by_cases s:(nth xs M.pc).imm<=4
  ·rw [if_pos s];refine ⟨⟨h.pc,h.kn,h.wr,h.hold,h.cnt,h.ws,h.cs,.inr (.inl ⟨rfl,c21,s⟩)⟩,?_,rfl⟩;unfold pot;simp only [h0,if_true];rw [if_neg (by omega)]
   omega
  rw [if_neg s]
  by_cases c5:(nth xs M.pc).imm=5
  ·rw [if_pos c5];have Q:=upW_in (M.cs.getD (regV M.regs 1).toNat 0) 1;refine f _ _ g (h.hold.set hm.1 h.wr.1 ?_) (h.wr.set _ Q) h.ws (h.cs.set _ Q) h0 rfl rfl (fun _ _=>rfl) (fun E=>by omega) (by omega) (by omega);rw [c5];exact ⟨fun _=>Q,fun h=>(by cases h)⟩
  ·rw [if_neg c5]
   have c6:(nth xs M.pc).imm=6:=by omega
   refine f _ _ g (h.hold.set hm.1 h.wr.1 ?_) (h.wr.set _ (by decide)) h.ws h.cs h0 rfl rfl (fun _ _=>rfl) (fun E=>by omega) (by omega) (by omega);rw [c6];exact ⟨fun _=>⟨by decide,by decide⟩,fun h=>(by cases h)⟩
 rw [if_neg c21]
 by_cases c22:(nth xs M.pc).op=22
 ·rw [if_pos c22];refine ⟨⟨h.pc,h.kn,h.wr,h.hold,h.cnt,h.ws,h.cs,.inr (.inr ⟨rfl,c22⟩)⟩,?_,rfl⟩;unfold pot;simp only [h0,if_true];rw [if_neg (by omega)]
  omega
 rw [if_neg c22]
 cases hgo:((nth xs M.pc).leads&&goesE (nth xs M.pc) M) with
 | true =>
  rw [if_pos rfl];obtain ⟨n,k⟩:=Bool.and_eq_true_iff.1 hgo
  by_cases c:(nth xs M.pc).op=20
  ·obtain ⟨q,hq,a8,V,a6⟩:=hK.back h.pc h.kn c
   have P:0<regV M.regs (nth xs M.pc).a/\M.turn M.pc<(nth xs M.pc).imm:=by
    unfold goesE at k;rw [if_neg (by omega),if_pos c] at k;exact of_decide_eq_true k
   have w:∀ t:Int,t≠M.pc->turnE (nth xs M.pc) M t=M.turn t:=fun t o=>by
    unfold turnE;rw [if_pos c];exact if_neg o
   have u:turnE (nth xs M.pc) M M.pc=M.turn M.pc+1:=by
    unfold turnE;rw [if_pos c];exact (if_pos rfl).trans (if_pos k)
   obtain ⟨B,_,_,s⟩:=way_step D (k':=(M.pc:Int)+(nth xs M.pc).far) h.pc h.cnt w (.inr (.inr ⟨rfl,c,P.2,u⟩))
   have e:((M.pc:Int)+(nth xs M.pc).far).toNat=q:=by omega
   refine ⟨⟨by simp only [e];omega,by simp only [e];exact V,h.wr,by simp only [e];exact a6 _ h.hold,B,h.ws,h.cs,.inl h0⟩,?_,rfl⟩;unfold pot;simp only [e,h0,if_true];rw [<- hq] at s
   omega
  ·have I:15<=(nth xs M.pc).op/\(nth xs M.pc).op<=19:=by
    rcases A with h|h|h|h
    ·rw [d] at h;cases h.1
    ·omega
    ·exact absurd h.2.1 c
    ·rw [h.2.2.2.1] at n;cases n
   have K:=goes_jump d I
   obtain ⟨l,g,r⟩:∃ l,leavesJ (nth xs M.pc) (b.getD M.pc []) true=some l/\HoldS l M.regs:=by
    by_cases i:(nth xs M.pc).op=15
    ·refine ⟨b.getD M.pc [],?_,h.hold⟩;unfold leavesJ;rw [if_neg (by omega),if_neg (three_no (by omega)),if_neg (by omega),if_neg (by omega),if_neg (by omega),if_neg (jump_no (by omega))]
    ·have:=ref_hold d hm h.wr h.hold J (by omega);unfold goesE at k;rw [if_neg i,if_neg c] at k;rw [k] at this;exact this
   have o:turnE (nth xs M.pc) M=M.turn:=by unfold turnE;rw [if_neg c]
   have Z:((M.pc:Int)+(nth xs M.pc).far).toNat<xs.length:=by omega
   obtain ⟨U,S⟩:=hK.way Z (show M.pc<((M.pc:Int)+(nth xs M.pc).far).toNat by omega) h.kn (.inl ⟨rfl,n,by omega⟩) g;obtain ⟨B,_,_,s⟩:=way_step D (k':=(M.pc:Int)+(nth xs M.pc).far) h.pc h.cnt (c':=M.turn) (fun _ _=>rfl) (.inr (.inl ⟨rfl,n,c⟩));refine ⟨⟨Z,U,h.wr,S _ h.wr r,by simp only [o];exact B,h.ws,h.cs,.inl h0⟩,?_,rfl⟩;unfold pot;simp only [h0,if_true,o];rw [show ((((M.pc:Int)+(nth xs M.pc).far).toNat:Nat):Int)=(M.pc:Int)+(nth xs M.pc).far by omega]
   omega
 | false =>
  rw [if_neg (by simp)]
  have i:(nth xs M.pc).op≠15:=fun i=>by
   have K:=goes_jump d (by omega);rw [K.2,Bool.true_and] at hgo;unfold goesE at hgo;rw [if_pos i] at hgo
   cases hgo
  have w:∀ t:Int,t≠M.pc->turnE (nth xs M.pc) M t=M.turn t:=fun t o=>by
   unfold turnE
   split
   ·exact if_neg o
   ·rfl
  have u:(nth xs M.pc).op=20->turnE (nth xs M.pc) M M.pc=0:=fun c=>by
   have n:(nth xs M.pc).leads=true:=by
    rcases A with h|h|h|h
    ·rw [d] at h;cases h.1
    ·omega
    ·exact h.2.2.2.1
    ·omega
   rw [n,Bool.true_and] at hgo;unfold turnE;rw [if_pos c];exact (if_pos rfl).trans (if_neg (by rw [hgo];simp))
  by_cases c16:16<=(nth xs M.pc).op/\(nth xs M.pc).op<=19
  ·have K:=goes_jump d (by omega);rw [K.2,Bool.true_and] at hgo;unfold goesE at hgo;rw [if_neg i,if_neg (by omega)] at hgo;obtain ⟨l,g,r⟩:=ref_hold d hm h.wr h.hold J c16;rw [hgo] at g
   have a7:laysE ev (nth xs M.pc) M=(M.regs,M.ws):=by
    unfold laysE;rw [if_neg (by omega),if_neg (by omega),if_neg (by omega),if_neg (by omega),if_neg (by omega),if_neg (by omega)]
   rw [a7];exact f { M with turn:=turnE (nth xs M.pc) M,steps:=M.steps+1,pc:=M.pc+1 } l g r h.wr h.ws h.cs h0 rfl rfl w u i c22
  ·obtain ⟨l,g,r,Y,R⟩:=lays_hold d hm h.wr h.ws a4 h.hold J (by omega);exact f _ l g r Y R h.cs h0 rfl rfl w u i c22
theorem safe_answer {xs:List In}{nm:Nat}{a:List St}{M:Mc}(hK:Known xs nm a)(h:Safe xs nm a M)(A:M.mode=1){E v:Int}{f:Bool}(u:0<=v/\v<=18446744073709551615) :
  Safe xs nm a (answerE xs M E f v)/\pot xs (answerE xs M E f v)<=pot xs M/\(answerE xs M E f v).steps=M.steps:=by
 have d:=hK.T;have k:=d.right h.pc;have n:=qCd h.pc (d.place M.pc h.pc);have hm:=hK.made h.pc h.kn
 obtain ⟨_,c,D⟩:M.mode=1/\(nth xs M.pc).op=21/\(nth xs M.pc).imm<=4:=by
  rcases h.mode with i|i|i
  ·omega
  ·exact i
  ·omega
 have y:=right_call k c
 have g:(nth xs M.pc).on=true:=by
  rcases qAp (nth xs M.pc) with h|h|h|h
  ·rw [k] at h;cases h.1
  ·omega
  ·omega
  ·rw [h.2.2.2.2];exact decide_eq_true (by omega)
 have b:=n.2.2.2 g
 have s:leavesJ (nth xs M.pc) (a.getD M.pc []) false=some ((a.getD M.pc []).set 0 (resL (nth xs M.pc).imm).1):=by
  unfold leavesJ;rw [if_neg (by omega),if_neg (three_no (by omega)),if_neg (by omega),if_neg (by omega),if_pos c]
 obtain ⟨w,r⟩:=res_hold (E:=E) (f:=f) ⟨y.1,D⟩ u;have l:=h.wr.set 0 r;obtain ⟨B,z⟩:=hK.way (x:=M.pc+1) b (by omega) h.kn (.inr ⟨rfl,g,rfl⟩) s;obtain ⟨o,_,_,G⟩:=way_step d (k':=(M.pc:Int)+1) h.pc h.cnt (c':=M.turn) (fun _ _=>rfl) (.inl ⟨rfl,fun F=>by omega,g⟩);refine ⟨⟨b,B,l,z _ l (h.hold.set hm.1 h.wr.1 w),o,h.ws,h.cs,.inl rfl⟩,?_,rfl⟩;unfold pot answerE;simp only [if_true,A];rw [if_neg (by omega),show ((M.pc+1:Nat):Int)=(M.pc:Int)+1 by omega]
 omega
theorem writesd_as {i:In}{r:Int}{b:Bool}(h:Hid (i.wr=(r,b)))(w:World):Cl 84 #[instV i.op i.d i.a i.b i.imm] w fun e f=>e=.returned (.tuple #[I4 r,.bool b])/\Bw w f:=by
 have c:=h.out;unfold In.wr at c;have:=writes_any i.op i.d i.a i.b i.imm w;rw [c] at this;exact this
theorem row_append {a wq g:World}{f:St}{v:Value}{n:Nat}{l:List Value}{o:Obj}(h:Row8 a wq f)(i:wq.ownsRow (a.heap.size+1) 153 4 v n l)(d:(wq.alloc o).grownBy g v.ownBlock):Row8 a g f:=by
 have k:=h.lt
 have b:∀ j,v.ownBlock=some j->a.heap.size+1<=j:=fun j c=>(i.lt j c).1
 refine ⟨(h.own.alloc o).kept d (.inr fun e=>?_),(h.bel.alloc h.bel.size o).grown d (by simp;omega) (fun j c=>by have:=b j c;omega)⟩;have:=b a.heap.size (by rw [<- e];rfl)
 omega
theorem wr_reg {i:In}{r:Int}(b:i.right=true)(h:i.wr=(r,true)):0<=r/\r<=7:=by
 rcases writes_op i (by rw [h]) b with ⟨a,c⟩|⟨a,c⟩
 ·rw [h] at a;injection a with a;have:=qBg b (by omega)
  omega
 ·rw [h] at a;injection a with a
  omega
theorem wideQ_no {xs:List In}{s:St}{q:Nat}{r:Int}(h:(nth xs q).wr=(r,false)):wideQ xs s q=s:=by
 unfold wideQ;rw [h,if_neg (by simp)]
theorem wideQ_yes {xs:List In}{s:St}{q r:Nat}(h:(nth xs q).wr=((r:Int),true)):wideQ xs s q=if (s.getD r Ty.nil).k=1 then s.set r fullT else if (s.getD r Ty.nil).k=2 then s.set r Ty.nil else s:=by
 unfold wideQ regT;rw [h,if_pos rfl]
 rfl
theorem wideU_succ (xs:List In)(s:St){p q:Nat}(h:p<=q):wideU xs s p (q+1-p)=wideQ xs (wideU xs s p (q-p)) q:=by
 rw [show q+1-p=(q-p)+1 by omega,wideU,show p+(q-p)=q by omega]
theorem row_of {c wr:World}{a b:St}(h:Row8 c wr a)(e:a=b):Row8 c wr b:=e ▸ h
theorem at_some (vm:Value)(cb co D:Nat)(xs:List In)(p:Nat)(vk:Value)(K:List St)(nm B:Nat)(w:World)(hc:SeesI w (.slice (some ⟨cb,co,none⟩) xs.length D) xs)(hk:Ss B w vk K)(hT:Taken xs)(hp:p<xs.length)(be:p<=K.length)(al:∀ s∈K,s=[]∨Made8 nm s)(a6:∀ c∈comesU xs K p p,Made8 nm c)(T:comesU xs K p p≠[]) :
  Cl 51 #[.agg #[vm,.slice (some ⟨cb,co,none⟩) xs.length D],I4 p,vk] w fun e w'=>∃ u,e=.returned u/\w'.ownsRow w.heap.size 153 4 u 8 (flatT (widen xs p (joinS (comesU xs K p p) 8) xs.length))/\Bw w w':=by
 obtain ⟨i0,hi,az,ba,ax⟩:=qCb;obtain ⟨CS,ap⟩:∃ CS,Hid (CS=(flatT (List.replicate 8 Ty.nil)).toArray):=⟨_,rfl⟩
 have a9:∀ M:World,(Instr.makeSlice 124 (I4 8) (I4 8)).run Tryz.prog M=.ok (.slice (some ⟨M.heap.size,0,none⟩) 8 8) (M.alloc (.cells CS 153)):=fun M=>by rw [ap.out];exact run_make8 M
 have HC:=keepJ hc;have HK:=keepJ hk;have HT:=keepJ hT;have ab:=keepJ al;have bx:xs.length<=64:=hT.top;have a3:=comes_len xs K p p;obtain ⟨C,am⟩:∃ C,Hid (comesU xs K p p=C):=⟨_,rfl⟩;rw [am.out] at a3 a6 T ⊢;have ao:=keepJ a6
 have cj:C.length<=200:=by omega
 have bd:0<C.length:=List.length_pos_iff.2 T
 have cd:((C.length:Int)==0)=false:=by simp;exact T
 have bc:=keepJ T;have HJ:Hid (Made8 nm (joinS C 8)):=made_joinS T a6;obtain ⟨W,HW,a2,c8⟩:∃ W,Hid (W=w.alloc (Obj.cells #[vm,.slice (some ⟨cb,co,none⟩) xs.length D] 25))/\Hid (Bw w W)/\W.heap.size=w.heap.size+1 :=
  ⟨_,rfl,keepJ (by go_grown),by simp⟩
 have HM:Hid (W.cell? ⟨w.heap.size,0,none⟩=some vm/\W.cell? ⟨w.heap.size,1,none⟩=some (.slice (some ⟨cb,co,none⟩) xs.length D)):=by
  rw [HW.out];exact ⟨by go_cell,by go_cell⟩
 clear hc hk hT al a6 T a3;go_enter Tryz.func51,Tryz.ntmps51
 go_wp2_with (go_at_call 82;rw [<- HW.out];go_must (refine (comes_any vm cb co D xs p vk K nm B _ (HC.out.below a2.out) (HK.out.below a2.out (Nat.le_refl _)) HT.out hp be ab.out).mono ?_);rintro e P ⟨u,rfl,hS,hb⟩;go_must (rw [am.out] at hS;have HS:=keepJ hS;have av:=keepJ hb;have ah:=hb.size;obtain ⟨ag,ac,ua,uc,rfl,c7,ce,_⟩:=hS.get (i:=0) bd;clear hS hb))
 have aj:Hid (∀ M,Bw P M->M.cell? ⟨w.heap.size,0,none⟩=some vm/\M.cell? ⟨w.heap.size,1,none⟩=some (.slice (some ⟨cb,co,none⟩) xs.length D)/\SeesI M (.slice (some ⟨cb,co,none⟩) xs.length D) xs):=fun M hb =>
  have a8:Bw W M:=av.out.trans (hb.mono ah)
  ⟨(a8.cell (p:=⟨w.heap.size,0,none⟩) (show w.heap.size<W.heap.size by omega)).trans HM.out.1,(a8.cell (p:=⟨w.heap.size,1,none⟩) (show w.heap.size<W.heap.size by omega)).trans HM.out.2,HC.out.below (a2.out.trans (a8.mono (by omega)))⟩
 clear HM ab HK HC
 go_loopw [9] (fun v9 wr=>∃ r:Nat,r<=8/\v9=I4 r/\Hid (Row8 P wr (stU C r))) (fun v9 _=>8-(intOf v9).toNat)
 case atStart =>
  refine ⟨0,by omega,rfl,?_,?_⟩
  ·rw [stU_zero,ap.out];exact own8 P _ (Nat.le_refl _) _ (by decide)
  ·exact (Below.refl _ _).alloc (Nat.le_refl _) _
 case round =>
  rename World=>w3
  obtain ⟨r,hr,rfl,o⟩:=hrel
  by_cases hr8:r<8
  ·have b3:(r:Int)<8:=by omega
   clear a9;go_wp2
   go_loopw [10,11] (fun v10 v11 wq=>∃ i:Nat,i<=C.length/\v11=I4 i/\Hid (wq.ownsRow (P.heap.size+1) 153 4 v10 ((colT C r).take i).length (flatT ((colT C r).take i)))/\Hid (Row8 P wq (stU C r))) (fun _ v11 _=>C.length-(intOf v11).toNat)
   case atStart=>exact ⟨0,by omega,rfl,World.ownsRow_nil _ _ _ _,o.out⟩
   case round =>
    clear o
    rename World=>w4
    obtain ⟨i,c6,rfl,HL,o⟩:=hrel;have aw:=o.out.lt
    by_cases hic:i<C.length
    ·have ay:(i:Int)<C.length:=by omega
     obtain ⟨a,ca,a0,a5,A⟩:=(HS.out.below o.out.bel (Nat.le_refl _)).at (i:=i) hic;obtain ⟨s,a7⟩:∃ s,Hid (C.getD i []=s):=⟨_,rfl⟩;rw [a7.out] at a0 a5 A
     have b2:Made8 nm s:=by
      rw [<- a7.out,List.getD_eq_getElem?_getD,List.getElem?_eq_getElem hic];exact ao.out _ (List.getElem_mem _)
     have h8:=b2.1;rw [h8] at a0 A;obtain ⟨g,c,hv,hg,cc,bw⟩:=qCe A;injection hv with bh c9 b1;subst bh;subst b1;obtain ⟨⟨N,tl,th,tm⟩,y⟩:∃ t,Hid (s.getD r Ty.nil=t):=⟨_,rfl⟩
     have J:w4.cell? ⟨g,r*4,none⟩=some (I4 N):=by have:=A.cellAt (r*4+0) (by omega);rw [flatT_at s r 0 (by omega) (by omega),y.out] at this;exact this
     have I:w4.cell? ⟨g,r*4+1,none⟩=some (U8 tl):=by have:=A.cellAt (r*4+1) (by omega);rw [flatT_at s r 1 (by omega) (by omega),y.out] at this;exact this
     have F:w4.cell? ⟨g,r*4+2,none⟩=some (U8 th):=by have:=A.cellAt (r*4+2) (by omega);rw [flatT_at s r 2 (by omega) (by omega),y.out] at this;exact this
     have G:w4.cell? ⟨g,r*4+3,none⟩=some (I4 tm):=by have:=A.cellAt (r*4+3) (by omega);rw [flatT_at s r 3 (by omega) (by omega),y.out] at this;exact this
     have E:Hid ((colT C r).take (i+1)=(colT C r).take i++[⟨N,tl,th,tm⟩]):=by show _=_;rw [colT_take C r hic,a7.out,y.out]
     have bq:((colT C r).take i).length<=200:=by rw [List.length_take];omega
     obtain ⟨L,bb⟩:∃ L,Hid ((colT C r).take i=L):=⟨_,rfl⟩;rw [bb.out] at HL E bq;clear a5 A
     go_wp2_with (at_builtin;go_must (refine qAw rfl (.tmp 34) (.tmp 42) 123 rfl (P.heap.size+1) 153 i0 (tyV Ty.nil) Tryz.underlying123 hi az ba ax rfl _ L rfl (HL.out.alloc _) _ [⟨N,tl,th,tm⟩] rfl (SeesT.lit w4 _ [⟨N,tl,th,tm⟩] _ 1 rfl rfl (by simp)) (by unfold maxLen;(first|omega|(simp;omega))) (by first|omega|(simp;omega)) (by first|omega|(simp;omega)) ?_);intro v6 w6 a1 af;go_must (have f:Hid (Row8 P w6 (stU C r)):=row_append o.out HL.out af;have b9:=keepJ a1;clear af a1))
     go_roundw
     case rel=>exact ⟨i+1,by omega,by go_num,by show World.ownsRow _ _ _ _ _ _ _;rw [E.out];exact b9.out,f.out⟩
     case measure=>simp [intOf];omega
    ·have ay:¬ (i:Int)<C.length:=by omega
     have E:Hid ((colT C r).take i=colT C r):=by show _=_;rw [List.take_of_length_le (by simp [colT];omega)]
     rw [E.out] at HL;have bl:=keepJ (qCs HL.out);obtain ⟨N,tl,th,tm,y⟩:∃ k lo hi m,Hid (joinT (colT C r)=⟨k,lo,hi,m⟩):=⟨_,_,_,_,rfl⟩
     have b6:Hid (∀ u∈colT C r,Made nm u):=fun u hu=>by
      obtain ⟨c,hc,rfl⟩:=List.mem_map.1 hu;exact (ao.out c hc).get hr8
     have bk:Hid (colT C r≠[]):=fun h=>bc.out (List.map_eq_nil_iff.1 h)
     have bg:Hid ((colT C r).length<=1048576):=by show _<=_;simp [colT];omega
     go_wp2_with (go_at_call 83;go_must (refine (joined_as (nm:=nm) bl.out bk.out b6.out bg.out y).mono ?_);rintro e w6 ⟨rfl,z⟩;go_must (have f:=keepJ (o.out.below z);obtain ⟨J,I,F,G⟩:=f.out.cells (stU_len C r) hr8;have f0:=f.out.own.frozenAt (r*4);have f1:=f.out.own.frozenAt (r*4+1);have f2:=f.out.own.frozenAt (r*4+2);have f3:=f.out.own.frozenAt (r*4+3);clear z))
     go_roundw
     case rel=>exact ⟨r+1,by omega,by go_num,by have:=f.out.set (stU_len C r) hr8 ⟨N,tl,th,tm⟩;rw [<- y.out,show (stU C r).set r (joinT (colT C r))=stU C (r+1) from stU_step C hr8,y.out] at this;exact this⟩
     case measure=>simp [intOf];omega
  ·have b3:¬ (r:Int)<8:=by omega
   have E:Hid (stU C r=joinS C 8):=by show _=_;rw [show r=8 by omega];exact stU_all C
   rw [E.out] at o;go_wp2;clear a9
   go_loopw [12] (fun v12 wr=>∃ l:Nat,l<=xs.length/\v12=I4 l/\Hid (Row8 P wr (widen xs p (joinS C 8) l))) (fun v12 _=>xs.length-(intOf v12).toNat)
   case atStart=>exact ⟨0,by omega,rfl,o.out⟩
   case round =>
    clear o
    rename World=>w4
    obtain ⟨l,hl,rfl,o⟩:=hrel;have aw:=o.out.lt;obtain ⟨m0,m1,X⟩:=aj.out w4 o.out.bel
    by_cases hlx:l<xs.length
    ·have bj:(l:Int)<xs.length:=by omega
     have ci:(xs.length:Int)<=64:=by omega
     obtain ⟨Y,b7,b5⟩:=codeAt X hlx;clear X;obtain ⟨⟨op,d,a,b,bf⟩,HI⟩:∃ i,Hid (nth xs l=i):=⟨_,rfl⟩;rw [HI.out] at Y;obtain ⟨c0,c1,c2,c3,c4⟩:=Y;simp only at c0 c1 c2 c3 c4;have U:Hid (widen xs p (joinS C 8) (l+1)=if headB xs p l=true then wideU xs (widen xs p (joinS C 8) l) p (l+1-p) else widen xs p (joinS C 8) l):=rfl
     have Q:Hid (headB xs p l=(decide (op=20)&&decide ((l:Int)-d=p))):=by show _=_;unfold headB;rw [HI.out]
     by_cases h20:op=20
     ·subst h20
      have bo:1<=d/\d<=63:=by
       have hr:=HT.out.right hlx;rw [HI.out] at hr
       rcases qAp ⟨20,d,a,b,bf⟩ with h|h|h|h
       ·rw [hr] at h;cases h.1
       ·exact absurd h.2.2.1 (by simp)
       ·exact ⟨h.2.2.2.2.2.1,h.2.2.2.2.2.2.1⟩
       ·exact absurd h.2.1 (by simp)
      obtain ⟨ch,bz⟩:=bo
      by_cases hd:(l:Int)-d=p
      ·have bi:((l:Int)-d != p)=false:=by simp [hd]
       have E:Hid (widen xs p (joinS C 8) (l+1)=wideU xs (widen xs p (joinS C 8) l) p (l+1-p)):=by show _=_;rw [U.out,Q.out,if_pos (by simp [hd])]
       have ae:Hid (Made8 nm (widen xs p (joinS C 8) l)):=qDd HJ.out p l;obtain ⟨sw,bn⟩:∃ sw,Hid (widen xs p (joinS C 8) l=sw):=⟨_,rfl⟩;rw [bn.out] at E ae o
       have ck:p<=l:=by omega
       clear U Q;go_wp2
       go_loopw [13] (fun v13 wq=>∃ q:Nat,p<=q/\q<=l+1/\v13=I4 q/\Hid (Row8 P wq (wideU xs sw p (q-p)))) (fun v13 _=>l+1-(intOf v13).toNat)
       case atStart=>exact ⟨p,by omega,by omega,rfl,by show Row8 _ _ _;rw [Nat.sub_self];exact o.out⟩
       case round =>
        clear o m0 m1 c0 c1 c2 c3 c4
        rename World=>w5
        obtain ⟨q,bm,cf,rfl,o⟩:=hrel;have bu:=o.out.lt;obtain ⟨m0,m1,X⟩:=aj.out w5 o.out.bel
        by_cases hqI:q<=l
        ·have b8:(q:Int)<=l:=by omega
         have aq:q<xs.length:=by omega
         have c5:(q:Int)<xs.length:=by omega
         obtain ⟨Y,b7,b5⟩:=codeAt X aq;clear X;have au:=HT.out.right aq;obtain ⟨⟨Z,d',a',b',O⟩,aa⟩:∃ i,Hid (nth xs q=i):=⟨_,rfl⟩;rw [aa.out] at Y au;obtain ⟨c0,c1,c2,c3,c4⟩:=Y;simp only at c0 c1 c2 c3 c4;obtain ⟨ri,rb,V⟩:∃ r b,Hid (In.wr ⟨Z,d',a',b',O⟩=(r,b)):=⟨_,_,rfl⟩;have HQ:=keepJ (wideU_succ xs sw bm);have ai:Hid (Made8 nm (wideU xs sw p (q-p))):=made_wideU ae.out p _;obtain ⟨st,b4⟩:∃ st,Hid (wideU xs sw p (q-p)=st):=⟨_,rfl⟩;rw [b4.out] at HQ ai o;have h8:=ai.out.1
         have ak:Hid ((nth xs q).wr=(ri,rb)):=by show _=_;rw [aa.out];exact V.out
         cases rb with
         | false =>
          go_wp2_with (go_at_call 84;go_must (refine (writesd_as (i:=⟨Z,d',a',b',O⟩) V _).mono ?_);rintro e w6 ⟨rfl,z⟩;go_must (have f:=keepJ (o.out.below z);clear z))
          go_roundw
          case rel=>exact ⟨q+1,by omega,by omega,by go_num,row_of f.out (by rw [HQ.out];exact (wideQ_no ak.out).symm)⟩
          case measure=>simp [intOf];omega
         | true =>
          have ar:=wr_reg au V.out;obtain ⟨n,rfl⟩:=Int.eq_ofNat_of_zero_le ar.1
          have R:n<8:=by omega
          have cg:(n:Int)<8:=by omega
          clear ar;have a4:=keepJ (wideQ_yes (s:=st) ak.out);obtain ⟨⟨N,tl,th,tm⟩,y⟩:∃ t,Hid (st.getD n Ty.nil=t):=⟨_,rfl⟩;rw [y.out] at a4
          by_cases hk1:N=1
          ·subst hk1
           go_wp2_with (first
            | (go_at_call 84;go_must (refine (writesd_as (i:=⟨Z,d',a',b',O⟩) V _).mono ?_);rintro e w6 ⟨rfl,z⟩;go_must (have f:=keepJ (o.out.below z);obtain ⟨J,I,F,G⟩:=f.out.cells h8 R;rw [y.out] at J I F G;simp only at J I F G;clear z))
            | (go_at_call 85;go_must (refine (jfull_any _).mono ?_);rintro e w7 ⟨rfl,ad⟩;go_must (have S:=keepJ (f.out.below ad);clear J I F G;obtain ⟨J,I,F,G⟩:=S.out.cells h8 R;rw [y.out] at J I F G;simp only at J I F G;have f0:=S.out.own.frozenAt (n*4);have f1:=S.out.own.frozenAt (n*4+1);have f2:=S.out.own.frozenAt (n*4+2);have f3:=S.out.own.frozenAt (n*4+3);clear ad)))
           go_roundw
           case rel=>exact ⟨q+1,by omega,by omega,by go_num,row_of (S.out.set h8 R fullT) (by rw [HQ.out,a4.out];rfl)⟩
           case measure=>simp [intOf];omega
          ·have bs:(N==1)=false:=by simpa using hk1
           by_cases hk2:N=2
           ·subst hk2
            go_wp2_with (go_at_call 84;go_must (refine (writesd_as (i:=⟨Z,d',a',b',O⟩) V _).mono ?_);rintro e w6 ⟨rfl,z⟩;go_must (have f:=keepJ (o.out.below z);obtain ⟨J,I,F,G⟩:=f.out.cells h8 R;rw [y.out] at J I F G;simp only at J I F G;have f0:=f.out.own.frozenAt (n*4);have f1:=f.out.own.frozenAt (n*4+1);have f2:=f.out.own.frozenAt (n*4+2);have f3:=f.out.own.frozenAt (n*4+3);clear z))
            go_roundw
            case rel=>exact ⟨q+1,by omega,by omega,by go_num,row_of (f.out.set h8 R Ty.nil) (by rw [HQ.out,a4.out];rfl)⟩
            case measure=>simp [intOf];omega
           ·have bt:(N==2)=false:=by simpa using hk2
            go_wp2_with (go_at_call 84;go_must (refine (writesd_as (i:=⟨Z,d',a',b',O⟩) V _).mono ?_);rintro e w6 ⟨rfl,z⟩;go_must (have f:=keepJ (o.out.below z);obtain ⟨J,I,F,G⟩:=f.out.cells h8 R;rw [y.out] at J I F G;simp only at J I F G;clear z))
            go_roundw
            case rel=>exact ⟨q+1,by omega,by omega,by go_num,row_of f.out (by rw [HQ.out,a4.out,if_neg hk1,if_neg hk2])⟩
            case measure=>simp [intOf];omega
        ·have b8:¬ (q:Int)<=l:=by omega
         have bp:Hid (q-p=l+1-p):=by show _=_;omega
         rw [bp.out] at o;go_wp2
         go_roundw
         case rel=>exact ⟨l+1,by omega,by go_num,row_of o.out E.out.symm⟩
         case measure=>simp [intOf];omega
      ·have bi:((l:Int)-d != p)=true:=by simpa using hd
       have E:Hid (widen xs p (joinS C 8) l=widen xs p (joinS C 8) (l+1)):=by show _=_;rw [U.out,Q.out,if_neg (by simp [hd])]
       clear U Q;go_wp2
       go_roundw
       case rel=>exact ⟨l+1,by omega,by go_num,row_of o.out E.out⟩
       case measure=>simp [intOf];omega
     ·have br:(op != 20)=true:=by simpa using h20
      have E:Hid (widen xs p (joinS C 8) l=widen xs p (joinS C 8) (l+1)):=by show _=_;rw [U.out,Q.out,if_neg (by simp [h20])]
      clear U Q;go_wp2
      go_roundw
      case rel=>exact ⟨l+1,by omega,by go_num,row_of o.out E.out⟩
      case measure=>simp [intOf];omega
    ·have bj:¬ (l:Int)<xs.length:=by omega
     have E:Hid (l=xs.length):=by show _=_;omega
     go_wp2;go_ret;have h1:=o.out;rw [E.out] at h1;exact ⟨_,rfl,qAx h1.own (by omega),(a2.out.trans ((av.out.trans (h1.bel.mono ah)).mono (by omega)))⟩
def inqR (ms:List Int) (xs:List In):Except (Int×Int) Kn :=
 if mapsJ ms=false then .error (0,2) else if errL xs≠0 then .error ((checkL xs).1,errL xs)
 else match runK xs ms.length xs.length with
  | .error e=>.error (e.1,e.2)
  | .ok K=>.ok K
def judgeR (ms:List Int) (xs:List In):Int×Int:=match inqR ms xs with|.error e=>e|.ok _=>(0,0)
theorem first_lt {p:Nat->Bool}{n k:Nat}(h:first p n=some k):k<n:=by
 unfold first at h
 exact List.mem_range.1 (List.mem_of_find?_eq_some h)
theorem crossF_mem:∀ (r a:List Lp)(t:Int),crossF a r=some t->∃ l∈r,l.t=t
 | [],a,t,h=>by simp [crossF] at h
 | x :: r,a,t,h=>by
  rw [crossF] at h
  split at h
  ·injection h with h;exact ⟨x,by simp,h⟩
  ·obtain ⟨l,b,e⟩:=crossF_mem r _ t h;exact ⟨l,by simp [b],e⟩
theorem check_place (xs:List In):0<=(checkL xs).1/\((checkL xs).1=0∨(checkL xs).1<xs.length):=by
 unfold checkL
 split
 ·exact ⟨by decide,.inl rfl⟩
 split
 ·exact ⟨by decide,.inl rfl⟩
 split
 ·rename_i k hk
  have:=first_lt hk;exact ⟨by simp,.inr (by simp;omega)⟩
 split
 ·rename_i t ht
  obtain ⟨l,a,rfl⟩:=crossF_mem _ _ _ ht;obtain ⟨k,hk,_,rfl⟩:=loopsU_mem.1 a;exact ⟨by simp [lpAt],.inr (by simp [lpAt];omega)⟩
 split
 ·rename_i k hk
  have:=first_lt hk;exact ⟨by simp,.inr (by simp;omega)⟩
 split
 ·exact ⟨by decide,.inl rfl⟩
 ·exact ⟨by decide,.inl rfl⟩
theorem linq_maps (b i:Value)(ms:List Int)(w:World)(hm:Sees .i64 w b ms)(d:Hid (mapsJ ms=false)) :
  Cl 48 #[.agg #[b,i]] w fun e f=>e=.returned (.tuple #[.slice none 0 0,I4 0,I4 2])/\Bw w f:=by
 have g:=keepJ hm
 obtain ⟨k,mcap,rfl⟩:∃ a c,b=.slice a ms.length c:=by obtain ⟨a,c,h,_⟩:=hm;exact ⟨a,c,h⟩
 go_enter Tryz.func48,Tryz.ntmps48
 go_wp2_with (go_at_call 71;go_must (refine (lmapsFit_any _ ms _ (g.out.below ((Below.refl _ _).alloc (Nat.le_refl _) _) (Nat.le_refl _)) d).mono ?_);rintro e f ⟨rfl,rfl⟩)
 go_ret3
 exact ⟨rfl,by go_grown⟩
theorem linq_flow (f:Value)(ms:List Int)(i:Value)(xs:List In)(w:World)(hm:Sees .i64 w f ms)(g:SeesI w i xs)(n:Hid (mapsJ ms=true)){P E:Int}(r:Hid (P=(checkL xs).1))(u:Hid (E=errL xs))(d:E≠0) :
  Cl 48 #[.agg #[f,i]] w fun e l=>e=.returned (.tuple #[.slice none 0 0,I4 P,I4 E])/\Bw w l:=by
 have o:=keepJ hm;have y:=keepJ g
 obtain ⟨D,mcap,rfl⟩:∃ a c,f=.slice a ms.length c:=by obtain ⟨a,c,h,_⟩:=hm;exact ⟨a,c,h⟩
 obtain ⟨A,s,rfl⟩:∃ a c,i=.slice a xs.length c:=by obtain ⟨a,c,h,_⟩:=g;exact ⟨a,c,h⟩
 have z:¬ E=0:=d;clear hm g d;go_enter Tryz.func48,Tryz.ntmps48
 go_wp2_with (first
  | (go_at_call 71;go_must (refine (lmapsFit_any _ ms _ (o.out.below ((Below.refl _ _).alloc (Nat.le_refl _) _) (Nat.le_refl _)) n).mono ?_);rintro e l ⟨rfl,rfl⟩)
  | (go_at_call 72;go_must (refine (check_as (y.out.below ((Below.refl _ _).alloc (Nat.le_refl _) _)) r u).mono ?_);rintro e B ⟨rfl,b⟩;go_must (have k:=qAl b;clear b)))
 go_ret3
 exact ⟨rfl,k⟩
theorem linquire_any (f:Value)(ms:List Int)(g:Value)(xs:List In)(w:World)(hm:Sees .i64 w f ms)(k:SeesI w g xs) :
  Cl 48 #[.agg #[f,g]] w fun e d =>
   (∃ P E:Int,inqR ms xs=.error (P,E)/\E≠0/\(0<=P/\(P=0∨P<xs.length))/\e=.returned (.tuple #[.slice none 0 0,I4 P,I4 E])/\Bw w d) ∨
   (∃ (K:Kn) (kb:Nat),inqR ms xs=.ok K/\Taken xs/\mapsJ ms=true/\runK xs ms.length xs.length=.ok K/\e=.returned (.tuple #[.slice (some ⟨kb,0,none⟩) xs.length xs.length,I4 0,I4 0])/\Hp d kb 156 (flatK K)/\w.heap.size<=kb/\K.length=xs.length/\MadeK ms.length K/\Bw w d):=by
 unfold inqR
 cases hmf:mapsJ ms with
 | false =>
  refine (linq_maps f g ms w hm hmf).mono ?_;rintro e d ⟨rfl,c⟩;exact .inl ⟨0,2,by simp,by decide,⟨by decide,.inl rfl⟩,rfl,c⟩
 | true =>
  by_cases hE:errL xs=0
  ·have n:Taken xs:=check_ok.1 hE;obtain ⟨a,cap,u,F,D,I,z⟩:=id k;obtain ⟨b,off,rfl,B,A⟩:=z (fun e=>by have:=n.pos;rw [e] at this;simp at this);subst u;refine (linq_run f ms b off cap xs w hm k hmf hE.symm).mono ?_;rintro e d (⟨p,E,i,o,G,rfl,c⟩|⟨K,kb,i,rfl,y,l,r,s,c⟩)
   ·refine .inl ⟨p,E,?_,o,⟨by omega,.inr (by omega)⟩,rfl,c⟩;rw [if_neg (by simp),if_neg (by simp [hE]),i]
   ·refine .inr ⟨K,kb,?_,n,rfl,i,rfl,y,l,r,s,c⟩;rw [if_neg (by simp),if_neg (by simp [hE]),i]
  ·refine (linq_flow f ms g xs w hm k hmf rfl rfl hE).mono ?_;rintro e d ⟨rfl,c⟩;exact .inl ⟨(checkL xs).1,errL xs,by rw [if_neg (by simp),if_pos hE],hE,check_place xs,rfl,c⟩
theorem ljudge_any (f:Value)(ms:List Int)(d:Value)(xs:List In)(w:World)(hm:Sees .i64 w f ms)(g:SeesI w d xs) :
  Cl 23 #[.agg #[f,d]] w fun e u=>∃ P E:Int,judgeR ms xs=(P,E)/\(E=0↔∃ K,inqR ms xs=.ok K)/\(0<=P/\(P=0∨P<xs.length))/\e=.returned (.tuple #[I4 P,I4 E])/\Bw w u:=by
 have n:=keepJ hm;have s:=keepJ g
 obtain ⟨F,mcap,rfl⟩:∃ a c,f=.slice a ms.length c:=by obtain ⟨a,c,h,_⟩:=hm;exact ⟨a,c,h⟩
 obtain ⟨J,o,rfl⟩:∃ a c,d=.slice a xs.length c:=by obtain ⟨a,c,h,_⟩:=g;exact ⟨a,c,h⟩
 clear hm g;go_enter Tryz.func23,Tryz.ntmps23
 go_wp2_with (go_at_call 48;go_must (refine (linquire_any _ ms _ xs _ (n.out.below ((Below.refl _ _).alloc (Nat.le_refl _) _) (Nat.le_refl _)) (s.out.below ((Below.refl _ _).alloc (Nat.le_refl _) _))).mono ?_);rintro e L (⟨P,E,hi,l,r,rfl,i⟩|⟨K,kb,hi,B,z,D,rfl,I,y,A,G,i⟩)<;>(have k:=keepJ (qAl i);have b:=keepJ hi;clear i hi))
 ·go_ret2;exact ⟨P,E,by unfold judgeR;rw [b.out],⟨fun h=>absurd h l,fun ⟨K,h⟩=>by rw [b.out] at h;cases h⟩,r,rfl,k.out⟩
 ·go_ret2;exact ⟨0,0,by unfold judgeR;rw [b.out],⟨fun _=>⟨K,b.out⟩,fun _=>rfl⟩,⟨by decide,.inl rfl⟩,rfl,k.out⟩
def nilV:Value:=.slice none 0 0
theorem own_block {w:World}{base:Nat}{e:TypeId}{z:Nat}{v:Value}{n:Nat}{xs:List Value}(h:w.ownsRow base e z v n xs)(i:0<n):∃ g cap,v=.slice (some ⟨g,0,none⟩) n cap/\base<=g/\g<w.heap.size/\n<=cap:=by
 rcases h with ⟨k,⟨rfl,rfl⟩|⟨g,cap,d,rfl,b,a,c,f,_⟩⟩
 ·omega
 ·exact ⟨g,cap,rfl,b,(Array.getElem?_eq_some_iff.1 a).1,c⟩
theorem getD_some {vs:List Value}{k:Nat}(a:k<vs.length):vs[k]? = some (vs.getD k nilV):=by simp [List.getD,List.getElem?_eq_getElem a]
structure Rs where
 E:Int
 f:Bool
 v:Int
 o:Bool
 k:Int
 u:Int
def Rs.nil:Rs:=⟨0,false,0,false,0,0⟩
def traceE (ms:List Int) (xs:List In) (ev:Int×Int):Nat->Mc->List Rs->List Ac
 | 0,_,_=>[]
 | n+1,M,rs=>(stepE ms xs ev M).1 ::
  (if (stepE ms xs ev M).1.k=4 then [] else if (stepE ms xs ev M).1.k=2 then
   (match rs with|[]=>[]|r :: rest=>traceE ms xs ev n (answerE xs (stepE ms xs ev M).2 r.E r.f r.v) rest)
  else traceE ms xs ev n (stepE ms xs ev M).2 rs)
theorem step_kinds {ms:List Int}{xs:List In}{ev:Int×Int}{M:Mc}(h0:M.mode=0) :
  ((stepE ms xs ev M).1.k=4/\(stepE ms xs ev M).2.mode=2)∨((stepE ms xs ev M).1.k=2/\(stepE ms xs ev M).2.mode=1)∨(((stepE ms xs ev M).1.k=1∨(stepE ms xs ev M).1.k=3)/\(stepE ms xs ev M).2.mode=0):=by
 unfold stepE;rw [if_neg (by omega),if_neg (by omega)]
 split
 ·unfold callE
  split
  ·exact .inr (.inl ⟨rfl,rfl⟩)
  ·split
   ·exact .inr (.inr ⟨.inl rfl,h0⟩)
   ·exact .inr (.inr ⟨.inr rfl,h0⟩)
 ·split
  ·exact .inl ⟨rfl,rfl⟩
  ·split
   ·exact .inr (.inr ⟨.inl rfl,h0⟩)
   ·exact .inr (.inr ⟨.inl rfl,h0⟩)
theorem trace_end {ms:List Int}{xs:List In}{ev:Int×Int}{M:Mc}{n:Nat}{rs:List Rs}(h:(stepE ms xs ev M).1.k=4):traceE ms xs ev (n+1) M rs=[(stepE ms xs ev M).1]:=by
 cases rs<;>(rw [traceE];rw [if_pos h])
theorem trace_none {ms:List Int}{xs:List In}{ev:Int×Int}{M:Mc}{n:Nat}(h:(stepE ms xs ev M).1.k=2):traceE ms xs ev (n+1) M []=[(stepE ms xs ev M).1]:=by
 rw [traceE,if_neg (by omega),if_pos h]
theorem trace_ask {ms:List Int}{xs:List In}{ev:Int×Int}{M:Mc}{n:Nat}{r:Rs}{rs:List Rs}(h:(stepE ms xs ev M).1.k=2):traceE ms xs ev (n+1) M (r :: rs)=(stepE ms xs ev M).1 :: traceE ms xs ev n (answerE xs (stepE ms xs ev M).2 r.E r.f r.v) rs:=by
 rw [traceE,if_neg (by omega),if_pos h]
theorem trace_on {ms:List Int}{xs:List In}{ev:Int×Int}{M:Mc}{n:Nat}{rs:List Rs}(h:(stepE ms xs ev M).1.k≠4/\(stepE ms xs ev M).1.k≠2):traceE ms xs ev (n+1) M rs=(stepE ms xs ev M).1 :: traceE ms xs ev n (stepE ms xs ev M).2 rs:=by
 cases rs<;>(rw [traceE];rw [if_neg h.1,if_neg h.2])
end Go.Proofs.YtmdhljoicnommaaGreat
