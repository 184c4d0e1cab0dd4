/-
  JInq
  JLeave
  JAsk
  JBlur
  JStep
-/
import Derived.Test.YtmdhljoicnommaaGreatMS34
import Derived.Test.YtmdhljoicnommaaGreatMS38
import Derived.Test.YtmdhljoicnommaaGreatMS25
import Derived.Deep.CutRange
namespace Go.Proofs.YtmdhljoicnommaaGreat
set_option maxHeartbeats 12800000
open Go.RowKit
set_option linter.unusedVariables false
set_option linter.unusedSimpArgs false
set_option maxRecDepth 100000
structure Inq (w0 w:World) (qb kb nm:Nat) (vl:Value) (cb co ccap:Nat) (xs:List In) (ls:List Lp) (K:Kn):Prop where
 b0:Below w0.heap.size w0 w
 q:Hp w qb 147 (qC nm (.slice (some ⟨cb,co,none⟩) xs.length ccap) vl kb xs.length)
 k:Hp w kb 156 (flatK K)
 len:K.length=xs.length
 ne:qb≠kb
 hq:w0.heap.size<=qb
 hk:w0.heap.size<=kb
 e8:Eight K
 code:SeesI w0 (.slice (some ⟨cb,co,none⟩) xs.length ccap) xs
 lo:SeesL w0 vl ls
theorem Inq.grown {w0 w c:World}{i kb nm k g a:Nat}{f:Value}{xs:List In}{ls:List Lp}{K b:Kn}(h:Inq w0 w i kb nm f k g a xs ls K)(d:w.grownBy c (some kb))(o:Hp c kb 156 (flatK b))(l:b.length=K.length)(n:Eight b):Inq w0 c i kb nm f k g a xs ls b :=
 ⟨h.b0.trans (qAg d h.hk h.b0.size),h.q.grown d (fun e=>h.ne (by injection e)),o,l.trans h.len,h.ne,h.hq,h.hk,n,h.code,h.lo⟩
theorem Inq.below {w0 w i:World}{f kb nm g d a:Nat}{b:Value}{xs:List In}{ls:List Lp}{K:Kn}(h:Inq w0 w f kb nm b g d a xs ls K)(c:Bw w i):Inq w0 i f kb nm b g d a xs ls K :=
 h.grown (qAu c _) (h.k.below c h.k.lt) rfl h.e8
theorem Inq.at {w0 w:World}{A kb nm g k c:Nat}{o:Value}{xs:List In}{ls:List Lp}{K:Kn}(h:Inq w0 w A kb nm o g k c xs ls K){p:Nat}(f:p<xs.length):At w g (k+p*5) (nth xs p)/\g<w0.heap.size/\xs.length<=c/\c<=9223372036854775807:=by
 obtain ⟨a,cap,r,z,s,E,u⟩:=h.code;injection r with y D n;subst y n;obtain ⟨b,off,he,d,i⟩:=u (fun e=>by rw [e] at f;simp at f);injection he with he;injection he with B l;subst B l;refine ⟨(i p f).below h.b0 d,d,z,by unfold maxLen at s;omega⟩
theorem arrK_len (K:Kn)(p:Nat)(r:Bool)(s:St):(arrK K p r s).length=K.length:=by
 unfold arrK
 split
 ·rfl
 ·split<;>simp
theorem arrK_eight {K:Kn}(h:Eight K)(p:Nat)(r:Bool){s:St}(a:s.length=8):Eight (arrK K p r s):=by
 unfold arrK
 split
 ·exact h
 ·split
  ·exact h.set p a
  ·exact h.set p (qCq _ _ _)
def inC (i:In):List Value:=[.int .i64 i.op,.int .i64 i.d,.int .i64 i.a,.int .i64 i.b,.int .i64 i.imm]
theorem Hp.inst {w:World}{b:Nat}{t:TypeId}{op d a b' c:Int}(h:Hp w b t (inC ⟨op,d,a,b',c⟩)):Box w b op d a b' c:=⟨h.cell rfl,h.cell rfl,h.cell rfl,h.cell rfl,h.cell rfl⟩
def Taken2 (w wc:World) (i:In) (r:Bool) (s:St) (v4 v5:Value):Prop:=∃ ib sb,v4=.pointer (some ⟨ib,0,none⟩)/\v5=.pointer (some ⟨sb,0,none⟩)/\Hp wc ib 43 (inC i)/\Hp wc sb 156 (stC r s)/\Below w.heap.size w wc/\w.heap.size<=ib/\w.heap.size<=sb/\ib≠sb
def MadeK (nm:Nat) (K:Kn):Prop:=∀ p∈K,Made8 nm p.2
theorem MadeK.at {nm:Nat}{K:Kn}(h:MadeK nm K)(k:Nat):Made8 nm (K.getD k kn0).2:=by
 by_cases hk:k<K.length
 ·rw [show K.getD k kn0=K[k] by simp [List.getD,List.getElem?_eq_getElem hk]];exact h _ (List.getElem_mem hk)
 ·rw [show K.getD k kn0=kn0 by simp [List.getD,List.getElem?_eq_none (show K.length<=k by omega)]];exact made_zero nm
theorem MadeK.set {nm:Nat}{K:Kn}(h:MadeK nm K)(k:Nat){p:Bool×St}(b:Made8 nm p.2):MadeK nm (K.set k p):=fun q c=>by
 rcases List.mem_or_eq_of_mem_set c with a|a
 ·exact h q a
 ·rw [a];exact b
theorem MadeK.eight {nm:Nat}{K:Kn}(h:MadeK nm K):Eight K:=fun p a=>(h p a).1
theorem made_joinU {nm:Nat}{h s:St}(b:Made8 nm h)(d:Made8 nm s)(n:Nat):Made8 nm (joinU h s n):=by
 refine ⟨qCq _ _ _,fun t c=>?_⟩;unfold joinU at c;obtain ⟨k,f,rfl⟩:=List.mem_map.1 c;have a:=List.mem_range.1 f
 split
 ·exact made_join2 (b.get a) (d.get a)
 ·exact b.get a
theorem made_arr {nm:Nat}{K:Kn}(h:MadeK nm K)(p:Nat)(r:Bool){s:St}(a:Made8 nm s):MadeK nm (arrK K p r s):=by
 unfold arrK
 split
 ·exact h
 ·split
  ·exact h.set p a
  ·exact h.set p (made_joinU (h.at p) a 8)
theorem larrive_inq {w0 w:World}{b kb nm n l a:Nat}{c:Value}{xs:List In}{ls:List Lp}{K:Kn}(h:Inq w0 w b kb nm c n l a xs ls K){i:Int}{p:Nat}(he:Hid (i=p))(u:p<xs.length)(r:Bool){s:St}(d:Made8 nm s)(o:MadeK nm K) :
  Cl 74 #[.pointer (some ⟨b,0,none⟩),I4 i,stV r s] w fun e f=>e=.returned (.tuple #[])/\w.grownBy f (some kb)/\Inq w0 f b kb nm c n l a xs ls (arrK K p r s)/\MadeK nm (arrK K p r s):=by
 rw [he.out];refine (larrive_any b kb p nm _ c K r s w (by rw [h.len];exact h.q) h.k h.ne h.e8 (by rw [h.len];exact u) d (o.at p)).mono ?_;rintro e f ⟨rfl,g,y⟩;exact ⟨rfl,g,h.grown g y (arrK_len _ _ _ _) (arrK_eight h.e8 p r d.1),made_arr o p r d⟩
def leaveK (i:In) (p:Nat) (K:Kn):Kn :=
 if i.op=22 then K
 else if i.op=15 then arrK K ((p:Int)+i.far).toNat (K.getD p kn0).1 (K.getD p kn0).2
 else if 16<=i.op/\i.op<=19 then arrK (arrK K (p+1) (refS i (K.getD p kn0).1 (K.getD p kn0).2 false).1 (refS i (K.getD p kn0).1 (K.getD p kn0).2 false).2) ((p:Int)+i.far).toNat (refS i (K.getD p kn0).1 (K.getD p kn0).2 true).1 (refS i (K.getD p kn0).1 (K.getD p kn0).2 true).2
 else arrK K (p+1) (K.getD p kn0).1 (wrS i (K.getD p kn0).2)
theorem lwritten_as {nm:Nat}{i:In}{s a:St}(r:Bool)(w:World)(h:Hid (wrS i s=a))(d:Made8 nm s)(b:i.right=true):Cl 119 #[stV r s,i.v] w fun e c=>e=.returned (stV r a)/\Bw w c:=by
 rw [<- h.out];exact lwritten_any nm i r s w d b
theorem lrefined_as {nm:Nat}{i:In}{r d:Bool}{s f:St}{c:Bool}(w:World)(h:Hid (refS i r s c=(d,f)))(n:Made8 nm s)(k:0<=i.a/\i.a<=7)(g:i.b=8∨(0<=i.b/\i.b<=7)):Cl 118 #[stV r s,i.v,.bool c] w fun e l=>e=.returned (stV d f)/\Bw w l:=by
 have:=lrefined_any nm i r s c w n k g;rw [h.out] at this;exact this
theorem lleave_one (w0 w:World)(qb kb nm z y J p:Nat)(vl:Value)(xs:List In)(ls:List Lp)(K:Kn)(h:Inq w0 w qb kb nm vl z y J xs ls K)(hp:p<xs.length)(bg:xs.length<=64)(hM:MadeK nm K)(op d a b c:Int)(HI:Hid (nth xs p=⟨op,d,a,b,c⟩))(r:Bool)(s:St)(HK:Hid (K.getD p kn0=(r,s)))(f:Int)(l o:Bool)(HF:Hid (f=In.far ⟨op,d,a,b,c⟩))(HL:Hid (l=In.leads ⟨op,d,a,b,c⟩))(HO:Hid (o=In.on ⟨op,d,a,b,c⟩))(KR:Kn)(hc:(op=22/\KR=K)∨(op=15/\∃ A:Nat,A<xs.length/\Hid ((p:Int)+f=A)/\(0<=f/\f<=64)/\KR=arrK K A r s)∨((op≠22/\op≠15/\¬ (16<=op/\op<=19))/\Hid (In.right ⟨op,d,a,b,c⟩=true)/\p+1<xs.length/\∃ s',Hid (wrS ⟨op,d,a,b,c⟩ s=s')/\Hid (Made8 nm s')/\KR=arrK K (p+1) r s')∨((op=16∨op=17∨op=18∨op=19)/\p+1<xs.length/\Hid (0<=a/\a<=7)/\Hid (b=8∨(0<=b/\b<=7))/\∃ A:Nat,A<xs.length/\Hid ((p:Int)+f=A)/\(0<=f/\f<=64)/\∃ r1 r2 s1 s2,Hid (refS ⟨op,d,a,b,c⟩ r s false=(r1,s1))/\Hid (refS ⟨op,d,a,b,c⟩ r s true=(r2,s2))/\Hid (Made8 nm s1)/\Hid (Made8 nm s2)/\KR=arrK (arrK K (p+1) r1 s1) A r2 s2)):Cl 77 #[.pointer (some ⟨qb,0,none⟩),I4 p] w fun e u=>e=.returned (.tuple #[])/\Inq w0 u qb kb nm vl z y J xs ls KR:=by
 obtain ⟨am,bk,hN,bi⟩:=h.at hp;rw [HI.out] at am;obtain ⟨c0,c1,c2,c3,c4⟩:=am;simp only at c0 c1 c2 c3 c4
 have bf:(p:Int)<xs.length:=by omega
 have h8:s.length=8:=by have:=h.e8.at p;rw [HK.out] at this;exact this
 have ao:StAt w kb (p*33) r s:=h.k.state h.e8 (by rw [h.len];exact hp) HK.out;have ap:=h.q.lt;have av:=h.k.lt;have bm:=h.b0.size
 have I:Hid (∀ u,Bw w u->u.cell? ⟨qb,1,none⟩=some (.slice (some ⟨z,y,none⟩) xs.length J)/\u.cell? ⟨qb,3,none⟩=some (.slice (some ⟨kb,0,none⟩) xs.length xs.length)/\u.cell? ⟨z,y+p*5,none⟩=some (I4 op)/\u.cell? ⟨z,y+p*5+1,none⟩=some (I4 d)/\u.cell? ⟨z,y+p*5+2,none⟩=some (I4 a)/\u.cell? ⟨z,y+p*5+3,none⟩=some (I4 b)/\u.cell? ⟨z,y+p*5+4,none⟩=some (I4 c)/\StAt u kb (p*33) r s):=fun u a2=>by
  have hA:=At.below (i:=⟨op,d,a,b,c⟩) ⟨c0,c1,c2,c3,c4⟩ a2 (by omega);exact ⟨(h.q.below a2 ap).cell rfl,(h.q.below a2 ap).cell rfl,hA.1,hA.2.1,hA.2.2.1,hA.2.2.2.1,hA.2.2.2.2,ao.below a2 av⟩
 clear c0 c1 c2 c3 c4 ao
 have ag:Made8 nm s:=by have:=hM.at p;rw [HK.out] at this;exact this
 have HM:=keepJ hM;have a4:=keepJ ag;have a1:=keepJ (sizeJ (r:=r) h8)
 have be:(p:Int)<64:=by omega
 have aq:Hid ((p:Int)+1=((p+1:Nat):Int)):=by show _=_;omega
 clear ag hM;go_enter Tryz.func77,Tryz.ntmps77
 go_wp2_with (fail)
 go_cut [4,5] from 9 (fun v4 v5 wc=>Taken2 w wc ⟨op,d,a,b,c⟩ r s v4 v5)
 case rest =>
  obtain ⟨ib,sb,rfl,rfl,a0,ad,ax,bn,bl,bh⟩:=hcut;have HQ:=keepJ (h.below ax);have U:=keepJ a0;have M:=keepJ ad;obtain ⟨y0,y1,y2,y3,y4⟩:=id a0.inst;have N:=a0.lt;have P:=ad.lt;have bj:kb<wc.heap.size:=HQ.out.k.lt
  have au:ib≠kb:=by omega
  have ar:sb≠kb:=by omega
  clear a0 ad I h
  rcases hc with ⟨rfl,rfl⟩|⟨rfl,A,ae,a5,hf,rfl⟩|⟨O,HR,a8,s',HW,ab,rfl⟩|⟨O,a8,HA,HB,A,ae,a5,hf,r1,r2,s1,s2,bb,aw,ab,ba,rfl⟩
  ·go_wp2_with (first
    | (go_at_call 114;go_must (refine (goes_one (i:=⟨_,d,a,b,c⟩) (show Hid _ from rfl) HF HL HO _).mono ?_);rintro e w1 ⟨rfl,n⟩;go_must (have D:=keepJ (HQ.out.below n);have B:=keepJ (M.out.below n P).oneR;obtain ⟨x0,x1,x2,x3,x4⟩:=Box.below U.out.inst n N;have a6:=n.size;clear y0 y1 y2 y3 y4))
    | fail)
   exact bodyPost_end (results_none rfl _ _ _) rfl ⟨rfl,D.out⟩
  ·go_wp2_with (first
    | (go_at_call 114;go_must (refine (goes_one (i:=⟨_,d,a,b,c⟩) (show Hid _ from rfl) HF HL HO _).mono ?_);rintro e w1 ⟨rfl,n⟩;go_must (have D:=keepJ (HQ.out.below n);have B:=keepJ (M.out.below n P).oneR;obtain ⟨x0,x1,x2,x3,x4⟩:=Box.below U.out.inst n N;have a6:=n.size;clear y0 y1 y2 y3 y4))
    | ((with_reducible refine wpList_load_mid ?_ 156 (.tmp 5) ?_ sb 0 ?_ (stC r s) _ B.out Tryz.underlying156 ?_ a1.out ?_);rfl;rfl;rfl;rfl)
    | (go_at_call 74;go_must (refine (larrive_inq D.out a5 ae r a4.out HM.out).mono ?_);rintro e w2 ⟨rfl,b2,ah,b4⟩;go_must (have F:=keepJ ah;clear b2 ah b4))
    | fail)
   exact bodyPost_end (results_none rfl _ _ _) rfl ⟨rfl,F.out⟩
  ·have o1:¬ op=22:=O.1;have o2:¬ op=15:=O.2.1
   have o3:¬ op=16:=by omega
   have o4:¬ op=17:=by omega
   have o5:¬ op=18:=by omega
   have o6:¬ op=19:=by omega
   clear O
   go_wp2_with (first
    | (go_at_call 114;go_must (refine (goes_one (i:=⟨_,d,a,b,c⟩) (show Hid _ from rfl) HF HL HO _).mono ?_);rintro e w1 ⟨rfl,n⟩;go_must (have D:=keepJ (HQ.out.below n);have B:=keepJ (M.out.below n P).oneR;obtain ⟨x0,x1,x2,x3,x4⟩:=Box.below U.out.inst n N;have a6:=n.size;clear y0 y1 y2 y3 y4))
    | ((with_reducible refine wpList_load_mid ?_ 156 (.tmp 5) ?_ sb 0 ?_ (stC r s) _ B.out Tryz.underlying156 ?_ a1.out ?_);rfl;rfl;rfl;rfl)
    | (go_at_call 119;go_must (refine (lwritten_as (i:=⟨_,d,a,b,c⟩) r w1 HW a4.out HR.out).mono ?_);rintro e w2 ⟨rfl,E⟩;go_must (have F:=keepJ (D.out.below E);clear E))
    | (go_at_call 74;go_must (refine (larrive_inq F.out aq a8 r ab.out HM.out).mono ?_);rintro e w3 ⟨rfl,L,R,a3⟩;go_must (have ac:=keepJ R;clear L R a3))
    | fail)
   exact bodyPost_end (results_none rfl _ _ _) rfl ⟨rfl,ac.out⟩
  ·rcases O with rfl|rfl|rfl|rfl
   all_goals go_wp2_with (first
    | (go_at_call 114;go_must (refine (goes_one (i:=⟨_,d,a,b,c⟩) (show Hid _ from rfl) HF HL HO _).mono ?_);rintro e w1 ⟨rfl,n⟩;go_must (have D:=keepJ (HQ.out.below n);have B:=keepJ (M.out.below n P).oneR;obtain ⟨x0,x1,x2,x3,x4⟩:=Box.below U.out.inst n N;have a6:=n.size;clear y0 y1 y2 y3 y4))
    | ((with_reducible refine wpList_load_mid ?_ 156 (.tmp 5) ?_ sb 0 ?_ (stC r s) _ B.out Tryz.underlying156 ?_ a1.out ?_);rfl;rfl;rfl;rfl)
    | (go_at_call 118;have hq1:=B;go_must (refine (lrefined_as (i:=⟨_,d,a,b,c⟩) w1 bb a4.out HA.out HB.out).mono ?_);rintro e w2 ⟨rfl,E⟩;go_must (have F:=keepJ (D.out.below E);have ay:=keepJ ((U.out.below n N).below E (by omega));have b3:=keepJ ((M.out.below n P).below E (by omega));clear hq1 B E))
    | (go_at_call 74;have b7:=F;clear b7;go_must (refine (larrive_inq F.out aq a8 r1 ab.out HM.out).mono ?_);rintro e w3 ⟨rfl,L,R,a3⟩;go_must (have ac:=keepJ R;have b9:=keepJ a3;have af:=keepJ (ay.out.grown L (fun e=>au (by injection e)));have aj:=keepJ (b3.out.grown L (fun e=>ar (by injection e)));have ai:=keepJ aj.out.oneR;have bd:=af.out.lt;have bc:=aj.out.lt;obtain ⟨z0,z1,z2,z3,z4⟩:=af.out.inst;clear L R a3 F x0 x1 x2 x3 x4))
    | ((with_reducible refine wpList_load_mid ?_ 156 (.tmp 5) ?_ sb 0 ?_ (stC r s) _ ai.out Tryz.underlying156 ?_ a1.out ?_);rfl;rfl;rfl;rfl)
    | (go_at_call 118;go_must (refine (lrefined_as (i:=⟨_,d,a,b,c⟩) w3 aw a4.out HA.out HB.out).mono ?_);rintro e w4 ⟨rfl,al⟩;go_must (have b6:=keepJ (ac.out.below al);clear ai al))
    | (go_at_call 74;go_must (refine (larrive_inq b6.out a5 ae r2 ba.out b9.out).mono ?_);rintro e w5 ⟨rfl,b8,ak,b5⟩;go_must (have az:=keepJ ak;clear b8 ak b5))
    | fail)
   all_goals exact bodyPost_end (results_none rfl _ _ _) rfl ⟨rfl,az.out⟩
 case first =>
  refine wp_region_held_drew (S:=fun u=>u.cell? ⟨qb,1,none⟩=some (.slice (some ⟨z,y,none⟩) xs.length J)/\u.cell? ⟨qb,3,none⟩=some (.slice (some ⟨kb,0,none⟩) xs.length xs.length)/\u.cell? ⟨z,y+p*5,none⟩=some (I4 op)/\u.cell? ⟨z,y+p*5+1,none⟩=some (I4 d)/\u.cell? ⟨z,y+p*5+2,none⟩=some (I4 a)/\u.cell? ⟨z,y+p*5+3,none⟩=some (I4 b)/\u.cell? ⟨z,y+p*5+4,none⟩=some (I4 c)/\StAt u kb (p*33) r s) (by kernel_rfl) (I.out _ (Below.refl _ _).drew) (fun hHeld=>?_);refine tkGo [0,1,2,3,4,5,6,7,8,9,10,11,12] ?_
  repeat (refine tkO (v:=?_) rfl ?_ ?_;rotate_left;(intro wy hSw;(try dsimp only at hSw);go_simp;(first|done|with_reducible rfl));try simp only [Act.put,p1q,p2q,p3q,p4q,p5q,p6q])
  refine tkEnd ?_;refine wpAnyH_take (i:=13) rfl (by kernel_rfl) (by kernel_rfl) (by kernel_rfl) (fun _ _ _ h=>h) (yieldsIf_load_mid (by rfl) _ _ rfl _ _ rfl (stC r s) _ (fun w h=>h.2.2.2.2.2.2.2) Tryz.underlying156 rfl (sizeJ h8)) (by assumption) ?_
  try simp only [Act.put,p1q,p2q,p3q,p4q,p5q,p6q]
  refine runT 14 15 (by kernel_rfl) rfl rfl (by rfl) (by rfl) (fun KK hK=>?_) (fun KK hK=>?_)
  ·go_simp;refine hK.out _ _ (I.out _ ((Below.refl _ _).alloc (Nat.le_refl _) _).drew) (fun hHeld=>?_);clear hK KK
   try simp only [Act.put,p1q,p2q,p3q,p4q,p5q,p6q]
   refine runO 15 (by kernel_rfl) rfl (by rfl) (fun KK hK=>?_);go_simp;obtain ⟨Y,HY,g,Q,G,a9⟩:∃ Y,Hid (Y=(w.alloc (Obj.cells #[I4 0,I4 0,I4 0,I4 0,I4 0] 43)).alloc (Obj.cells #[.bool false,I4 0,U8 0,U8 0,I4 0,I4 0,U8 0,U8 0,I4 0,I4 0,U8 0,U8 0,I4 0,I4 0,U8 0,U8 0,I4 0,I4 0,U8 0,U8 0,I4 0,I4 0,U8 0,U8 0,I4 0,I4 0,U8 0,U8 0,I4 0,I4 0,U8 0,U8 0,I4 0] 156))/\Hid (Hp Y w.heap.size 43 (inC ⟨0,0,0,0,0⟩))/\Hid (Hp Y (w.heap.size+1) 156 zeroC)/\Bw w Y/\w.heap.size+2<=Y.heap.size:=⟨_,rfl,(Hp.new w (inC ⟨0,0,0,0,0⟩) _).alloc _,keepJ (by have:=Hp.new (w.alloc (Obj.cells #[I4 0,I4 0,I4 0,I4 0,I4 0] 43)) zeroC 156;simpa [zeroC] using this),by go_grown,by simp⟩;rw [<- HY.out];clear HY;refine hK.out _ _ (I.out _ G.drew) (fun hHeld=>?_);clear hK KK
   try simp only [Act.put,p1q,p2q,p3q,p4q,p5q,p6q]
   have n0:Y.cell? ⟨w.heap.size,0,none⟩=some (I4 0):=g.out.cell rfl;have f0:=g.out.frozen 0;have n1:Y.cell? ⟨w.heap.size,1,none⟩=some (I4 0):=g.out.cell rfl;have f1:=g.out.frozen 1;have A:Y.cell? ⟨w.heap.size,2,none⟩=some (I4 0):=g.out.cell rfl;have f2:=g.out.frozen 2;have n3:Y.cell? ⟨w.heap.size,3,none⟩=some (I4 0):=g.out.cell rfl;have f3:=g.out.frozen 3;have n4:Y.cell? ⟨w.heap.size,4,none⟩=some (I4 0):=g.out.cell rfl;have f4:=g.out.frozen 4;refine runO 16 (by kernel_rfl) rfl (by rfl) (fun KK hK=>?_);go_simp;clear n0 n1 A n3 n4 f0 f1 f2 f3 f4;obtain ⟨V,HV,aa,X,T,b1⟩:∃ V,Hid (V=(((((Y.setCell ⟨w.heap.size,0,none⟩ (I4 op)).setCell ⟨w.heap.size,1,none⟩ (I4 d)).setCell ⟨w.heap.size,2,none⟩ (I4 a)).setCell ⟨w.heap.size,3,none⟩ (I4 b)).setCell ⟨w.heap.size,4,none⟩ (I4 c)))/\Hid (Hp V w.heap.size 43 (inC ⟨op,d,a,b,c⟩))/\Hid (Hp V (w.heap.size+1) 156 zeroC)/\Bw w V/\w.heap.size+2<=V.heap.size:=⟨_,rfl,g.out.sets (inC ⟨op,d,a,b,c⟩) 0,Q.out.fars (by omega) (inC ⟨op,d,a,b,c⟩) 0,G.trans (qAg (qAd _ (inC ⟨op,d,a,b,c⟩) Y 0) (by omega) G.size),Nat.le_trans a9 (qAd _ (inC ⟨op,d,a,b,c⟩) Y 0).size⟩;rw [<- HV.out];clear HV g Q;refine hK.out _ _ (I.out _ T.drew) (fun hHeld=>?_);clear hK KK
   try simp only [Act.put,p1q,p2q,p3q,p4q,p5q,p6q]
   refine runO 17 (by kernel_rfl) rfl (by rfl) (fun KK hK=>?_)
   have a7:V.drew.there (w.heap.size+1) 0 (stC r s).toArray.size:=by rw [qCw r h8];exact X.out.drew.there (by rw [qAv];omega)
   refine wp_store_mid _ _ _ rfl _ _ (List.toArray _) rfl rfl a7 (sizeJA h8) (stC_all r s) ?_;have Z:Bw w (V.drew.setCells (w.heap.size+1) 0 (stC r s)):=(T.drew).trans (qAg (qAd _ _ _ _) (by omega) (show w.heap.size<=V.heap.size by omega));refine hK.out _ _ (I.out _ Z) (fun hHeld=>?_);clear hK KK
   try simp only [Act.put,p1q,p2q,p3q,p4q,p5q,p6q]
   refine wpAnyH_done (by kernel_rfl) ?_ _;go_wp2
   go_meet
   case rel=>exact ⟨w.heap.size,(w.heap.size+1),rfl,rfl,aa.out.drew.fars (by omega) _ _,X.out.drew.box qAv h8,Z,by omega,by omega,by omega⟩
  ·go_simp;refine hK.out _ _ (I.out _ ((Below.refl _ _).alloc (Nat.le_refl _) _).drew) (fun hHeld=>?_);clear hK KK
   try simp only [Act.put,p1q,p2q,p3q,p4q,p5q,p6q]
   refine runO 14 (by kernel_rfl) rfl (by rfl) (fun KK hK=>?_);go_simp;obtain ⟨Y,HY,g,Q,G,a9⟩:∃ Y,Hid (Y=(w.alloc (Obj.cells #[.bool false,I4 0,U8 0,U8 0,I4 0,I4 0,U8 0,U8 0,I4 0,I4 0,U8 0,U8 0,I4 0,I4 0,U8 0,U8 0,I4 0,I4 0,U8 0,U8 0,I4 0,I4 0,U8 0,U8 0,I4 0,I4 0,U8 0,U8 0,I4 0,I4 0,U8 0,U8 0,I4 0] 156)).alloc (Obj.cells #[I4 0,I4 0,I4 0,I4 0,I4 0] 43))/\Hid (Hp Y (w.heap.size+1) 43 (inC ⟨0,0,0,0,0⟩))/\Hid (Hp Y w.heap.size 156 zeroC)/\Bw w Y/\w.heap.size+2<=Y.heap.size:=⟨_,rfl,keepJ (by have:=Hp.new (w.alloc (Obj.cells #[.bool false,I4 0,U8 0,U8 0,I4 0,I4 0,U8 0,U8 0,I4 0,I4 0,U8 0,U8 0,I4 0,I4 0,U8 0,U8 0,I4 0,I4 0,U8 0,U8 0,I4 0,I4 0,U8 0,U8 0,I4 0,I4 0,U8 0,U8 0,I4 0,I4 0,U8 0,U8 0,I4 0] 156)) (inC ⟨0,0,0,0,0⟩) 43;simpa [inC] using this),(Hp.new w zeroC _).alloc _,by go_grown,by simp⟩;rw [<- HY.out];clear HY;refine hK.out _ _ (I.out _ G.drew) (fun hHeld=>?_);clear hK KK
   try simp only [Act.put,p1q,p2q,p3q,p4q,p5q,p6q]
   have n0:Y.cell? ⟨(w.heap.size+1),0,none⟩=some (I4 0):=g.out.cell rfl;have f0:=g.out.frozen 0;have n1:Y.cell? ⟨(w.heap.size+1),1,none⟩=some (I4 0):=g.out.cell rfl;have f1:=g.out.frozen 1;have A:Y.cell? ⟨(w.heap.size+1),2,none⟩=some (I4 0):=g.out.cell rfl;have f2:=g.out.frozen 2;have n3:Y.cell? ⟨(w.heap.size+1),3,none⟩=some (I4 0):=g.out.cell rfl;have f3:=g.out.frozen 3;have n4:Y.cell? ⟨(w.heap.size+1),4,none⟩=some (I4 0):=g.out.cell rfl;have f4:=g.out.frozen 4;refine runO 16 (by kernel_rfl) rfl (by rfl) (fun KK hK=>?_);go_simp;clear n0 n1 A n3 n4 f0 f1 f2 f3 f4;obtain ⟨V,HV,aa,X,T,b1⟩:∃ V,Hid (V=(((((Y.setCell ⟨(w.heap.size+1),0,none⟩ (I4 op)).setCell ⟨(w.heap.size+1),1,none⟩ (I4 d)).setCell ⟨(w.heap.size+1),2,none⟩ (I4 a)).setCell ⟨(w.heap.size+1),3,none⟩ (I4 b)).setCell ⟨(w.heap.size+1),4,none⟩ (I4 c)))/\Hid (Hp V (w.heap.size+1) 43 (inC ⟨op,d,a,b,c⟩))/\Hid (Hp V w.heap.size 156 zeroC)/\Bw w V/\w.heap.size+2<=V.heap.size:=⟨_,rfl,g.out.sets (inC ⟨op,d,a,b,c⟩) 0,Q.out.fars (by omega) (inC ⟨op,d,a,b,c⟩) 0,G.trans (qAg (qAd _ (inC ⟨op,d,a,b,c⟩) Y 0) (by omega) G.size),Nat.le_trans a9 (qAd _ (inC ⟨op,d,a,b,c⟩) Y 0).size⟩;rw [<- HV.out];clear HV g Q;refine hK.out _ _ (I.out _ T.drew) (fun hHeld=>?_);clear hK KK
   try simp only [Act.put,p1q,p2q,p3q,p4q,p5q,p6q]
   refine runO 17 (by kernel_rfl) rfl (by rfl) (fun KK hK=>?_)
   have a7:V.drew.there w.heap.size 0 (stC r s).toArray.size:=by rw [qCw r h8];exact X.out.drew.there (by rw [qAv];omega)
   refine wp_store_mid _ _ _ rfl _ _ (List.toArray _) rfl rfl a7 (sizeJA h8) (stC_all r s) ?_;have Z:Bw w (V.drew.setCells w.heap.size 0 (stC r s)):=(T.drew).trans (qAg (qAd _ _ _ _) (by omega) (show w.heap.size<=V.heap.size by omega));refine hK.out _ _ (I.out _ Z) (fun hHeld=>?_);clear hK KK
   try simp only [Act.put,p1q,p2q,p3q,p4q,p5q,p6q]
   refine wpAnyH_done (by kernel_rfl) ?_ _;go_wp2
   go_meet
   case rel=>exact ⟨(w.heap.size+1),w.heap.size,rfl,rfl,aa.out.drew.fars (by omega) _ _,X.out.drew.box qAv h8,Z,by omega,by omega,by omega⟩
def Taken3 (wc wd:World) (s t:Ty) (v7 v8:Value):Prop:=∃ g8 g9,v7=.pointer (some ⟨g8,0,none⟩)/\v8=.pointer (some ⟨g9,0,none⟩)/\AtT wd g8 0 s/\AtT wd g9 0 t/\Below wc.heap.size wc wd/\g8<wd.heap.size/\g9<wd.heap.size
theorem two_lt {a b n m:Nat}(h:n<=m)(c:a<n)(d:b<n):a<m/\b<m:=⟨by omega,by omega⟩
theorem BxT.far {w:World}{n m off o:Nat}{t u:Ty}(h:BxT w n off t)(f:n≠m):BxT (setT w m o u) n off t:=by
 have g:=qAd m (tyC u) w o
 have c:some n≠some m:=fun e=>f (by injection e)
 have d:n<w.heap.size:=World.block_lt_of_cell? w _ h.1.1;have b:(setT w m o u).heap[n]? = w.heap[n]? := g.block n d c;obtain ⟨⟨h0,s,k,i⟩,l,y,r,f3⟩:=h;refine ⟨⟨?_,?_,?_,?_⟩,?_,?_,?_,?_⟩
 ·exact (World.cell?_of_block (a:=⟨n,off,none⟩) b).trans h0
 ·exact (World.cell?_of_block (a:=⟨n,off+1,none⟩) b).trans s
 ·exact (World.cell?_of_block (a:=⟨n,off+2,none⟩) b).trans k
 ·exact (World.cell?_of_block (a:=⟨n,off+3,none⟩) b).trans i
 ·exact (World.frozen?_of_block (a:=⟨n,off,none⟩) b).trans l
 ·exact (World.frozen?_of_block (a:=⟨n,off+1,none⟩) b).trans y
 ·exact (World.frozen?_of_block (a:=⟨n,off+2,none⟩) b).trans r
 ·exact (World.frozen?_of_block (a:=⟨n,off+3,none⟩) b).trans f3
def askK (nm:Nat) (i:In) (s h:St):Int :=
 if i.op=13∨i.op=15 then 0
 else if i.op=0 then unlE ((srcT i s).k != 0) 33
 else if i.op=11 then wordE (srcT i s)
 else if i.op=12 then (if numsE [regT s i.a]≠0 then numsE [regT s i.a] else wordE (srcT i s))
 else if i.op=14 then unlE (decide (i.imm<nm)) 35
 else if i.op=20 then (if numsE [regT s i.a]≠0 then numsE [regT s i.a] else unlE (fitsAllS s h) 33)
 else if i.op=21 then hcheckL i.imm ((s.drop 1).take (argsL i.imm).length)
 else if i.op=22 then numsE [regT s i.a]
 else numsE [regT s i.a,srcT i s]
theorem lnums_as {v:Value}{l:List Ty}{e:Int}(h:Hid (numsE l=e)){w:World}(b:SeesT w v l):Cl 113 #[v] w fun x a=>x=.returned (I4 e)/\Bw w a:=by
 rw [<- h.out];exact lnums_any v l w b
theorem lword_as {k lo hi m e:Int}(h:Hid (wordE ⟨k,lo,hi,m⟩=e))(w:World):Cl 112 #[.agg #[I4 k,U8 lo,U8 hi,I4 m]] w fun x a=>x=.returned (I4 e)/\Bw w a:=by
 rw [<- h.out];exact lword_any ⟨k,lo,hi,m⟩ w
theorem lunless_as {b:Bool}{x e:Int}(h:Hid (unlE b x=e))(w:World):Cl 111 #[.bool b,I4 x] w fun y a=>y=.returned (I4 e)/\Bw w a:=by
 rw [<- h.out];exact lunless_any b x w
theorem lfits_as {r a q:Bool}{s h:St}(c:Hid (fitsAllS s h=q))(w:World)(f:s.length=8)(b:h.length=8):Cl 115 #[stV r s,stV a h] w fun e d=>e=.returned (.bool q)/\Bw w d:=by
 rw [<- c.out];exact lfits_any r a s h w f b
theorem args_len9 (h:Int):(argsL h).length<=3:=by
 unfold argsL
 repeat' split
 all_goals simp
theorem run_sliceA (sb n:Nat)(f:n<=3)(w:World):(Instr.sliceAt 154 (.pointer (some ⟨sb,1,none⟩)) (some (I4 1)) (some (I4 (1+(n:Int)))) none).run Tryz.prog w=.ok (.slice (some ⟨sb,5,none⟩) n 7) w:=by
 have k0:(Instr.sliceAt 154 (.pointer (some ⟨sb,1,none⟩)) (some (I4 1)) (some (I4 (1+((0:Nat):Int)))) none).run Tryz.prog w=.ok (.slice (some ⟨sb,5,none⟩) 0 7) w:=by kernel_rfl
 have d:(Instr.sliceAt 154 (.pointer (some ⟨sb,1,none⟩)) (some (I4 1)) (some (I4 (1+((1:Nat):Int)))) none).run Tryz.prog w=.ok (.slice (some ⟨sb,5,none⟩) 1 7) w:=by kernel_rfl
 have c:(Instr.sliceAt 154 (.pointer (some ⟨sb,1,none⟩)) (some (I4 1)) (some (I4 (1+((2:Nat):Int)))) none).run Tryz.prog w=.ok (.slice (some ⟨sb,5,none⟩) 2 7) w:=by kernel_rfl
 have b:(Instr.sliceAt 154 (.pointer (some ⟨sb,1,none⟩)) (some (I4 1)) (some (I4 (1+((3:Nat):Int)))) none).run Tryz.prog w=.ok (.slice (some ⟨sb,5,none⟩) 3 7) w:=by kernel_rfl
 have a:n=0∨n=1∨n=2∨n=3:=by omega
 rcases a with rfl|rfl|rfl|rfl
 ·exact k0
 ·exact d
 ·exact c
 ·exact b
theorem sees_args {w:World}{sb n:Nat}{r:Bool}{s:St}(f:StAt w sb 0 r s)(c:s.length=8)(g:n<=3)(d:sb<w.heap.size):SeesT w (.slice (some ⟨sb,5,none⟩) n 7) ((s.drop 1).take n):=by
 have a:((s.drop 1).take n).length=n:=by simp [c];omega
 refine ⟨some ⟨sb,5,none⟩,7,by rw [a],by rw [a];omega,by decide,fun e=>(by cases e),fun _=>⟨sb,5,rfl,d,fun k b=>?_⟩⟩;rw [a] at b;have:=f.typ c (k:=k+1) (by omega);rw [show 0+1+(k+1)*4=5+k*4 by omega] at this
 have e:((s.drop 1).take n).getD k Ty.nil=s.getD (k+1) Ty.nil:=by
  simp [List.getD,List.getElem?_take,b,Nat.add_comm]
 rw [e];exact this
theorem hcheck_as9 {h:Int}{v:Value}{xs:List Ty}{w:World}(c:SeesT w v xs){r:Int}(b:Hid (hcheckL h xs=r)):Cl 116 #[I4 h,v] w fun e a=>e=.returned (I4 r)/\Bw w a:=by
 rw [<- b.out];exact hcheck_any h v xs w c
theorem keep2 {w a:World}{x y:Nat}{i j:Nat}{u v:Value}(h:w.cell? ⟨x,i,none⟩=some u/\w.cell? ⟨y,j,none⟩=some v)(b:Bw w a)(c:x<w.heap.size)(d:y<w.heap.size):a.cell? ⟨x,i,none⟩=some u/\a.cell? ⟨y,j,none⟩=some v:=by
 rw [b.cell (p:=⟨x,i,none⟩) c,b.cell (p:=⟨y,j,none⟩) d];exact h
theorem lask_core (w0 w:World)(qb kb nm cb co br p:Nat)(vl:Value)(xs:List In)(ls:List Lp)(K:Kn)(h:Inq w0 w qb kb nm vl cb co br xs ls K)(hp:p<xs.length)(fi:xs.length<=64)(hM:MadeK nm K)(n:Nat)(hn:n<8)(op d b y:Int)(HI:Hid (nth xs p=⟨op,d,n,b,y⟩))(r:Bool)(s:St)(HK:Hid (K.getD p kn0=(r,s)))(hb:b=8∨(0<=b/\b<=7))(F D B A J M O L:Int)(HS:Hid (s.getD n Ty.nil=⟨F,D,B,A⟩))(HT:Hid (srcT ⟨op,d,n,b,y⟩ s=⟨J,M,O,L⟩))(fa:op=20->0<=(p:Int)+In.far ⟨op,d,n,b,y⟩/\(p:Int)+In.far ⟨op,d,n,b,y⟩<xs.length):Cl 76 #[.pointer (some ⟨qb,0,none⟩),I4 p] w fun e z=>e=.returned (I4 (askK nm ⟨op,d,n,b,y⟩ s (K.getD ((p:Int)+In.far ⟨op,d,n,b,y⟩).toNat kn0).2))/\Bw w z:=by
 obtain ⟨E,HE⟩:∃ E,Hid (E=askK nm ⟨op,d,n,b,y⟩ s (K.getD ((p:Int)+In.far ⟨op,d,n,b,y⟩).toNat kn0).2):=⟨_,rfl⟩;rw [<- HE.out];obtain ⟨e6,fk,hN,fj⟩:=h.at hp;rw [HI.out] at e6;obtain ⟨c0,c1,c2,c3,c4⟩:=e6;simp only at c0 c1 c2 c3 c4
 have fh:(p:Int)<xs.length:=by omega
 have h8:s.length=8:=by have:=h.e8.at p;rw [HK.out] at this;exact this
 have e7:StAt w kb (p*33) r s:=h.k.state h.e8 (by rw [h.len];exact hp) HK.out;have ea:=h.q.lt;have ex:=h.k.lt;have fn:=h.b0.size
 have HP:Hid (∀ z,Bw w z->z.cell? ⟨qb,1,none⟩=some (.slice (some ⟨cb,co,none⟩) xs.length br)/\z.cell? ⟨qb,3,none⟩=some (.slice (some ⟨kb,0,none⟩) xs.length xs.length)/\z.cell? ⟨cb,co+p*5,none⟩=some (I4 op)/\z.cell? ⟨cb,co+p*5+1,none⟩=some (I4 d)/\z.cell? ⟨cb,co+p*5+2,none⟩=some (I4 n)/\z.cell? ⟨cb,co+p*5+3,none⟩=some (I4 b)/\z.cell? ⟨cb,co+p*5+4,none⟩=some (I4 y)/\StAt z kb (p*33) r s):=fun z ai=>by
  have hA:=At.below (i:=⟨op,d,n,b,y⟩) ⟨c0,c1,c2,c3,c4⟩ ai (by omega);exact ⟨(h.q.below ai ea).cell rfl,(h.q.below ai ea).cell rfl,hA.1,hA.2.1,hA.2.2.1,hA.2.2.2.1,hA.2.2.2.2,e7.below ai ex⟩
 clear c0 c1 c2 c3 c4 e7
 have dy:Made8 nm s:=by have:=hM.at p;rw [HK.out] at this;exact this
 have HM:=keepJ hM;have fq:=keepJ dy;have fp:=keepJ (sizeJ (r:=r) h8)
 have ff:(p:Int)<64:=by omega
 have fr:(n:Int)<8:=by omega
 clear dy hM;go_enter Tryz.func76,Tryz.ntmps76
 go_wp2_with (fail)
 go_cut [5,6] from 15 (fun v4 v5 wc=>Taken2 w wc ⟨op,d,n,b,y⟩ r s v4 v5)
 case rest =>
  obtain ⟨ib,sb,rfl,rfl,c7,dc,cp,fc,f8,ez⟩:=hcut;have HQ:=keepJ (h.below cp);have dd:=keepJ c7;have cn:=keepJ dc;obtain ⟨y0,y1,y2,y3,y4⟩:=id c7.inst;have cy:=c7.lt;have d6:=dc.lt;have f6:kb<wc.heap.size:=HQ.out.k.lt
  have er:ib≠kb:=by omega
  have eo:sb≠kb:=by omega
  clear c7 dc HP;clear y0 y1 y2 y3 y4
  go_wp2_with (fail)
  go_cut [7,8] from 15 (fun v7 v8 wd=>Taken3 wc wd ⟨F,D,B,A⟩ ⟨J,M,O,L⟩ v7 v8)
  case rest =>
   obtain ⟨c,a,rfl,rfl,e3,dz,bh,fm,f7⟩:=hcut;have cd:=keepJ (HQ.out.below bh);have d1:=keepJ (dd.out.below bh cy);have d7:=keepJ (cn.out.below bh d6);have a4:Bw w wc:=cp.trans (bh.mono cp.size);have fo:=keepJ e3;have ey:=keepJ dz;obtain ⟨y0,y1,y2,y3,y4⟩:=id d1.out.inst;obtain ⟨a0,a1,a2,a3⟩:=e3;obtain ⟨b0,b1,b2,b3⟩:=dz;simp only at a0 a1 a2 a3 b0 b1 b2 b3;have d4:=d1.out.lt;have d8:=d7.out.lt;have b4:Hid (regT s n=⟨F,D,B,A⟩):=HS.out;clear HQ dd cn cy d6 bh h fc f8 ez f6 er eo;obtain ⟨e1,ar⟩:∃ e,Hid (numsE [⟨F,D,B,A⟩]=e):=⟨_,rfl⟩;obtain ⟨e2,ft⟩:∃ e,Hid (wordE ⟨J,M,O,L⟩=e):=⟨_,rfl⟩
   by_cases o13:op=13
   ·subst o13
    have G:Hid (E=0):=by show _=_;rw [HE.out];rfl
    go_wp2;go_ret;exact ⟨reti G.out.symm,a4⟩
   by_cases o15:op=15
   ·subst o15
    have G:Hid (E=0):=by show _=_;rw [HE.out];rfl
    go_wp2;go_ret;exact ⟨reti G.out.symm,a4⟩
   by_cases o0:op=0
   ·subst o0
    have G:Hid (unlE (J != 0) 33=E):=by show _=_;rw [HE.out];unfold askK;rw [if_neg (by simp),if_pos rfl,HT.out]
    go_wp2_with (go_at_call 111;go_must (refine (lunless_as G _).mono ?_);rintro e w5 ⟨rfl,Q⟩;go_must (have a6:=a4.trans (Q.mono a4.size)))
    go_ret;exact ⟨rfl,a6⟩
   by_cases o11:op=11
   ·subst o11
    have G:Hid (wordE ⟨J,M,O,L⟩=E):=by show _=_;rw [HE.out];unfold askK;rw [if_neg (by simp),if_neg (by simp),if_pos rfl,HT.out]
    go_wp2_with (go_at_call 112;go_must (refine (lword_as G _).mono ?_);rintro e w5 ⟨rfl,Q⟩;go_must (have a6:=a4.trans (Q.mono a4.size)))
    go_ret;exact ⟨rfl,a6⟩
   by_cases o12:op=12
   ·subst o12
    by_cases h1:e1=0
    ·have G:Hid (wordE ⟨J,M,O,L⟩=E):=by show _=_;rw [HE.out];unfold askK;rw [if_neg (by simp),if_neg (by simp),if_neg (by simp),if_pos rfl,b4.out,HT.out,ar.out,h1];simp
     subst h1
     go_wp2_with (first
      | (go_at_call 113;go_must (refine (lnums_as ar (seesT_one _ _ ⟨F,D,B,A⟩ _ rfl)).mono ?_);rintro e w5 ⟨rfl,a8⟩;go_must (have Q:=qAl a8;have a6:=a4.trans (Q.mono a4.size);obtain ⟨z0,z1,z2,z3⟩:=ey.out.below Q f7;simp only at z0 z1 z2 z3;clear b0 b1 b2 b3))
      | (go_at_call 112;go_must (refine (lword_as G _).mono ?_);rintro e w6 ⟨rfl,ax⟩;go_must (have b5:=a6.trans (ax.mono a6.size))))
     go_ret;exact ⟨rfl,b5⟩
    ·have G:Hid (e1=E):=by show _=_;rw [HE.out];unfold askK;rw [if_neg (by simp),if_neg (by simp),if_neg (by simp),if_pos rfl,b4.out,HT.out,ar.out,if_pos h1]
     go_wp2_with (go_at_call 113;go_must (refine (lnums_as ar (seesT_one _ _ ⟨F,D,B,A⟩ _ rfl)).mono ?_);rintro e w5 ⟨rfl,a8⟩;go_must (have Q:=qAl a8;have a6:=a4.trans (Q.mono a4.size)))
     go_ret;exact ⟨reti G.out,a6⟩
   by_cases o22:op=22
   ·subst o22
    have G:Hid (numsE [⟨F,D,B,A⟩]=E):=by show _=_;rw [HE.out];unfold askK;simp [b4.out]
    go_wp2_with (go_at_call 113;go_must (refine (lnums_as G (seesT_one _ _ ⟨F,D,B,A⟩ _ rfl)).mono ?_);rintro e w5 ⟨rfl,a8⟩;go_must (have Q:=qAl a8;have a6:=a4.trans (Q.mono a4.size)))
    go_ret;exact ⟨rfl,a6⟩
   by_cases o14:op=14
   ·subst o14
    have G:Hid (unlE (decide (y<nm)) 35=E):=by show _=_;rw [HE.out];unfold askK;simp
    have q0:wc.cell? ⟨qb,0,none⟩=some (I4 nm):=cd.out.q.cell rfl;have et:=cd.out.q.lt;go_wp2
    go_region_held3 (fun z=>z.cell? ⟨ib,4,none⟩=some (I4 y)/\z.cell? ⟨qb,0,none⟩=some (I4 nm))
     (first|exact f5|exact ⟨y4,q0⟩)
     (first|(go_at_call 111;go_must (refine (lunless_as G _).mono ?_);rintro e w5 ⟨rfl,a8⟩;go_must (have Q:Bw wc w5:=qAf a8;have f5:=keep2 ⟨y4,q0⟩ Q d4 et;have a6:=a4.trans (Q.mono a4.size))))
    go_wp2;go_ret;exact ⟨rfl,a6⟩
   by_cases o20:op=20
   ·subst o20
    by_cases h1:e1=0
    ·subst h1;obtain ⟨f,HF⟩:∃ f,Hid (f=In.far ⟨20,d,n,b,y⟩):=⟨_,rfl⟩;obtain ⟨l,HL⟩:∃ l,Hid (l=In.leads ⟨20,d,n,b,y⟩):=⟨_,rfl⟩;obtain ⟨o,HO⟩:∃ o,Hid (o=In.on ⟨20,d,n,b,y⟩):=⟨_,rfl⟩
     obtain ⟨n2,dx,fe⟩:∃ n2:Nat,Hid ((p:Int)+f=n2)/\n2<xs.length:=by
      have:=fa rfl;rw [<- HF.out] at this;exact ⟨((p:Int)+f).toNat,by show _=_;omega,by omega⟩
     obtain ⟨r2,s2,dh⟩:∃ r2 s2,Hid (K.getD n2 kn0=(r2,s2)):=⟨_,_,rfl⟩
     have e9:s2.length=8:=by have:=cd.out.e8.at n2;rw [dh.out] at this;exact this
     obtain ⟨q,e4⟩:∃ q,Hid (fitsAllS s s2=q):=⟨_,rfl⟩
     have G:Hid (unlE q 33=E):=by
      show _=_
      rw [HE.out];unfold askK;rw [if_neg (by simp),if_neg (by simp),if_neg (by simp),if_neg (by simp),if_neg (by simp),if_pos rfl,b4.out,ar.out,if_neg (by simp),<- HF.out,dx.out,Int.toNat_natCast,dh.out,e4.out]
     have fb:IntKind.i64.wrap ((p:Int)+f)=(n2:Int):=by rw [dx.out,IntKind.wrap_i64];omega
     have fg:(n2:Int)<xs.length:=by omega
     go_wp2_with (first
      | (go_at_call 113;go_must (refine (lnums_as ar (seesT_one _ _ ⟨F,D,B,A⟩ _ rfl)).mono ?_);rintro e w5 ⟨rfl,a8⟩;go_must (have Q:=qAl a8;have a6:=a4.trans (Q.mono a4.size);have fd:=keepJ (d1.out.below Q d4);have c8:=keepJ (d7.out.below Q d8);have f9:=keepJ (cd.out.below Q);have fl:=Q.size;clear y0 y1 y2 y3 y4;obtain ⟨z0,z1,z2,z3,z4⟩:=fd.out.inst))
      | (go_at_call 114;go_must (refine (goes_one (i:=⟨20,d,n,b,y⟩) (show Hid _ from rfl) HF HL HO _).mono ?_);rintro e w6 ⟨rfl,ax⟩;go_must (have b5:=a6.trans (ax.mono a6.size);have eb:=keepJ (c8.out.below ax (by omega));have b8:=keepJ (f9.out.below ax);clear z0 z1 z2 z3 z4)))
     have ef:=b8.out.q.lt;have ev:=b8.out.k.lt;have es:=eb.out.lt
     have df:Hid (∀ z,Bw w6 z->z.cell? ⟨qb,3,none⟩=some (.slice (some ⟨kb,0,none⟩) xs.length xs.length)/\StAt z sb 0 r s/\StAt z kb (n2*33) r2 s2):=fun z ai =>
      ⟨(b8.out.q.below ai ef).cell rfl,(eb.out.below ai es).one,(b8.out.k.below ai ev).state b8.out.e8 (by rw [b8.out.len];exact fe) dh.out⟩
     refine wp_region_held_drew (S:=fun z=>z.cell? ⟨qb,3,none⟩=some (.slice (some ⟨kb,0,none⟩) xs.length xs.length)/\StAt z sb 0 r s/\StAt z kb (n2*33) r2 s2) (by kernel_rfl) (df.out _ (Below.refl _ _).drew) (fun hHeld=>?_);refine wpAnyH_take (i:=0) rfl (by kernel_rfl) (by kernel_rfl) (by kernel_rfl) (fun _ _ _ h=>h) (yieldsIf_load_mid (by rfl) _ _ rfl _ _ rfl (stC r s) _ (fun w h=>h.2.1) Tryz.underlying156 rfl (sizeJ h8)) (by assumption) ?_
     try simp only [Act.put,p1q,p2q,p3q,p4q,p5q,p6q]
     refine tkGo [1,2,3,4,5,6] ?_
     repeat (refine tkO (v:=?_) rfl ?_ ?_;rotate_left;(intro wy hSw;(try dsimp only at hSw);go_simp;(first|done|with_reducible rfl));try simp only [Act.put,p1q,p2q,p3q,p4q,p5q,p6q])
     refine tkEnd ?_;refine wpAnyH_take (i:=7) (v:=(I4 (n2:Int))) rfl (by kernel_rfl) (by kernel_rfl) (by kernel_rfl) (fun _ _ _ h=>h) (Or.inl ⟨by rfl,fun wy hSw=>?_⟩) (by assumption) ?_
     ·go_simp
     try simp only [Act.put,p1q,p2q,p3q,p4q,p5q,p6q]
     refine wpAnyH_take (i:=8) (v:=(.pointer (some ⟨kb,n2*33,none⟩))) rfl (by kernel_rfl) (by kernel_rfl) (by kernel_rfl) (fun _ _ _ h=>h) (Or.inl ⟨by rfl,fun wy hSw=>?_⟩) (by assumption) ?_
     ·go_simp
     try simp only [Act.put,p1q,p2q,p3q,p4q,p5q,p6q]
     refine wpAnyH_take (i:=9) rfl (by kernel_rfl) (by kernel_rfl) (by kernel_rfl) (fun _ _ _ h=>h) (yieldsIf_load_mid (by rfl) _ _ rfl _ _ rfl (stC r2 s2) _ (fun w h=>h.2.2) Tryz.underlying156 rfl (sizeJ e9)) (by assumption) ?_
     try simp only [Act.put,p1q,p2q,p3q,p4q,p5q,p6q]
     refine runO 10 (by kernel_rfl) rfl (by rfl) (fun KK hK=>?_);go_simp
     go_at_call 115
     refine (lfits_as e4 w6.drew h8 e9).mono ?_;rintro e w7 ⟨rfl,ee⟩;have cu:Bw w6 w7:=qAf ee;refine hK.out _ _ (df.out _ cu) (fun hHeld=>?_);clear hK KK
     try simp only [Act.put,p1q,p2q,p3q,p4q,p5q,p6q]
     refine runO 11 (by kernel_rfl) rfl (by rfl) (fun KK hK=>?_);go_simp
     go_at_call 111
     refine (lunless_as G w7).mono ?_;rintro e w8 ⟨rfl,en⟩;have ec:Bw w6 w8:=cu.trans (en.mono cu.size);refine hK.out _ _ (df.out _ ec) (fun hHeld=>?_);clear hK KK
     try simp only [Act.put,p1q,p2q,p3q,p4q,p5q,p6q]
     refine tkGo [12] ?_
     repeat (refine tkO (v:=?_) rfl ?_ ?_;rotate_left;(intro wy hSw;(try dsimp only at hSw);go_simp;(first|done|with_reducible rfl));try simp only [Act.put,p1q,p2q,p3q,p4q,p5q,p6q])
     refine tkEnd ?_;refine wpAnyH_done (by kernel_rfl) ?_ _;go_wp2;go_ret;exact ⟨rfl,b5.trans (ec.mono b5.size)⟩
    ·have G:Hid (e1=E):=by show _=_;rw [HE.out];unfold askK;rw [if_neg (by simp),if_neg (by simp),if_neg (by simp),if_neg (by simp),if_neg (by simp),if_pos rfl,b4.out,ar.out,if_pos h1]
     go_wp2_with (go_at_call 113;go_must (refine (lnums_as ar (seesT_one _ _ ⟨F,D,B,A⟩ _ rfl)).mono ?_);rintro e w5 ⟨rfl,a8⟩;go_must (have Q:=qAl a8;have a6:=a4.trans (Q.mono a4.size)))
     go_ret;exact ⟨reti G.out,a6⟩
   by_cases o21:op=21
   ·subst o21;obtain ⟨N,HL⟩:∃ N,Hid ((argsL y).length=N):=⟨_,rfl⟩
    have e5:N<=3:=by rw [<- HL.out];exact args_len9 _
    have G:Hid (hcheckL y ((s.drop 1).take N)=E):=by show _=_;rw [HE.out];unfold askK;simp [HL.out]
    have fb:IntKind.i64.wrap (1+(N:Int))=1+(N:Int):=by rw [IntKind.wrap_i64];omega
    have fs:=run_sliceA sb N e5
    go_wp2_with (first
     | (go_at_call 117;go_must (refine (args_any y _).mono ?_);rintro e w5 ⟨u5,rfl,bd,Q⟩;go_must (have a6:=a4.trans (Q.mono a4.size);have c8:=keepJ (d7.out.below Q d8);rw [HL.out] at bd;obtain ⟨a5,c5,rfl⟩:=own_shapeT bd;clear bd))
     | (go_at_call 116;go_must (refine (hcheck_as9 (sees_args c8.out.one h8 e5 c8.out.lt) G).mono ?_);rintro e w6 ⟨rfl,ax⟩;go_must (have b5:=a6.trans (ax.mono a6.size))))
    go_ret;exact ⟨rfl,b5⟩
   have G:Hid (numsE [⟨F,D,B,A⟩,⟨J,M,O,L⟩]=E):=by show _=_;rw [HE.out];unfold askK;rw [if_neg (by rintro (h|h)<;>contradiction),if_neg o0,if_neg o11,if_neg o12,if_neg o14,if_neg o20,if_neg o21,if_neg o22,b4.out,HT.out]
   go_wp2_with (go_at_call 113;go_must (refine (lnums_as G (seesT_two _ _ ⟨F,D,B,A⟩ ⟨J,M,O,L⟩ _ rfl)).mono ?_);rintro e w5 ⟨rfl,a8⟩;go_must (have Q:=qAl a8;have a6:=a4.trans (Q.mono a4.size)))
   go_ret;exact ⟨rfl,a6⟩
  case first =>
   have P:Hid (∀ z,Bw wc z->z.cell? ⟨ib,0,none⟩=some (I4 op)/\z.cell? ⟨ib,1,none⟩=some (I4 d)/\z.cell? ⟨ib,2,none⟩=some (I4 n)/\z.cell? ⟨ib,3,none⟩=some (I4 b)/\z.cell? ⟨ib,4,none⟩=some (I4 y)/\z.cell? ⟨sb,1+n*4,none⟩=some (I4 F)/\z.cell? ⟨sb,1+n*4+1,none⟩=some (U8 D)/\z.cell? ⟨sb,1+n*4+2,none⟩=some (U8 B)/\z.cell? ⟨sb,1+n*4+3,none⟩=some (I4 A)/\StAt z sb 0 r s):=fun z ai=>by
    obtain ⟨q0,q1,q2,q3⟩:=stC_typ (r:=r) h8 hn HS.out;have hh:=cn.out.below ai d6;obtain ⟨x0,x1,x2,x3,x4⟩:=Box.below dd.out.inst ai cy;exact ⟨x0,x1,x2,x3,x4,hh.cell q0,hh.cell q1,hh.cell q2,hh.cell q3,hh.one⟩
   refine wp_region_held_drew (S:=fun z=>z.cell? ⟨ib,0,none⟩=some (I4 op)/\z.cell? ⟨ib,1,none⟩=some (I4 d)/\z.cell? ⟨ib,2,none⟩=some (I4 n)/\z.cell? ⟨ib,3,none⟩=some (I4 b)/\z.cell? ⟨ib,4,none⟩=some (I4 y)/\z.cell? ⟨sb,1+n*4,none⟩=some (I4 F)/\z.cell? ⟨sb,1+n*4+1,none⟩=some (U8 D)/\z.cell? ⟨sb,1+n*4+2,none⟩=some (U8 B)/\z.cell? ⟨sb,1+n*4+3,none⟩=some (I4 A)/\StAt z sb 0 r s) (by kernel_rfl) (P.out _ (Below.refl _ _).drew) (fun hHeld=>?_);refine tkGo [0,1,2,3,4] ?_
   repeat (refine tkO (v:=?_) rfl ?_ ?_;rotate_left;(intro wy hSw;(try dsimp only at hSw);go_simp;(first|done|with_reducible rfl));try simp only [Act.put,p1q,p2q,p3q,p4q,p5q,p6q])
   refine tkEnd ?_;refine wpAnyH_take (i:=5) rfl (by kernel_rfl) (by kernel_rfl) (by kernel_rfl) (fun _ _ _ h=>h) (yieldsIf_load_mid (by rfl) _ _ rfl _ _ rfl (stC r s) _ (fun w h=>h.2.2.2.2.2.2.2.2.2) Tryz.underlying156 rfl (sizeJ h8)) (by assumption) ?_
   try simp only [Act.put,p1q,p2q,p3q,p4q,p5q,p6q]
   refine tkGo [6] ?_
   repeat (refine tkO (v:=?_) rfl ?_ ?_;rotate_left;(intro wy hSw;(try dsimp only at hSw);go_simp;(first|done|with_reducible rfl));try simp only [Act.put,p1q,p2q,p3q,p4q,p5q,p6q])
   refine tkEnd ?_;obtain ⟨X,HX,au⟩:∃ X,Hid (X=wc.drew)/\Bw wc X:=⟨_,rfl,(Below.refl _ _).drew⟩;rw [<- HX.out];clear HX;refine wpAnyH_ready (rs:=[7,8,9]) (by kernel_rfl) (by simp) ?_
   refine (AllReadyH.cons rfl (fun KK hK=>?_) (AllReadyH.cons rfl (fun KK hK=>?_) (AllReadyH.cons rfl (fun KK hK=>?_) AllReadyH.nil)))<;>rw [if_pos (by rfl)]
   ·go_simp
    go_at_call 110
    refine (qCg (i:=⟨op,d,n,b,y⟩) HT r X h8 hb).mono ?_;rintro e X1 ⟨rfl,ew⟩;have ak:=au.trans (ew.mono au.size);refine hK.out _ _ (P.out _ ak) (fun hHeld=>?_);clear hK KK
    try simp only [Act.put,p1q,p2q,p3q,p4q,p5q,p6q]
    refine wpAnyH_ready (rs:=[8,9]) (by kernel_rfl) (by simp) ?_
    refine (AllReadyH.cons rfl (fun KK hK=>?_) (AllReadyH.cons rfl (fun KK hK=>?_) AllReadyH.nil))<;>rw [if_pos (by rfl)]
    ·go_simp;obtain ⟨X2,c,Z,T,ek,ae,ej,ca⟩:∃ Y g,Hid (Y=X1.alloc (Obj.cells #[I4 0,U8 0,U8 0,I4 0] 153))/\Hid (X1.heap.size=g)/\Bw X1 Y/\wc.heap.size<=g/\Hid (BxT Y g 0 ⟨0,0,0,0⟩)/\g<Y.heap.size:=⟨_,_,rfl,rfl,(Below.refl _ _).alloc (Nat.le_refl _) _,ak.size,⟨⟨by go_cell,by go_cell,by go_cell,by go_cell⟩,by go_simp,by go_simp,by go_simp,by go_simp⟩,by simp⟩;rw [<- Z.out,T.out];clear Z T;have bf:=ak.trans (ek.mono ak.size);refine hK.out _ _ (P.out _ bf) (fun hHeld=>?_);clear hK KK
     try simp only [Act.put,p1q,p2q,p3q,p4q,p5q,p6q]
     refine wpAnyH_ready (rs:=[9]) (by kernel_rfl) (by simp) ?_
     refine (AllReadyH.cons rfl (fun KK hK=>?_) AllReadyH.nil)<;>rw [if_pos (by rfl)]
     ·go_simp;obtain ⟨X3,a,Z,T,bw,ad,ed,dm⟩:∃ Y g,Hid (Y=X2.alloc (Obj.cells #[I4 0,U8 0,U8 0,I4 0] 153))/\Hid (X2.heap.size=g)/\Bw X2 Y/\wc.heap.size<=g/\Hid (BxT Y g 0 ⟨0,0,0,0⟩)/\g<Y.heap.size:=⟨_,_,rfl,rfl,(Below.refl _ _).alloc (Nat.le_refl _) _,bf.size,⟨⟨by go_cell,by go_cell,by go_cell,by go_cell⟩,by go_simp,by go_simp,by go_simp,by go_simp⟩,by simp⟩
      have I:c≠a:=by have:=T.out;omega
      have de:Hid (BxT X3 c 0 ⟨0,0,0,0⟩):=BxT.below ej.out bw ca;have dn:c<X3.heap.size:=Nat.lt_of_lt_of_le ca bw.size;rw [<- Z.out,T.out];clear Z T;have cq:=bf.trans (bw.mono bf.size);refine hK.out _ _ (P.out _ cq) (fun hHeld=>?_);clear hK KK
      try simp only [Act.put,p1q,p2q,p3q,p4q,p5q,p6q]
      obtain ⟨c0,c1,c2,c3,f0,f1,f2,f3⟩:=BxT.open de.out;refine runO 10 (by kernel_rfl) rfl (by rfl) (fun KK hK=>?_);go_simp;clear c0 c1 c2 c3 f0 f1 f2 f3;obtain ⟨U,HU,aa,ah,a9,ac⟩:∃ U,Hid (U=(((X3.setCell ⟨c,0,none⟩ (I4 F)).setCell ⟨c,1,none⟩ (U8 D)).setCell ⟨c,2,none⟩ (U8 B)).setCell ⟨c,3,none⟩ (I4 A))/\Bw wc U/\Hid (BxT U c 0 ⟨F,D,B,A⟩)/\Hid (BxT U a 0 ⟨0,0,0,0⟩)/\(c<U.heap.size/\a<U.heap.size):=⟨_,rfl,qAn (t:=⟨F,D,B,A⟩) (off:=0) cq ae,de.out.set ⟨F,D,B,A⟩,BxT.far (u:=⟨F,D,B,A⟩) (o:=0) ed.out I.symm,two_lt (qAd c (tyC ⟨F,D,B,A⟩) X3 0).size dn dm⟩;rw [<- HU.out];clear HU;refine hK.out _ _ (P.out _ aa) (fun hHeld=>?_);clear hK KK
      try simp only [Act.put,p1q,p2q,p3q,p4q,p5q,p6q]
      obtain ⟨c0,c1,c2,c3,f0,f1,f2,f3⟩:=BxT.open a9.out;refine runO 11 (by kernel_rfl) rfl (by rfl) (fun KK hK=>?_);go_simp;clear c0 c1 c2 c3 f0 f1 f2 f3;obtain ⟨V,G,ab,af,ag,a7⟩:∃ V,Hid (V=(((U.setCell ⟨a,0,none⟩ (I4 J)).setCell ⟨a,1,none⟩ (U8 M)).setCell ⟨a,2,none⟩ (U8 O)).setCell ⟨a,3,none⟩ (I4 L))/\Bw wc V/\Hid (BxT V c 0 ⟨F,D,B,A⟩)/\Hid (BxT V a 0 ⟨J,M,O,L⟩)/\(c<V.heap.size/\a<V.heap.size):=⟨_,rfl,qAn (t:=⟨J,M,O,L⟩) (off:=0) aa ad,BxT.far (u:=⟨J,M,O,L⟩) (o:=0) ah.out I,a9.out.set ⟨J,M,O,L⟩,two_lt (qAd a (tyC ⟨J,M,O,L⟩) U 0).size ac.1 ac.2⟩;rw [<- G.out];clear G;refine hK.out _ _ (P.out _ ab) (fun hHeld=>?_);clear hK KK
      try simp only [Act.put,p1q,p2q,p3q,p4q,p5q,p6q]
      refine wpAnyH_done (by kernel_rfl) ?_ _;go_wp2
      go_meet
      case rel=>exact ⟨c,a,rfl,rfl,af.out.1,ag.out.1,ab,a7.1,a7.2⟩
    ·go_simp;obtain ⟨X4,a,Z,T,ep,ad,el,cf⟩:∃ Y g,Hid (Y=X1.alloc (Obj.cells #[I4 0,U8 0,U8 0,I4 0] 153))/\Hid (X1.heap.size=g)/\Bw X1 Y/\wc.heap.size<=g/\Hid (BxT Y g 0 ⟨0,0,0,0⟩)/\g<Y.heap.size:=⟨_,_,rfl,rfl,(Below.refl _ _).alloc (Nat.le_refl _) _,ak.size,⟨⟨by go_cell,by go_cell,by go_cell,by go_cell⟩,by go_simp,by go_simp,by go_simp,by go_simp⟩,by simp⟩;rw [<- Z.out,T.out];clear Z T;have b9:=ak.trans (ep.mono ak.size);refine hK.out _ _ (P.out _ b9) (fun hHeld=>?_);clear hK KK
     try simp only [Act.put,p1q,p2q,p3q,p4q,p5q,p6q]
     refine wpAnyH_ready (rs:=[8]) (by kernel_rfl) (by simp) ?_
     refine (AllReadyH.cons rfl (fun KK hK=>?_) AllReadyH.nil)<;>rw [if_pos (by rfl)]
     ·go_simp;obtain ⟨X5,c,Z,T,bs,ae,d9,dj⟩:∃ Y g,Hid (Y=X4.alloc (Obj.cells #[I4 0,U8 0,U8 0,I4 0] 153))/\Hid (X4.heap.size=g)/\Bw X4 Y/\wc.heap.size<=g/\Hid (BxT Y g 0 ⟨0,0,0,0⟩)/\g<Y.heap.size:=⟨_,_,rfl,rfl,(Below.refl _ _).alloc (Nat.le_refl _) _,b9.size,⟨⟨by go_cell,by go_cell,by go_cell,by go_cell⟩,by go_simp,by go_simp,by go_simp,by go_simp⟩,by simp⟩
      have ap:a≠c:=by have:=T.out;omega
      have eq:Hid (BxT X5 a 0 ⟨0,0,0,0⟩):=BxT.below el.out bs cf;have dp:a<X5.heap.size:=Nat.lt_of_lt_of_le cf bs.size;rw [<- Z.out,T.out];clear Z T;have cm:=b9.trans (bs.mono b9.size);refine hK.out _ _ (P.out _ cm) (fun hHeld=>?_);clear hK KK
      try simp only [Act.put,p1q,p2q,p3q,p4q,p5q,p6q]
      have I:c≠a:=ap.symm;obtain ⟨c0,c1,c2,c3,f0,f1,f2,f3⟩:=BxT.open d9.out;refine runO 10 (by kernel_rfl) rfl (by rfl) (fun KK hK=>?_);go_simp;clear c0 c1 c2 c3 f0 f1 f2 f3;obtain ⟨U,HU,aa,ah,a9,ac⟩:∃ U,Hid (U=(((X5.setCell ⟨c,0,none⟩ (I4 F)).setCell ⟨c,1,none⟩ (U8 D)).setCell ⟨c,2,none⟩ (U8 B)).setCell ⟨c,3,none⟩ (I4 A))/\Bw wc U/\Hid (BxT U c 0 ⟨F,D,B,A⟩)/\Hid (BxT U a 0 ⟨0,0,0,0⟩)/\(c<U.heap.size/\a<U.heap.size):=⟨_,rfl,qAn (t:=⟨F,D,B,A⟩) (off:=0) cm ae,d9.out.set ⟨F,D,B,A⟩,BxT.far (u:=⟨F,D,B,A⟩) (o:=0) eq.out I.symm,two_lt (qAd c (tyC ⟨F,D,B,A⟩) X5 0).size dj dp⟩;rw [<- HU.out];clear HU;refine hK.out _ _ (P.out _ aa) (fun hHeld=>?_);clear hK KK
      try simp only [Act.put,p1q,p2q,p3q,p4q,p5q,p6q]
      obtain ⟨c0,c1,c2,c3,f0,f1,f2,f3⟩:=BxT.open a9.out;refine runO 11 (by kernel_rfl) rfl (by rfl) (fun KK hK=>?_);go_simp;clear c0 c1 c2 c3 f0 f1 f2 f3;obtain ⟨V,G,ab,af,ag,a7⟩:∃ V,Hid (V=(((U.setCell ⟨a,0,none⟩ (I4 J)).setCell ⟨a,1,none⟩ (U8 M)).setCell ⟨a,2,none⟩ (U8 O)).setCell ⟨a,3,none⟩ (I4 L))/\Bw wc V/\Hid (BxT V c 0 ⟨F,D,B,A⟩)/\Hid (BxT V a 0 ⟨J,M,O,L⟩)/\(c<V.heap.size/\a<V.heap.size):=⟨_,rfl,qAn (t:=⟨J,M,O,L⟩) (off:=0) aa ad,BxT.far (u:=⟨J,M,O,L⟩) (o:=0) ah.out I,a9.out.set ⟨J,M,O,L⟩,two_lt (qAd a (tyC ⟨J,M,O,L⟩) U 0).size ac.1 ac.2⟩;rw [<- G.out];clear G;refine hK.out _ _ (P.out _ ab) (fun hHeld=>?_);clear hK KK
      try simp only [Act.put,p1q,p2q,p3q,p4q,p5q,p6q]
      refine wpAnyH_done (by kernel_rfl) ?_ _;go_wp2
      go_meet
      case rel=>exact ⟨c,a,rfl,rfl,af.out.1,ag.out.1,ab,a7.1,a7.2⟩
   ·go_simp;obtain ⟨X6,c,Z,T,eh,ae,ct,aw⟩:∃ Y g,Hid (Y=X.alloc (Obj.cells #[I4 0,U8 0,U8 0,I4 0] 153))/\Hid (X.heap.size=g)/\Bw X Y/\wc.heap.size<=g/\Hid (BxT Y g 0 ⟨0,0,0,0⟩)/\g<Y.heap.size:=⟨_,_,rfl,rfl,(Below.refl _ _).alloc (Nat.le_refl _) _,au.size,⟨⟨by go_cell,by go_cell,by go_cell,by go_cell⟩,by go_simp,by go_simp,by go_simp,by go_simp⟩,by simp⟩;rw [<- Z.out,T.out];clear Z T;have aq:=au.trans (eh.mono au.size);refine hK.out _ _ (P.out _ aq) (fun hHeld=>?_);clear hK KK
    try simp only [Act.put,p1q,p2q,p3q,p4q,p5q,p6q]
    refine wpAnyH_ready (rs:=[7,9]) (by kernel_rfl) (by simp) ?_
    refine (AllReadyH.cons rfl (fun KK hK=>?_) (AllReadyH.cons rfl (fun KK hK=>?_) AllReadyH.nil))<;>rw [if_pos (by rfl)]
    ·go_simp
     go_at_call 110
     refine (qCg (i:=⟨op,d,n,b,y⟩) HT r X6 h8 hb).mono ?_;rintro e X7 ⟨rfl,bq⟩;have bc:=aq.trans (bq.mono aq.size);have em:Hid (BxT X7 c 0 ⟨0,0,0,0⟩):=BxT.below ct.out bq aw;have cl:c<X7.heap.size:=Nat.lt_of_lt_of_le aw bq.size;refine hK.out _ _ (P.out _ bc) (fun hHeld=>?_);clear hK KK
     try simp only [Act.put,p1q,p2q,p3q,p4q,p5q,p6q]
     refine wpAnyH_ready (rs:=[9]) (by kernel_rfl) (by simp) ?_
     refine (AllReadyH.cons rfl (fun KK hK=>?_) AllReadyH.nil)<;>rw [if_pos (by rfl)]
     ·go_simp;obtain ⟨X8,a,Z,T,bt,ad,eg,du⟩:∃ Y g,Hid (Y=X7.alloc (Obj.cells #[I4 0,U8 0,U8 0,I4 0] 153))/\Hid (X7.heap.size=g)/\Bw X7 Y/\wc.heap.size<=g/\Hid (BxT Y g 0 ⟨0,0,0,0⟩)/\g<Y.heap.size:=⟨_,_,rfl,rfl,(Below.refl _ _).alloc (Nat.le_refl _) _,bc.size,⟨⟨by go_cell,by go_cell,by go_cell,by go_cell⟩,by go_simp,by go_simp,by go_simp,by go_simp⟩,by simp⟩
      have I:c≠a:=by have:=T.out;omega
      have cr:Hid (BxT X8 c 0 ⟨0,0,0,0⟩):=BxT.below em.out bt cl;have dq:c<X8.heap.size:=Nat.lt_of_lt_of_le cl bt.size;rw [<- Z.out,T.out];clear Z T;have da:=bc.trans (bt.mono bc.size);refine hK.out _ _ (P.out _ da) (fun hHeld=>?_);clear hK KK
      try simp only [Act.put,p1q,p2q,p3q,p4q,p5q,p6q]
      obtain ⟨c0,c1,c2,c3,f0,f1,f2,f3⟩:=BxT.open cr.out;refine runO 10 (by kernel_rfl) rfl (by rfl) (fun KK hK=>?_);go_simp;clear c0 c1 c2 c3 f0 f1 f2 f3;obtain ⟨U,HU,aa,ah,a9,ac⟩:∃ U,Hid (U=(((X8.setCell ⟨c,0,none⟩ (I4 F)).setCell ⟨c,1,none⟩ (U8 D)).setCell ⟨c,2,none⟩ (U8 B)).setCell ⟨c,3,none⟩ (I4 A))/\Bw wc U/\Hid (BxT U c 0 ⟨F,D,B,A⟩)/\Hid (BxT U a 0 ⟨0,0,0,0⟩)/\(c<U.heap.size/\a<U.heap.size):=⟨_,rfl,qAn (t:=⟨F,D,B,A⟩) (off:=0) da ae,cr.out.set ⟨F,D,B,A⟩,BxT.far (u:=⟨F,D,B,A⟩) (o:=0) eg.out I.symm,two_lt (qAd c (tyC ⟨F,D,B,A⟩) X8 0).size dq du⟩;rw [<- HU.out];clear HU;refine hK.out _ _ (P.out _ aa) (fun hHeld=>?_);clear hK KK
      try simp only [Act.put,p1q,p2q,p3q,p4q,p5q,p6q]
      obtain ⟨c0,c1,c2,c3,f0,f1,f2,f3⟩:=BxT.open a9.out;refine runO 11 (by kernel_rfl) rfl (by rfl) (fun KK hK=>?_);go_simp;clear c0 c1 c2 c3 f0 f1 f2 f3;obtain ⟨V,G,ab,af,ag,a7⟩:∃ V,Hid (V=(((U.setCell ⟨a,0,none⟩ (I4 J)).setCell ⟨a,1,none⟩ (U8 M)).setCell ⟨a,2,none⟩ (U8 O)).setCell ⟨a,3,none⟩ (I4 L))/\Bw wc V/\Hid (BxT V c 0 ⟨F,D,B,A⟩)/\Hid (BxT V a 0 ⟨J,M,O,L⟩)/\(c<V.heap.size/\a<V.heap.size):=⟨_,rfl,qAn (t:=⟨J,M,O,L⟩) (off:=0) aa ad,BxT.far (u:=⟨J,M,O,L⟩) (o:=0) ah.out I,a9.out.set ⟨J,M,O,L⟩,two_lt (qAd a (tyC ⟨J,M,O,L⟩) U 0).size ac.1 ac.2⟩;rw [<- G.out];clear G;refine hK.out _ _ (P.out _ ab) (fun hHeld=>?_);clear hK KK
      try simp only [Act.put,p1q,p2q,p3q,p4q,p5q,p6q]
      refine wpAnyH_done (by kernel_rfl) ?_ _;go_wp2
      go_meet
      case rel=>exact ⟨c,a,rfl,rfl,af.out.1,ag.out.1,ab,a7.1,a7.2⟩
    ·go_simp;obtain ⟨X9,a,Z,T,bu,ad,eu,ch⟩:∃ Y g,Hid (Y=X6.alloc (Obj.cells #[I4 0,U8 0,U8 0,I4 0] 153))/\Hid (X6.heap.size=g)/\Bw X6 Y/\wc.heap.size<=g/\Hid (BxT Y g 0 ⟨0,0,0,0⟩)/\g<Y.heap.size:=⟨_,_,rfl,rfl,(Below.refl _ _).alloc (Nat.le_refl _) _,aq.size,⟨⟨by go_cell,by go_cell,by go_cell,by go_cell⟩,by go_simp,by go_simp,by go_simp,by go_simp⟩,by simp⟩
     have I:c≠a:=by have:=T.out;omega
     have ei:Hid (BxT X9 c 0 ⟨0,0,0,0⟩):=BxT.below ct.out bu aw;have ce:c<X9.heap.size:=Nat.lt_of_lt_of_le aw bu.size;rw [<- Z.out,T.out];clear Z T;have bx:=aq.trans (bu.mono aq.size);refine hK.out _ _ (P.out _ bx) (fun hHeld=>?_);clear hK KK
     try simp only [Act.put,p1q,p2q,p3q,p4q,p5q,p6q]
     refine wpAnyH_ready (rs:=[7]) (by kernel_rfl) (by simp) ?_
     refine (AllReadyH.cons rfl (fun KK hK=>?_) AllReadyH.nil)<;>rw [if_pos (by rfl)]
     ·go_simp
      go_at_call 110
      refine (qCg (i:=⟨op,d,n,b,y⟩) HT r X9 h8 hb).mono ?_;rintro e az ⟨rfl,al⟩;have c6:=bx.trans (al.mono bx.size);have ck:Hid (BxT az c 0 ⟨0,0,0,0⟩):=BxT.below ei.out al ce;have cw:c<az.heap.size:=Nat.lt_of_lt_of_le ce al.size;have dl:Hid (BxT az a 0 ⟨0,0,0,0⟩):=BxT.below eu.out al ch;have dg:a<az.heap.size:=Nat.lt_of_lt_of_le ch al.size;refine hK.out _ _ (P.out _ c6) (fun hHeld=>?_);clear hK KK
      try simp only [Act.put,p1q,p2q,p3q,p4q,p5q,p6q]
      obtain ⟨c0,c1,c2,c3,f0,f1,f2,f3⟩:=BxT.open ck.out;refine runO 10 (by kernel_rfl) rfl (by rfl) (fun KK hK=>?_);go_simp;clear c0 c1 c2 c3 f0 f1 f2 f3;obtain ⟨U,HU,aa,ah,a9,ac⟩:∃ U,Hid (U=(((az.setCell ⟨c,0,none⟩ (I4 F)).setCell ⟨c,1,none⟩ (U8 D)).setCell ⟨c,2,none⟩ (U8 B)).setCell ⟨c,3,none⟩ (I4 A))/\Bw wc U/\Hid (BxT U c 0 ⟨F,D,B,A⟩)/\Hid (BxT U a 0 ⟨0,0,0,0⟩)/\(c<U.heap.size/\a<U.heap.size):=⟨_,rfl,qAn (t:=⟨F,D,B,A⟩) (off:=0) c6 ae,ck.out.set ⟨F,D,B,A⟩,BxT.far (u:=⟨F,D,B,A⟩) (o:=0) dl.out I.symm,two_lt (qAd c (tyC ⟨F,D,B,A⟩) az 0).size cw dg⟩;rw [<- HU.out];clear HU;refine hK.out _ _ (P.out _ aa) (fun hHeld=>?_);clear hK KK
      try simp only [Act.put,p1q,p2q,p3q,p4q,p5q,p6q]
      obtain ⟨c0,c1,c2,c3,f0,f1,f2,f3⟩:=BxT.open a9.out;refine runO 11 (by kernel_rfl) rfl (by rfl) (fun KK hK=>?_);go_simp;clear c0 c1 c2 c3 f0 f1 f2 f3;obtain ⟨V,G,ab,af,ag,a7⟩:∃ V,Hid (V=(((U.setCell ⟨a,0,none⟩ (I4 J)).setCell ⟨a,1,none⟩ (U8 M)).setCell ⟨a,2,none⟩ (U8 O)).setCell ⟨a,3,none⟩ (I4 L))/\Bw wc V/\Hid (BxT V c 0 ⟨F,D,B,A⟩)/\Hid (BxT V a 0 ⟨J,M,O,L⟩)/\(c<V.heap.size/\a<V.heap.size):=⟨_,rfl,qAn (t:=⟨J,M,O,L⟩) (off:=0) aa ad,BxT.far (u:=⟨J,M,O,L⟩) (o:=0) ah.out I,a9.out.set ⟨J,M,O,L⟩,two_lt (qAd a (tyC ⟨J,M,O,L⟩) U 0).size ac.1 ac.2⟩;rw [<- G.out];clear G;refine hK.out _ _ (P.out _ ab) (fun hHeld=>?_);clear hK KK
      try simp only [Act.put,p1q,p2q,p3q,p4q,p5q,p6q]
      refine wpAnyH_done (by kernel_rfl) ?_ _;go_wp2
      go_meet
      case rel=>exact ⟨c,a,rfl,rfl,af.out.1,ag.out.1,ab,a7.1,a7.2⟩
   ·go_simp;obtain ⟨bi,a,Z,T,dr,ad,cc,ao⟩:∃ Y g,Hid (Y=X.alloc (Obj.cells #[I4 0,U8 0,U8 0,I4 0] 153))/\Hid (X.heap.size=g)/\Bw X Y/\wc.heap.size<=g/\Hid (BxT Y g 0 ⟨0,0,0,0⟩)/\g<Y.heap.size:=⟨_,_,rfl,rfl,(Below.refl _ _).alloc (Nat.le_refl _) _,au.size,⟨⟨by go_cell,by go_cell,by go_cell,by go_cell⟩,by go_simp,by go_simp,by go_simp,by go_simp⟩,by simp⟩;rw [<- Z.out,T.out];clear Z T;have aj:=au.trans (dr.mono au.size);refine hK.out _ _ (P.out _ aj) (fun hHeld=>?_);clear hK KK
    try simp only [Act.put,p1q,p2q,p3q,p4q,p5q,p6q]
    refine wpAnyH_ready (rs:=[7,8]) (by kernel_rfl) (by simp) ?_
    refine (AllReadyH.cons rfl (fun KK hK=>?_) (AllReadyH.cons rfl (fun KK hK=>?_) AllReadyH.nil))<;>rw [if_pos (by rfl)]
    ·go_simp
     go_at_call 110
     refine (qCg (i:=⟨op,d,n,b,y⟩) HT r bi h8 hb).mono ?_;rintro e b6 ⟨rfl,bb⟩;have av:=aj.trans (bb.mono aj.size);have dt:Hid (BxT b6 a 0 ⟨0,0,0,0⟩):=BxT.below cc.out bb ao;have bp:a<b6.heap.size:=Nat.lt_of_lt_of_le ao bb.size;refine hK.out _ _ (P.out _ av) (fun hHeld=>?_);clear hK KK
     try simp only [Act.put,p1q,p2q,p3q,p4q,p5q,p6q]
     refine wpAnyH_ready (rs:=[8]) (by kernel_rfl) (by simp) ?_
     refine (AllReadyH.cons rfl (fun KK hK=>?_) AllReadyH.nil)<;>rw [if_pos (by rfl)]
     ·go_simp;obtain ⟨bz,c,Z,T,bg,ae,ci,cx⟩:∃ Y g,Hid (Y=b6.alloc (Obj.cells #[I4 0,U8 0,U8 0,I4 0] 153))/\Hid (b6.heap.size=g)/\Bw b6 Y/\wc.heap.size<=g/\Hid (BxT Y g 0 ⟨0,0,0,0⟩)/\g<Y.heap.size:=⟨_,_,rfl,rfl,(Below.refl _ _).alloc (Nat.le_refl _) _,av.size,⟨⟨by go_cell,by go_cell,by go_cell,by go_cell⟩,by go_simp,by go_simp,by go_simp,by go_simp⟩,by simp⟩
      have ap:a≠c:=by have:=T.out;omega
      have dw:Hid (BxT bz a 0 ⟨0,0,0,0⟩):=BxT.below dt.out bg bp;have cs:a<bz.heap.size:=Nat.lt_of_lt_of_le bp bg.size;rw [<- Z.out,T.out];clear Z T;have cj:=av.trans (bg.mono av.size);refine hK.out _ _ (P.out _ cj) (fun hHeld=>?_);clear hK KK
      try simp only [Act.put,p1q,p2q,p3q,p4q,p5q,p6q]
      have I:c≠a:=ap.symm;obtain ⟨c0,c1,c2,c3,f0,f1,f2,f3⟩:=BxT.open ci.out;refine runO 10 (by kernel_rfl) rfl (by rfl) (fun KK hK=>?_);go_simp;clear c0 c1 c2 c3 f0 f1 f2 f3;obtain ⟨U,HU,aa,ah,a9,ac⟩:∃ U,Hid (U=(((bz.setCell ⟨c,0,none⟩ (I4 F)).setCell ⟨c,1,none⟩ (U8 D)).setCell ⟨c,2,none⟩ (U8 B)).setCell ⟨c,3,none⟩ (I4 A))/\Bw wc U/\Hid (BxT U c 0 ⟨F,D,B,A⟩)/\Hid (BxT U a 0 ⟨0,0,0,0⟩)/\(c<U.heap.size/\a<U.heap.size):=⟨_,rfl,qAn (t:=⟨F,D,B,A⟩) (off:=0) cj ae,ci.out.set ⟨F,D,B,A⟩,BxT.far (u:=⟨F,D,B,A⟩) (o:=0) dw.out I.symm,two_lt (qAd c (tyC ⟨F,D,B,A⟩) bz 0).size cx cs⟩;rw [<- HU.out];clear HU;refine hK.out _ _ (P.out _ aa) (fun hHeld=>?_);clear hK KK
      try simp only [Act.put,p1q,p2q,p3q,p4q,p5q,p6q]
      obtain ⟨c0,c1,c2,c3,f0,f1,f2,f3⟩:=BxT.open a9.out;refine runO 11 (by kernel_rfl) rfl (by rfl) (fun KK hK=>?_);go_simp;clear c0 c1 c2 c3 f0 f1 f2 f3;obtain ⟨V,G,ab,af,ag,a7⟩:∃ V,Hid (V=(((U.setCell ⟨a,0,none⟩ (I4 J)).setCell ⟨a,1,none⟩ (U8 M)).setCell ⟨a,2,none⟩ (U8 O)).setCell ⟨a,3,none⟩ (I4 L))/\Bw wc V/\Hid (BxT V c 0 ⟨F,D,B,A⟩)/\Hid (BxT V a 0 ⟨J,M,O,L⟩)/\(c<V.heap.size/\a<V.heap.size):=⟨_,rfl,qAn (t:=⟨J,M,O,L⟩) (off:=0) aa ad,BxT.far (u:=⟨J,M,O,L⟩) (o:=0) ah.out I,a9.out.set ⟨J,M,O,L⟩,two_lt (qAd a (tyC ⟨J,M,O,L⟩) U 0).size ac.1 ac.2⟩;rw [<- G.out];clear G;refine hK.out _ _ (P.out _ ab) (fun hHeld=>?_);clear hK KK
      try simp only [Act.put,p1q,p2q,p3q,p4q,p5q,p6q]
      refine wpAnyH_done (by kernel_rfl) ?_ _;go_wp2
      go_meet
      case rel=>exact ⟨c,a,rfl,rfl,af.out.1,ag.out.1,ab,a7.1,a7.2⟩
    ·go_simp;obtain ⟨db,c,Z,T,be,ae,di,bl⟩:∃ Y g,Hid (Y=bi.alloc (Obj.cells #[I4 0,U8 0,U8 0,I4 0] 153))/\Hid (bi.heap.size=g)/\Bw bi Y/\wc.heap.size<=g/\Hid (BxT Y g 0 ⟨0,0,0,0⟩)/\g<Y.heap.size:=⟨_,_,rfl,rfl,(Below.refl _ _).alloc (Nat.le_refl _) _,aj.size,⟨⟨by go_cell,by go_cell,by go_cell,by go_cell⟩,by go_simp,by go_simp,by go_simp,by go_simp⟩,by simp⟩
     have ap:a≠c:=by have:=T.out;omega
     have dv:Hid (BxT db a 0 ⟨0,0,0,0⟩):=BxT.below cc.out be ao;have bk:a<db.heap.size:=Nat.lt_of_lt_of_le ao be.size;rw [<- Z.out,T.out];clear Z T;have ba:=aj.trans (be.mono aj.size);refine hK.out _ _ (P.out _ ba) (fun hHeld=>?_);clear hK KK
     try simp only [Act.put,p1q,p2q,p3q,p4q,p5q,p6q]
     refine wpAnyH_ready (rs:=[7]) (by kernel_rfl) (by simp) ?_
     refine (AllReadyH.cons rfl (fun KK hK=>?_) AllReadyH.nil)<;>rw [if_pos (by rfl)]
     ·go_simp
      go_at_call 110
      refine (qCg (i:=⟨op,d,n,b,y⟩) HT r db h8 hb).mono ?_;rintro e b7 ⟨rfl,am⟩;have c9:=ba.trans (am.mono ba.size);have dk:Hid (BxT b7 a 0 ⟨0,0,0,0⟩):=BxT.below dv.out am bk;have cv:a<b7.heap.size:=Nat.lt_of_lt_of_le bk am.size;have cg:Hid (BxT b7 c 0 ⟨0,0,0,0⟩):=BxT.below di.out am bl;have d5:c<b7.heap.size:=Nat.lt_of_lt_of_le bl am.size;refine hK.out _ _ (P.out _ c9) (fun hHeld=>?_);clear hK KK
      try simp only [Act.put,p1q,p2q,p3q,p4q,p5q,p6q]
      have I:c≠a:=ap.symm;obtain ⟨c0,c1,c2,c3,f0,f1,f2,f3⟩:=BxT.open cg.out;refine runO 10 (by kernel_rfl) rfl (by rfl) (fun KK hK=>?_);go_simp;clear c0 c1 c2 c3 f0 f1 f2 f3;obtain ⟨U,HU,aa,ah,a9,ac⟩:∃ U,Hid (U=(((b7.setCell ⟨c,0,none⟩ (I4 F)).setCell ⟨c,1,none⟩ (U8 D)).setCell ⟨c,2,none⟩ (U8 B)).setCell ⟨c,3,none⟩ (I4 A))/\Bw wc U/\Hid (BxT U c 0 ⟨F,D,B,A⟩)/\Hid (BxT U a 0 ⟨0,0,0,0⟩)/\(c<U.heap.size/\a<U.heap.size):=⟨_,rfl,qAn (t:=⟨F,D,B,A⟩) (off:=0) c9 ae,cg.out.set ⟨F,D,B,A⟩,BxT.far (u:=⟨F,D,B,A⟩) (o:=0) dk.out I.symm,two_lt (qAd c (tyC ⟨F,D,B,A⟩) b7 0).size d5 cv⟩;rw [<- HU.out];clear HU;refine hK.out _ _ (P.out _ aa) (fun hHeld=>?_);clear hK KK
      try simp only [Act.put,p1q,p2q,p3q,p4q,p5q,p6q]
      obtain ⟨c0,c1,c2,c3,f0,f1,f2,f3⟩:=BxT.open a9.out;refine runO 11 (by kernel_rfl) rfl (by rfl) (fun KK hK=>?_);go_simp;clear c0 c1 c2 c3 f0 f1 f2 f3;obtain ⟨V,G,ab,af,ag,a7⟩:∃ V,Hid (V=(((U.setCell ⟨a,0,none⟩ (I4 J)).setCell ⟨a,1,none⟩ (U8 M)).setCell ⟨a,2,none⟩ (U8 O)).setCell ⟨a,3,none⟩ (I4 L))/\Bw wc V/\Hid (BxT V c 0 ⟨F,D,B,A⟩)/\Hid (BxT V a 0 ⟨J,M,O,L⟩)/\(c<V.heap.size/\a<V.heap.size):=⟨_,rfl,qAn (t:=⟨J,M,O,L⟩) (off:=0) aa ad,BxT.far (u:=⟨J,M,O,L⟩) (o:=0) ah.out I,a9.out.set ⟨J,M,O,L⟩,two_lt (qAd a (tyC ⟨J,M,O,L⟩) U 0).size ac.1 ac.2⟩;rw [<- G.out];clear G;refine hK.out _ _ (P.out _ ab) (fun hHeld=>?_);clear hK KK
      try simp only [Act.put,p1q,p2q,p3q,p4q,p5q,p6q]
      refine wpAnyH_done (by kernel_rfl) ?_ _;go_wp2
      go_meet
      case rel=>exact ⟨c,a,rfl,rfl,af.out.1,ag.out.1,ab,a7.1,a7.2⟩
 case first =>
  refine wp_region_held_drew (S:=fun z=>z.cell? ⟨qb,1,none⟩=some (.slice (some ⟨cb,co,none⟩) xs.length br)/\z.cell? ⟨qb,3,none⟩=some (.slice (some ⟨kb,0,none⟩) xs.length xs.length)/\z.cell? ⟨cb,co+p*5,none⟩=some (I4 op)/\z.cell? ⟨cb,co+p*5+1,none⟩=some (I4 d)/\z.cell? ⟨cb,co+p*5+2,none⟩=some (I4 n)/\z.cell? ⟨cb,co+p*5+3,none⟩=some (I4 b)/\z.cell? ⟨cb,co+p*5+4,none⟩=some (I4 y)/\StAt z kb (p*33) r s) (by kernel_rfl) (HP.out _ (Below.refl _ _).drew) (fun hHeld=>?_);refine tkGo [0,1,2,3,4,5,6,7,8,9,10,11,12] ?_
  repeat (refine tkO (v:=?_) rfl ?_ ?_;rotate_left;(intro wy hSw;(try dsimp only at hSw);go_simp;(first|done|with_reducible rfl));try simp only [Act.put,p1q,p2q,p3q,p4q,p5q,p6q])
  refine tkEnd ?_;refine wpAnyH_take (i:=13) rfl (by kernel_rfl) (by kernel_rfl) (by kernel_rfl) (fun _ _ _ h=>h) (yieldsIf_load_mid (by rfl) _ _ rfl _ _ rfl (stC r s) _ (fun w h=>h.2.2.2.2.2.2.2) Tryz.underlying156 rfl (sizeJ h8)) (by assumption) ?_
  try simp only [Act.put,p1q,p2q,p3q,p4q,p5q,p6q]
  refine runT 14 15 (by kernel_rfl) rfl rfl (by rfl) (by rfl) (fun KK hK=>?_) (fun KK hK=>?_)
  ·go_simp;refine hK.out _ _ (HP.out _ ((Below.refl _ _).alloc (Nat.le_refl _) _).drew) (fun hHeld=>?_);clear hK KK
   try simp only [Act.put,p1q,p2q,p3q,p4q,p5q,p6q]
   refine runO 15 (by kernel_rfl) rfl (by rfl) (fun KK hK=>?_);go_simp;obtain ⟨Y,Z,R,bj,ay,d2⟩:∃ Y,Hid (Y=(w.alloc (Obj.cells #[I4 0,I4 0,I4 0,I4 0,I4 0] 43)).alloc (Obj.cells #[.bool false,I4 0,U8 0,U8 0,I4 0,I4 0,U8 0,U8 0,I4 0,I4 0,U8 0,U8 0,I4 0,I4 0,U8 0,U8 0,I4 0,I4 0,U8 0,U8 0,I4 0,I4 0,U8 0,U8 0,I4 0,I4 0,U8 0,U8 0,I4 0,I4 0,U8 0,U8 0,I4 0] 156))/\Hid (Hp Y w.heap.size 43 (inC ⟨0,0,0,0,0⟩))/\Hid (Hp Y (w.heap.size+1) 156 zeroC)/\Bw w Y/\w.heap.size+2<=Y.heap.size:=⟨_,rfl,(Hp.new w (inC ⟨0,0,0,0,0⟩) _).alloc _,keepJ (by have:=Hp.new (w.alloc (Obj.cells #[I4 0,I4 0,I4 0,I4 0,I4 0] 43)) zeroC 156;simpa [zeroC] using this),by go_grown,by simp⟩;rw [<- Z.out];clear Z;refine hK.out _ _ (HP.out _ ay.drew) (fun hHeld=>?_);clear hK KK
   try simp only [Act.put,p1q,p2q,p3q,p4q,p5q,p6q]
   have n0:Y.cell? ⟨w.heap.size,0,none⟩=some (I4 0):=R.out.cell rfl;have f0:=R.out.frozen 0;have n1:Y.cell? ⟨w.heap.size,1,none⟩=some (I4 0):=R.out.cell rfl;have f1:=R.out.frozen 1;have n2:Y.cell? ⟨w.heap.size,2,none⟩=some (I4 0):=R.out.cell rfl;have f2:=R.out.frozen 2;have n3:Y.cell? ⟨w.heap.size,3,none⟩=some (I4 0):=R.out.cell rfl;have f3:=R.out.frozen 3;have n4:Y.cell? ⟨w.heap.size,4,none⟩=some (I4 0):=R.out.cell rfl;have f4:=R.out.frozen 4;refine runO 16 (by kernel_rfl) rfl (by rfl) (fun KK hK=>?_);go_simp;clear n0 n1 n2 n3 n4 f0 f1 f2 f3 f4;obtain ⟨V,G,d3,bn,bm,a7⟩:∃ V,Hid (V=(((((Y.setCell ⟨w.heap.size,0,none⟩ (I4 op)).setCell ⟨w.heap.size,1,none⟩ (I4 d)).setCell ⟨w.heap.size,2,none⟩ (I4 n)).setCell ⟨w.heap.size,3,none⟩ (I4 b)).setCell ⟨w.heap.size,4,none⟩ (I4 y)))/\Hid (Hp V w.heap.size 43 (inC ⟨op,d,n,b,y⟩))/\Hid (Hp V (w.heap.size+1) 156 zeroC)/\Bw w V/\w.heap.size+2<=V.heap.size:=⟨_,rfl,R.out.sets (inC ⟨op,d,n,b,y⟩) 0,bj.out.fars (by omega) (inC ⟨op,d,n,b,y⟩) 0,ay.trans (qAg (qAd _ (inC ⟨op,d,n,b,y⟩) Y 0) (by omega) ay.size),Nat.le_trans d2 (qAd _ (inC ⟨op,d,n,b,y⟩) Y 0).size⟩;rw [<- G.out];clear G R bj;refine hK.out _ _ (HP.out _ bm.drew) (fun hHeld=>?_);clear hK KK
   try simp only [Act.put,p1q,p2q,p3q,p4q,p5q,p6q]
   refine runO 17 (by kernel_rfl) rfl (by rfl) (fun KK hK=>?_)
   have cz:V.drew.there (w.heap.size+1) 0 (stC r s).toArray.size:=by rw [qCw r h8];exact bn.out.drew.there (by rw [qAv];omega)
   refine wp_store_mid _ _ _ rfl _ _ (List.toArray _) rfl rfl cz (sizeJA h8) (stC_all r s) ?_;have bo:Bw w (V.drew.setCells (w.heap.size+1) 0 (stC r s)):=(bm.drew).trans (qAg (qAd _ _ _ _) (by omega) (show w.heap.size<=V.heap.size by omega));refine hK.out _ _ (HP.out _ bo) (fun hHeld=>?_);clear hK KK
   try simp only [Act.put,p1q,p2q,p3q,p4q,p5q,p6q]
   refine wpAnyH_done (by kernel_rfl) ?_ _;go_wp2
   go_meet
   case rel=>exact ⟨w.heap.size,(w.heap.size+1),rfl,rfl,d3.out.drew.fars (by omega) _ _,bn.out.drew.box qAv h8,bo,by omega,by omega,by omega⟩
  ·go_simp;refine hK.out _ _ (HP.out _ ((Below.refl _ _).alloc (Nat.le_refl _) _).drew) (fun hHeld=>?_);clear hK KK
   try simp only [Act.put,p1q,p2q,p3q,p4q,p5q,p6q]
   refine runO 14 (by kernel_rfl) rfl (by rfl) (fun KK hK=>?_);go_simp;obtain ⟨Y,Z,R,bj,ay,d2⟩:∃ Y,Hid (Y=(w.alloc (Obj.cells #[.bool false,I4 0,U8 0,U8 0,I4 0,I4 0,U8 0,U8 0,I4 0,I4 0,U8 0,U8 0,I4 0,I4 0,U8 0,U8 0,I4 0,I4 0,U8 0,U8 0,I4 0,I4 0,U8 0,U8 0,I4 0,I4 0,U8 0,U8 0,I4 0,I4 0,U8 0,U8 0,I4 0] 156)).alloc (Obj.cells #[I4 0,I4 0,I4 0,I4 0,I4 0] 43))/\Hid (Hp Y (w.heap.size+1) 43 (inC ⟨0,0,0,0,0⟩))/\Hid (Hp Y w.heap.size 156 zeroC)/\Bw w Y/\w.heap.size+2<=Y.heap.size:=⟨_,rfl,keepJ (by have:=Hp.new (w.alloc (Obj.cells #[.bool false,I4 0,U8 0,U8 0,I4 0,I4 0,U8 0,U8 0,I4 0,I4 0,U8 0,U8 0,I4 0,I4 0,U8 0,U8 0,I4 0,I4 0,U8 0,U8 0,I4 0,I4 0,U8 0,U8 0,I4 0,I4 0,U8 0,U8 0,I4 0,I4 0,U8 0,U8 0,I4 0] 156)) (inC ⟨0,0,0,0,0⟩) 43;simpa [inC] using this),(Hp.new w zeroC _).alloc _,by go_grown,by simp⟩;rw [<- Z.out];clear Z;refine hK.out _ _ (HP.out _ ay.drew) (fun hHeld=>?_);clear hK KK
   try simp only [Act.put,p1q,p2q,p3q,p4q,p5q,p6q]
   have n0:Y.cell? ⟨(w.heap.size+1),0,none⟩=some (I4 0):=R.out.cell rfl;have f0:=R.out.frozen 0;have n1:Y.cell? ⟨(w.heap.size+1),1,none⟩=some (I4 0):=R.out.cell rfl;have f1:=R.out.frozen 1;have n2:Y.cell? ⟨(w.heap.size+1),2,none⟩=some (I4 0):=R.out.cell rfl;have f2:=R.out.frozen 2;have n3:Y.cell? ⟨(w.heap.size+1),3,none⟩=some (I4 0):=R.out.cell rfl;have f3:=R.out.frozen 3;have n4:Y.cell? ⟨(w.heap.size+1),4,none⟩=some (I4 0):=R.out.cell rfl;have f4:=R.out.frozen 4;refine runO 16 (by kernel_rfl) rfl (by rfl) (fun KK hK=>?_);go_simp;clear n0 n1 n2 n3 n4 f0 f1 f2 f3 f4;obtain ⟨V,G,d3,bn,bm,a7⟩:∃ V,Hid (V=(((((Y.setCell ⟨(w.heap.size+1),0,none⟩ (I4 op)).setCell ⟨(w.heap.size+1),1,none⟩ (I4 d)).setCell ⟨(w.heap.size+1),2,none⟩ (I4 n)).setCell ⟨(w.heap.size+1),3,none⟩ (I4 b)).setCell ⟨(w.heap.size+1),4,none⟩ (I4 y)))/\Hid (Hp V (w.heap.size+1) 43 (inC ⟨op,d,n,b,y⟩))/\Hid (Hp V w.heap.size 156 zeroC)/\Bw w V/\w.heap.size+2<=V.heap.size:=⟨_,rfl,R.out.sets (inC ⟨op,d,n,b,y⟩) 0,bj.out.fars (by omega) (inC ⟨op,d,n,b,y⟩) 0,ay.trans (qAg (qAd _ (inC ⟨op,d,n,b,y⟩) Y 0) (by omega) ay.size),Nat.le_trans d2 (qAd _ (inC ⟨op,d,n,b,y⟩) Y 0).size⟩;rw [<- G.out];clear G R bj;refine hK.out _ _ (HP.out _ bm.drew) (fun hHeld=>?_);clear hK KK
   try simp only [Act.put,p1q,p2q,p3q,p4q,p5q,p6q]
   refine runO 17 (by kernel_rfl) rfl (by rfl) (fun KK hK=>?_)
   have cz:V.drew.there w.heap.size 0 (stC r s).toArray.size:=by rw [qCw r h8];exact bn.out.drew.there (by rw [qAv];omega)
   refine wp_store_mid _ _ _ rfl _ _ (List.toArray _) rfl rfl cz (sizeJA h8) (stC_all r s) ?_;have bo:Bw w (V.drew.setCells w.heap.size 0 (stC r s)):=(bm.drew).trans (qAg (qAd _ _ _ _) (by omega) (show w.heap.size<=V.heap.size by omega));refine hK.out _ _ (HP.out _ bo) (fun hHeld=>?_);clear hK KK
   try simp only [Act.put,p1q,p2q,p3q,p4q,p5q,p6q]
   refine wpAnyH_done (by kernel_rfl) ?_ _;go_wp2
   go_meet
   case rel=>exact ⟨(w.heap.size+1),w.heap.size,rfl,rfl,d3.out.drew.fars (by omega) _ _,bn.out.drew.box qAv h8,bo,by omega,by omega,by omega⟩
def blurI (s:St) (i:In):St:=if i.wr.2=true then s.set i.wr.1.toNat (blurT (s.getD i.wr.1.toNat Ty.nil)) else s
def segI (xs:List In) (p M:Nat):List In:=(xs.drop p).take M
def blurOne (xs:List In) (p:Nat) (s:St) (l:Lp):St:=if l.h=p then (segI xs p (l.t+1-p).toNat).foldl blurI s else s
def blurAll (xs:List In) (p:Nat) (ls:List Lp) (s:St):St:=ls.foldl (blurOne xs p) s
theorem made_blurT (nm:Nat)(t:Ty):Made nm (blurT t):=by
 unfold blurT
 split
 ·exact made_full nm
 ·exact made_nil nm
theorem made_blurI {nm:Nat}{s:St}(h:Made8 nm s)(i:In):Made8 nm (blurI s i):=by
 unfold blurI
 split
 ·exact h.set _ (made_blurT nm _)
 ·exact h
theorem made_seg {nm:Nat}(l:List In):∀ {s:St},Made8 nm s->Made8 nm (l.foldl blurI s):=by
 induction l with
 | nil=>intro s h;exact h
 | cons i l ih=>intro s h;exact ih (made_blurI h i)
theorem made_blurOne {nm:Nat}{xs:List In}{p:Nat}{s:St}(h:Made8 nm s)(l:Lp):Made8 nm (blurOne xs p s l):=by
 unfold blurOne
 split
 ·exact made_seg _ h
 ·exact h
theorem made_blurAll {nm:Nat}{xs:List In}{p:Nat}(ls:List Lp):∀ {s:St},Made8 nm s->Made8 nm (blurAll xs p ls s):=by
 unfold blurAll
 induction ls with
 | nil=>intro s h;exact h
 | cons i l ih=>intro s h;exact ih (made_blurOne h i)
theorem fold_take {α β:Type}(f:β->α->β)(l:List α)(b:β){k:Nat}(a:k<l.length)(d:α):(l.take (k+1)).foldl f b=f ((l.take k).foldl f b) (l.getD k d):=by
 rw [List.take_add_one,List.foldl_append]
 simp [List.getElem?_eq_getElem a,List.getD]
theorem fold_all {α β:Type}(f:β->α->β)(l:List α)(b:β):(l.take l.length).foldl f b=l.foldl f b:=by rw [List.take_length]
theorem seg_len {xs:List In}{p M:Nat}(h:p+M<=xs.length):(segI xs p M).length=M:=by simp [segI];omega
theorem seg_at {xs:List In}{p M m:Nat}(hm:m<M):(segI xs p M).getD m In.nil=nth xs (p+m):=by
 simp [segI,List.getD,List.getElem?_take,hm]
theorem lblurred_as {k lo hi m k' a b c:Int}(h:Hid (blurT ⟨k,lo,hi,m⟩=⟨k',a,b,c⟩))(w:World):Cl 109 #[.agg #[I4 k,U8 lo,U8 hi,I4 m]] w fun e d=>e=.returned (.agg #[I4 k',U8 a,U8 b,I4 c])/\Bw w d:=by
 have:=lblurred_any ⟨k,lo,hi,m⟩ w;rw [h.out] at this;exact this
theorem Inq.loop {w0 w:World}{u kb nm y s g:Nat}{l:Option Addr}{c:Nat}{xs:List In}{ls:List Lp}{K:Kn}(h:Inq w0 w u kb nm (.slice l ls.length c) y s g xs ls K){k:Nat}(f:k<ls.length):∃ lb lo,l=some ⟨lb,lo,none⟩/\lb<w0.heap.size/\AtL w lb (lo+k*3) (ls.getD k Lp.nil)/\ls.length<=c/\c<=9223372036854775807:=by
 obtain ⟨a,cap,A,z,B,D,n⟩:=h.lo;injection A with o E r;subst o r;obtain ⟨b,off,he,d,i⟩:=n (fun e=>by rw [e] at f;simp at f);exact ⟨b,off,he,d,(i k f).below h.b0 d,z,by unfold maxLen at B;omega⟩
def LpIn (xs:List In) (ls:List Lp):Prop:=∀ l∈ls,0<=l.h/\l.h<=l.t/\l.t<xs.length
theorem lblur_core (w0 w:World)(A kb nm F D f p:Nat)(la:Option Addr)(z:Nat)(xs:List In)(ls:List Lp)(K:Kn)(h:Inq w0 w A kb nm (.slice la ls.length z) F D f xs ls K)(hp:p<xs.length)(bh:xs.length<=64)(hr:∀ i∈xs,i.right=true)(hL:LpIn xs ls)(r:Bool)(s:St)(HK:Hid (K.getD p kn0=(r,s)))(hs:Made8 nm s) :
  Cl 75 #[.pointer (some ⟨A,0,none⟩),I4 p] w fun e O=>e=.returned (.tuple #[])/\Inq w0 O A kb nm (.slice la ls.length z) F D f xs ls (K.set p (r,blurAll xs p ls s)):=by
 have HQ:=keepJ h;have HR:=keepJ hr;have aw:=keepJ hL;have HS:=keepJ hs;have ax:=keepJ hp;have q2:w.cell? ⟨A,2,none⟩=some (.slice la ls.length z):=h.q.cell rfl
 have bd:(p:Int)<64:=by omega
 have a2:p<K.length:=by rw [h.len];exact hp
 have ac:=keepJ a2
 have bc:(xs.length:Int)<=64:=by omega
 clear h hr hL hs a2;go_enter Tryz.func75,Tryz.ntmps75;go_wp2;clear q2
 go_loopw [15] (fun i wr=>∃ k:Nat,k<=ls.length/\i=I4 k/\Hid (Inq w0 wr A kb nm (.slice la ls.length z) F D f xs ls (K.set p (r,(ls.take k).foldl (blurOne xs p) s)))) (fun i _=>ls.length-(intOf i).toNat)
 case atStart=>exact ⟨0,by omega,rfl,by show Inq _ _ _ _ _ _ _ _ _ _ _ _;simp only [List.take_zero,List.foldl_nil];rw [<- HK.out,kn_self];exact HQ.out⟩
 case round =>
  obtain ⟨k,hk,rfl,V⟩:=hrel
  by_cases hlt:k<ls.length
  ·obtain ⟨lb,lo,rfl,bq,ab,bn,bm⟩:=V.out.loop hlt;obtain ⟨T,N,I,HL⟩:∃ a b c,Hid (ls.getD k Lp.nil=⟨a,b,c⟩):=⟨_,_,_,rfl⟩
   have au:ls.getD k Lp.nil∈ls:=by rw [show ls.getD k Lp.nil=ls[k] by simp [List.getD,List.getElem?_eq_getElem hlt]];exact List.getElem_mem hlt
   have ad:=aw.out _ au;rw [HL.out] at ab ad;obtain ⟨l0,l1,l2⟩:=ab;simp only at l0 l1 l2 ad;obtain ⟨B,a9⟩:∃ B,Hid ((ls.take k).foldl (blurOne xs p) s=B):=⟨_,rfl⟩
   have aa:Hid ((ls.take (k+1)).foldl (blurOne xs p) s=blurOne xs p B ⟨T,N,I⟩):=by show _=_;rw [fold_take _ _ _ hlt Lp.nil,HL.out,a9.out]
   rw [a9.out] at V
   have bf:(k:Int)<ls.length:=by omega
   by_cases hh:T=p
   ·obtain ⟨g,a8⟩:∃ g:Nat,Hid (N=g):=⟨N.toNat,by show _=_;omega⟩
    have bo:p<=g/\g<xs.length:=by have:=a8.out;omega
    have P:Hid (blurOne xs p B ⟨T,N,I⟩=(segI xs p (g+1-p)).foldl blurI B):=by
     show _=_
     unfold blurOne;rw [if_pos hh,show ((⟨T,N,I⟩:Lp).t+1-(p:Int)).toNat=g+1-p from by show (N+1-(p:Int)).toNat=_;rw [a8.out];omega]
    have bl:Hid (T=p):=hh;rw [a8.out] at l1;rw [hh] at l0
    have az:Hid (∀ u:St,(K.set p (r,u)).getD p kn0=(r,u)):=fun u=>kn_set ac.out
    obtain ⟨aq,b4,hN,bi⟩:=V.out.at ax.out
    have b9:IntKind.i64.wrap ((g:Int)+1)=((g+1:Nat):Int):=by rw [IntKind.wrap_i64];omega
    have b3:g+1<=f:=by omega
    have b5:p<=g+1:=by omega
    have b1:¬ f=p:=by omega
    clear aq;clear hh
    have bk:(g:Int)<64:=by omega
    have b6:Hid (Made8 nm B):=by
     show Made8 nm B
     rw [<- a9.out];exact made_blurAll (xs:=xs) (p:=p) (ls.take k) HS.out
    go_wp2;obtain ⟨Y,L,HY,ai,aj,bp,n0,n1⟩:∃ Y L,Hid (Y=wr.alloc (Obj.cells #[I4 p,I4 g,I4 I] 186))/\Hid (wr.heap.size=L)/\Hid (Inq w0 Y A kb nm (.slice (some ⟨lb,lo,none⟩) ls.length z) F D f xs ls (K.set p (r,B)))/\L<Y.heap.size/\Y.cell? ⟨L,0,none⟩=some (I4 p)/\Y.cell? ⟨L,1,none⟩=some (I4 g) :=
     ⟨_,_,rfl,rfl,V.out.below ((Below.refl _ _).alloc (Nat.le_refl _) _),by simp,by go_cell,by go_cell⟩
    rw [<- HY.out,ai.out];clear HY ai l0 l1 l2;have q1:Y.cell? ⟨A,1,none⟩=some (.slice (some ⟨F,D,none⟩) xs.length f):=aj.out.q.cell rfl;refine wp_region_held_drew (S:=fun O=>O.cell? ⟨A,1,none⟩=some (.slice (some ⟨F,D,none⟩) xs.length f)/\O.cell? ⟨L,0,none⟩=some (I4 p)/\O.cell? ⟨L,1,none⟩=some (I4 g)) (by kernel_rfl) ⟨q1,n0,n1⟩ (fun hHeld=>?_);refine tkGo [0,1,2,3,4,5,6,7,8] ?_
    repeat (refine tkO (v:=?_) rfl ?_ ?_;rotate_left;(intro wy hSw;(try dsimp only at hSw);go_simp;(first|done|with_reducible rfl));try simp only [Act.put,p1q,p2q,p3q,p4q,p5q,p6q])
    refine tkEnd ?_;refine wpAnyH_take (i:=9) (v:=.slice (some ⟨F,D+p*5,none⟩) (g+1-p) (f-p)) rfl (by kernel_rfl) (by kernel_rfl) (by kernel_rfl) (fun _ _ _ h=>h) (Or.inl ⟨by rfl,fun wy hSw=>?_⟩) (by assumption) ?_
    ·go_simp
     exact fun hq=>absurd (hq (by omega)) (by omega)
    try simp only [Act.put,p1q,p2q,p3q,p4q,p5q,p6q]
    refine tkGo [10,11] ?_
    repeat (refine tkO (v:=?_) rfl ?_ ?_;rotate_left;(intro wy hSw;(try dsimp only at hSw);go_simp;(first|done|with_reducible rfl));try simp only [Act.put,p1q,p2q,p3q,p4q,p5q,p6q])
    refine tkEnd ?_;refine wpAnyH_done (by kernel_rfl) ?_ _;go_wp2;clear q1 n0 n1 b9 b3 b5 b1;obtain ⟨M,HM⟩:∃ M,Hid (g+1-p=M):=⟨_,rfl⟩
    have b2:p+M<=xs.length:=by have:=HM.out;omega
    have am:Hid ((segI xs p M).length=M):=seg_len b2;rw [HM.out] at P ⊢
    go_loopw [34] (fun i wq=>∃ m:Nat,m<=M/\i=I4 m/\Hid (Inq w0 wq A kb nm (.slice (some ⟨lb,lo,none⟩) ls.length z) F D f xs ls (K.set p (r,((segI xs p M).take m).foldl blurI B)))) (fun i _=>M-(intOf i).toNat)
    case atStart=>exact ⟨0,by omega,rfl,by show Inq _ _ _ _ _ _ _ _ _ _ _ _;simp only [List.take_zero,List.foldl_nil];exact aj.out.below (Below.refl _ _).drew⟩
    case round =>
     obtain ⟨m,hm,rfl,R⟩:=hrel
     by_cases hmt:m<M
     ·obtain ⟨ak,-,-,-⟩:=R.out.at (p:=p+m) (by omega);obtain ⟨op,d,a,b,o,X⟩:∃ op d a b o,Hid (nth xs (p+m)=⟨op,d,a,b,o⟩):=⟨_,_,_,_,_,rfl⟩;rw [X.out,show D+(p+m)*5=D+p*5+m*5 by omega] at ak;obtain ⟨c0,c1,c2,c3,c4⟩:=ak;simp only at c0 c1 c2 c3 c4;obtain ⟨y,a6⟩:∃ y,Hid (((segI xs p M).take m).foldl blurI B=y):=⟨_,rfl⟩
      have a0:Hid (((segI xs p M).take (m+1)).foldl blurI B=blurI y ⟨op,d,a,b,o⟩):=by
       show _=_
       rw [fold_take _ _ _ (by rw [am.out];exact hmt) In.nil,seg_at hmt,X.out,a6.out]
      rw [a6.out] at R
      have a3:Hid (Made8 nm y):=by
       show Made8 nm y
       rw [<- a6.out];exact made_seg _ b6.out
      have bj:(m:Int)<M:=by omega
      have ao:In.right ⟨op,d,a,b,o⟩=true:=by
       rw [<- X.out];refine HR.out _ ?_;rw [show nth xs (p+m)=xs[p+m]'(by omega) by simp [nth,List.getD,List.getElem?_eq_getElem (show p+m<xs.length by omega)]];exact List.getElem_mem _
      obtain ⟨wn,ok,U⟩:∃ wn ok,Hid (writesL op d a b o=(wn,ok)):=⟨_,_,rfl⟩;have bb:F<wr.heap.size:=Nat.lt_of_lt_of_le b4 R.out.b0.size
      cases ok with
      | false =>
       have J:Hid (blurI y ⟨op,d,a,b,o⟩=y):=by show _=_;unfold blurI In.wr;rw [U.out,if_neg (by simp)]
       go_wp2_with (go_at_call 108;go_must (refine (owrites_as U _).mono ?_);rintro e w1 ⟨rfl,G⟩;go_must (have a4:=qAl G;clear G))
       go_roundw
       case rel=>exact ⟨m+1,by omega,by go_num,by rw [a0.out,J.out];exact R.out.below a4⟩
       case measure=>simp [intOf];omega
      | true =>
       obtain ⟨n,b8,hn⟩:∃ n:Nat,Hid (wn=n)/\n<8:=by
        have ag:In.wr ⟨op,d,a,b,o⟩=(wn,true):=U.out;have ae:=writes_op ⟨op,d,a,b,o⟩ (by rw [ag]) ao;rw [ag] at ae
        rcases ae with ⟨h,ho⟩|⟨h,ho⟩
        ·have h2:=qBg ao (by simp only at ho ⊢;omega);injection h with h3;simp only at h2 h3;exact ⟨d.toNat,by show _=_;omega,by omega⟩
        ·injection h with h3;exact ⟨0,h3,by omega⟩
       rw [b8.out] at U;obtain ⟨tk,tl,th,tm,HT⟩:∃ k' lo hi m,Hid (y.getD n Ty.nil=⟨k',lo,hi,m⟩):=⟨_,_,_,_,rfl⟩;obtain ⟨Z,jl,jh,jm,al⟩:∃ k' lo hi m,Hid (blurT ⟨tk,tl,th,tm⟩=⟨k',lo,hi,m⟩):=⟨_,_,_,_,rfl⟩
       have J:Hid (blurI y ⟨op,d,a,b,o⟩=y.set n ⟨Z,jl,jh,jm⟩):=by show _=_;unfold blurI In.wr;rw [U.out,if_pos rfl,Int.toNat_natCast,HT.out,al.out]
       have br:(n:Int)<8:=by omega
       go_wp2_with (go_at_call 108;go_must (refine (owrites_as U _).mono ?_);rintro e w1 ⟨rfl,G⟩;go_must (have a4:=qAl G;have E:=keepJ (R.out.below a4);clear G))
       have Q:=E.out.e8
       have a1:p<(K.set p (r,y)).length:=by rw [List.length_set];exact ac.out
       have a7:=az.out y
       have bg:(p:Int)<xs.length:=by omega
       have q3:w1.cell? ⟨A,3,none⟩=some (.slice (some ⟨kb,0,none⟩) xs.length xs.length):=E.out.q.cell rfl;have ap:=(E.out.k.state Q a1 a7).typ a3.out.1 hn;rw [HT.out] at ap;obtain ⟨e0,e1,e2,e3⟩:=ap;simp only at e0 e1 e2 e3;have bs:=E.out.q.lt;have be:=E.out.k.lt;refine wp_region_held_drew (S:=fun O=>O.cell? ⟨A,3,none⟩=some (.slice (some ⟨kb,0,none⟩) xs.length xs.length)) (by kernel_rfl) q3 (fun hHeld=>?_);refine tkGo [0,1,2,3,4,5,6,7,8,9,10,11,12,13,14,17,18] ?_
       repeat (refine tkO (v:=?_) rfl ?_ ?_;rotate_left;(intro wy hSw;(try dsimp only at hSw);go_simp;(first|done|with_reducible rfl));try simp only [Act.put,p1q,p2q,p3q,p4q,p5q,p6q])
       refine tkEnd ?_;refine runO 15 (by kernel_rfl) rfl (by rfl) (fun KK hK=>?_);go_simp;refine hK.out _ _ q3 (fun hHeld=>?_);clear hK KK
       try simp only [Act.put,p1q,p2q,p3q,p4q,p5q,p6q]
       refine runO 16 (by kernel_rfl) rfl (by rfl) (fun KK hK=>?_);go_simp
       go_at_call 109
       refine (lblurred_as al w1.drew).mono ?_;rintro e w3 ⟨rfl,av⟩;have b7:Bw w1 w3:=qAf av;have l:=keepJ (E.out.below b7);have af:w3.cell? ⟨A,3,none⟩=some (.slice (some ⟨kb,0,none⟩) xs.length xs.length):=l.out.q.cell rfl;refine hK.out _ _ af (fun hHeld=>?_);clear hK KK
       try simp only [Act.put,p1q,p2q,p3q,p4q,p5q,p6q]
       refine tkGo [19] ?_
       repeat (refine tkO (v:=?_) rfl ?_ ?_;rotate_left;(intro wy hSw;(try dsimp only at hSw);go_simp;(first|done|with_reducible rfl));try simp only [Act.put,p1q,p2q,p3q,p4q,p5q,p6q])
       refine tkEnd ?_;have a5:=(l.out.k.state Q a1 a7).typ a3.out.1 hn;rw [HT.out] at a5;obtain ⟨m0,m1,m2,m3⟩:=a5;simp only at m0 m1 m2 m3;have f0:=l.out.k.frozen (p*33+1+n*4);have f1:=l.out.k.frozen (p*33+1+n*4+1);have f2:=l.out.k.frozen (p*33+1+n*4+2);have f3:=l.out.k.frozen (p*33+1+n*4+3);have ba:=keepJ (l.out.k.putT Q a1 a7 hn ⟨Z,jl,jh,jm⟩);have ar:=l.out.ne;have ah:(setT w3 kb (p*33+1+n*4) ⟨Z,jl,jh,jm⟩).cell? ⟨A,3,none⟩=some (.slice (some ⟨kb,0,none⟩) xs.length xs.length):=(qAd kb (tyC ⟨Z,jl,jh,jm⟩) w3 (p*33+1+n*4)).cell af (fun e=>ar (by injection e));have ay:=keepJ ah;clear ah;refine runO 20 (by kernel_rfl) rfl (by rfl) (fun KK hK=>?_);go_simp;refine hK.out _ _ ay.out (fun hHeld=>?_);clear hK KK
       try simp only [Act.put,p1q,p2q,p3q,p4q,p5q,p6q]
       refine wpAnyH_done (by kernel_rfl) ?_ _;go_wp2
       go_roundw
       case rel =>
        refine ⟨m+1,by omega,by go_num,?_⟩;rw [a0.out,J.out];have hP:=ba.out;rw [List.set_set] at hP;have:=l.out.grown (qAd kb (tyC ⟨Z,jl,jh,jm⟩) w3 (p*33+1+n*4)) hP (by simp) (by rw [<- List.set_set (a:=(r,y)) (i:=p)];exact Q.set p (by rw [List.length_set];exact a3.out.1));exact this
       case measure=>simp [intOf];omega
     ·obtain rfl:m=M:=by omega
      go_wp2
      go_roundw
      case rel =>
       refine ⟨k+1,by omega,by go_num,?_⟩;rw [aa.out,P.out];have:=R.out;rw [show (segI xs p m).take m=segI xs p m from List.take_of_length_le (by rw [am.out];exact Nat.le_refl _)] at this;exact this
      case measure=>simp [intOf];omega
   ·have P:Hid (blurOne xs p B ⟨T,N,I⟩=B):=by show _=_;unfold blurOne;rw [if_neg hh]
    go_wp2
    go_roundw
    case rel=>exact ⟨k+1,by omega,by go_num,by rw [aa.out,P.out];exact V.out.below ((Below.refl _ _).alloc (Nat.le_refl _) _)⟩
    case measure=>simp [intOf];omega
  ·obtain rfl:k=ls.length:=by omega
   go_wp2;exact bodyPost_end (results_none rfl _ _ _) rfl ⟨rfl,by have:=V.out;rw [fold_all] at this;exact this⟩
theorem right_fields {i:In}(c:i.right=true):(0<=i.a/\i.a<=7)/\(i.b=8∨(0<=i.b/\i.b<=7)):=by
 obtain ⟨op,d,a,b,f⟩:=i;unfold In.right rightB at c;simp only at c ⊢
 repeat' split at c
 all_goals simp [regB,sourcedB] at c
 all_goals omega
theorem wr_leaves {i:In}(g:i.right=true)(s:St)(h:¬ (16<=i.op/\i.op<=19))(b:Bool):leavesJ i s b=some (wrS i s):=by
 have h0:0<=i.op/\i.op<=22:=qBp g;unfold leavesJ wrS
 by_cases hw:i.wr.2=true
 ·rw [if_pos hw]
  rcases writes_op i hw g with ⟨e,f⟩|⟨e,f⟩
  ·rw [e];unfold madeT
   by_cases c0:i.op=0
   ·rw [if_pos c0,if_pos c0]
   rw [if_neg c0,if_neg c0]
   by_cases c1:1<=i.op/\i.op<=10
   ·rw [if_pos (by simp [threeB];omega),if_neg (by omega),if_neg (by omega),if_neg (by omega)]
   rw [if_neg (by simp [threeB];omega)]
   by_cases c2:i.op=11∨i.op=13
   ·rw [if_pos c2,if_pos c2]
   rw [if_neg c2,if_neg c2,if_pos (by omega),if_pos (by omega)]
  ·rw [e];unfold madeT;rw [if_neg (by omega),if_neg (by simp [threeB];omega),if_neg (by omega),if_neg (by omega),if_pos f,if_neg (by omega),if_neg (by omega),if_neg (by omega),if_pos f]
   rfl
 ·rw [if_neg hw]
  have k:¬ (i.op<=11∨i.op=13∨i.op=14)/\¬ i.op=21:=by
   unfold In.wr writesL at hw;rw [if_neg (by simp [show rightB i.op i.d i.a i.b i.imm=true from g])] at hw
   by_cases c:i.op<=11∨i.op=13∨i.op=14
   ·rw [if_pos c] at hw;simp at hw
   ·rw [if_neg c] at hw;exact ⟨c,by simpa using hw⟩
  rw [if_neg (by omega),if_neg (by simp [threeB];omega),if_neg (by omega),if_neg (by omega),if_neg (by omega),if_neg (by simp [jumpB];omega)]
theorem ref_leaves {i:In}(s:St)(h:16<=i.op/\i.op<=19)(r b:Bool):refS i r s b=match leavesJ i s b with|none=>(false,stZ)|some s'=>(r,s'):=by
 unfold leavesJ refS;rw [if_neg (by omega),if_neg (by simp [threeB];omega),if_neg (by omega),if_neg (by omega),if_neg (by omega),if_pos (by simp [jumpB];omega)]
 cases refineR i.op (regT s i.a).lo (regT s i.a).hi (srcT i s).lo (srcT i s).hi b<;>rfl
theorem word_made {nm:Nat}{t:Ty}(h:Made nm t):wordE t=if t.k≠1 then 33 else if 15<t.hi then 35 else 0:=by
 unfold wordE
 by_cases hk:t.k=1
 ·have b:0<=t.lo/\t.lo<=t.hi:=by rcases h with h|h|h<;>omega
  have a:withinB t.lo t.hi 0 15=decide (t.hi<=15):=by
   rw [Bool.eq_iff_iff]
   simp [withinB,hasN]
   omega
  rw [a]
  by_cases h15:15<t.hi
  ·simp [hk,h15]
  ·simp [hk,h15]
 ·simp [hk]
theorem fitsAll_eq {nm:Nat}{s h:St}(c:Made8 nm s)(b:Made8 nm h):fitsAllS s h=fitsAll s h:=by
 unfold fitsAllS fitsAll;rw [Bool.eq_iff_iff,List.all_eq_true,List.all_eq_true]
 constructor
 ·intro k r a;rw [<- fits_eq (c.get (List.mem_range.1 a)) (b.get (List.mem_range.1 a))];exact k r a
 ·intro k r a;rw [fits_eq (c.get (List.mem_range.1 a)) (b.get (List.mem_range.1 a))];exact k r a
theorem nums1 (t:Ty):numsE [t]=if t.k≠1 then 33 else 0:=by
 unfold numsE
 by_cases h:t.k=1<;>simp [h]
theorem nums2 (t u:Ty):numsE [t,u]=if t.k≠1∨u.k≠1 then 33 else 0:=by
 unfold numsE
 by_cases h:t.k=1<;>by_cases h':u.k=1<;>simp [h,h']
theorem ask_asks {nm:Nat}{i:In}{s h:St}(c:i.right=true)(d:Made8 nm s)(f:i.op=20->Made8 nm h):askK nm i s h=asksJ nm i s h:=by
 have h0:0<=i.op/\i.op<=22:=qBp c;have g:=(right_fields c).2
 have b:(i.op<=12∨(16<=i.op/\i.op<=19))->srcA i s=srcT i s:=fun l=>by unfold srcA;rw [if_pos (qBs c l).1]
 have hm:=made_src (i:=i) d g;unfold askK asksJ
 by_cases c13:i.op=13∨i.op=15
 ·rw [if_pos c13,if_neg (by omega),if_pos c13]
 rw [if_neg c13]
 by_cases c0:i.op=0
 ·rw [if_pos c0,if_pos c0,b (by omega)];unfold unlE
  by_cases hk:(srcT i s).k=0<;>simp [hk]
 rw [if_neg c0,if_neg c0,if_neg c13]
 by_cases c11:i.op=11
 ·rw [if_pos c11,if_neg (by omega),if_neg (by omega),if_pos c11,b (by omega),word_made hm]
 rw [if_neg c11]
 by_cases c12:i.op=12
 ·rw [if_pos c12,nums1,word_made hm,if_neg (show ¬ i.op=14 by omega),if_neg (show ¬ i.op=21 by omega),if_neg c11,if_neg (show ¬ i.op=20 by omega),if_neg (show ¬ i.op=22 by omega),b (by omega)]
  by_cases h1:(regT s i.a).k=1<;>by_cases h2:(srcT i s).k=1<;>simp [h1,h2,c12]
 rw [if_neg c12]
 by_cases c14:i.op=14
 ·rw [if_pos c14,if_pos c14];unfold unlE
  by_cases h1:i.imm<(nm:Int)
  ·rw [if_pos (by simpa using h1),if_neg (by omega)]
  ·rw [if_neg (by simpa using h1),if_pos (by omega)]
 rw [if_neg c14,if_neg c14]
 by_cases c20:i.op=20
 ·rw [if_pos c20,nums1,fitsAll_eq d (f c20),if_neg (show ¬ i.op=21 by omega),if_neg c11,if_pos c20];unfold unlE
  by_cases h1:(regT s i.a).k=1<;>simp [h1]
 rw [if_neg c20]
 by_cases c21:i.op=21
 ·rw [if_pos c21,if_pos c21]
 rw [if_neg c21,if_neg c21,if_neg c11,if_neg c20]
 by_cases c22:i.op=22
 ·rw [if_pos c22,if_pos c22,nums1]
 rw [if_neg c22,if_neg c22,b (by omega),nums2]
 by_cases h1:(regT s i.a).k≠1∨(srcT i s).k≠1
 ·rw [if_pos h1,if_pos h1]
 ·rw [if_neg h1,if_neg h1,if_neg (by omega)]
theorem mem_nth {xs:List In}{i:In}(h:i∈xs):∃ k,k<xs.length/\nth xs k=i:=by
 obtain ⟨k,a,rfl⟩:=List.mem_iff_getElem.1 h;exact ⟨k,a,by simp [nth,List.getD,List.getElem?_eq_getElem a]⟩
theorem Taken.right {xs:List In}(h:Taken xs){k:Nat}(a:k<xs.length):(nth xs k).right=true:=(qCd a (h.place k a)).1
theorem Taken.rights {xs:List In}(h:Taken xs):∀ i∈xs,i.right=true:=fun i hi=>by
 obtain ⟨k,a,rfl⟩:=mem_nth hi;exact h.right a
theorem Taken.loops {xs:List In}(h:Taken xs):LpIn xs (loopsL xs):=fun l a=>by
 obtain ⟨k,_,_,_,h0,c,b,_⟩:=loop_ok h.place a
 omega
theorem lblur_any {w0 w:World}{b kb nm f d a p:Nat}{k:Value}{xs:List In}{ls:List Lp}{K:Kn}(h:Inq w0 w b kb nm k f d a xs ls K)(c:Taken xs)(i:ls=loopsL xs)(l:p<xs.length)(n:MadeK nm K) :
  Cl 75 #[.pointer (some ⟨b,0,none⟩),I4 p] w fun e o=>e=.returned (.tuple #[])/\Inq w0 o b kb nm k f d a xs ls (K.set p ((K.getD p kn0).1,blurAll xs p ls (K.getD p kn0).2)):=by
 obtain ⟨r,g,s,_⟩:=id h.lo;subst s;exact lblur_core w0 w b kb nm f d a p r g xs ls K h l c.top c.rights (i ▸ c.loops) _ _ rfl (n.at p)
theorem lask_any {w0 w:World}{r kb nm A z g p:Nat}{u:Value}{xs:List In}{ls:List Lp}{K:Kn}(h:Inq w0 w r kb nm u A z g xs ls K)(l:Taken xs)(i:p<xs.length)(s:MadeK nm K){E:Int}(D:Hid (E=asksJ nm (nth xs p) (K.getD p kn0).2 (K.getD ((p:Int)+(nth xs p).far).toNat kn0).2)) :
  Cl 76 #[.pointer (some ⟨r,0,none⟩),I4 p] w fun e F=>e=.returned (I4 E)/\Bw w F:=by
 have y:=l.right i;have f:=qCd i (l.place p i);obtain ⟨o,k⟩:=right_fields y;rw [D.out,<- ask_asks y (s.at p) (fun _=>s.at _)];obtain ⟨op,d,a,b,c,B⟩:∃ op d a b c,Hid (nth xs p=⟨op,d,a,b,c⟩):=⟨_,_,_,_,_,rfl⟩;rw [B.out] at o k f ⊢;simp only at o k;obtain ⟨n,rfl⟩:=Int.eq_ofNat_of_zero_le o.1;exact lask_core w0 w r kb nm A z g p u xs ls K h i l.top s n (by omega) op d b c B _ _ rfl k _ _ _ _ _ _ _ _ rfl rfl (fun _=>⟨f.2.1,f.2.2.1⟩)
theorem made_ref {nm:Nat}{i:In}{s head:St}{r b:Bool}(c:i.right=true)(d:Made8 nm s)(f:asksJ nm i s head=0)(a:16<=i.op/\i.op<=19):Made8 nm (refS i r s b).2:=by
 rw [ref_leaves s a r b]
 cases hl:leavesJ i s b with
 | none=>exact made_zero nm
 | some s'=>exact made_leaves c d f hl
theorem lleave_any {w0 w:World}{n kb nm A z g p:Nat}{y:Value}{xs:List In}{ls:List Lp}{K:Kn}(h:Inq w0 w n kb nm y A z g xs ls K)(L:Taken xs)(l:p<xs.length)(D:MadeK nm K){head:St}(N:asksJ nm (nth xs p) (K.getD p kn0).2 head=0) :
  Cl 77 #[.pointer (some ⟨n,0,none⟩),I4 p] w fun e T=>e=.returned (.tuple #[])/\Inq w0 T n kb nm y A z g xs ls (leaveK (nth xs p) p K):=by
 have i:=L.right l;have G:=qCd l (L.place p l);have c:=qAp (nth xs p);obtain ⟨F,E⟩:=right_fields i;have P:=D.at p;have o:=L.top
 have u:¬ (16<=(nth xs p).op/\(nth xs p).op<=19)->Made8 nm (wrS (nth xs p) (K.getD p kn0).2):=fun M=>made_leaves i P N (wr_leaves i _ M false)
 have k:∀ b,(16<=(nth xs p).op/\(nth xs p).op<=19)->Made8 nm (refS (nth xs p) (K.getD p kn0).1 (K.getD p kn0).2 b).2:=fun b M=>made_ref i P N M
 obtain ⟨r,s,B⟩:∃ r s,Hid (K.getD p kn0=(r,s)):=⟨_,_,rfl⟩;obtain ⟨op,d,a,b,f,I⟩:∃ op d a b f,Hid (nth xs p=⟨op,d,a,b,f⟩):=⟨_,_,_,_,_,rfl⟩;unfold leaveK;rw [B.out] at u k ⊢;rw [I.out] at u k c G i F E ⊢;simp only at u k F E ⊢
 have R:¬ In.right ⟨op,d,a,b,f⟩=false:=by rw [i];simp
 simp only [i] at c
 by_cases c22:op=22
 ·subst c22;rw [if_pos rfl];exact lleave_one w0 w n kb nm A z g p y xs ls K h l o D _ d a b f I r s B _ _ _ rfl rfl rfl _ (.inl ⟨rfl,rfl⟩)
 rw [if_neg c22]
 by_cases c15:op=15
 ·subst c15;rw [if_pos rfl]
  have J:0<=In.far ⟨15,d,a,b,f⟩/\In.far ⟨15,d,a,b,f⟩<=64:=by rcases c with c|c|c|c<;>simp at c<;>omega
  exact lleave_one w0 w n kb nm A z g p y xs ls K h l o D _ d a b f I r s B _ _ _ rfl rfl rfl _ (.inr (.inl ⟨rfl,_,(by omega),(show _=_ by omega),J,rfl⟩))
 rw [if_neg c15]
 by_cases c16:16<=op/\op<=19
 ·rw [if_pos c16]
  have J:(0<=In.far ⟨op,d,a,b,f⟩/\In.far ⟨op,d,a,b,f⟩<=64)/\In.on ⟨op,d,a,b,f⟩=true:=by
   rcases c with c|c|c|c<;>simp at c
   ·refine ⟨by omega,?_⟩;rw [c.2.2.2.2.1];simpa using c15
   ·omega
   ·omega
  have Q:=G.2.2.2 J.2
  have S:op=16∨op=17∨op=18∨op=19:=by omega
  exact lleave_one w0 w n kb nm A z g p y xs ls K h l o D _ d a b f I r s B _ _ _ rfl rfl rfl _ (.inr (.inr (.inr ⟨S,Q,F,E,_,(by omega),(show _=_ by omega),J.1,_,_,_,_,rfl,rfl,k false c16,k true c16,rfl⟩)))
 rw [if_neg c16]
 have O:In.on ⟨op,d,a,b,f⟩=true:=by
  rcases c with c|c|c|c<;>simp at c
  ·omega
  ·exact c.2.2.2.1
  ·rw [c.2.2.2];simpa using c22
 exact lleave_one w0 w n kb nm A z g p y xs ls K h l o D op d a b f I r s B _ _ _ rfl rfl rfl _ (.inr (.inr (.inl ⟨⟨c22,c15,c16⟩,i,G.2.2.2 O,_,rfl,u c16,rfl⟩)))
end Go.Proofs.YtmdhljoicnommaaGreat
