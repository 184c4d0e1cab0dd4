/-
  JInq
  JLeave
  JAsk
  JBlur
  JStep
-/
import Derived.Test.YtmdhljoicnommaaGreatME34
import Derived.Test.YtmdhljoicnommaaGreatME37
import Derived.Test.YtmdhljoicnommaaGreatME25
import Derived.Deep.CutRange
namespace Go.Proofs.YtmdhljoicnommaaGreat
set_option maxHeartbeats 12800000
open Go.RowKit
set_option linter.unusedVariables false
set_option linter.unusedSimpArgs false
set_option maxRecDepth 100000
structure Inq (w0 w:World) (qb kb nm:Nat) (vl:Value) (cb co ccap:Nat) (xs:List In) (ls:List Lp) (K:Kn):Prop where
 b0:Below w0.heap.size w0 w
 q:Hp w qb 147 (qC nm (.slice (some ⟨cb,co,none⟩) xs.length ccap) vl kb xs.length)
 k:Hp w kb 156 (qDw K)
 len:K.length=xs.length
 ne:qb≠kb
 hq:w0.heap.size<=qb
 hk:w0.heap.size<=kb
 e8:Eight K
 code:SeesI w0 (.slice (some ⟨cb,co,none⟩) xs.length ccap) xs
 lo:SeesL w0 vl ls
theorem Inq.grown {w0 w b:World}{c kb nm cb co ccap:Nat}{d:Value}{xs:List In}{ls:List Lp}{K a:Kn}(h:Inq w0 w c kb nm d cb co ccap xs ls K)(f:w.grownBy b (some kb))(i:Hp b kb 156 (qDw a))(k:a.length=K.length)(g:Eight a):Inq w0 b c kb nm d cb co ccap xs ls a :=
 ⟨h.b0.trans (qAi f h.hk h.b0.size),h.q.grown f (fun e=>h.ne (by injection e)),i,k.trans h.len,h.ne,h.hq,h.hk,g,h.code,h.lo⟩
theorem Inq.below {w0 w b:World}{c kb nm cb co ccap:Nat}{d:Value}{xs:List In}{ls:List Lp}{K:Kn}(h:Inq w0 w c kb nm d cb co ccap xs ls K)(a:Bw w b):Inq w0 b c kb nm d cb co ccap xs ls K :=
 h.grown (qBz a _) (h.k.below a h.k.lt) rfl h.e8
theorem Inq.at {w0 w:World}{y kb nm cb co ccap:Nat}{s:Value}{xs:List In}{ls:List Lp}{K:Kn}(h:Inq w0 w y kb nm s cb co ccap xs ls K){p:Nat}(d:p<xs.length):At w cb (co+p*5) (nth xs p)/\cb<w0.heap.size/\xs.length<=ccap/\ccap<=9223372036854775807:=by
 obtain ⟨a,cap,n,o,u,z,l⟩:=h.code;injection n with i A k;subst i k;obtain ⟨b,off,he,c,f⟩:=l (fun e=>by rw [e] at d;simp at d);injection he with he;injection he with r g;subst r g;refine ⟨(f p d).below h.b0 c,c,o,by unfold maxLen at u;omega⟩
theorem qKo (K:Kn)(p:Nat)(r:Bool)(s:St):(qFg K p r s).length=K.length:=by
 unfold qFg
 split
 ·rfl
 ·split<;>simp
theorem yJq {K:Kn}(h:Eight K)(p:Nat)(r:Bool){s:St}(a:s.length=8):Eight (qFg K p r s):=by
 unfold qFg
 split
 ·exact h
 ·split
  ·exact h.set p a
  ·exact h.set p (qGd _ _ _)
def inC (i:In):List Value:=[.int .i64 i.op,.int .i64 i.d,.int .i64 i.a,.int .i64 i.b,.int .i64 i.imm]
theorem Hp.inst {w:World}{b:Nat}{t:TypeId}{op d a b' c:Int}(h:Hp w b t (inC ⟨op,d,a,b',c⟩)):Box w b op d a b' c:=⟨h.cell rfl,h.cell rfl,h.cell rfl,h.cell rfl,h.cell rfl⟩
def yQc (w wc:World) (i:In) (r:Bool) (s:St) (v4 v5:Value):Prop:=∃ ib sb,v4=.pointer (some ⟨ib,0,none⟩)/\v5=.pointer (some ⟨sb,0,none⟩)/\Hp wc ib 43 (inC i)/\Hp wc sb 156 (stC r s)/\Below w.heap.size w wc/\w.heap.size<=ib/\w.heap.size<=sb/\ib≠sb
def MadeK (nm:Nat) (K:Kn):Prop:=∀ p∈K,Made8 nm p.2
theorem MadeK.at {nm:Nat}{K:Kn}(h:MadeK nm K)(k:Nat):Made8 nm (K.getD k kn0).2:=by
 by_cases hk:k<K.length
 ·rw [show K.getD k kn0=K[k] by simp [List.getD,List.getElem?_eq_getElem hk]];exact h _ (List.getElem_mem hk)
 ·rw [show K.getD k kn0=kn0 by simp [List.getD,List.getElem?_eq_none (show K.length<=k by omega)]];exact qHp nm
theorem MadeK.set {nm:Nat}{K:Kn}(h:MadeK nm K)(k:Nat){p:Bool×St}(c:Made8 nm p.2):MadeK nm (K.set k p):=fun q b=>by
 rcases List.mem_or_eq_of_mem_set b with a|a
 ·exact h q a
 ·rw [a];exact c
theorem MadeK.eight {nm:Nat}{K:Kn}(h:MadeK nm K):Eight K:=fun p a=>(h p a).1
theorem yLh {nm:Nat}{h s:St}(c:Made8 nm h)(d:Made8 nm s)(n:Nat):Made8 nm (qFz h s n):=by
 refine ⟨qGd _ _ _,fun t b=>?_⟩;unfold qFz at b;obtain ⟨k,f,rfl⟩:=List.mem_map.1 b;have a:=List.mem_range.1 f
 split
 ·exact qQw (c.get a) (d.get a)
 ·exact c.get a
theorem qLm {nm:Nat}{K:Kn}(h:MadeK nm K)(p:Nat)(r:Bool){s:St}(a:Made8 nm s):MadeK nm (qFg K p r s):=by
 unfold qFg
 split
 ·exact h
 ·split
  ·exact h.set p a
  ·exact h.set p (yLh (h.at p) a 8)
theorem qKc {w0 w:World}{a kb nm cb co ccap:Nat}{d:Value}{xs:List In}{ls:List Lp}{K:Kn}(h:Inq w0 w a kb nm d cb co ccap xs ls K){f:Int}{p:Nat}(he:Hid (f=p))(l:p<xs.length)(r:Bool){s:St}(b:Made8 nm s)(g:MadeK nm K) :
  Cl 74 #[.pointer (some ⟨a,0,none⟩),I4 f,stV r s] w fun e c=>e=.returned (.tuple #[])/\w.grownBy c (some kb)/\Inq w0 c a kb nm d cb co ccap xs ls (qFg K p r s)/\MadeK nm (qFg K p r s):=by
 rw [he.out];refine (yEs a kb p nm _ d K r s w (by rw [h.len];exact h.q) h.k h.ne h.e8 (by rw [h.len];exact l) b (g.at p)).mono ?_;rintro e c ⟨rfl,i,n⟩;exact ⟨rfl,i,h.grown i n (qKo _ _ _ _) (yJq h.e8 p r b.1),qLm g p r b⟩
def qGh (i:In) (p:Nat) (K:Kn):Kn :=
 if i.op=22 then K
 else if i.op=15 then qFg K ((p:Int)+i.far).toNat (K.getD p kn0).1 (K.getD p kn0).2
 else if 16<=i.op/\i.op<=19 then qFg (qFg K (p+1) (qJb i (K.getD p kn0).1 (K.getD p kn0).2 false).1 (qJb i (K.getD p kn0).1 (K.getD p kn0).2 false).2) ((p:Int)+i.far).toNat (qJb i (K.getD p kn0).1 (K.getD p kn0).2 true).1 (qJb i (K.getD p kn0).1 (K.getD p kn0).2 true).2
 else qFg K (p+1) (K.getD p kn0).1 (wrS i (K.getD p kn0).2)
theorem yFu {nm:Nat}{i:In}{s a:St}(r:Bool)(w:World)(h:Hid (wrS i s=a))(c:Made8 nm s)(d:i.right=true):Cl 119 #[stV r s,i.v] w fun e b=>e=.returned (stV r a)/\Bw w b:=by
 rw [<- h.out];exact yBj nm i r s w c d
theorem qTt {nm:Nat}{i:In}{r d:Bool}{s f:St}{c:Bool}(w:World)(h:Hid (qJb i r s c=(d,f)))(k:Made8 nm s)(n:0<=i.a/\i.a<=7)(g:i.b=8∨(0<=i.b/\i.b<=7)):Cl 118 #[stV r s,i.v,.bool c] w fun e l=>e=.returned (stV d f)/\Bw w l:=by
 have:=yDo nm i r s c w k n g;rw [h.out] at this;exact this
theorem qNf (w0 w:World)(X kb nm cb co ccap p:Nat)(vl:Value)(xs:List In)(ls:List Lp)(K:Kn)(h:Inq w0 w X kb nm vl cb co ccap xs ls K)(hp:p<xs.length)(bk:xs.length<=64)(hM:MadeK nm K)(op d a b c:Int)(HI:Hid (nth xs p=⟨op,d,a,b,c⟩))(r:Bool)(s:St)(HK:Hid (K.getD p kn0=(r,s)))(f:Int)(l o:Bool)(HF:Hid (f=In.far ⟨op,d,a,b,c⟩))(HL:Hid (l=In.leads ⟨op,d,a,b,c⟩))(HO:Hid (o=In.on ⟨op,d,a,b,c⟩))(KR:Kn)(hc:(op=22/\KR=K)∨(op=15/\∃ y:Nat,y<xs.length/\Hid ((p:Int)+f=y)/\(0<=f/\f<=64)/\KR=qFg K y r s)∨((op≠22/\op≠15/\¬ (16<=op/\op<=19))/\Hid (In.right ⟨op,d,a,b,c⟩=true)/\p+1<xs.length/\∃ s',Hid (wrS ⟨op,d,a,b,c⟩ s=s')/\Hid (Made8 nm s')/\KR=qFg K (p+1) r s')∨((op=16∨op=17∨op=18∨op=19)/\p+1<xs.length/\Hid (0<=a/\a<=7)/\Hid (b=8∨(0<=b/\b<=7))/\∃ y:Nat,y<xs.length/\Hid ((p:Int)+f=y)/\(0<=f/\f<=64)/\∃ r1 r2 s1 s2,Hid (qJb ⟨op,d,a,b,c⟩ r s false=(r1,s1))/\Hid (qJb ⟨op,d,a,b,c⟩ r s true=(r2,s2))/\Hid (Made8 nm s1)/\Hid (Made8 nm s2)/\KR=qFg (qFg K (p+1) r1 s1) y r2 s2)):Cl 77 #[.pointer (some ⟨X,0,none⟩),I4 p] w fun e u=>e=.returned (.tuple #[])/\Inq w0 u X kb nm vl cb co ccap xs ls KR:=by
 obtain ⟨al,bd,hN,bh⟩:=h.at hp;rw [HI.out] at al;obtain ⟨c0,c1,c2,c3,c4⟩:=al;simp only at c0 c1 c2 c3 c4
 have bj:(p:Int)<xs.length:=by omega
 have Q:s.length=8:=by have:=h.e8.at p;rw [HK.out] at this;exact this
 have am:StAt w kb (p*33) r s:=h.k.state h.e8 (by rw [h.len];exact hp) HK.out;have ai:=h.q.lt;have av:=h.k.lt;have bg:=h.b0.size
 have F:Hid (∀ u,Bw w u->u.cell? ⟨X,1,none⟩=some (.slice (some ⟨cb,co,none⟩) xs.length ccap)/\u.cell? ⟨X,3,none⟩=some (.slice (some ⟨kb,0,none⟩) xs.length xs.length)/\u.cell? ⟨cb,co+p*5,none⟩=some (I4 op)/\u.cell? ⟨cb,co+p*5+1,none⟩=some (I4 d)/\u.cell? ⟨cb,co+p*5+2,none⟩=some (I4 a)/\u.cell? ⟨cb,co+p*5+3,none⟩=some (I4 b)/\u.cell? ⟨cb,co+p*5+4,none⟩=some (I4 c)/\StAt u kb (p*33) r s):=fun u a3=>by
  have hA:=At.below (i:=⟨op,d,a,b,c⟩) ⟨c0,c1,c2,c3,c4⟩ a3 (by omega);exact ⟨(h.q.below a3 ai).cell rfl,(h.q.below a3 ai).cell rfl,hA.1,hA.2.1,hA.2.2.1,hA.2.2.2.1,hA.2.2.2.2,am.below a3 av⟩
 clear c0 c1 c2 c3 c4 am
 have ae:Made8 nm s:=by have:=hM.at p;rw [HK.out] at this;exact this
 have HM:=qAa hM;have a0:=qAa ae;have a2:=qAa (qHf (r:=r) Q)
 have bc:(p:Int)<64:=by omega
 have af:Hid ((p:Int)+1=((p+1:Nat):Int)):=by show _=_;omega
 clear ae hM;go_enter Tryz.func77,Tryz.ntmps77
 go_wp2_with (fail)
 go_cut [4,5] from 9 (fun v4 v5 wc=>yQc w wc ⟨op,d,a,b,c⟩ r s v4 v5)
 case rest =>
  obtain ⟨ib,sb,rfl,rfl,Z,a4,b2,be,bi,bf⟩:=hcut;have HQ:=qAa (h.below b2);have T:=qAa Z;have N:=qAa a4;obtain ⟨y0,y1,y2,y3,y4⟩:=id Z.inst;have G:=Z.lt;have O:=a4.lt;have bl:kb<wc.heap.size:=HQ.out.k.lt
  have aq:ib≠kb:=by omega
  have ap:sb≠kb:=by omega
  clear Z a4 F h
  rcases hc with ⟨rfl,rfl⟩|⟨rfl,y,ad,a7,hf,rfl⟩|⟨L,HR,a5,s',HW,a9,rfl⟩|⟨L,a5,HA,HB,y,ad,a7,hf,r1,r2,s1,s2,b8,b4,a9,b1,rfl⟩
  ·go_wp2_with (first
    | (go_at_call 114;go_must (refine (qKl (i:=⟨_,d,a,b,c⟩) (show Hid _ from rfl) HF HL HO _).mono ?_);rintro e w1 ⟨rfl,n⟩;go_must (have A:=qAa (HQ.out.below n);have z:=qAa (N.out.below n O).oneR;obtain ⟨x0,x1,x2,x3,x4⟩:=Box.below T.out.inst n G;have ab:=n.size;clear y0 y1 y2 y3 y4))
    | fail)
   exact bodyPost_end (results_none rfl _ _ _) rfl ⟨rfl,A.out⟩
  ·go_wp2_with (first
    | (go_at_call 114;go_must (refine (qKl (i:=⟨_,d,a,b,c⟩) (show Hid _ from rfl) HF HL HO _).mono ?_);rintro e w1 ⟨rfl,n⟩;go_must (have A:=qAa (HQ.out.below n);have z:=qAa (N.out.below n O).oneR;obtain ⟨x0,x1,x2,x3,x4⟩:=Box.below T.out.inst n G;have ab:=n.size;clear y0 y1 y2 y3 y4))
    | ((with_reducible refine wpList_load_mid ?_ 156 (.tmp 5) ?_ sb 0 ?_ (stC r s) _ z.out Tryz.underlying156 ?_ a2.out ?_);rfl;rfl;rfl;rfl)
    | (go_at_call 74;go_must (refine (qKc A.out a7 ad r a0.out HM.out).mono ?_);rintro e w2 ⟨rfl,ar,ak,au⟩;go_must (have B:=qAa ak;clear ar ak au))
    | fail)
   exact bodyPost_end (results_none rfl _ _ _) rfl ⟨rfl,B.out⟩
  ·have o1:¬ op=22:=L.1;have o2:¬ op=15:=L.2.1
   have o3:¬ op=16:=by omega
   have o4:¬ op=17:=by omega
   have o5:¬ op=18:=by omega
   have o6:¬ op=19:=by omega
   clear L
   go_wp2_with (first
    | (go_at_call 114;go_must (refine (qKl (i:=⟨_,d,a,b,c⟩) (show Hid _ from rfl) HF HL HO _).mono ?_);rintro e w1 ⟨rfl,n⟩;go_must (have A:=qAa (HQ.out.below n);have z:=qAa (N.out.below n O).oneR;obtain ⟨x0,x1,x2,x3,x4⟩:=Box.below T.out.inst n G;have ab:=n.size;clear y0 y1 y2 y3 y4))
    | ((with_reducible refine wpList_load_mid ?_ 156 (.tmp 5) ?_ sb 0 ?_ (stC r s) _ z.out Tryz.underlying156 ?_ a2.out ?_);rfl;rfl;rfl;rfl)
    | (go_at_call 119;go_must (refine (yFu (i:=⟨_,d,a,b,c⟩) r w1 HW a0.out HR.out).mono ?_);rintro e w2 ⟨rfl,E⟩;go_must (have B:=qAa (A.out.below E);clear E))
    | (go_at_call 74;go_must (refine (qKc B.out af a5 r a9.out HM.out).mono ?_);rintro e w3 ⟨rfl,M,I,a1⟩;go_must (have ac:=qAa I;clear M I a1))
    | fail)
   exact bodyPost_end (results_none rfl _ _ _) rfl ⟨rfl,ac.out⟩
  ·rcases L with rfl|rfl|rfl|rfl
   all_goals go_wp2_with (first
    | (go_at_call 114;go_must (refine (qKl (i:=⟨_,d,a,b,c⟩) (show Hid _ from rfl) HF HL HO _).mono ?_);rintro e w1 ⟨rfl,n⟩;go_must (have A:=qAa (HQ.out.below n);have z:=qAa (N.out.below n O).oneR;obtain ⟨x0,x1,x2,x3,x4⟩:=Box.below T.out.inst n G;have ab:=n.size;clear y0 y1 y2 y3 y4))
    | ((with_reducible refine wpList_load_mid ?_ 156 (.tmp 5) ?_ sb 0 ?_ (stC r s) _ z.out Tryz.underlying156 ?_ a2.out ?_);rfl;rfl;rfl;rfl)
    | (go_at_call 118;have hq1:=z;go_must (refine (qTt (i:=⟨_,d,a,b,c⟩) w1 b8 a0.out HA.out HB.out).mono ?_);rintro e w2 ⟨rfl,E⟩;go_must (have B:=qAa (A.out.below E);have b9:=qAa ((T.out.below n G).below E (by omega));have aw:=qAa ((N.out.below n O).below E (by omega));clear hq1 z E))
    | (go_at_call 74;have b6:=B;clear b6;go_must (refine (qKc B.out af a5 r1 a9.out HM.out).mono ?_);rintro e w3 ⟨rfl,M,I,a1⟩;go_must (have ac:=qAa I;have b5:=qAa a1;have aj:=qAa (b9.out.grown M (fun e=>aq (by injection e)));have an:=qAa (aw.out.grown M (fun e=>ap (by injection e)));have ag:=qAa an.out.oneR;have ba:=aj.out.lt;have bb:=an.out.lt;obtain ⟨z0,z1,z2,z3,z4⟩:=aj.out.inst;clear M I a1 B x0 x1 x2 x3 x4))
    | ((with_reducible refine wpList_load_mid ?_ 156 (.tmp 5) ?_ sb 0 ?_ (stC r s) _ ag.out Tryz.underlying156 ?_ a2.out ?_);rfl;rfl;rfl;rfl)
    | (go_at_call 118;go_must (refine (qTt (i:=⟨_,d,a,b,c⟩) w3 b4 a0.out HA.out HB.out).mono ?_);rintro e w4 ⟨rfl,ao⟩;go_must (have b7:=qAa (ac.out.below ao);clear ag ao))
    | (go_at_call 74;go_must (refine (qKc b7.out a7 ad r2 b1.out b5.out).mono ?_);rintro e w5 ⟨rfl,b3,ah,ax⟩;go_must (have az:=qAa ah;clear b3 ah ax))
    | fail)
   all_goals exact bodyPost_end (results_none rfl _ _ _) rfl ⟨rfl,az.out⟩
 case first =>
  refine wp_region_held_drew (S:=fun u=>u.cell? ⟨X,1,none⟩=some (.slice (some ⟨cb,co,none⟩) xs.length ccap)/\u.cell? ⟨X,3,none⟩=some (.slice (some ⟨kb,0,none⟩) xs.length xs.length)/\u.cell? ⟨cb,co+p*5,none⟩=some (I4 op)/\u.cell? ⟨cb,co+p*5+1,none⟩=some (I4 d)/\u.cell? ⟨cb,co+p*5+2,none⟩=some (I4 a)/\u.cell? ⟨cb,co+p*5+3,none⟩=some (I4 b)/\u.cell? ⟨cb,co+p*5+4,none⟩=some (I4 c)/\StAt u kb (p*33) r s) (by kernel_rfl) (F.out _ (Below.refl _ _).drew) (fun hHeld=>?_);refine qBb [0,1,2,3,4,5,6,7,8,9,10,11,12] ?_
  repeat (refine tkO (v:=?_) rfl ?_ ?_;rotate_left;(intro wy hSw;(try dsimp only at hSw);go_simp;(first|done|with_reducible rfl));try simp only [Act.put,p1q,p2q,p3q,p4q,p5q,p6q])
  refine qAs ?_;refine wpAnyH_take (i:=13) rfl (by kernel_rfl) (by kernel_rfl) (by kernel_rfl) (fun _ _ _ h=>h) (yieldsIf_load_mid (by rfl) _ _ rfl _ _ rfl (stC r s) _ (fun w h=>h.2.2.2.2.2.2.2) Tryz.underlying156 rfl (qHf Q)) (by assumption) ?_
  try simp only [Act.put,p1q,p2q,p3q,p4q,p5q,p6q]
  refine qOc 14 15 (by kernel_rfl) rfl rfl (by rfl) (by rfl) (fun KK hK=>?_) (fun KK hK=>?_)
  ·go_simp;refine hK.out _ _ (F.out _ ((Below.refl _ _).alloc (Nat.le_refl _) _).drew) (fun hHeld=>?_);clear hK KK
   try simp only [Act.put,p1q,p2q,p3q,p4q,p5q,p6q]
   refine qAr 15 (by kernel_rfl) rfl (by rfl) (fun KK hK=>?_);go_simp;obtain ⟨Y,HY,g,R,D,aa⟩:∃ Y,Hid (Y=(w.alloc (Obj.cells #[I4 0,I4 0,I4 0,I4 0,I4 0] 43)).alloc (Obj.cells #[.bool false,I4 0,U8 0,U8 0,I4 0,I4 0,U8 0,U8 0,I4 0,I4 0,U8 0,U8 0,I4 0,I4 0,U8 0,U8 0,I4 0,I4 0,U8 0,U8 0,I4 0,I4 0,U8 0,U8 0,I4 0,I4 0,U8 0,U8 0,I4 0,I4 0,U8 0,U8 0,I4 0] 156))/\Hid (Hp Y w.heap.size 43 (inC ⟨0,0,0,0,0⟩))/\Hid (Hp Y (w.heap.size+1) 156 zeroC)/\Bw w Y/\w.heap.size+2<=Y.heap.size:=⟨_,rfl,(Hp.new w (inC ⟨0,0,0,0,0⟩) _).alloc _,qAa (by have:=Hp.new (w.alloc (Obj.cells #[I4 0,I4 0,I4 0,I4 0,I4 0] 43)) zeroC 156;simpa [zeroC] using this),by go_grown,by simp⟩;rw [<- HY.out];clear HY;refine hK.out _ _ (F.out _ D.drew) (fun hHeld=>?_);clear hK KK
   try simp only [Act.put,p1q,p2q,p3q,p4q,p5q,p6q]
   have n0:Y.cell? ⟨w.heap.size,0,none⟩=some (I4 0):=g.out.cell rfl;have f0:=g.out.frozen 0;have n1:Y.cell? ⟨w.heap.size,1,none⟩=some (I4 0):=g.out.cell rfl;have f1:=g.out.frozen 1;have y:Y.cell? ⟨w.heap.size,2,none⟩=some (I4 0):=g.out.cell rfl;have f2:=g.out.frozen 2;have n3:Y.cell? ⟨w.heap.size,3,none⟩=some (I4 0):=g.out.cell rfl;have f3:=g.out.frozen 3;have n4:Y.cell? ⟨w.heap.size,4,none⟩=some (I4 0):=g.out.cell rfl;have f4:=g.out.frozen 4;refine qAr 16 (by kernel_rfl) rfl (by rfl) (fun KK hK=>?_);go_simp;clear n0 n1 y n3 n4 f0 f1 f2 f3 f4;obtain ⟨V,HV,a6,U,J,ay⟩:∃ V,Hid (V=(((((Y.setCell ⟨w.heap.size,0,none⟩ (I4 op)).setCell ⟨w.heap.size,1,none⟩ (I4 d)).setCell ⟨w.heap.size,2,none⟩ (I4 a)).setCell ⟨w.heap.size,3,none⟩ (I4 b)).setCell ⟨w.heap.size,4,none⟩ (I4 c)))/\Hid (Hp V w.heap.size 43 (inC ⟨op,d,a,b,c⟩))/\Hid (Hp V (w.heap.size+1) 156 zeroC)/\Bw w V/\w.heap.size+2<=V.heap.size:=⟨_,rfl,g.out.sets (inC ⟨op,d,a,b,c⟩) 0,R.out.fars (by omega) (inC ⟨op,d,a,b,c⟩) 0,D.trans (qAi (qAd _ (inC ⟨op,d,a,b,c⟩) Y 0) (by omega) D.size),Nat.le_trans aa (qAd _ (inC ⟨op,d,a,b,c⟩) Y 0).size⟩;rw [<- HV.out];clear HV g R;refine hK.out _ _ (F.out _ J.drew) (fun hHeld=>?_);clear hK KK
   try simp only [Act.put,p1q,p2q,p3q,p4q,p5q,p6q]
   refine qAr 17 (by kernel_rfl) rfl (by rfl) (fun KK hK=>?_)
   have a8:V.drew.there (w.heap.size+1) 0 (stC r s).toArray.size:=by rw [qGn r Q];exact U.out.drew.there (by rw [qCa];omega)
   refine wp_store_mid _ _ _ rfl _ _ (List.toArray _) rfl rfl a8 (qLi Q) (qIw r s) ?_;have P:Bw w (V.drew.setCells (w.heap.size+1) 0 (stC r s)):=(J.drew).trans (qAi (qAd _ _ _ _) (by omega) (show w.heap.size<=V.heap.size by omega));refine hK.out _ _ (F.out _ P) (fun hHeld=>?_);clear hK KK
   try simp only [Act.put,p1q,p2q,p3q,p4q,p5q,p6q]
   refine wpAnyH_done (by kernel_rfl) ?_ _;go_wp2
   go_meet
   case rel=>exact ⟨w.heap.size,(w.heap.size+1),rfl,rfl,a6.out.drew.fars (by omega) _ _,U.out.drew.box qCa Q,P,by omega,by omega,by omega⟩
  ·go_simp;refine hK.out _ _ (F.out _ ((Below.refl _ _).alloc (Nat.le_refl _) _).drew) (fun hHeld=>?_);clear hK KK
   try simp only [Act.put,p1q,p2q,p3q,p4q,p5q,p6q]
   refine qAr 14 (by kernel_rfl) rfl (by rfl) (fun KK hK=>?_);go_simp;obtain ⟨Y,HY,g,R,D,aa⟩:∃ Y,Hid (Y=(w.alloc (Obj.cells #[.bool false,I4 0,U8 0,U8 0,I4 0,I4 0,U8 0,U8 0,I4 0,I4 0,U8 0,U8 0,I4 0,I4 0,U8 0,U8 0,I4 0,I4 0,U8 0,U8 0,I4 0,I4 0,U8 0,U8 0,I4 0,I4 0,U8 0,U8 0,I4 0,I4 0,U8 0,U8 0,I4 0] 156)).alloc (Obj.cells #[I4 0,I4 0,I4 0,I4 0,I4 0] 43))/\Hid (Hp Y (w.heap.size+1) 43 (inC ⟨0,0,0,0,0⟩))/\Hid (Hp Y w.heap.size 156 zeroC)/\Bw w Y/\w.heap.size+2<=Y.heap.size:=⟨_,rfl,qAa (by have:=Hp.new (w.alloc (Obj.cells #[.bool false,I4 0,U8 0,U8 0,I4 0,I4 0,U8 0,U8 0,I4 0,I4 0,U8 0,U8 0,I4 0,I4 0,U8 0,U8 0,I4 0,I4 0,U8 0,U8 0,I4 0,I4 0,U8 0,U8 0,I4 0,I4 0,U8 0,U8 0,I4 0,I4 0,U8 0,U8 0,I4 0] 156)) (inC ⟨0,0,0,0,0⟩) 43;simpa [inC] using this),(Hp.new w zeroC _).alloc _,by go_grown,by simp⟩;rw [<- HY.out];clear HY;refine hK.out _ _ (F.out _ D.drew) (fun hHeld=>?_);clear hK KK
   try simp only [Act.put,p1q,p2q,p3q,p4q,p5q,p6q]
   have n0:Y.cell? ⟨(w.heap.size+1),0,none⟩=some (I4 0):=g.out.cell rfl;have f0:=g.out.frozen 0;have n1:Y.cell? ⟨(w.heap.size+1),1,none⟩=some (I4 0):=g.out.cell rfl;have f1:=g.out.frozen 1;have y:Y.cell? ⟨(w.heap.size+1),2,none⟩=some (I4 0):=g.out.cell rfl;have f2:=g.out.frozen 2;have n3:Y.cell? ⟨(w.heap.size+1),3,none⟩=some (I4 0):=g.out.cell rfl;have f3:=g.out.frozen 3;have n4:Y.cell? ⟨(w.heap.size+1),4,none⟩=some (I4 0):=g.out.cell rfl;have f4:=g.out.frozen 4;refine qAr 16 (by kernel_rfl) rfl (by rfl) (fun KK hK=>?_);go_simp;clear n0 n1 y n3 n4 f0 f1 f2 f3 f4;obtain ⟨V,HV,a6,U,J,ay⟩:∃ V,Hid (V=(((((Y.setCell ⟨(w.heap.size+1),0,none⟩ (I4 op)).setCell ⟨(w.heap.size+1),1,none⟩ (I4 d)).setCell ⟨(w.heap.size+1),2,none⟩ (I4 a)).setCell ⟨(w.heap.size+1),3,none⟩ (I4 b)).setCell ⟨(w.heap.size+1),4,none⟩ (I4 c)))/\Hid (Hp V (w.heap.size+1) 43 (inC ⟨op,d,a,b,c⟩))/\Hid (Hp V w.heap.size 156 zeroC)/\Bw w V/\w.heap.size+2<=V.heap.size:=⟨_,rfl,g.out.sets (inC ⟨op,d,a,b,c⟩) 0,R.out.fars (by omega) (inC ⟨op,d,a,b,c⟩) 0,D.trans (qAi (qAd _ (inC ⟨op,d,a,b,c⟩) Y 0) (by omega) D.size),Nat.le_trans aa (qAd _ (inC ⟨op,d,a,b,c⟩) Y 0).size⟩;rw [<- HV.out];clear HV g R;refine hK.out _ _ (F.out _ J.drew) (fun hHeld=>?_);clear hK KK
   try simp only [Act.put,p1q,p2q,p3q,p4q,p5q,p6q]
   refine qAr 17 (by kernel_rfl) rfl (by rfl) (fun KK hK=>?_)
   have a8:V.drew.there w.heap.size 0 (stC r s).toArray.size:=by rw [qGn r Q];exact U.out.drew.there (by rw [qCa];omega)
   refine wp_store_mid _ _ _ rfl _ _ (List.toArray _) rfl rfl a8 (qLi Q) (qIw r s) ?_;have P:Bw w (V.drew.setCells w.heap.size 0 (stC r s)):=(J.drew).trans (qAi (qAd _ _ _ _) (by omega) (show w.heap.size<=V.heap.size by omega));refine hK.out _ _ (F.out _ P) (fun hHeld=>?_);clear hK KK
   try simp only [Act.put,p1q,p2q,p3q,p4q,p5q,p6q]
   refine wpAnyH_done (by kernel_rfl) ?_ _;go_wp2
   go_meet
   case rel=>exact ⟨(w.heap.size+1),w.heap.size,rfl,rfl,a6.out.drew.fars (by omega) _ _,U.out.drew.box qCa Q,P,by omega,by omega,by omega⟩
def xBj (wc wd:World) (s t:Ty) (v7 v8:Value):Prop:=∃ g8 g9,v7=.pointer (some ⟨g8,0,none⟩)/\v8=.pointer (some ⟨g9,0,none⟩)/\AtT wd g8 0 s/\AtT wd g9 0 t/\Below wc.heap.size wc wd/\g8<wd.heap.size/\g9<wd.heap.size
theorem qIt {a b n m:Nat}(h:n<=m)(d:a<n)(c:b<n):a<m/\b<m:=⟨by omega,by omega⟩
theorem BxT.far {w:World}{n m off o:Nat}{t u:Ty}(h:BxT w n off t)(d:n≠m):BxT (setT w m o u) n off t:=by
 have z:=qAd m (tyC u) w o
 have c:some n≠some m:=fun e=>d (by injection e)
 have f:n<w.heap.size:=World.block_lt_of_cell? w _ h.1.1;have b:(setT w m o u).heap[n]? = w.heap[n]? := z.block n f c;obtain ⟨⟨h0,l,y,k⟩,i,s,g,r⟩:=h;refine ⟨⟨?_,?_,?_,?_⟩,?_,?_,?_,?_⟩
 ·exact (World.cell?_of_block (a:=⟨n,off,none⟩) b).trans h0
 ·exact (World.cell?_of_block (a:=⟨n,off+1,none⟩) b).trans l
 ·exact (World.cell?_of_block (a:=⟨n,off+2,none⟩) b).trans y
 ·exact (World.cell?_of_block (a:=⟨n,off+3,none⟩) b).trans k
 ·exact (World.frozen?_of_block (a:=⟨n,off,none⟩) b).trans i
 ·exact (World.frozen?_of_block (a:=⟨n,off+1,none⟩) b).trans s
 ·exact (World.frozen?_of_block (a:=⟨n,off+2,none⟩) b).trans g
 ·exact (World.frozen?_of_block (a:=⟨n,off+3,none⟩) b).trans r
def qLd (nm:Nat) (i:In) (s h:St):Int :=
 if i.op=13∨i.op=15 then 0
 else if i.op=0 then qLj ((qBa i s).k != 0) 33
 else if i.op=11 then qJx (qBa i s)
 else if i.op=12 then (if qFo [qBg s i.a]≠0 then qFo [qBg s i.a] else qJx (qBa i s))
 else if i.op=14 then qLj (decide (i.imm<nm)) 35
 else if i.op=20 then (if qFo [qBg s i.a]≠0 then qFo [qBg s i.a] else qLj (qKh s h) 33)
 else if i.op=21 then qDr i.imm ((s.drop 1).take (qEa i.imm).length)
 else if i.op=22 then qFo [qBg s i.a]
 else qFo [qBg s i.a,qBa i s]
theorem qLs {v:Value}{l:List Ty}{e:Int}(h:Hid (qFo l=e)){w:World}(b:SeesT w v l):Cl 113 #[v] w fun x a=>x=.returned (I4 e)/\Bw w a:=by
 rw [<- h.out];exact qSr v l w b
theorem yBs {k lo hi m e:Int}(h:Hid (qJx ⟨k,lo,hi,m⟩=e))(w:World):Cl 112 #[.agg #[I4 k,U8 lo,U8 hi,I4 m]] w fun x a=>x=.returned (I4 e)/\Bw w a:=by
 rw [<- h.out];exact yLu ⟨k,lo,hi,m⟩ w
theorem qPk {b:Bool}{x e:Int}(h:Hid (qLj b x=e))(w:World):Cl 111 #[.bool b,I4 x] w fun y a=>y=.returned (I4 e)/\Bw w a:=by
 rw [<- h.out];exact qTq b x w
theorem ySx {r a q:Bool}{s h:St}(c:Hid (qKh s h=q))(w:World)(b:s.length=8)(f:h.length=8):Cl 115 #[stV r s,stV a h] w fun e d=>e=.returned (.bool q)/\Bw w d:=by
 rw [<- c.out];exact yRr r a s h w b f
theorem qRs (h:Int):(qEa h).length<=3:=by
 unfold qEa
 repeat' split
 all_goals simp
theorem yLc (sb n:Nat)(f:n<=3)(w:World):(Instr.sliceAt 154 (.pointer (some ⟨sb,1,none⟩)) (some (I4 1)) (some (I4 (1+(n:Int)))) none).run Tryz.prog w=.ok (.slice (some ⟨sb,5,none⟩) n 7) w:=by
 have k0:(Instr.sliceAt 154 (.pointer (some ⟨sb,1,none⟩)) (some (I4 1)) (some (I4 (1+((0:Nat):Int)))) none).run Tryz.prog w=.ok (.slice (some ⟨sb,5,none⟩) 0 7) w:=by kernel_rfl
 have a:(Instr.sliceAt 154 (.pointer (some ⟨sb,1,none⟩)) (some (I4 1)) (some (I4 (1+((1:Nat):Int)))) none).run Tryz.prog w=.ok (.slice (some ⟨sb,5,none⟩) 1 7) w:=by kernel_rfl
 have d:(Instr.sliceAt 154 (.pointer (some ⟨sb,1,none⟩)) (some (I4 1)) (some (I4 (1+((2:Nat):Int)))) none).run Tryz.prog w=.ok (.slice (some ⟨sb,5,none⟩) 2 7) w:=by kernel_rfl
 have b:(Instr.sliceAt 154 (.pointer (some ⟨sb,1,none⟩)) (some (I4 1)) (some (I4 (1+((3:Nat):Int)))) none).run Tryz.prog w=.ok (.slice (some ⟨sb,5,none⟩) 3 7) w:=by kernel_rfl
 have c:n=0∨n=1∨n=2∨n=3:=by omega
 rcases c with rfl|rfl|rfl|rfl
 ·exact k0
 ·exact a
 ·exact d
 ·exact b
theorem yPu {w:World}{sb n:Nat}{r:Bool}{s:St}(d:StAt w sb 0 r s)(b:s.length=8)(g:n<=3)(f:sb<w.heap.size):SeesT w (.slice (some ⟨sb,5,none⟩) n 7) ((s.drop 1).take n):=by
 have a:((s.drop 1).take n).length=n:=by simp [b];omega
 refine ⟨some ⟨sb,5,none⟩,7,by rw [a],by rw [a];omega,by decide,fun e=>(by cases e),fun _=>⟨sb,5,rfl,f,fun k c=>?_⟩⟩;rw [a] at c;have:=d.typ b (k:=k+1) (by omega);rw [show 0+1+(k+1)*4=5+k*4 by omega] at this
 have e:((s.drop 1).take n).getD k Ty.nil=s.getD (k+1) Ty.nil:=by
  simp [List.getD,List.getElem?_take,c,Nat.add_comm]
 rw [e];exact this
theorem yJm {h:Int}{v:Value}{xs:List Ty}{w:World}(b:SeesT w v xs){r:Int}(c:Hid (qDr h xs=r)):Cl 116 #[I4 h,v] w fun e a=>e=.returned (I4 r)/\Bw w a:=by
 rw [<- c.out];exact yJy h v xs w b
theorem xCd {w a:World}{x y:Nat}{i j:Nat}{u v:Value}(h:w.cell? ⟨x,i,none⟩=some u/\w.cell? ⟨y,j,none⟩=some v)(b:Bw w a)(c:x<w.heap.size)(d:y<w.heap.size):a.cell? ⟨x,i,none⟩=some u/\a.cell? ⟨y,j,none⟩=some v:=by
 rw [b.cell (p:=⟨x,i,none⟩) c,b.cell (p:=⟨y,j,none⟩) d];exact h
theorem yNk (w0 w:World)(qb kb nm cb co ccap p:Nat)(vl:Value)(xs:List In)(ls:List Lp)(K:Kn)(h:Inq w0 w qb kb nm vl cb co ccap xs ls K)(hp:p<xs.length)(fr:xs.length<=64)(hM:MadeK nm K)(n:Nat)(hn:n<8)(op d b y:Int)(HI:Hid (nth xs p=⟨op,d,n,b,y⟩))(r:Bool)(s:St)(HK:Hid (K.getD p kn0=(r,s)))(hb:b=8∨(0<=b/\b<=7))(B A F D I M L O:Int)(HS:Hid (s.getD n Ty.nil=⟨B,A,F,D⟩))(HT:Hid (qBa ⟨op,d,n,b,y⟩ s=⟨I,M,L,O⟩))(ev:op=20->0<=(p:Int)+In.far ⟨op,d,n,b,y⟩/\(p:Int)+In.far ⟨op,d,n,b,y⟩<xs.length):Cl 76 #[.pointer (some ⟨qb,0,none⟩),I4 p] w fun e z=>e=.returned (I4 (qLd nm ⟨op,d,n,b,y⟩ s (K.getD ((p:Int)+In.far ⟨op,d,n,b,y⟩).toNat kn0).2))/\Bw w z:=by
 obtain ⟨E,HE⟩:∃ E,Hid (E=qLd nm ⟨op,d,n,b,y⟩ s (K.getD ((p:Int)+In.far ⟨op,d,n,b,y⟩).toNat kn0).2):=⟨_,rfl⟩;rw [<- HE.out];obtain ⟨e5,fh,hN,fn⟩:=h.at hp;rw [HI.out] at e5;obtain ⟨c0,c1,c2,c3,c4⟩:=e5;simp only at c0 c1 c2 c3 c4
 have fq:(p:Int)<xs.length:=by omega
 have h8:s.length=8:=by have:=h.e8.at p;rw [HK.out] at this;exact this
 have e7:StAt w kb (p*33) r s:=h.k.state h.e8 (by rw [h.len];exact hp) HK.out;have dy:=h.q.lt;have ew:=h.k.lt;have fm:=h.b0.size
 have HP:Hid (∀ z,Bw w z->z.cell? ⟨qb,1,none⟩=some (.slice (some ⟨cb,co,none⟩) xs.length ccap)/\z.cell? ⟨qb,3,none⟩=some (.slice (some ⟨kb,0,none⟩) xs.length xs.length)/\z.cell? ⟨cb,co+p*5,none⟩=some (I4 op)/\z.cell? ⟨cb,co+p*5+1,none⟩=some (I4 d)/\z.cell? ⟨cb,co+p*5+2,none⟩=some (I4 n)/\z.cell? ⟨cb,co+p*5+3,none⟩=some (I4 b)/\z.cell? ⟨cb,co+p*5+4,none⟩=some (I4 y)/\StAt z kb (p*33) r s):=fun z ai=>by
  have hA:=At.below (i:=⟨op,d,n,b,y⟩) ⟨c0,c1,c2,c3,c4⟩ ai (by omega);exact ⟨(h.q.below ai dy).cell rfl,(h.q.below ai dy).cell rfl,hA.1,hA.2.1,hA.2.2.1,hA.2.2.2.1,hA.2.2.2.2,e7.below ai ew⟩
 clear c0 c1 c2 c3 c4 e7
 have dx:Made8 nm s:=by have:=hM.at p;rw [HK.out] at this;exact this
 have HM:=qAa hM;have fo:=qAa dx;have fp:=qAa (qHf (r:=r) h8)
 have fe:(p:Int)<64:=by omega
 have fl:(n:Int)<8:=by omega
 clear dx hM;go_enter Tryz.func76,Tryz.ntmps76
 go_wp2_with (fail)
 go_cut [5,6] from 15 (fun v4 v5 wc=>yQc w wc ⟨op,d,n,b,y⟩ r s v4 v5)
 case rest =>
  obtain ⟨ib,sb,rfl,rfl,bx,cr,d3,ex,fa,f7⟩:=hcut;have HQ:=qAa (h.below d3);have dc:=qAa bx;have d5:=qAa cr;obtain ⟨y0,y1,y2,y3,y4⟩:=id bx.inst;have ck:=bx.lt;have da:=cr.lt;have fb:kb<wc.heap.size:=HQ.out.k.lt
  have eo:ib≠kb:=by omega
  have ec:sb≠kb:=by omega
  clear bx cr HP;clear y0 y1 y2 y3 y4
  go_wp2_with (fail)
  go_cut [7,8] from 15 (fun v7 v8 wd=>xBj wc wd ⟨B,A,F,D⟩ ⟨I,M,L,O⟩ v7 v8)
  case rest =>
   obtain ⟨c,a,rfl,rfl,ea,dv,bi,fk,f6⟩:=hcut;have ca:=qAa (HQ.out.below bi);have d7:=qAa (dc.out.below bi ck);have db:=qAa (d5.out.below bi da);have a4:Bw w wc:=d3.trans (bi.mono d3.size);have ff:=qAa ea;have f8:=qAa dv;obtain ⟨y0,y1,y2,y3,y4⟩:=id d7.out.inst;obtain ⟨a0,a1,a2,a3⟩:=ea;obtain ⟨b0,b1,b2,b3⟩:=dv;simp only at a0 a1 a2 a3 b0 b1 b2 b3;have cl:=d7.out.lt;have d9:=db.out.lt;have b5:Hid (qBg s n=⟨B,A,F,D⟩):=HS.out;clear HQ dc d5 ck da bi h ex fa f7 fb eo ec;obtain ⟨e1,ar⟩:∃ e,Hid (qFo [⟨B,A,F,D⟩]=e):=⟨_,rfl⟩;obtain ⟨e2,fg⟩:∃ e,Hid (qJx ⟨I,M,L,O⟩=e):=⟨_,rfl⟩
   by_cases o13:op=13
   ·subst o13
    have G:Hid (E=0):=by show _=_;rw [HE.out];rfl
    go_wp2;go_ret;exact ⟨qGu G.out.symm,a4⟩
   by_cases o15:op=15
   ·subst o15
    have G:Hid (E=0):=by show _=_;rw [HE.out];rfl
    go_wp2;go_ret;exact ⟨qGu G.out.symm,a4⟩
   by_cases o0:op=0
   ·subst o0
    have G:Hid (qLj (I != 0) 33=E):=by show _=_;rw [HE.out];unfold qLd;rw [if_neg (by simp),if_pos rfl,HT.out]
    go_wp2_with (go_at_call 111;go_must (refine (qPk G _).mono ?_);rintro e w5 ⟨rfl,Q⟩;go_must (have a6:=a4.trans (Q.mono a4.size)))
    go_ret;exact ⟨rfl,a6⟩
   by_cases o11:op=11
   ·subst o11
    have G:Hid (qJx ⟨I,M,L,O⟩=E):=by show _=_;rw [HE.out];unfold qLd;rw [if_neg (by simp),if_neg (by simp),if_pos rfl,HT.out]
    go_wp2_with (go_at_call 112;go_must (refine (yBs G _).mono ?_);rintro e w5 ⟨rfl,Q⟩;go_must (have a6:=a4.trans (Q.mono a4.size)))
    go_ret;exact ⟨rfl,a6⟩
   by_cases o12:op=12
   ·subst o12
    by_cases h1:e1=0
    ·have G:Hid (qJx ⟨I,M,L,O⟩=E):=by show _=_;rw [HE.out];unfold qLd;rw [if_neg (by simp),if_neg (by simp),if_neg (by simp),if_pos rfl,b5.out,HT.out,ar.out,h1];simp
     subst h1
     go_wp2_with (first
      | (go_at_call 113;go_must (refine (qLs ar (qJg _ _ ⟨B,A,F,D⟩ _ rfl)).mono ?_);rintro e w5 ⟨rfl,a8⟩;go_must (have Q:=qAt a8;have a6:=a4.trans (Q.mono a4.size);obtain ⟨z0,z1,z2,z3⟩:=f8.out.below Q f6;simp only at z0 z1 z2 z3;clear b0 b1 b2 b3))
      | (go_at_call 112;go_must (refine (yBs G _).mono ?_);rintro e w6 ⟨rfl,ax⟩;go_must (have b6:=a6.trans (ax.mono a6.size))))
     go_ret;exact ⟨rfl,b6⟩
    ·have G:Hid (e1=E):=by show _=_;rw [HE.out];unfold qLd;rw [if_neg (by simp),if_neg (by simp),if_neg (by simp),if_pos rfl,b5.out,HT.out,ar.out,if_pos h1]
     go_wp2_with (go_at_call 113;go_must (refine (qLs ar (qJg _ _ ⟨B,A,F,D⟩ _ rfl)).mono ?_);rintro e w5 ⟨rfl,a8⟩;go_must (have Q:=qAt a8;have a6:=a4.trans (Q.mono a4.size)))
     go_ret;exact ⟨qGu G.out,a6⟩
   by_cases o22:op=22
   ·subst o22
    have G:Hid (qFo [⟨B,A,F,D⟩]=E):=by show _=_;rw [HE.out];unfold qLd;simp [b5.out]
    go_wp2_with (go_at_call 113;go_must (refine (qLs G (qJg _ _ ⟨B,A,F,D⟩ _ rfl)).mono ?_);rintro e w5 ⟨rfl,a8⟩;go_must (have Q:=qAt a8;have a6:=a4.trans (Q.mono a4.size)))
    go_ret;exact ⟨rfl,a6⟩
   by_cases o14:op=14
   ·subst o14
    have G:Hid (qLj (decide (y<nm)) 35=E):=by show _=_;rw [HE.out];unfold qLd;simp
    have q0:wc.cell? ⟨qb,0,none⟩=some (I4 nm):=ca.out.q.cell rfl;have et:=ca.out.q.lt;go_wp2
    go_region_held3 (fun z=>z.cell? ⟨ib,4,none⟩=some (I4 y)/\z.cell? ⟨qb,0,none⟩=some (I4 nm))
     (first|exact f9|exact ⟨y4,q0⟩)
     (first|(go_at_call 111;go_must (refine (qPk G _).mono ?_);rintro e w5 ⟨rfl,a8⟩;go_must (have Q:Bw wc w5:=qAg a8;have f9:=xCd ⟨y4,q0⟩ Q cl et;have a6:=a4.trans (Q.mono a4.size))))
    go_wp2;go_ret;exact ⟨rfl,a6⟩
   by_cases o20:op=20
   ·subst o20
    by_cases h1:e1=0
    ·subst h1;obtain ⟨f,HF⟩:∃ f,Hid (f=In.far ⟨20,d,n,b,y⟩):=⟨_,rfl⟩;obtain ⟨l,HL⟩:∃ l,Hid (l=In.leads ⟨20,d,n,b,y⟩):=⟨_,rfl⟩;obtain ⟨o,HO⟩:∃ o,Hid (o=In.on ⟨20,d,n,b,y⟩):=⟨_,rfl⟩
     obtain ⟨n2,e4,fc⟩:∃ n2:Nat,Hid ((p:Int)+f=n2)/\n2<xs.length:=by
      have:=ev rfl;rw [<- HF.out] at this;exact ⟨((p:Int)+f).toNat,by show _=_;omega,by omega⟩
     obtain ⟨r2,s2,d4⟩:∃ r2 s2,Hid (K.getD n2 kn0=(r2,s2)):=⟨_,_,rfl⟩
     have e6:s2.length=8:=by have:=ca.out.e8.at n2;rw [d4.out] at this;exact this
     obtain ⟨q,dz⟩:∃ q,Hid (qKh s s2=q):=⟨_,rfl⟩
     have G:Hid (qLj q 33=E):=by
      show _=_
      rw [HE.out];unfold qLd;rw [if_neg (by simp),if_neg (by simp),if_neg (by simp),if_neg (by simp),if_neg (by simp),if_pos rfl,b5.out,ar.out,if_neg (by simp),<- HF.out,e4.out,Int.toNat_natCast,d4.out,dz.out]
     have ey:IntKind.i64.wrap ((p:Int)+f)=(n2:Int):=by rw [e4.out,IntKind.wrap_i64];omega
     have fd:(n2:Int)<xs.length:=by omega
     go_wp2_with (first
      | (go_at_call 113;go_must (refine (qLs ar (qJg _ _ ⟨B,A,F,D⟩ _ rfl)).mono ?_);rintro e w5 ⟨rfl,a8⟩;go_must (have Q:=qAt a8;have a6:=a4.trans (Q.mono a4.size);have ez:=qAa (d7.out.below Q cl);have cf:=qAa (db.out.below Q d9);have f5:=qAa (ca.out.below Q);have fi:=Q.size;clear y0 y1 y2 y3 y4;obtain ⟨z0,z1,z2,z3,z4⟩:=ez.out.inst))
      | (go_at_call 114;go_must (refine (qKl (i:=⟨20,d,n,b,y⟩) (show Hid _ from rfl) HF HL HO _).mono ?_);rintro e w6 ⟨rfl,ax⟩;go_must (have b6:=a6.trans (ax.mono a6.size);have e9:=qAa (cf.out.below ax (by omega));have b7:=qAa (f5.out.below ax);clear z0 z1 z2 z3 z4)))
     have ei:=b7.out.q.lt;have el:=b7.out.k.lt;have ed:=e9.out.lt
     have d6:Hid (∀ z,Bw w6 z->z.cell? ⟨qb,3,none⟩=some (.slice (some ⟨kb,0,none⟩) xs.length xs.length)/\StAt z sb 0 r s/\StAt z kb (n2*33) r2 s2):=fun z ai =>
      ⟨(b7.out.q.below ai ei).cell rfl,(e9.out.below ai ed).one,(b7.out.k.below ai el).state b7.out.e8 (by rw [b7.out.len];exact fc) d4.out⟩
     refine wp_region_held_drew (S:=fun z=>z.cell? ⟨qb,3,none⟩=some (.slice (some ⟨kb,0,none⟩) xs.length xs.length)/\StAt z sb 0 r s/\StAt z kb (n2*33) r2 s2) (by kernel_rfl) (d6.out _ (Below.refl _ _).drew) (fun hHeld=>?_);refine wpAnyH_take (i:=0) rfl (by kernel_rfl) (by kernel_rfl) (by kernel_rfl) (fun _ _ _ h=>h) (yieldsIf_load_mid (by rfl) _ _ rfl _ _ rfl (stC r s) _ (fun w h=>h.2.1) Tryz.underlying156 rfl (qHf h8)) (by assumption) ?_
     try simp only [Act.put,p1q,p2q,p3q,p4q,p5q,p6q]
     refine qBb [1,2,3,4,5,6] ?_
     repeat (refine tkO (v:=?_) rfl ?_ ?_;rotate_left;(intro wy hSw;(try dsimp only at hSw);go_simp;(first|done|with_reducible rfl));try simp only [Act.put,p1q,p2q,p3q,p4q,p5q,p6q])
     refine qAs ?_;refine wpAnyH_take (i:=7) (v:=(I4 (n2:Int))) rfl (by kernel_rfl) (by kernel_rfl) (by kernel_rfl) (fun _ _ _ h=>h) (Or.inl ⟨by rfl,fun wy hSw=>?_⟩) (by assumption) ?_
     ·go_simp
     try simp only [Act.put,p1q,p2q,p3q,p4q,p5q,p6q]
     refine wpAnyH_take (i:=8) (v:=(.pointer (some ⟨kb,n2*33,none⟩))) rfl (by kernel_rfl) (by kernel_rfl) (by kernel_rfl) (fun _ _ _ h=>h) (Or.inl ⟨by rfl,fun wy hSw=>?_⟩) (by assumption) ?_
     ·go_simp
     try simp only [Act.put,p1q,p2q,p3q,p4q,p5q,p6q]
     refine wpAnyH_take (i:=9) rfl (by kernel_rfl) (by kernel_rfl) (by kernel_rfl) (fun _ _ _ h=>h) (yieldsIf_load_mid (by rfl) _ _ rfl _ _ rfl (stC r2 s2) _ (fun w h=>h.2.2) Tryz.underlying156 rfl (qHf e6)) (by assumption) ?_
     try simp only [Act.put,p1q,p2q,p3q,p4q,p5q,p6q]
     refine qAr 10 (by kernel_rfl) rfl (by rfl) (fun KK hK=>?_);go_simp
     go_at_call 115
     refine (ySx dz w6.drew h8 e6).mono ?_;rintro e w7 ⟨rfl,eb⟩;have cp:Bw w6 w7:=qAg eb;refine hK.out _ _ (d6.out _ cp) (fun hHeld=>?_);clear hK KK
     try simp only [Act.put,p1q,p2q,p3q,p4q,p5q,p6q]
     refine qAr 11 (by kernel_rfl) rfl (by rfl) (fun KK hK=>?_);go_simp
     go_at_call 111
     refine (qPk G w7).mono ?_;rintro e w8 ⟨rfl,ek⟩;have e3:Bw w6 w8:=cp.trans (ek.mono cp.size);refine hK.out _ _ (d6.out _ e3) (fun hHeld=>?_);clear hK KK
     try simp only [Act.put,p1q,p2q,p3q,p4q,p5q,p6q]
     refine qBb [12] ?_
     repeat (refine tkO (v:=?_) rfl ?_ ?_;rotate_left;(intro wy hSw;(try dsimp only at hSw);go_simp;(first|done|with_reducible rfl));try simp only [Act.put,p1q,p2q,p3q,p4q,p5q,p6q])
     refine qAs ?_;refine wpAnyH_done (by kernel_rfl) ?_ _;go_wp2;go_ret;exact ⟨rfl,b6.trans (e3.mono b6.size)⟩
    ·have G:Hid (e1=E):=by show _=_;rw [HE.out];unfold qLd;rw [if_neg (by simp),if_neg (by simp),if_neg (by simp),if_neg (by simp),if_neg (by simp),if_pos rfl,b5.out,ar.out,if_pos h1]
     go_wp2_with (go_at_call 113;go_must (refine (qLs ar (qJg _ _ ⟨B,A,F,D⟩ _ rfl)).mono ?_);rintro e w5 ⟨rfl,a8⟩;go_must (have Q:=qAt a8;have a6:=a4.trans (Q.mono a4.size)))
     go_ret;exact ⟨qGu G.out,a6⟩
   by_cases o21:op=21
   ·subst o21;obtain ⟨N,HL⟩:∃ N,Hid ((qEa y).length=N):=⟨_,rfl⟩
    have dw:N<=3:=by rw [<- HL.out];exact qRs _
    have G:Hid (qDr y ((s.drop 1).take N)=E):=by show _=_;rw [HE.out];unfold qLd;simp [HL.out]
    have ey:IntKind.i64.wrap (1+(N:Int))=1+(N:Int):=by rw [IntKind.wrap_i64];omega
    have fj:=yLc sb N dw
    go_wp2_with (first
     | (go_at_call 117;go_must (refine (qTz y _).mono ?_);rintro e w5 ⟨u5,rfl,b9,Q⟩;go_must (have a6:=a4.trans (Q.mono a4.size);have cf:=qAa (db.out.below Q d9);rw [HL.out] at b9;obtain ⟨a5,c5,rfl⟩:=qIo b9;clear b9))
     | (go_at_call 116;go_must (refine (yJm (yPu cf.out.one h8 dw cf.out.lt) G).mono ?_);rintro e w6 ⟨rfl,ax⟩;go_must (have b6:=a6.trans (ax.mono a6.size))))
    go_ret;exact ⟨rfl,b6⟩
   have G:Hid (qFo [⟨B,A,F,D⟩,⟨I,M,L,O⟩]=E):=by show _=_;rw [HE.out];unfold qLd;rw [if_neg (by rintro (h|h)<;>contradiction),if_neg o0,if_neg o11,if_neg o12,if_neg o14,if_neg o20,if_neg o21,if_neg o22,b5.out,HT.out]
   go_wp2_with (go_at_call 113;go_must (refine (qLs G (yNb _ _ ⟨B,A,F,D⟩ ⟨I,M,L,O⟩ _ rfl)).mono ?_);rintro e w5 ⟨rfl,a8⟩;go_must (have Q:=qAt a8;have a6:=a4.trans (Q.mono a4.size)))
   go_ret;exact ⟨rfl,a6⟩
  case first =>
   have P:Hid (∀ z,Bw wc z->z.cell? ⟨ib,0,none⟩=some (I4 op)/\z.cell? ⟨ib,1,none⟩=some (I4 d)/\z.cell? ⟨ib,2,none⟩=some (I4 n)/\z.cell? ⟨ib,3,none⟩=some (I4 b)/\z.cell? ⟨ib,4,none⟩=some (I4 y)/\z.cell? ⟨sb,1+n*4,none⟩=some (I4 B)/\z.cell? ⟨sb,1+n*4+1,none⟩=some (U8 A)/\z.cell? ⟨sb,1+n*4+2,none⟩=some (U8 F)/\z.cell? ⟨sb,1+n*4+3,none⟩=some (I4 D)/\StAt z sb 0 r s):=fun z ai=>by
    obtain ⟨q0,q1,q2,q3⟩:=qPd (r:=r) h8 hn HS.out;have hh:=d5.out.below ai da;obtain ⟨x0,x1,x2,x3,x4⟩:=Box.below dc.out.inst ai ck;exact ⟨x0,x1,x2,x3,x4,hh.cell q0,hh.cell q1,hh.cell q2,hh.cell q3,hh.one⟩
   refine wp_region_held_drew (S:=fun z=>z.cell? ⟨ib,0,none⟩=some (I4 op)/\z.cell? ⟨ib,1,none⟩=some (I4 d)/\z.cell? ⟨ib,2,none⟩=some (I4 n)/\z.cell? ⟨ib,3,none⟩=some (I4 b)/\z.cell? ⟨ib,4,none⟩=some (I4 y)/\z.cell? ⟨sb,1+n*4,none⟩=some (I4 B)/\z.cell? ⟨sb,1+n*4+1,none⟩=some (U8 A)/\z.cell? ⟨sb,1+n*4+2,none⟩=some (U8 F)/\z.cell? ⟨sb,1+n*4+3,none⟩=some (I4 D)/\StAt z sb 0 r s) (by kernel_rfl) (P.out _ (Below.refl _ _).drew) (fun hHeld=>?_);refine qBb [0,1,2,3,4] ?_
   repeat (refine tkO (v:=?_) rfl ?_ ?_;rotate_left;(intro wy hSw;(try dsimp only at hSw);go_simp;(first|done|with_reducible rfl));try simp only [Act.put,p1q,p2q,p3q,p4q,p5q,p6q])
   refine qAs ?_;refine wpAnyH_take (i:=5) rfl (by kernel_rfl) (by kernel_rfl) (by kernel_rfl) (fun _ _ _ h=>h) (yieldsIf_load_mid (by rfl) _ _ rfl _ _ rfl (stC r s) _ (fun w h=>h.2.2.2.2.2.2.2.2.2) Tryz.underlying156 rfl (qHf h8)) (by assumption) ?_
   try simp only [Act.put,p1q,p2q,p3q,p4q,p5q,p6q]
   refine qBb [6] ?_
   repeat (refine tkO (v:=?_) rfl ?_ ?_;rotate_left;(intro wy hSw;(try dsimp only at hSw);go_simp;(first|done|with_reducible rfl));try simp only [Act.put,p1q,p2q,p3q,p4q,p5q,p6q])
   refine qAs ?_;obtain ⟨X,HX,aq⟩:∃ X,Hid (X=wc.drew)/\Bw wc X:=⟨_,rfl,(Below.refl _ _).drew⟩;rw [<- HX.out];clear HX;refine wpAnyH_ready (rs:=[7,8,9]) (by kernel_rfl) (by simp) ?_
   refine (AllReadyH.cons rfl (fun KK hK=>?_) (AllReadyH.cons rfl (fun KK hK=>?_) (AllReadyH.cons rfl (fun KK hK=>?_) AllReadyH.nil)))<;>rw [if_pos (by rfl)]
   ·go_simp
    go_at_call 110
    refine (qEs (i:=⟨op,d,n,b,y⟩) HT r X h8 hb).mono ?_;rintro e X1 ⟨rfl,ep⟩;have ak:=aq.trans (ep.mono aq.size);refine hK.out _ _ (P.out _ ak) (fun hHeld=>?_);clear hK KK
    try simp only [Act.put,p1q,p2q,p3q,p4q,p5q,p6q]
    refine wpAnyH_ready (rs:=[8,9]) (by kernel_rfl) (by simp) ?_
    refine (AllReadyH.cons rfl (fun KK hK=>?_) (AllReadyH.cons rfl (fun KK hK=>?_) AllReadyH.nil))<;>rw [if_pos (by rfl)]
    ·go_simp;obtain ⟨X2,c,T,Z,eh,ae,eg,c7⟩:∃ Y g,Hid (Y=X1.alloc (Obj.cells #[I4 0,U8 0,U8 0,I4 0] 153))/\Hid (X1.heap.size=g)/\Bw X1 Y/\wc.heap.size<=g/\Hid (BxT Y g 0 ⟨0,0,0,0⟩)/\g<Y.heap.size:=⟨_,_,rfl,rfl,(Below.refl _ _).alloc (Nat.le_refl _) _,ak.size,⟨⟨by go_cell,by go_cell,by go_cell,by go_cell⟩,by go_simp,by go_simp,by go_simp,by go_simp⟩,by simp⟩;rw [<- T.out,Z.out];clear T Z;have ba:=ak.trans (eh.mono ak.size);refine hK.out _ _ (P.out _ ba) (fun hHeld=>?_);clear hK KK
     try simp only [Act.put,p1q,p2q,p3q,p4q,p5q,p6q]
     refine wpAnyH_ready (rs:=[9]) (by kernel_rfl) (by simp) ?_
     refine (AllReadyH.cons rfl (fun KK hK=>?_) AllReadyH.nil)<;>rw [if_pos (by rfl)]
     ·go_simp;obtain ⟨X3,a,T,Z,bu,ad,ee,dr⟩:∃ Y g,Hid (Y=X2.alloc (Obj.cells #[I4 0,U8 0,U8 0,I4 0] 153))/\Hid (X2.heap.size=g)/\Bw X2 Y/\wc.heap.size<=g/\Hid (BxT Y g 0 ⟨0,0,0,0⟩)/\g<Y.heap.size:=⟨_,_,rfl,rfl,(Below.refl _ _).alloc (Nat.le_refl _) _,ba.size,⟨⟨by go_cell,by go_cell,by go_cell,by go_cell⟩,by go_simp,by go_simp,by go_simp,by go_simp⟩,by simp⟩
      have J:c≠a:=by have:=Z.out;omega
      have cz:Hid (BxT X3 c 0 ⟨0,0,0,0⟩):=BxT.below eg.out bu c7;have dk:c<X3.heap.size:=Nat.lt_of_lt_of_le c7 bu.size;rw [<- T.out,Z.out];clear T Z;have cw:=ba.trans (bu.mono ba.size);refine hK.out _ _ (P.out _ cw) (fun hHeld=>?_);clear hK KK
      try simp only [Act.put,p1q,p2q,p3q,p4q,p5q,p6q]
      obtain ⟨c0,c1,c2,c3,f0,f1,f2,f3⟩:=BxT.open cz.out;refine qAr 10 (by kernel_rfl) rfl (by rfl) (fun KK hK=>?_);go_simp;clear c0 c1 c2 c3 f0 f1 f2 f3;obtain ⟨U,HU,aa,ag,ac,ab⟩:∃ U,Hid (U=(((X3.setCell ⟨c,0,none⟩ (I4 B)).setCell ⟨c,1,none⟩ (U8 A)).setCell ⟨c,2,none⟩ (U8 F)).setCell ⟨c,3,none⟩ (I4 D))/\Bw wc U/\Hid (BxT U c 0 ⟨B,A,F,D⟩)/\Hid (BxT U a 0 ⟨0,0,0,0⟩)/\(c<U.heap.size/\a<U.heap.size):=⟨_,rfl,qAz (t:=⟨B,A,F,D⟩) (off:=0) cw ae,cz.out.set ⟨B,A,F,D⟩,BxT.far (u:=⟨B,A,F,D⟩) (o:=0) ee.out J.symm,qIt (qAd c (tyC ⟨B,A,F,D⟩) X3 0).size dk dr⟩;rw [<- HU.out];clear HU;refine hK.out _ _ (P.out _ aa) (fun hHeld=>?_);clear hK KK
      try simp only [Act.put,p1q,p2q,p3q,p4q,p5q,p6q]
      obtain ⟨c0,c1,c2,c3,f0,f1,f2,f3⟩:=BxT.open ac.out;refine qAr 11 (by kernel_rfl) rfl (by rfl) (fun KK hK=>?_);go_simp;clear c0 c1 c2 c3 f0 f1 f2 f3;obtain ⟨V,G,a9,ah,af,a7⟩:∃ V,Hid (V=(((U.setCell ⟨a,0,none⟩ (I4 I)).setCell ⟨a,1,none⟩ (U8 M)).setCell ⟨a,2,none⟩ (U8 L)).setCell ⟨a,3,none⟩ (I4 O))/\Bw wc V/\Hid (BxT V c 0 ⟨B,A,F,D⟩)/\Hid (BxT V a 0 ⟨I,M,L,O⟩)/\(c<V.heap.size/\a<V.heap.size):=⟨_,rfl,qAz (t:=⟨I,M,L,O⟩) (off:=0) aa ad,BxT.far (u:=⟨I,M,L,O⟩) (o:=0) ag.out J,ac.out.set ⟨I,M,L,O⟩,qIt (qAd a (tyC ⟨I,M,L,O⟩) U 0).size ab.1 ab.2⟩;rw [<- G.out];clear G;refine hK.out _ _ (P.out _ a9) (fun hHeld=>?_);clear hK KK
      try simp only [Act.put,p1q,p2q,p3q,p4q,p5q,p6q]
      refine wpAnyH_done (by kernel_rfl) ?_ _;go_wp2
      go_meet
      case rel=>exact ⟨c,a,rfl,rfl,ah.out.1,af.out.1,a9,a7.1,a7.2⟩
    ·go_simp;obtain ⟨X4,a,T,Z,eu,ad,em,cc⟩:∃ Y g,Hid (Y=X1.alloc (Obj.cells #[I4 0,U8 0,U8 0,I4 0] 153))/\Hid (X1.heap.size=g)/\Bw X1 Y/\wc.heap.size<=g/\Hid (BxT Y g 0 ⟨0,0,0,0⟩)/\g<Y.heap.size:=⟨_,_,rfl,rfl,(Below.refl _ _).alloc (Nat.le_refl _) _,ak.size,⟨⟨by go_cell,by go_cell,by go_cell,by go_cell⟩,by go_simp,by go_simp,by go_simp,by go_simp⟩,by simp⟩;rw [<- T.out,Z.out];clear T Z;have be:=ak.trans (eu.mono ak.size);refine hK.out _ _ (P.out _ be) (fun hHeld=>?_);clear hK KK
     try simp only [Act.put,p1q,p2q,p3q,p4q,p5q,p6q]
     refine wpAnyH_ready (rs:=[8]) (by kernel_rfl) (by simp) ?_
     refine (AllReadyH.cons rfl (fun KK hK=>?_) AllReadyH.nil)<;>rw [if_pos (by rfl)]
     ·go_simp;obtain ⟨X5,c,T,Z,br,ae,cs,dt⟩:∃ Y g,Hid (Y=X4.alloc (Obj.cells #[I4 0,U8 0,U8 0,I4 0] 153))/\Hid (X4.heap.size=g)/\Bw X4 Y/\wc.heap.size<=g/\Hid (BxT Y g 0 ⟨0,0,0,0⟩)/\g<Y.heap.size:=⟨_,_,rfl,rfl,(Below.refl _ _).alloc (Nat.le_refl _) _,be.size,⟨⟨by go_cell,by go_cell,by go_cell,by go_cell⟩,by go_simp,by go_simp,by go_simp,by go_simp⟩,by simp⟩
      have al:a≠c:=by have:=Z.out;omega
      have ef:Hid (BxT X5 a 0 ⟨0,0,0,0⟩):=BxT.below em.out br cc;have dn:a<X5.heap.size:=Nat.lt_of_lt_of_le cc br.size;rw [<- T.out,Z.out];clear T Z;have cn:=be.trans (br.mono be.size);refine hK.out _ _ (P.out _ cn) (fun hHeld=>?_);clear hK KK
      try simp only [Act.put,p1q,p2q,p3q,p4q,p5q,p6q]
      have J:c≠a:=al.symm;obtain ⟨c0,c1,c2,c3,f0,f1,f2,f3⟩:=BxT.open cs.out;refine qAr 10 (by kernel_rfl) rfl (by rfl) (fun KK hK=>?_);go_simp;clear c0 c1 c2 c3 f0 f1 f2 f3;obtain ⟨U,HU,aa,ag,ac,ab⟩:∃ U,Hid (U=(((X5.setCell ⟨c,0,none⟩ (I4 B)).setCell ⟨c,1,none⟩ (U8 A)).setCell ⟨c,2,none⟩ (U8 F)).setCell ⟨c,3,none⟩ (I4 D))/\Bw wc U/\Hid (BxT U c 0 ⟨B,A,F,D⟩)/\Hid (BxT U a 0 ⟨0,0,0,0⟩)/\(c<U.heap.size/\a<U.heap.size):=⟨_,rfl,qAz (t:=⟨B,A,F,D⟩) (off:=0) cn ae,cs.out.set ⟨B,A,F,D⟩,BxT.far (u:=⟨B,A,F,D⟩) (o:=0) ef.out J.symm,qIt (qAd c (tyC ⟨B,A,F,D⟩) X5 0).size dt dn⟩;rw [<- HU.out];clear HU;refine hK.out _ _ (P.out _ aa) (fun hHeld=>?_);clear hK KK
      try simp only [Act.put,p1q,p2q,p3q,p4q,p5q,p6q]
      obtain ⟨c0,c1,c2,c3,f0,f1,f2,f3⟩:=BxT.open ac.out;refine qAr 11 (by kernel_rfl) rfl (by rfl) (fun KK hK=>?_);go_simp;clear c0 c1 c2 c3 f0 f1 f2 f3;obtain ⟨V,G,a9,ah,af,a7⟩:∃ V,Hid (V=(((U.setCell ⟨a,0,none⟩ (I4 I)).setCell ⟨a,1,none⟩ (U8 M)).setCell ⟨a,2,none⟩ (U8 L)).setCell ⟨a,3,none⟩ (I4 O))/\Bw wc V/\Hid (BxT V c 0 ⟨B,A,F,D⟩)/\Hid (BxT V a 0 ⟨I,M,L,O⟩)/\(c<V.heap.size/\a<V.heap.size):=⟨_,rfl,qAz (t:=⟨I,M,L,O⟩) (off:=0) aa ad,BxT.far (u:=⟨I,M,L,O⟩) (o:=0) ag.out J,ac.out.set ⟨I,M,L,O⟩,qIt (qAd a (tyC ⟨I,M,L,O⟩) U 0).size ab.1 ab.2⟩;rw [<- G.out];clear G;refine hK.out _ _ (P.out _ a9) (fun hHeld=>?_);clear hK KK
      try simp only [Act.put,p1q,p2q,p3q,p4q,p5q,p6q]
      refine wpAnyH_done (by kernel_rfl) ?_ _;go_wp2
      go_meet
      case rel=>exact ⟨c,a,rfl,rfl,ah.out.1,af.out.1,a9,a7.1,a7.2⟩
   ·go_simp;obtain ⟨X6,c,T,Z,er,ae,cm,au⟩:∃ Y g,Hid (Y=X.alloc (Obj.cells #[I4 0,U8 0,U8 0,I4 0] 153))/\Hid (X.heap.size=g)/\Bw X Y/\wc.heap.size<=g/\Hid (BxT Y g 0 ⟨0,0,0,0⟩)/\g<Y.heap.size:=⟨_,_,rfl,rfl,(Below.refl _ _).alloc (Nat.le_refl _) _,aq.size,⟨⟨by go_cell,by go_cell,by go_cell,by go_cell⟩,by go_simp,by go_simp,by go_simp,by go_simp⟩,by simp⟩;rw [<- T.out,Z.out];clear T Z;have ap:=aq.trans (er.mono aq.size);refine hK.out _ _ (P.out _ ap) (fun hHeld=>?_);clear hK KK
    try simp only [Act.put,p1q,p2q,p3q,p4q,p5q,p6q]
    refine wpAnyH_ready (rs:=[7,9]) (by kernel_rfl) (by simp) ?_
    refine (AllReadyH.cons rfl (fun KK hK=>?_) (AllReadyH.cons rfl (fun KK hK=>?_) AllReadyH.nil))<;>rw [if_pos (by rfl)]
    ·go_simp
     go_at_call 110
     refine (qEs (i:=⟨op,d,n,b,y⟩) HT r X6 h8 hb).mono ?_;rintro e X7 ⟨rfl,bp⟩;have b8:=ap.trans (bp.mono ap.size);have ej:Hid (BxT X7 c 0 ⟨0,0,0,0⟩):=BxT.below cm.out bp au;have cd:c<X7.heap.size:=Nat.lt_of_lt_of_le au bp.size;refine hK.out _ _ (P.out _ b8) (fun hHeld=>?_);clear hK KK
     try simp only [Act.put,p1q,p2q,p3q,p4q,p5q,p6q]
     refine wpAnyH_ready (rs:=[9]) (by kernel_rfl) (by simp) ?_
     refine (AllReadyH.cons rfl (fun KK hK=>?_) AllReadyH.nil)<;>rw [if_pos (by rfl)]
     ·go_simp;obtain ⟨X8,a,T,Z,bs,ad,eq,dq⟩:∃ Y g,Hid (Y=X7.alloc (Obj.cells #[I4 0,U8 0,U8 0,I4 0] 153))/\Hid (X7.heap.size=g)/\Bw X7 Y/\wc.heap.size<=g/\Hid (BxT Y g 0 ⟨0,0,0,0⟩)/\g<Y.heap.size:=⟨_,_,rfl,rfl,(Below.refl _ _).alloc (Nat.le_refl _) _,b8.size,⟨⟨by go_cell,by go_cell,by go_cell,by go_cell⟩,by go_simp,by go_simp,by go_simp,by go_simp⟩,by simp⟩
      have J:c≠a:=by have:=Z.out;omega
      have de:Hid (BxT X8 c 0 ⟨0,0,0,0⟩):=BxT.below ej.out bs cd;have dp:c<X8.heap.size:=Nat.lt_of_lt_of_le cd bs.size;rw [<- T.out,Z.out];clear T Z;have cu:=b8.trans (bs.mono b8.size);refine hK.out _ _ (P.out _ cu) (fun hHeld=>?_);clear hK KK
      try simp only [Act.put,p1q,p2q,p3q,p4q,p5q,p6q]
      obtain ⟨c0,c1,c2,c3,f0,f1,f2,f3⟩:=BxT.open de.out;refine qAr 10 (by kernel_rfl) rfl (by rfl) (fun KK hK=>?_);go_simp;clear c0 c1 c2 c3 f0 f1 f2 f3;obtain ⟨U,HU,aa,ag,ac,ab⟩:∃ U,Hid (U=(((X8.setCell ⟨c,0,none⟩ (I4 B)).setCell ⟨c,1,none⟩ (U8 A)).setCell ⟨c,2,none⟩ (U8 F)).setCell ⟨c,3,none⟩ (I4 D))/\Bw wc U/\Hid (BxT U c 0 ⟨B,A,F,D⟩)/\Hid (BxT U a 0 ⟨0,0,0,0⟩)/\(c<U.heap.size/\a<U.heap.size):=⟨_,rfl,qAz (t:=⟨B,A,F,D⟩) (off:=0) cu ae,de.out.set ⟨B,A,F,D⟩,BxT.far (u:=⟨B,A,F,D⟩) (o:=0) eq.out J.symm,qIt (qAd c (tyC ⟨B,A,F,D⟩) X8 0).size dp dq⟩;rw [<- HU.out];clear HU;refine hK.out _ _ (P.out _ aa) (fun hHeld=>?_);clear hK KK
      try simp only [Act.put,p1q,p2q,p3q,p4q,p5q,p6q]
      obtain ⟨c0,c1,c2,c3,f0,f1,f2,f3⟩:=BxT.open ac.out;refine qAr 11 (by kernel_rfl) rfl (by rfl) (fun KK hK=>?_);go_simp;clear c0 c1 c2 c3 f0 f1 f2 f3;obtain ⟨V,G,a9,ah,af,a7⟩:∃ V,Hid (V=(((U.setCell ⟨a,0,none⟩ (I4 I)).setCell ⟨a,1,none⟩ (U8 M)).setCell ⟨a,2,none⟩ (U8 L)).setCell ⟨a,3,none⟩ (I4 O))/\Bw wc V/\Hid (BxT V c 0 ⟨B,A,F,D⟩)/\Hid (BxT V a 0 ⟨I,M,L,O⟩)/\(c<V.heap.size/\a<V.heap.size):=⟨_,rfl,qAz (t:=⟨I,M,L,O⟩) (off:=0) aa ad,BxT.far (u:=⟨I,M,L,O⟩) (o:=0) ag.out J,ac.out.set ⟨I,M,L,O⟩,qIt (qAd a (tyC ⟨I,M,L,O⟩) U 0).size ab.1 ab.2⟩;rw [<- G.out];clear G;refine hK.out _ _ (P.out _ a9) (fun hHeld=>?_);clear hK KK
      try simp only [Act.put,p1q,p2q,p3q,p4q,p5q,p6q]
      refine wpAnyH_done (by kernel_rfl) ?_ _;go_wp2
      go_meet
      case rel=>exact ⟨c,a,rfl,rfl,ah.out.1,af.out.1,a9,a7.1,a7.2⟩
    ·go_simp;obtain ⟨X9,a,T,Z,bt,ad,en,bz⟩:∃ Y g,Hid (Y=X6.alloc (Obj.cells #[I4 0,U8 0,U8 0,I4 0] 153))/\Hid (X6.heap.size=g)/\Bw X6 Y/\wc.heap.size<=g/\Hid (BxT Y g 0 ⟨0,0,0,0⟩)/\g<Y.heap.size:=⟨_,_,rfl,rfl,(Below.refl _ _).alloc (Nat.le_refl _) _,ap.size,⟨⟨by go_cell,by go_cell,by go_cell,by go_cell⟩,by go_simp,by go_simp,by go_simp,by go_simp⟩,by simp⟩
     have J:c≠a:=by have:=Z.out;omega
     have es:Hid (BxT X9 c 0 ⟨0,0,0,0⟩):=BxT.below cm.out bt au;have bw:c<X9.heap.size:=Nat.lt_of_lt_of_le au bt.size;rw [<- T.out,Z.out];clear T Z;have bq:=ap.trans (bt.mono ap.size);refine hK.out _ _ (P.out _ bq) (fun hHeld=>?_);clear hK KK
     try simp only [Act.put,p1q,p2q,p3q,p4q,p5q,p6q]
     refine wpAnyH_ready (rs:=[7]) (by kernel_rfl) (by simp) ?_
     refine (AllReadyH.cons rfl (fun KK hK=>?_) AllReadyH.nil)<;>rw [if_pos (by rfl)]
     ·go_simp
      go_at_call 110
      refine (qEs (i:=⟨op,d,n,b,y⟩) HT r X9 h8 hb).mono ?_;rintro e b4 ⟨rfl,an⟩;have cj:=bq.trans (an.mono bq.size);have ce:Hid (BxT b4 c 0 ⟨0,0,0,0⟩):=BxT.below es.out an bw;have ct:c<b4.heap.size:=Nat.lt_of_lt_of_le bw an.size;have dh:Hid (BxT b4 a 0 ⟨0,0,0,0⟩):=BxT.below en.out an bz;have cq:a<b4.heap.size:=Nat.lt_of_lt_of_le bz an.size;refine hK.out _ _ (P.out _ cj) (fun hHeld=>?_);clear hK KK
      try simp only [Act.put,p1q,p2q,p3q,p4q,p5q,p6q]
      obtain ⟨c0,c1,c2,c3,f0,f1,f2,f3⟩:=BxT.open ce.out;refine qAr 10 (by kernel_rfl) rfl (by rfl) (fun KK hK=>?_);go_simp;clear c0 c1 c2 c3 f0 f1 f2 f3;obtain ⟨U,HU,aa,ag,ac,ab⟩:∃ U,Hid (U=(((b4.setCell ⟨c,0,none⟩ (I4 B)).setCell ⟨c,1,none⟩ (U8 A)).setCell ⟨c,2,none⟩ (U8 F)).setCell ⟨c,3,none⟩ (I4 D))/\Bw wc U/\Hid (BxT U c 0 ⟨B,A,F,D⟩)/\Hid (BxT U a 0 ⟨0,0,0,0⟩)/\(c<U.heap.size/\a<U.heap.size):=⟨_,rfl,qAz (t:=⟨B,A,F,D⟩) (off:=0) cj ae,ce.out.set ⟨B,A,F,D⟩,BxT.far (u:=⟨B,A,F,D⟩) (o:=0) dh.out J.symm,qIt (qAd c (tyC ⟨B,A,F,D⟩) b4 0).size ct cq⟩;rw [<- HU.out];clear HU;refine hK.out _ _ (P.out _ aa) (fun hHeld=>?_);clear hK KK
      try simp only [Act.put,p1q,p2q,p3q,p4q,p5q,p6q]
      obtain ⟨c0,c1,c2,c3,f0,f1,f2,f3⟩:=BxT.open ac.out;refine qAr 11 (by kernel_rfl) rfl (by rfl) (fun KK hK=>?_);go_simp;clear c0 c1 c2 c3 f0 f1 f2 f3;obtain ⟨V,G,a9,ah,af,a7⟩:∃ V,Hid (V=(((U.setCell ⟨a,0,none⟩ (I4 I)).setCell ⟨a,1,none⟩ (U8 M)).setCell ⟨a,2,none⟩ (U8 L)).setCell ⟨a,3,none⟩ (I4 O))/\Bw wc V/\Hid (BxT V c 0 ⟨B,A,F,D⟩)/\Hid (BxT V a 0 ⟨I,M,L,O⟩)/\(c<V.heap.size/\a<V.heap.size):=⟨_,rfl,qAz (t:=⟨I,M,L,O⟩) (off:=0) aa ad,BxT.far (u:=⟨I,M,L,O⟩) (o:=0) ag.out J,ac.out.set ⟨I,M,L,O⟩,qIt (qAd a (tyC ⟨I,M,L,O⟩) U 0).size ab.1 ab.2⟩;rw [<- G.out];clear G;refine hK.out _ _ (P.out _ a9) (fun hHeld=>?_);clear hK KK
      try simp only [Act.put,p1q,p2q,p3q,p4q,p5q,p6q]
      refine wpAnyH_done (by kernel_rfl) ?_ _;go_wp2
      go_meet
      case rel=>exact ⟨c,a,rfl,rfl,ah.out.1,af.out.1,a9,a7.1,a7.2⟩
   ·go_simp;obtain ⟨bn,a,T,Z,dm,ad,c8,am⟩:∃ Y g,Hid (Y=X.alloc (Obj.cells #[I4 0,U8 0,U8 0,I4 0] 153))/\Hid (X.heap.size=g)/\Bw X Y/\wc.heap.size<=g/\Hid (BxT Y g 0 ⟨0,0,0,0⟩)/\g<Y.heap.size:=⟨_,_,rfl,rfl,(Below.refl _ _).alloc (Nat.le_refl _) _,aq.size,⟨⟨by go_cell,by go_cell,by go_cell,by go_cell⟩,by go_simp,by go_simp,by go_simp,by go_simp⟩,by simp⟩;rw [<- T.out,Z.out];clear T Z;have aj:=aq.trans (dm.mono aq.size);refine hK.out _ _ (P.out _ aj) (fun hHeld=>?_);clear hK KK
    try simp only [Act.put,p1q,p2q,p3q,p4q,p5q,p6q]
    refine wpAnyH_ready (rs:=[7,8]) (by kernel_rfl) (by simp) ?_
    refine (AllReadyH.cons rfl (fun KK hK=>?_) (AllReadyH.cons rfl (fun KK hK=>?_) AllReadyH.nil))<;>rw [if_pos (by rfl)]
    ·go_simp
     go_at_call 110
     refine (qEs (i:=⟨op,d,n,b,y⟩) HT r bn h8 hb).mono ?_;rintro e ay ⟨rfl,bf⟩;have av:=aj.trans (bf.mono aj.size);have di:Hid (BxT ay a 0 ⟨0,0,0,0⟩):=BxT.below c8.out bf am;have bo:a<ay.heap.size:=Nat.lt_of_lt_of_le am bf.size;refine hK.out _ _ (P.out _ av) (fun hHeld=>?_);clear hK KK
     try simp only [Act.put,p1q,p2q,p3q,p4q,p5q,p6q]
     refine wpAnyH_ready (rs:=[8]) (by kernel_rfl) (by simp) ?_
     refine (AllReadyH.cons rfl (fun KK hK=>?_) AllReadyH.nil)<;>rw [if_pos (by rfl)]
     ·go_simp;obtain ⟨ci,c,T,Z,bb,ae,cg,d1⟩:∃ Y g,Hid (Y=ay.alloc (Obj.cells #[I4 0,U8 0,U8 0,I4 0] 153))/\Hid (ay.heap.size=g)/\Bw ay Y/\wc.heap.size<=g/\Hid (BxT Y g 0 ⟨0,0,0,0⟩)/\g<Y.heap.size:=⟨_,_,rfl,rfl,(Below.refl _ _).alloc (Nat.le_refl _) _,av.size,⟨⟨by go_cell,by go_cell,by go_cell,by go_cell⟩,by go_simp,by go_simp,by go_simp,by go_simp⟩,by simp⟩
      have al:a≠c:=by have:=Z.out;omega
      have dl:Hid (BxT ci a 0 ⟨0,0,0,0⟩):=BxT.below di.out bb bo;have d2:a<ci.heap.size:=Nat.lt_of_lt_of_le bo bb.size;rw [<- T.out,Z.out];clear T Z;have c9:=av.trans (bb.mono av.size);refine hK.out _ _ (P.out _ c9) (fun hHeld=>?_);clear hK KK
      try simp only [Act.put,p1q,p2q,p3q,p4q,p5q,p6q]
      have J:c≠a:=al.symm;obtain ⟨c0,c1,c2,c3,f0,f1,f2,f3⟩:=BxT.open cg.out;refine qAr 10 (by kernel_rfl) rfl (by rfl) (fun KK hK=>?_);go_simp;clear c0 c1 c2 c3 f0 f1 f2 f3;obtain ⟨U,HU,aa,ag,ac,ab⟩:∃ U,Hid (U=(((ci.setCell ⟨c,0,none⟩ (I4 B)).setCell ⟨c,1,none⟩ (U8 A)).setCell ⟨c,2,none⟩ (U8 F)).setCell ⟨c,3,none⟩ (I4 D))/\Bw wc U/\Hid (BxT U c 0 ⟨B,A,F,D⟩)/\Hid (BxT U a 0 ⟨0,0,0,0⟩)/\(c<U.heap.size/\a<U.heap.size):=⟨_,rfl,qAz (t:=⟨B,A,F,D⟩) (off:=0) c9 ae,cg.out.set ⟨B,A,F,D⟩,BxT.far (u:=⟨B,A,F,D⟩) (o:=0) dl.out J.symm,qIt (qAd c (tyC ⟨B,A,F,D⟩) ci 0).size d1 d2⟩;rw [<- HU.out];clear HU;refine hK.out _ _ (P.out _ aa) (fun hHeld=>?_);clear hK KK
      try simp only [Act.put,p1q,p2q,p3q,p4q,p5q,p6q]
      obtain ⟨c0,c1,c2,c3,f0,f1,f2,f3⟩:=BxT.open ac.out;refine qAr 11 (by kernel_rfl) rfl (by rfl) (fun KK hK=>?_);go_simp;clear c0 c1 c2 c3 f0 f1 f2 f3;obtain ⟨V,G,a9,ah,af,a7⟩:∃ V,Hid (V=(((U.setCell ⟨a,0,none⟩ (I4 I)).setCell ⟨a,1,none⟩ (U8 M)).setCell ⟨a,2,none⟩ (U8 L)).setCell ⟨a,3,none⟩ (I4 O))/\Bw wc V/\Hid (BxT V c 0 ⟨B,A,F,D⟩)/\Hid (BxT V a 0 ⟨I,M,L,O⟩)/\(c<V.heap.size/\a<V.heap.size):=⟨_,rfl,qAz (t:=⟨I,M,L,O⟩) (off:=0) aa ad,BxT.far (u:=⟨I,M,L,O⟩) (o:=0) ag.out J,ac.out.set ⟨I,M,L,O⟩,qIt (qAd a (tyC ⟨I,M,L,O⟩) U 0).size ab.1 ab.2⟩;rw [<- G.out];clear G;refine hK.out _ _ (P.out _ a9) (fun hHeld=>?_);clear hK KK
      try simp only [Act.put,p1q,p2q,p3q,p4q,p5q,p6q]
      refine wpAnyH_done (by kernel_rfl) ?_ _;go_wp2
      go_meet
      case rel=>exact ⟨c,a,rfl,rfl,ah.out.1,af.out.1,a9,a7.1,a7.2⟩
    ·go_simp;obtain ⟨cv,c,T,Z,bc,ae,dj,bg⟩:∃ Y g,Hid (Y=bn.alloc (Obj.cells #[I4 0,U8 0,U8 0,I4 0] 153))/\Hid (bn.heap.size=g)/\Bw bn Y/\wc.heap.size<=g/\Hid (BxT Y g 0 ⟨0,0,0,0⟩)/\g<Y.heap.size:=⟨_,_,rfl,rfl,(Below.refl _ _).alloc (Nat.le_refl _) _,aj.size,⟨⟨by go_cell,by go_cell,by go_cell,by go_cell⟩,by go_simp,by go_simp,by go_simp,by go_simp⟩,by simp⟩
     have al:a≠c:=by have:=Z.out;omega
     have du:Hid (BxT cv a 0 ⟨0,0,0,0⟩):=BxT.below c8.out bc am;have bl:a<cv.heap.size:=Nat.lt_of_lt_of_le am bc.size;rw [<- T.out,Z.out];clear T Z;have bd:=aj.trans (bc.mono aj.size);refine hK.out _ _ (P.out _ bd) (fun hHeld=>?_);clear hK KK
     try simp only [Act.put,p1q,p2q,p3q,p4q,p5q,p6q]
     refine wpAnyH_ready (rs:=[7]) (by kernel_rfl) (by simp) ?_
     refine (AllReadyH.cons rfl (fun KK hK=>?_) AllReadyH.nil)<;>rw [if_pos (by rfl)]
     ·go_simp
      go_at_call 110
      refine (qEs (i:=⟨op,d,n,b,y⟩) HT r cv h8 hb).mono ?_;rintro e az ⟨rfl,ao⟩;have ch:=bd.trans (ao.mono bd.size);have dg:Hid (BxT az a 0 ⟨0,0,0,0⟩):=BxT.below du.out ao bl;have df:a<az.heap.size:=Nat.lt_of_lt_of_le bl ao.size;have c6:Hid (BxT az c 0 ⟨0,0,0,0⟩):=BxT.below dj.out ao bg;have cx:c<az.heap.size:=Nat.lt_of_lt_of_le bg ao.size;refine hK.out _ _ (P.out _ ch) (fun hHeld=>?_);clear hK KK
      try simp only [Act.put,p1q,p2q,p3q,p4q,p5q,p6q]
      have J:c≠a:=al.symm;obtain ⟨c0,c1,c2,c3,f0,f1,f2,f3⟩:=BxT.open c6.out;refine qAr 10 (by kernel_rfl) rfl (by rfl) (fun KK hK=>?_);go_simp;clear c0 c1 c2 c3 f0 f1 f2 f3;obtain ⟨U,HU,aa,ag,ac,ab⟩:∃ U,Hid (U=(((az.setCell ⟨c,0,none⟩ (I4 B)).setCell ⟨c,1,none⟩ (U8 A)).setCell ⟨c,2,none⟩ (U8 F)).setCell ⟨c,3,none⟩ (I4 D))/\Bw wc U/\Hid (BxT U c 0 ⟨B,A,F,D⟩)/\Hid (BxT U a 0 ⟨0,0,0,0⟩)/\(c<U.heap.size/\a<U.heap.size):=⟨_,rfl,qAz (t:=⟨B,A,F,D⟩) (off:=0) ch ae,c6.out.set ⟨B,A,F,D⟩,BxT.far (u:=⟨B,A,F,D⟩) (o:=0) dg.out J.symm,qIt (qAd c (tyC ⟨B,A,F,D⟩) az 0).size cx df⟩;rw [<- HU.out];clear HU;refine hK.out _ _ (P.out _ aa) (fun hHeld=>?_);clear hK KK
      try simp only [Act.put,p1q,p2q,p3q,p4q,p5q,p6q]
      obtain ⟨c0,c1,c2,c3,f0,f1,f2,f3⟩:=BxT.open ac.out;refine qAr 11 (by kernel_rfl) rfl (by rfl) (fun KK hK=>?_);go_simp;clear c0 c1 c2 c3 f0 f1 f2 f3;obtain ⟨V,G,a9,ah,af,a7⟩:∃ V,Hid (V=(((U.setCell ⟨a,0,none⟩ (I4 I)).setCell ⟨a,1,none⟩ (U8 M)).setCell ⟨a,2,none⟩ (U8 L)).setCell ⟨a,3,none⟩ (I4 O))/\Bw wc V/\Hid (BxT V c 0 ⟨B,A,F,D⟩)/\Hid (BxT V a 0 ⟨I,M,L,O⟩)/\(c<V.heap.size/\a<V.heap.size):=⟨_,rfl,qAz (t:=⟨I,M,L,O⟩) (off:=0) aa ad,BxT.far (u:=⟨I,M,L,O⟩) (o:=0) ag.out J,ac.out.set ⟨I,M,L,O⟩,qIt (qAd a (tyC ⟨I,M,L,O⟩) U 0).size ab.1 ab.2⟩;rw [<- G.out];clear G;refine hK.out _ _ (P.out _ a9) (fun hHeld=>?_);clear hK KK
      try simp only [Act.put,p1q,p2q,p3q,p4q,p5q,p6q]
      refine wpAnyH_done (by kernel_rfl) ?_ _;go_wp2
      go_meet
      case rel=>exact ⟨c,a,rfl,rfl,ah.out.1,af.out.1,a9,a7.1,a7.2⟩
 case first =>
  refine wp_region_held_drew (S:=fun z=>z.cell? ⟨qb,1,none⟩=some (.slice (some ⟨cb,co,none⟩) xs.length ccap)/\z.cell? ⟨qb,3,none⟩=some (.slice (some ⟨kb,0,none⟩) xs.length xs.length)/\z.cell? ⟨cb,co+p*5,none⟩=some (I4 op)/\z.cell? ⟨cb,co+p*5+1,none⟩=some (I4 d)/\z.cell? ⟨cb,co+p*5+2,none⟩=some (I4 n)/\z.cell? ⟨cb,co+p*5+3,none⟩=some (I4 b)/\z.cell? ⟨cb,co+p*5+4,none⟩=some (I4 y)/\StAt z kb (p*33) r s) (by kernel_rfl) (HP.out _ (Below.refl _ _).drew) (fun hHeld=>?_);refine qBb [0,1,2,3,4,5,6,7,8,9,10,11,12] ?_
  repeat (refine tkO (v:=?_) rfl ?_ ?_;rotate_left;(intro wy hSw;(try dsimp only at hSw);go_simp;(first|done|with_reducible rfl));try simp only [Act.put,p1q,p2q,p3q,p4q,p5q,p6q])
  refine qAs ?_;refine wpAnyH_take (i:=13) rfl (by kernel_rfl) (by kernel_rfl) (by kernel_rfl) (fun _ _ _ h=>h) (yieldsIf_load_mid (by rfl) _ _ rfl _ _ rfl (stC r s) _ (fun w h=>h.2.2.2.2.2.2.2) Tryz.underlying156 rfl (qHf h8)) (by assumption) ?_
  try simp only [Act.put,p1q,p2q,p3q,p4q,p5q,p6q]
  refine qOc 14 15 (by kernel_rfl) rfl rfl (by rfl) (by rfl) (fun KK hK=>?_) (fun KK hK=>?_)
  ·go_simp;refine hK.out _ _ (HP.out _ ((Below.refl _ _).alloc (Nat.le_refl _) _).drew) (fun hHeld=>?_);clear hK KK
   try simp only [Act.put,p1q,p2q,p3q,p4q,p5q,p6q]
   refine qAr 15 (by kernel_rfl) rfl (by rfl) (fun KK hK=>?_);go_simp;obtain ⟨Y,T,R,bk,aw,dd⟩:∃ Y,Hid (Y=(w.alloc (Obj.cells #[I4 0,I4 0,I4 0,I4 0,I4 0] 43)).alloc (Obj.cells #[.bool false,I4 0,U8 0,U8 0,I4 0,I4 0,U8 0,U8 0,I4 0,I4 0,U8 0,U8 0,I4 0,I4 0,U8 0,U8 0,I4 0,I4 0,U8 0,U8 0,I4 0,I4 0,U8 0,U8 0,I4 0,I4 0,U8 0,U8 0,I4 0,I4 0,U8 0,U8 0,I4 0] 156))/\Hid (Hp Y w.heap.size 43 (inC ⟨0,0,0,0,0⟩))/\Hid (Hp Y (w.heap.size+1) 156 zeroC)/\Bw w Y/\w.heap.size+2<=Y.heap.size:=⟨_,rfl,(Hp.new w (inC ⟨0,0,0,0,0⟩) _).alloc _,qAa (by have:=Hp.new (w.alloc (Obj.cells #[I4 0,I4 0,I4 0,I4 0,I4 0] 43)) zeroC 156;simpa [zeroC] using this),by go_grown,by simp⟩;rw [<- T.out];clear T;refine hK.out _ _ (HP.out _ aw.drew) (fun hHeld=>?_);clear hK KK
   try simp only [Act.put,p1q,p2q,p3q,p4q,p5q,p6q]
   have n0:Y.cell? ⟨w.heap.size,0,none⟩=some (I4 0):=R.out.cell rfl;have f0:=R.out.frozen 0;have n1:Y.cell? ⟨w.heap.size,1,none⟩=some (I4 0):=R.out.cell rfl;have f1:=R.out.frozen 1;have n2:Y.cell? ⟨w.heap.size,2,none⟩=some (I4 0):=R.out.cell rfl;have f2:=R.out.frozen 2;have n3:Y.cell? ⟨w.heap.size,3,none⟩=some (I4 0):=R.out.cell rfl;have f3:=R.out.frozen 3;have n4:Y.cell? ⟨w.heap.size,4,none⟩=some (I4 0):=R.out.cell rfl;have f4:=R.out.frozen 4;refine qAr 16 (by kernel_rfl) rfl (by rfl) (fun KK hK=>?_);go_simp;clear n0 n1 n2 n3 n4 f0 f1 f2 f3 f4;obtain ⟨V,G,cy,bm,bh,a7⟩:∃ V,Hid (V=(((((Y.setCell ⟨w.heap.size,0,none⟩ (I4 op)).setCell ⟨w.heap.size,1,none⟩ (I4 d)).setCell ⟨w.heap.size,2,none⟩ (I4 n)).setCell ⟨w.heap.size,3,none⟩ (I4 b)).setCell ⟨w.heap.size,4,none⟩ (I4 y)))/\Hid (Hp V w.heap.size 43 (inC ⟨op,d,n,b,y⟩))/\Hid (Hp V (w.heap.size+1) 156 zeroC)/\Bw w V/\w.heap.size+2<=V.heap.size:=⟨_,rfl,R.out.sets (inC ⟨op,d,n,b,y⟩) 0,bk.out.fars (by omega) (inC ⟨op,d,n,b,y⟩) 0,aw.trans (qAi (qAd _ (inC ⟨op,d,n,b,y⟩) Y 0) (by omega) aw.size),Nat.le_trans dd (qAd _ (inC ⟨op,d,n,b,y⟩) Y 0).size⟩;rw [<- G.out];clear G R bk;refine hK.out _ _ (HP.out _ bh.drew) (fun hHeld=>?_);clear hK KK
   try simp only [Act.put,p1q,p2q,p3q,p4q,p5q,p6q]
   refine qAr 17 (by kernel_rfl) rfl (by rfl) (fun KK hK=>?_)
   have d8:V.drew.there (w.heap.size+1) 0 (stC r s).toArray.size:=by rw [qGn r h8];exact bm.out.drew.there (by rw [qCa];omega)
   refine wp_store_mid _ _ _ rfl _ _ (List.toArray _) rfl rfl d8 (qLi h8) (qIw r s) ?_;have bj:Bw w (V.drew.setCells (w.heap.size+1) 0 (stC r s)):=(bh.drew).trans (qAi (qAd _ _ _ _) (by omega) (show w.heap.size<=V.heap.size by omega));refine hK.out _ _ (HP.out _ bj) (fun hHeld=>?_);clear hK KK
   try simp only [Act.put,p1q,p2q,p3q,p4q,p5q,p6q]
   refine wpAnyH_done (by kernel_rfl) ?_ _;go_wp2
   go_meet
   case rel=>exact ⟨w.heap.size,(w.heap.size+1),rfl,rfl,cy.out.drew.fars (by omega) _ _,bm.out.drew.box qCa h8,bj,by omega,by omega,by omega⟩
  ·go_simp;refine hK.out _ _ (HP.out _ ((Below.refl _ _).alloc (Nat.le_refl _) _).drew) (fun hHeld=>?_);clear hK KK
   try simp only [Act.put,p1q,p2q,p3q,p4q,p5q,p6q]
   refine qAr 14 (by kernel_rfl) rfl (by rfl) (fun KK hK=>?_);go_simp;obtain ⟨Y,T,R,bk,aw,dd⟩:∃ Y,Hid (Y=(w.alloc (Obj.cells #[.bool false,I4 0,U8 0,U8 0,I4 0,I4 0,U8 0,U8 0,I4 0,I4 0,U8 0,U8 0,I4 0,I4 0,U8 0,U8 0,I4 0,I4 0,U8 0,U8 0,I4 0,I4 0,U8 0,U8 0,I4 0,I4 0,U8 0,U8 0,I4 0,I4 0,U8 0,U8 0,I4 0] 156)).alloc (Obj.cells #[I4 0,I4 0,I4 0,I4 0,I4 0] 43))/\Hid (Hp Y (w.heap.size+1) 43 (inC ⟨0,0,0,0,0⟩))/\Hid (Hp Y w.heap.size 156 zeroC)/\Bw w Y/\w.heap.size+2<=Y.heap.size:=⟨_,rfl,qAa (by have:=Hp.new (w.alloc (Obj.cells #[.bool false,I4 0,U8 0,U8 0,I4 0,I4 0,U8 0,U8 0,I4 0,I4 0,U8 0,U8 0,I4 0,I4 0,U8 0,U8 0,I4 0,I4 0,U8 0,U8 0,I4 0,I4 0,U8 0,U8 0,I4 0,I4 0,U8 0,U8 0,I4 0,I4 0,U8 0,U8 0,I4 0] 156)) (inC ⟨0,0,0,0,0⟩) 43;simpa [inC] using this),(Hp.new w zeroC _).alloc _,by go_grown,by simp⟩;rw [<- T.out];clear T;refine hK.out _ _ (HP.out _ aw.drew) (fun hHeld=>?_);clear hK KK
   try simp only [Act.put,p1q,p2q,p3q,p4q,p5q,p6q]
   have n0:Y.cell? ⟨(w.heap.size+1),0,none⟩=some (I4 0):=R.out.cell rfl;have f0:=R.out.frozen 0;have n1:Y.cell? ⟨(w.heap.size+1),1,none⟩=some (I4 0):=R.out.cell rfl;have f1:=R.out.frozen 1;have n2:Y.cell? ⟨(w.heap.size+1),2,none⟩=some (I4 0):=R.out.cell rfl;have f2:=R.out.frozen 2;have n3:Y.cell? ⟨(w.heap.size+1),3,none⟩=some (I4 0):=R.out.cell rfl;have f3:=R.out.frozen 3;have n4:Y.cell? ⟨(w.heap.size+1),4,none⟩=some (I4 0):=R.out.cell rfl;have f4:=R.out.frozen 4;refine qAr 16 (by kernel_rfl) rfl (by rfl) (fun KK hK=>?_);go_simp;clear n0 n1 n2 n3 n4 f0 f1 f2 f3 f4;obtain ⟨V,G,cy,bm,bh,a7⟩:∃ V,Hid (V=(((((Y.setCell ⟨(w.heap.size+1),0,none⟩ (I4 op)).setCell ⟨(w.heap.size+1),1,none⟩ (I4 d)).setCell ⟨(w.heap.size+1),2,none⟩ (I4 n)).setCell ⟨(w.heap.size+1),3,none⟩ (I4 b)).setCell ⟨(w.heap.size+1),4,none⟩ (I4 y)))/\Hid (Hp V (w.heap.size+1) 43 (inC ⟨op,d,n,b,y⟩))/\Hid (Hp V w.heap.size 156 zeroC)/\Bw w V/\w.heap.size+2<=V.heap.size:=⟨_,rfl,R.out.sets (inC ⟨op,d,n,b,y⟩) 0,bk.out.fars (by omega) (inC ⟨op,d,n,b,y⟩) 0,aw.trans (qAi (qAd _ (inC ⟨op,d,n,b,y⟩) Y 0) (by omega) aw.size),Nat.le_trans dd (qAd _ (inC ⟨op,d,n,b,y⟩) Y 0).size⟩;rw [<- G.out];clear G R bk;refine hK.out _ _ (HP.out _ bh.drew) (fun hHeld=>?_);clear hK KK
   try simp only [Act.put,p1q,p2q,p3q,p4q,p5q,p6q]
   refine qAr 17 (by kernel_rfl) rfl (by rfl) (fun KK hK=>?_)
   have d8:V.drew.there w.heap.size 0 (stC r s).toArray.size:=by rw [qGn r h8];exact bm.out.drew.there (by rw [qCa];omega)
   refine wp_store_mid _ _ _ rfl _ _ (List.toArray _) rfl rfl d8 (qLi h8) (qIw r s) ?_;have bj:Bw w (V.drew.setCells w.heap.size 0 (stC r s)):=(bh.drew).trans (qAi (qAd _ _ _ _) (by omega) (show w.heap.size<=V.heap.size by omega));refine hK.out _ _ (HP.out _ bj) (fun hHeld=>?_);clear hK KK
   try simp only [Act.put,p1q,p2q,p3q,p4q,p5q,p6q]
   refine wpAnyH_done (by kernel_rfl) ?_ _;go_wp2
   go_meet
   case rel=>exact ⟨(w.heap.size+1),w.heap.size,rfl,rfl,cy.out.drew.fars (by omega) _ _,bm.out.drew.box qCa h8,bj,by omega,by omega,by omega⟩
def qHx (s:St) (i:In):St:=if i.wr.2=true then s.set i.wr.1.toNat (qKy (s.getD i.wr.1.toNat Ty.nil)) else s
def qKb (xs:List In) (p M:Nat):List In:=(xs.drop p).take M
def qHa (xs:List In) (p:Nat) (s:St) (l:Lp):St:=if l.h=p then (qKb xs p (l.t+1-p).toNat).foldl qHx s else s
def qNi (xs:List In) (p:Nat) (ls:List Lp) (s:St):St:=ls.foldl (qHa xs p) s
theorem yLg (nm:Nat)(t:Ty):Made nm (qKy t):=by
 unfold qKy
 split
 ·exact qRr nm
 ·exact qLy nm
theorem yLd {nm:Nat}{s:St}(h:Made8 nm s)(i:In):Made8 nm (qHx s i):=by
 unfold qHx
 split
 ·exact h.set _ (yLg nm _)
 ·exact h
theorem yBl {nm:Nat}(l:List In):∀ {s:St},Made8 nm s->Made8 nm (l.foldl qHx s):=by
 induction l with
 | nil=>intro s h;exact h
 | cons i l ih=>intro s h;exact ih (yLd h i)
theorem yAy {nm:Nat}{xs:List In}{p:Nat}{s:St}(h:Made8 nm s)(l:Lp):Made8 nm (qHa xs p s l):=by
 unfold qHa
 split
 ·exact yBl _ h
 ·exact h
theorem qRn {nm:Nat}{xs:List In}{p:Nat}(ls:List Lp):∀ {s:St},Made8 nm s->Made8 nm (qNi xs p ls s):=by
 unfold qNi
 induction ls with
 | nil=>intro s h;exact h
 | cons i l ih=>intro s h;exact ih (yAy h i)
theorem qYn {α β:Type}(f:β->α->β)(l:List α)(b:β){k:Nat}(a:k<l.length)(d:α):(l.take (k+1)).foldl f b=f ((l.take k).foldl f b) (l.getD k d):=by
 rw [List.take_add_one,List.foldl_append]
 simp [List.getElem?_eq_getElem a,List.getD]
theorem ySk {α β:Type}(f:β->α->β)(l:List α)(b:β):(l.take l.length).foldl f b=l.foldl f b:=by rw [List.take_length]
theorem yZu {xs:List In}{p M:Nat}(h:p+M<=xs.length):(qKb xs p M).length=M:=by simp [qKb];omega
theorem xBd {xs:List In}{p M m:Nat}(hm:m<M):(qKb xs p M).getD m In.nil=nth xs (p+m):=by
 simp [qKb,List.getD,List.getElem?_take,hm]
theorem yFk {k lo hi m k' a b c:Int}(h:Hid (qKy ⟨k,lo,hi,m⟩=⟨k',a,b,c⟩))(w:World):Cl 109 #[.agg #[I4 k,U8 lo,U8 hi,I4 m]] w fun e d=>e=.returned (.agg #[I4 k',U8 a,U8 b,I4 c])/\Bw w d:=by
 have:=yAn ⟨k,lo,hi,m⟩ w;rw [h.out] at this;exact this
theorem Inq.loop {w0 w:World}{y kb nm cb co ccap:Nat}{g:Option Addr}{c:Nat}{xs:List In}{ls:List Lp}{K:Kn}(h:Inq w0 w y kb nm (.slice g ls.length c) cb co ccap xs ls K){k:Nat}(f:k<ls.length):∃ lb lo,g=some ⟨lb,lo,none⟩/\lb<w0.heap.size/\AtL w lb (lo+k*3) (ls.getD k Lp.nil)/\ls.length<=c/\c<=9223372036854775807:=by
 obtain ⟨a,cap,r,s,u,z,o⟩:=h.lo;injection r with l A n;subst l n;obtain ⟨b,off,he,d,i⟩:=o (fun e=>by rw [e] at f;simp at f);exact ⟨b,off,he,d,(i k f).below h.b0 d,s,by unfold maxLen at u;omega⟩
def xBv (xs:List In) (ls:List Lp):Prop:=∀ l∈ls,0<=l.h/\l.h<=l.t/\l.t<xs.length
theorem yKa (w0 w:World)(y kb nm cb co ccap p:Nat)(la:Option Addr)(A:Nat)(xs:List In)(ls:List Lp)(K:Kn)(h:Inq w0 w y kb nm (.slice la ls.length A) cb co ccap xs ls K)(hp:p<xs.length)(bn:xs.length<=64)(hr:∀ i∈xs,i.right=true)(hL:xBv xs ls)(r:Bool)(s:St)(HK:Hid (K.getD p kn0=(r,s)))(hs:Made8 nm s) :
  Cl 75 #[.pointer (some ⟨y,0,none⟩),I4 p] w fun e I=>e=.returned (.tuple #[])/\Inq w0 I y kb nm (.slice la ls.length A) cb co ccap xs ls (K.set p (r,qNi xs p ls s)):=by
 have HQ:=qAa h;have HR:=qAa hr;have av:=qAa hL;have HS:=qAa hs;have ay:=qAa hp;have q2:w.cell? ⟨y,2,none⟩=some (.slice la ls.length A):=h.q.cell rfl
 have ba:(p:Int)<64:=by omega
 have a1:p<K.length:=by rw [h.len];exact hp
 have a8:=qAa a1
 have b8:(xs.length:Int)<=64:=by omega
 clear h hr hL hs a1;go_enter Tryz.func75,Tryz.ntmps75;go_wp2;clear q2
 go_loopw [15] (fun i wr=>∃ k:Nat,k<=ls.length/\i=I4 k/\Hid (Inq w0 wr y kb nm (.slice la ls.length A) cb co ccap xs ls (K.set p (r,(ls.take k).foldl (qHa xs p) s)))) (fun i _=>ls.length-(intOf i).toNat)
 case atStart=>exact ⟨0,by omega,rfl,by show Inq _ _ _ _ _ _ _ _ _ _ _ _;simp only [List.take_zero,List.foldl_nil];rw [<- HK.out,yGp];exact HQ.out⟩
 case round =>
  obtain ⟨k,hk,rfl,O⟩:=hrel
  by_cases hlt:k<ls.length
  ·obtain ⟨lb,lo,rfl,bg,ai,bp,bb⟩:=O.out.loop hlt;obtain ⟨R,G,D,HL⟩:∃ a b c,Hid (ls.getD k Lp.nil=⟨a,b,c⟩):=⟨_,_,_,rfl⟩
   have aq:ls.getD k Lp.nil∈ls:=by rw [show ls.getD k Lp.nil=ls[k] by simp [List.getD,List.getElem?_eq_getElem hlt]];exact List.getElem_mem hlt
   have aj:=av.out _ aq;rw [HL.out] at ai aj;obtain ⟨l0,l1,l2⟩:=ai;simp only at l0 l1 l2 aj;obtain ⟨o,a7⟩:∃ o,Hid ((ls.take k).foldl (qHa xs p) s=o):=⟨_,rfl⟩
   have ab:Hid ((ls.take (k+1)).foldl (qHa xs p) s=qHa xs p o ⟨R,G,D⟩):=by show _=_;rw [qYn _ _ _ hlt Lp.nil,HL.out,a7.out]
   rw [a7.out] at O
   have bc:(k:Int)<ls.length:=by omega
   by_cases hh:R=p
   ·obtain ⟨f,a3⟩:∃ f:Nat,Hid (G=f):=⟨G.toNat,by show _=_;omega⟩
    have bf:p<=f/\f<xs.length:=by have:=a3.out;omega
    have N:Hid (qHa xs p o ⟨R,G,D⟩=(qKb xs p (f+1-p)).foldl qHx o):=by
     show _=_
     unfold qHa;rw [if_pos hh,show ((⟨R,G,D⟩:Lp).t+1-(p:Int)).toNat=f+1-p from by show (G+1-(p:Int)).toNat=_;rw [a3.out];omega]
    have bo:Hid (R=p):=hh;rw [a3.out] at l1;rw [hh] at l0
    have ar:Hid (∀ u:St,(K.set p (r,u)).getD p kn0=(r,u)):=fun u=>qKf a8.out
    obtain ⟨ao,ax,hN,bi⟩:=O.out.at ay.out
    have az:IntKind.i64.wrap ((f:Int)+1)=((f+1:Nat):Int):=by rw [IntKind.wrap_i64];omega
    have b5:f+1<=ccap:=by omega
    have b6:p<=f+1:=by omega
    have b7:¬ ccap=p:=by omega
    clear ao;clear hh
    have bl:(f:Int)<64:=by omega
    have aw:Hid (Made8 nm o):=by
     show Made8 nm o
     rw [<- a7.out];exact qRn (xs:=xs) (p:=p) (ls.take k) HS.out
    go_wp2;obtain ⟨Y,F,HY,ad,ak,bk,n0,n1⟩:∃ Y F,Hid (Y=wr.alloc (Obj.cells #[I4 p,I4 f,I4 D] 186))/\Hid (wr.heap.size=F)/\Hid (Inq w0 Y y kb nm (.slice (some ⟨lb,lo,none⟩) ls.length A) cb co ccap xs ls (K.set p (r,o)))/\F<Y.heap.size/\Y.cell? ⟨F,0,none⟩=some (I4 p)/\Y.cell? ⟨F,1,none⟩=some (I4 f) :=
     ⟨_,_,rfl,rfl,O.out.below ((Below.refl _ _).alloc (Nat.le_refl _) _),by simp,by go_cell,by go_cell⟩
    rw [<- HY.out,ad.out];clear HY ad l0 l1 l2;have q1:Y.cell? ⟨y,1,none⟩=some (.slice (some ⟨cb,co,none⟩) xs.length ccap):=ak.out.q.cell rfl;refine wp_region_held_drew (S:=fun I=>I.cell? ⟨y,1,none⟩=some (.slice (some ⟨cb,co,none⟩) xs.length ccap)/\I.cell? ⟨F,0,none⟩=some (I4 p)/\I.cell? ⟨F,1,none⟩=some (I4 f)) (by kernel_rfl) ⟨q1,n0,n1⟩ (fun hHeld=>?_);refine qBb [0,1,2,3,4,5,6,7,8] ?_
    repeat (refine tkO (v:=?_) rfl ?_ ?_;rotate_left;(intro wy hSw;(try dsimp only at hSw);go_simp;(first|done|with_reducible rfl));try simp only [Act.put,p1q,p2q,p3q,p4q,p5q,p6q])
    refine qAs ?_;refine wpAnyH_take (i:=9) (v:=.slice (some ⟨cb,co+p*5,none⟩) (f+1-p) (ccap-p)) rfl (by kernel_rfl) (by kernel_rfl) (by kernel_rfl) (fun _ _ _ h=>h) (Or.inl ⟨by rfl,fun wy hSw=>?_⟩) (by assumption) ?_
    ·go_simp
     exact fun hq=>absurd (hq (by omega)) (by omega)
    try simp only [Act.put,p1q,p2q,p3q,p4q,p5q,p6q]
    refine qBb [10,11] ?_
    repeat (refine tkO (v:=?_) rfl ?_ ?_;rotate_left;(intro wy hSw;(try dsimp only at hSw);go_simp;(first|done|with_reducible rfl));try simp only [Act.put,p1q,p2q,p3q,p4q,p5q,p6q])
    refine qAs ?_;refine wpAnyH_done (by kernel_rfl) ?_ _;go_wp2;clear q1 n0 n1 az b5 b6 b7;obtain ⟨M,HM⟩:∃ M,Hid (f+1-p=M):=⟨_,rfl⟩
    have b1:p+M<=xs.length:=by have:=HM.out;omega
    have ag:Hid ((qKb xs p M).length=M):=yZu b1;rw [HM.out] at N ⊢
    go_loopw [34] (fun i wq=>∃ m:Nat,m<=M/\i=I4 m/\Hid (Inq w0 wq y kb nm (.slice (some ⟨lb,lo,none⟩) ls.length A) cb co ccap xs ls (K.set p (r,((qKb xs p M).take m).foldl qHx o)))) (fun i _=>M-(intOf i).toNat)
    case atStart=>exact ⟨0,by omega,rfl,by show Inq _ _ _ _ _ _ _ _ _ _ _ _;simp only [List.take_zero,List.foldl_nil];exact ak.out.below (Below.refl _ _).drew⟩
    case round =>
     obtain ⟨m,hm,rfl,Q⟩:=hrel
     by_cases hmt:m<M
     ·obtain ⟨af,-,-,-⟩:=Q.out.at (p:=p+m) (by omega);obtain ⟨op,d,a,b,g,U⟩:∃ op d a b g,Hid (nth xs (p+m)=⟨op,d,a,b,g⟩):=⟨_,_,_,_,_,rfl⟩;rw [U.out,show co+(p+m)*5=co+p*5+m*5 by omega] at af;obtain ⟨c0,c1,c2,c3,c4⟩:=af;simp only at c0 c1 c2 c3 c4;obtain ⟨z,a2⟩:∃ z,Hid (((qKb xs p M).take m).foldl qHx o=z):=⟨_,rfl⟩
      have a0:Hid (((qKb xs p M).take (m+1)).foldl qHx o=qHx z ⟨op,d,a,b,g⟩):=by
       show _=_
       rw [qYn _ _ _ (by rw [ag.out];exact hmt) In.nil,xBd hmt,U.out,a2.out]
      rw [a2.out] at Q
      have T:Hid (Made8 nm z):=by
       show Made8 nm z
       rw [<- a2.out];exact yBl _ aw.out
      have bj:(m:Int)<M:=by omega
      have al:In.right ⟨op,d,a,b,g⟩=true:=by
       rw [<- U.out];refine HR.out _ ?_;rw [show nth xs (p+m)=xs[p+m]'(by omega) by simp [nth,List.getD,List.getElem?_eq_getElem (show p+m<xs.length by omega)]];exact List.getElem_mem _
      obtain ⟨wn,ok,P⟩:∃ wn ok,Hid (qDa op d a b g=(wn,ok)):=⟨_,_,rfl⟩;have b9:cb<wr.heap.size:=Nat.lt_of_lt_of_le ax Q.out.b0.size
      cases ok with
      | false =>
       have J:Hid (qHx z ⟨op,d,a,b,g⟩=z):=by show _=_;unfold qHx In.wr;rw [P.out,if_neg (by simp)]
       go_wp2_with (go_at_call 108;go_must (refine (qNa P _).mono ?_);rintro e w1 ⟨rfl,E⟩;go_must (have a5:=qAt E;clear E))
       go_roundw
       case rel=>exact ⟨m+1,by omega,by go_num,by rw [a0.out,J.out];exact Q.out.below a5⟩
       case measure=>simp [intOf];omega
      | true =>
       obtain ⟨n,b2,hn⟩:∃ n:Nat,Hid (wn=n)/\n<8:=by
        have aa:In.wr ⟨op,d,a,b,g⟩=(wn,true):=P.out;have ac:=qMj ⟨op,d,a,b,g⟩ (by rw [aa]) al;rw [aa] at ac
        rcases ac with ⟨h,ho⟩|⟨h,ho⟩
        ·have h2:=qCy al (by simp only at ho ⊢;omega);injection h with h3;simp only at h2 h3;exact ⟨d.toNat,by show _=_;omega,by omega⟩
        ·injection h with h3;exact ⟨0,h3,by omega⟩
       rw [b2.out] at P;obtain ⟨tk,tl,th,tm,HT⟩:∃ k' lo hi m,Hid (z.getD n Ty.nil=⟨k',lo,hi,m⟩):=⟨_,_,_,_,rfl⟩;obtain ⟨V,X,jh,jm,am⟩:∃ k' lo hi m,Hid (qKy ⟨tk,tl,th,tm⟩=⟨k',lo,hi,m⟩):=⟨_,_,_,_,rfl⟩
       have J:Hid (qHx z ⟨op,d,a,b,g⟩=z.set n ⟨V,X,jh,jm⟩):=by show _=_;unfold qHx In.wr;rw [P.out,if_pos rfl,Int.toNat_natCast,HT.out,am.out]
       have bh:(n:Int)<8:=by omega
       go_wp2_with (go_at_call 108;go_must (refine (qNa P _).mono ?_);rintro e w1 ⟨rfl,E⟩;go_must (have a5:=qAt E;have B:=qAa (Q.out.below a5);clear E))
       have L:=B.out.e8
       have a6:p<(K.set p (r,z)).length:=by rw [List.length_set];exact a8.out
       have a4:=ar.out z
       have bm:(p:Int)<xs.length:=by omega
       have q3:w1.cell? ⟨y,3,none⟩=some (.slice (some ⟨kb,0,none⟩) xs.length xs.length):=B.out.q.cell rfl;have ae:=(B.out.k.state L a6 a4).typ T.out.1 hn;rw [HT.out] at ae;obtain ⟨e0,e1,e2,e3⟩:=ae;simp only at e0 e1 e2 e3;have be:=B.out.q.lt;have bd:=B.out.k.lt;refine wp_region_held_drew (S:=fun I=>I.cell? ⟨y,3,none⟩=some (.slice (some ⟨kb,0,none⟩) xs.length xs.length)) (by kernel_rfl) q3 (fun hHeld=>?_);refine qBb [0,1,2,3,4,5,6,7,8,9,10,11,12,13,14,17,18] ?_
       repeat (refine tkO (v:=?_) rfl ?_ ?_;rotate_left;(intro wy hSw;(try dsimp only at hSw);go_simp;(first|done|with_reducible rfl));try simp only [Act.put,p1q,p2q,p3q,p4q,p5q,p6q])
       refine qAs ?_;refine qAr 15 (by kernel_rfl) rfl (by rfl) (fun KK hK=>?_);go_simp;refine hK.out _ _ q3 (fun hHeld=>?_);clear hK KK
       try simp only [Act.put,p1q,p2q,p3q,p4q,p5q,p6q]
       refine qAr 16 (by kernel_rfl) rfl (by rfl) (fun KK hK=>?_);go_simp
       go_at_call 109
       refine (yFk am w1.drew).mono ?_;rintro e w3 ⟨rfl,an⟩;have b4:Bw w1 w3:=qAg an;have l:=qAa (B.out.below b4);have a9:w3.cell? ⟨y,3,none⟩=some (.slice (some ⟨kb,0,none⟩) xs.length xs.length):=l.out.q.cell rfl;refine hK.out _ _ a9 (fun hHeld=>?_);clear hK KK
       try simp only [Act.put,p1q,p2q,p3q,p4q,p5q,p6q]
       refine qBb [19] ?_
       repeat (refine tkO (v:=?_) rfl ?_ ?_;rotate_left;(intro wy hSw;(try dsimp only at hSw);go_simp;(first|done|with_reducible rfl));try simp only [Act.put,p1q,p2q,p3q,p4q,p5q,p6q])
       refine qAs ?_;have Z:=(l.out.k.state L a6 a4).typ T.out.1 hn;rw [HT.out] at Z;obtain ⟨m0,m1,m2,m3⟩:=Z;simp only at m0 m1 m2 m3;have f0:=l.out.k.frozen (p*33+1+n*4);have f1:=l.out.k.frozen (p*33+1+n*4+1);have f2:=l.out.k.frozen (p*33+1+n*4+2);have f3:=l.out.k.frozen (p*33+1+n*4+3);have au:=qAa (l.out.k.putT L a6 a4 hn ⟨V,X,jh,jm⟩);have ap:=l.out.ne;have ah:(setT w3 kb (p*33+1+n*4) ⟨V,X,jh,jm⟩).cell? ⟨y,3,none⟩=some (.slice (some ⟨kb,0,none⟩) xs.length xs.length):=(qAd kb (tyC ⟨V,X,jh,jm⟩) w3 (p*33+1+n*4)).cell a9 (fun e=>ap (by injection e));have b3:=qAa ah;clear ah;refine qAr 20 (by kernel_rfl) rfl (by rfl) (fun KK hK=>?_);go_simp;refine hK.out _ _ b3.out (fun hHeld=>?_);clear hK KK
       try simp only [Act.put,p1q,p2q,p3q,p4q,p5q,p6q]
       refine wpAnyH_done (by kernel_rfl) ?_ _;go_wp2
       go_roundw
       case rel =>
        refine ⟨m+1,by omega,by go_num,?_⟩;rw [a0.out,J.out];have hP:=au.out;rw [List.set_set] at hP;have:=l.out.grown (qAd kb (tyC ⟨V,X,jh,jm⟩) w3 (p*33+1+n*4)) hP (by simp) (by rw [<- List.set_set (a:=(r,z)) (i:=p)];exact L.set p (by rw [List.length_set];exact T.out.1));exact this
       case measure=>simp [intOf];omega
     ·obtain rfl:m=M:=by omega
      go_wp2
      go_roundw
      case rel =>
       refine ⟨k+1,by omega,by go_num,?_⟩;rw [ab.out,N.out];have:=Q.out;rw [show (qKb xs p m).take m=qKb xs p m from List.take_of_length_le (by rw [ag.out];exact Nat.le_refl _)] at this;exact this
      case measure=>simp [intOf];omega
   ·have N:Hid (qHa xs p o ⟨R,G,D⟩=o):=by show _=_;unfold qHa;rw [if_neg hh]
    go_wp2
    go_roundw
    case rel=>exact ⟨k+1,by omega,by go_num,by rw [ab.out,N.out];exact O.out.below ((Below.refl _ _).alloc (Nat.le_refl _) _)⟩
    case measure=>simp [intOf];omega
  ·obtain rfl:k=ls.length:=by omega
   go_wp2;exact bodyPost_end (results_none rfl _ _ _) rfl ⟨rfl,by have:=O.out;rw [ySk] at this;exact this⟩
theorem qNv {i:In}(c:i.right=true):(0<=i.a/\i.a<=7)/\(i.b=8∨(0<=i.b/\i.b<=7)):=by
 obtain ⟨op,d,a,b,f⟩:=i;unfold In.right qAq at c;simp only at c ⊢
 repeat' split at c
 all_goals simp [qAu,qCr] at c
 all_goals omega
theorem qOs {i:In}(g:i.right=true)(s:St)(h:¬ (16<=i.op/\i.op<=19))(b:Bool):qBp i s b=some (wrS i s):=by
 have h0:0<=i.op/\i.op<=22:=qDm g;unfold qBp wrS
 by_cases hw:i.wr.2=true
 ·rw [if_pos hw]
  rcases qMj i hw g with ⟨e,f⟩|⟨e,f⟩
  ·rw [e];unfold qQu
   by_cases c0:i.op=0
   ·rw [if_pos c0,if_pos c0]
   rw [if_neg c0,if_neg c0]
   by_cases c1:1<=i.op/\i.op<=10
   ·rw [if_pos (by simp [qAv];omega),if_neg (by omega),if_neg (by omega),if_neg (by omega)]
   rw [if_neg (by simp [qAv];omega)]
   by_cases c2:i.op=11∨i.op=13
   ·rw [if_pos c2,if_pos c2]
   rw [if_neg c2,if_neg c2,if_pos (by omega),if_pos (by omega)]
  ·rw [e];unfold qQu;rw [if_neg (by omega),if_neg (by simp [qAv];omega),if_neg (by omega),if_neg (by omega),if_pos f,if_neg (by omega),if_neg (by omega),if_neg (by omega),if_pos f]
   rfl
 ·rw [if_neg hw]
  have k:¬ (i.op<=11∨i.op=13∨i.op=14)/\¬ i.op=21:=by
   unfold In.wr qDa at hw;rw [if_neg (by simp [show qAq i.op i.d i.a i.b i.imm=true from g])] at hw
   by_cases c:i.op<=11∨i.op=13∨i.op=14
   ·rw [if_pos c] at hw;simp at hw
   ·rw [if_neg c] at hw;exact ⟨c,by simpa using hw⟩
  rw [if_neg (by omega),if_neg (by simp [qAv];omega),if_neg (by omega),if_neg (by omega),if_neg (by omega),if_neg (by simp [qBw];omega)]
theorem qQm {i:In}(s:St)(h:16<=i.op/\i.op<=19)(r b:Bool):qJb i r s b=match qBp i s b with|none=>(false,stZ)|some s'=>(r,s'):=by
 unfold qBp qJb;rw [if_neg (by omega),if_neg (by simp [qAv];omega),if_neg (by omega),if_neg (by omega),if_neg (by omega),if_pos (by simp [qBw];omega)]
 cases qDb i.op (qBg s i.a).lo (qBg s i.a).hi (qBa i s).lo (qBa i s).hi b<;>rfl
theorem qXi {nm:Nat}{t:Ty}(h:Made nm t):qJx t=if t.k≠1 then 33 else if 15<t.hi then 35 else 0:=by
 unfold qJx
 by_cases hk:t.k=1
 ·have b:0<=t.lo/\t.lo<=t.hi:=by rcases h with h|h|h<;>omega
  have a:qDs t.lo t.hi 0 15=decide (t.hi<=15):=by
   rw [Bool.eq_iff_iff]
   simp [qDs,qGv]
   omega
  rw [a]
  by_cases h15:15<t.hi
  ·simp [hk,h15]
  ·simp [hk,h15]
 ·simp [hk]
theorem yJz {nm:Nat}{s h:St}(b:Made8 nm s)(c:Made8 nm h):qKh s h=qIx s h:=by
 unfold qKh qIx;rw [Bool.eq_iff_iff,List.all_eq_true,List.all_eq_true]
 constructor
 ·intro k r a;rw [<- yGm (b.get (List.mem_range.1 a)) (c.get (List.mem_range.1 a))];exact k r a
 ·intro k r a;rw [yGm (b.get (List.mem_range.1 a)) (c.get (List.mem_range.1 a))];exact k r a
theorem yIr (t:Ty):qFo [t]=if t.k≠1 then 33 else 0:=by
 unfold qFo
 by_cases h:t.k=1<;>simp [h]
theorem xCm (t u:Ty):qFo [t,u]=if t.k≠1∨u.k≠1 then 33 else 0:=by
 unfold qFo
 by_cases h:t.k=1<;>by_cases h':u.k=1<;>simp [h,h']
theorem yUh {nm:Nat}{i:In}{s h:St}(c:i.right=true)(d:Made8 nm s)(l:i.op=20->Made8 nm h):qLd nm i s h=qEc nm i s h:=by
 have h0:0<=i.op/\i.op<=22:=qDm c;have f:=(qNv c).2
 have b:(i.op<=12∨(16<=i.op/\i.op<=19))->qJe i s=qBa i s:=fun g=>by unfold qJe;rw [if_pos (qDq c g).1]
 have hm:=qJh (i:=i) d f;unfold qLd qEc
 by_cases c13:i.op=13∨i.op=15
 ·rw [if_pos c13,if_neg (by omega),if_pos c13]
 rw [if_neg c13]
 by_cases c0:i.op=0
 ·rw [if_pos c0,if_pos c0,b (by omega)];unfold qLj
  by_cases hk:(qBa i s).k=0<;>simp [hk]
 rw [if_neg c0,if_neg c0,if_neg c13]
 by_cases c11:i.op=11
 ·rw [if_pos c11,if_neg (by omega),if_neg (by omega),if_pos c11,b (by omega),qXi hm]
 rw [if_neg c11]
 by_cases c12:i.op=12
 ·rw [if_pos c12,yIr,qXi hm,if_neg (show ¬ i.op=14 by omega),if_neg (show ¬ i.op=21 by omega),if_neg c11,if_neg (show ¬ i.op=20 by omega),if_neg (show ¬ i.op=22 by omega),b (by omega)]
  by_cases h1:(qBg s i.a).k=1<;>by_cases h2:(qBa i s).k=1<;>simp [h1,h2,c12]
 rw [if_neg c12]
 by_cases c14:i.op=14
 ·rw [if_pos c14,if_pos c14];unfold qLj
  by_cases h1:i.imm<(nm:Int)
  ·rw [if_pos (by simpa using h1),if_neg (by omega)]
  ·rw [if_neg (by simpa using h1),if_pos (by omega)]
 rw [if_neg c14,if_neg c14]
 by_cases c20:i.op=20
 ·rw [if_pos c20,yIr,yJz d (l c20),if_neg (show ¬ i.op=21 by omega),if_neg c11,if_pos c20];unfold qLj
  by_cases h1:(qBg s i.a).k=1<;>simp [h1]
 rw [if_neg c20]
 by_cases c21:i.op=21
 ·rw [if_pos c21,if_pos c21]
 rw [if_neg c21,if_neg c21,if_neg c11,if_neg c20]
 by_cases c22:i.op=22
 ·rw [if_pos c22,if_pos c22,yIr]
 rw [if_neg c22,if_neg c22,b (by omega),xCm]
 by_cases h1:(qBg s i.a).k≠1∨(qBa i s).k≠1
 ·rw [if_pos h1,if_pos h1]
 ·rw [if_neg h1,if_neg h1,if_neg (by omega)]
theorem yZt {xs:List In}{i:In}(h:i∈xs):∃ k,k<xs.length/\nth xs k=i:=by
 obtain ⟨k,a,rfl⟩:=List.mem_iff_getElem.1 h;exact ⟨k,a,by simp [nth,List.getD,List.getElem?_eq_getElem a]⟩
theorem Taken.right {xs:List In}(h:Taken xs){k:Nat}(a:k<xs.length):(nth xs k).right=true:=(qEl a (h.place k a)).1
theorem Taken.rights {xs:List In}(h:Taken xs):∀ i∈xs,i.right=true:=fun i hi=>by
 obtain ⟨k,a,rfl⟩:=yZt hi;exact h.right a
theorem Taken.loops {xs:List In}(h:Taken xs):xBv xs (qAk xs):=fun l a=>by
 obtain ⟨k,_,_,_,h0,c,b,_⟩:=qKr h.place a
 omega
theorem qWx {w0 w:World}{a kb nm cb co ccap p:Nat}{f:Value}{xs:List In}{ls:List Lp}{K:Kn}(h:Inq w0 w a kb nm f cb co ccap xs ls K)(c:Taken xs)(d:ls=qAk xs)(k:p<xs.length)(i:MadeK nm K) :
  Cl 75 #[.pointer (some ⟨a,0,none⟩),I4 p] w fun e l=>e=.returned (.tuple #[])/\Inq w0 l a kb nm f cb co ccap xs ls (K.set p ((K.getD p kn0).1,qNi xs p ls (K.getD p kn0).2)):=by
 obtain ⟨g,b,n,_⟩:=id h.lo;subst n;exact yKa w0 w a kb nm cb co ccap p g b xs ls K h k c.top c.rights (d ▸ c.loops) _ _ rfl (i.at p)
theorem yAq {w0 w:World}{o kb nm cb co ccap p:Nat}{u:Value}{xs:List In}{ls:List Lp}{K:Kn}(h:Inq w0 w o kb nm u cb co ccap xs ls K)(r:Taken xs)(g:p<xs.length)(k:MadeK nm K){E:Int}(A:Hid (E=qEc nm (nth xs p) (K.getD p kn0).2 (K.getD ((p:Int)+(nth xs p).far).toNat kn0).2)) :
  Cl 76 #[.pointer (some ⟨o,0,none⟩),I4 p] w fun e z=>e=.returned (I4 E)/\Bw w z:=by
 have s:=r.right g;have c:=qEl g (r.place p g);obtain ⟨l,i⟩:=qNv s;rw [A.out,<- yUh s (k.at p) (fun _=>k.at _)];obtain ⟨op,d,a,b,f,y⟩:∃ op d a b f,Hid (nth xs p=⟨op,d,a,b,f⟩):=⟨_,_,_,_,_,rfl⟩;rw [y.out] at l i c ⊢;simp only at l i;obtain ⟨n,rfl⟩:=Int.eq_ofNat_of_zero_le l.1;exact yNk w0 w o kb nm cb co ccap p u xs ls K h g r.top k n (by omega) op d b f y _ _ rfl i _ _ _ _ _ _ _ _ rfl rfl (fun _=>⟨c.2.1,c.2.2.1⟩)
theorem qOd {nm:Nat}{i:In}{s head:St}{r b:Bool}(f:i.right=true)(c:Made8 nm s)(d:qEc nm i s head=0)(a:16<=i.op/\i.op<=19):Made8 nm (qJb i r s b).2:=by
 rw [qQm s a r b]
 cases hl:qBp i s b with
 | none=>exact qHp nm
 | some s'=>exact qKd f c d hl
theorem yKn {w0 w:World}{k kb nm cb co ccap p:Nat}{u:Value}{xs:List In}{ls:List Lp}{K:Kn}(h:Inq w0 w k kb nm u cb co ccap xs ls K)(I:Taken xs)(l:p<xs.length)(D:MadeK nm K){head:St}(L:qEc nm (nth xs p) (K.getD p kn0).2 head=0) :
  Cl 77 #[.pointer (some ⟨k,0,none⟩),I4 p] w fun e P=>e=.returned (.tuple #[])/\Inq w0 P k kb nm u cb co ccap xs ls (qGh (nth xs p) p K):=by
 have g:=I.right l;have z:=qEl l (I.place p l);have c:=qBf (nth xs p);obtain ⟨y,B⟩:=qNv g;have J:=D.at p;have n:=I.top
 have o:¬ (16<=(nth xs p).op/\(nth xs p).op<=19)->Made8 nm (wrS (nth xs p) (K.getD p kn0).2):=fun G=>qKd g J L (qOs g _ G false)
 have i:∀ b,(16<=(nth xs p).op/\(nth xs p).op<=19)->Made8 nm (qJb (nth xs p) (K.getD p kn0).1 (K.getD p kn0).2 b).2:=fun b G=>qOd g J L G
 obtain ⟨r,s,E⟩:∃ r s,Hid (K.getD p kn0=(r,s)):=⟨_,_,rfl⟩;obtain ⟨op,d,a,b,f,A⟩:∃ op d a b f,Hid (nth xs p=⟨op,d,a,b,f⟩):=⟨_,_,_,_,_,rfl⟩;unfold qGh;rw [E.out] at o i ⊢;rw [A.out] at o i c z g y B ⊢;simp only at o i y B ⊢
 have O:¬ In.right ⟨op,d,a,b,f⟩=false:=by rw [g];simp
 simp only [g] at c
 by_cases c22:op=22
 ·subst c22;rw [if_pos rfl];exact qNf w0 w k kb nm cb co ccap p u xs ls K h l n D _ d a b f A r s E _ _ _ rfl rfl rfl _ (.inl ⟨rfl,rfl⟩)
 rw [if_neg c22]
 by_cases c15:op=15
 ·subst c15;rw [if_pos rfl]
  have F:0<=In.far ⟨15,d,a,b,f⟩/\In.far ⟨15,d,a,b,f⟩<=64:=by rcases c with c|c|c|c<;>simp at c<;>omega
  exact qNf w0 w k kb nm cb co ccap p u xs ls K h l n D _ d a b f A r s E _ _ _ rfl rfl rfl _ (.inr (.inl ⟨rfl,_,(by omega),(show _=_ by omega),F,rfl⟩))
 rw [if_neg c15]
 by_cases c16:16<=op/\op<=19
 ·rw [if_pos c16]
  have F:(0<=In.far ⟨op,d,a,b,f⟩/\In.far ⟨op,d,a,b,f⟩<=64)/\In.on ⟨op,d,a,b,f⟩=true:=by
   rcases c with c|c|c|c<;>simp at c
   ·refine ⟨by omega,?_⟩;rw [c.2.2.2.2.1];simpa using c15
   ·omega
   ·omega
  have N:=z.2.2.2 F.2
  have Q:op=16∨op=17∨op=18∨op=19:=by omega
  exact qNf w0 w k kb nm cb co ccap p u xs ls K h l n D _ d a b f A r s E _ _ _ rfl rfl rfl _ (.inr (.inr (.inr ⟨Q,N,y,B,_,(by omega),(show _=_ by omega),F.1,_,_,_,_,rfl,rfl,i false c16,i true c16,rfl⟩)))
 rw [if_neg c16]
 have M:In.on ⟨op,d,a,b,f⟩=true:=by
  rcases c with c|c|c|c<;>simp at c
  ·omega
  ·exact c.2.2.2.1
  ·rw [c.2.2.2];simpa using c22
 exact qNf w0 w k kb nm cb co ccap p u xs ls K h l n D op d a b f A r s E _ _ _ rfl rfl rfl _ (.inr (.inr (.inl ⟨⟨c22,c15,c16⟩,g,z.2.2.2 M,_,rfl,o c16,rfl⟩)))
end Go.Proofs.YtmdhljoicnommaaGreat
