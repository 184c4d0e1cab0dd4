/-
  E11LClone
  E11LNew
  E11LTrace
  E11Awake
  W11Err
  E11Open
-/
import Derived.Test.YtmdhljoicnommaaGreatME49
import Derived.Test.YtmdhljoicnommaaGreatME48
namespace Go.Proofs.YtmdhljoicnommaaGreat
set_option maxHeartbeats 12800000
open Go.RowKit
set_option linter.unusedVariables false
set_option linter.unusedSimpArgs false
set_option maxRecDepth 100000
open Go.ChangeShapes Go.WideShapes Go.ChangeAt Go.RowKit
theorem yVy:(Tryz.prog.info? 26).map (fun i=>(i.zero,i.size,i.bytes))=some (some (U8 0),1,8):=by kernel_rfl
theorem qVf (w:World)(e:TypeId)(k:IntKind):(w.alloc (.cells #[] e)).ownsRow w.heap.size e 1 (.slice (some ⟨w.heap.size,0,none⟩) 0 0) ([]:List Int).length (([]:List Int).map (Value.int k)):=by
 refine ⟨rfl,.inr ⟨w.heap.size,0,#[],rfl,Nat.le_refl _,?_,Nat.le_refl _,by simp [maxLen],rfl,rfl⟩⟩
 show (w.heap.push _)[w.heap.size]? = _
 simp
theorem qPq {w a:World}{o:Obj}(c:(w.alloc o).grownBy a (some w.heap.size)):Bw w a :=
 ((Below.refl w.heap.size w).alloc (Nat.le_refl _) o).grown c (by simp) (fun k b=>(by have h:w.heap.size=k:=Option.some.inj b;omega))
theorem yZy (v:Value)(xs:List Int)(w:World)(d:Sees .i64 w v xs)(K:xs.length<=1048576) :
  Cl 25 #[v] w fun e l=>∃ u,e=.returned u/\Sees .i64 l u xs/\(xs=[]∨∀ j,u.ownBlock=some j->w.heap.size<=j)/\Bw w l:=by
 obtain ⟨D,hi,o,s,y⟩:=info_parts yDj;have f:=qAa d;have r:=d.wf;obtain ⟨a,cap,rfl,L,J,G,M,i⟩:=d
 cases a with
 | none =>
  obtain rfl:xs=[]:=by
   by_cases h:xs=[]
   ·exact h
   ·obtain ⟨_,_,e,_⟩:=i h
    cases e
  obtain rfl:=G rfl;clear i
  have z:∀ wx:World,(Go.binOp .eql 22 (.slice none 0 0) (.slice none 0 0)).run Tryz.prog wx=.ok (.bool true) wx:=fun _=>by kernel_rfl
  go_enter Tryz.func25,Tryz.ntmps25;go_wp2;go_ret
  first
   | exact ⟨_,rfl,f.out,.inl rfl,Below.refl _ _⟩
   | exact ⟨_,rfl,f.out,Below.refl _ _⟩
 | some ad =>
  obtain ⟨B,off,q⟩:=ad
  have z:∀ wx:World,(Go.binOp .eql 22 (.slice (some ⟨B,off,q⟩) xs.length cap) (.slice none 0 0)).run Tryz.prog wx=.ok (.bool false) wx:=fun _=>by kernel_rfl
  clear i;go_enter Tryz.func25,Tryz.ntmps25
  go_wp2_with (at_builtin;go_must (refine qMh rfl (.tmp 5) (.tmp 6) 22 rfl w.heap.size 3 D (I4 0) 8 Tryz.underlying22 hi o s y rfl .i64 (.slice (some ⟨w.heap.size,0,none⟩) 0 0) [] rfl (qVf w _ _) _ xs rfl (f.out.below ((Below.refl _ _).alloc (Nat.le_refl _) _) (Nat.le_refl _)) (by unfold maxLen;simp;omega) (by simp;omega) (by simp) ?_);intro F A b n)
  go_ret
  have k:A.ownsRow w.heap.size 3 1 F xs.length (xs.map (Value.int .i64)):=by simpa using b
  refine ⟨_,rfl,Sees.own k r,?_,qPq n⟩
  by_cases h:xs=[]
  ·exact .inl h
  ·refine .inr fun j E=>?_
   obtain ⟨g,c,rfl,I,_⟩:=qYs k (List.length_pos_iff.2 h);have:g=j:=Option.some.inj E
   omega
theorem xAm (b off:Nat)(xs:List Int)(w:World)(d:Sees .u64 w (.slice (some ⟨b,off,none⟩) 8 8) xs)(s:xs.length=8) :
  Cl 70 #[.slice (some ⟨b,off,none⟩) 8 8] w fun e k=>∃ u,e=.returned u/\k.ownsRow w.heap.size 26 1 u 8 (qBx xs)/\Bw w k:=by
 obtain ⟨n,hi,g,l,f⟩:=info_parts yVy;have r:=qAa d
 have z:∀ wx:World,(Go.binOp .eql 67 (.slice (some ⟨b,off,none⟩) 8 8) (.slice none 0 0)).run Tryz.prog wx=.ok (.bool false) wx:=fun _=>by kernel_rfl
 clear d;go_enter Tryz.func70,Tryz.ntmps70
 go_wp2_with (at_builtin;go_must (refine qMh rfl (.tmp 5) (.tmp 6) 67 rfl w.heap.size 26 n (U8 0) 8 Tryz.underlying67 hi g l f rfl .u64 (.slice (some ⟨w.heap.size,0,none⟩) 0 0) [] rfl (qVf w _ _) _ xs rfl (r.out.below ((Below.refl _ _).alloc (Nat.le_refl _) _) (Nat.le_refl _)) (by unfold maxLen;simp;omega) (by simp;omega) (by simp) ?_);intro o y a c)
 go_ret
 have i:y.ownsRow w.heap.size 26 1 o xs.length (xs.map (Value.int .u64)):=by simpa using a
 rw [s] at i;exact ⟨_,rfl,i,qPq c⟩
theorem yZd (cb co ccap:Nat)(xs:List In)(w:World)(c:SeesI w (.slice (some ⟨cb,co,none⟩) xs.length ccap) xs)(r:xs.length<=1048576) :
  Cl 26 #[.slice (some ⟨cb,co,none⟩) xs.length ccap] w fun e g=>∃ u,e=.returned u/\g.ownsRow w.heap.size 43 5 u xs.length (qGb xs)/\Bw w g:=by
 obtain ⟨k,hi,f,i,d⟩:=info_parts qXl;have l:=qAa c
 have n:∀ wx:World,(Go.binOp .eql 23 (.slice (some ⟨cb,co,none⟩) xs.length ccap) (.slice none 0 0)).run Tryz.prog wx=.ok (.bool false) wx:=fun _=>by kernel_rfl
 clear c;go_enter Tryz.func26,Tryz.ntmps26
 go_wp2_with (at_builtin;go_must (refine qRc rfl (.tmp 5) (.tmp 6) 23 rfl w.heap.size 43 k (qAl 0 0 0 0 0) Tryz.underlying23 hi f i d rfl (.slice (some ⟨w.heap.size,0,none⟩) 0 0) [] rfl (yNc w _) _ xs rfl (l.out.below ((Below.refl _ _).alloc (Nat.le_refl _) _)) (by unfold maxLen;simp;omega) (by simp;omega) (by simp) ?_);intro o s a b)
 go_ret;exact ⟨_,rfl,by simpa using a,qPq b⟩
section
variable {w:World} {b sb cb co ccap:Nat} {vm vc:Value} {ms:List Int} {xs:List In} {ev:Int×Int} {M:Mc}
theorem yNr (h:Ma w b sb vm vc ev M):Cl 44 #[.pointer (some ⟨b,0,none⟩)] w fun e c=>∃ u,e=.returned u/\c.ownsRow w.heap.size 26 1 u 8 (qBx M.regs)/\Bw w c:=by
 have d:=h.hp.lt
 have k:Hid (Sees .u64 w (.slice (some ⟨b,5,none⟩) 8 8) M.regs):=by
  have g:=h.wr.1;refine ⟨some ⟨b,5,none⟩,8,by rw [g],by omega,by simp [maxLen],fun e=>(by cases e),fun x l=>?_,fun _=>⟨b,5,rfl,d,fun i hi=>h.reg (show i<8 by omega)⟩⟩;obtain ⟨i,hi,rfl⟩:=List.getElem_of_mem l;have:=h.wr.2 i (by omega);rw [List.getD_eq_getElem?_getD,List.getElem?_eq_getElem hi] at this;simp only [Option.getD_some] at this;exact WalkArith.wf_u64 (by omega)
 have n:∀ wx:World,(Instr.sliceAt 89 (.pointer (some ⟨b,5,none⟩)) none none none).run Tryz.prog wx=.ok (.slice (some ⟨b,5,none⟩) 8 8) wx:=fun _=>by kernel_rfl
 go_enter Tryz.func44,Tryz.ntmps44
 go_wp2_with (go_at_call 70;go_must (refine (xAm b 5 M.regs w k.out h.wr.1).mono ?_);rintro e o ⟨u,rfl,f,a⟩)
 go_ret;exact ⟨_,rfl,f,a⟩
theorem qTd {a:List St}(hK:Known xs ms.length a)(g:Safe xs ms.length a M)(h:Mh w b sb vm cb co ccap ms xs ev M)(hm:M.mode=1)(E:Int)(f:Bool)(v:Int)(o:Bool)(k u:Int)(l:0<=v/\v<=18446744073709551615) :
  Cl 17 #[.pointer (some ⟨b,0,none⟩),qNw E f v o k u] w fun e c=>e=.returned (I4 0)/\Chg w c (fun k=>k=b∨k=sb)/\Mh c b sb vm cb co ccap ms xs ev (qGk xs M E f v):=by
 have r:=(qMf (E:=E) (f:=f) hK g hm l).1;have d:M.pc+1<64:=Nat.lt_of_lt_of_le r.pc hK.T.top;refine (yFt E f v o k u w h.ma hm h.code g.pc d h.cn.1 l rfl).mono ?_;rintro e c ⟨rfl,s,i⟩;have n:Chg w c (fun k=>k=b∨k=sb):=Chg.of_grown s (.inl rfl);exact ⟨rfl,n,h.step n i (h.sc.grown s (show some sb≠some b from fun e=>h.ne (Option.some.inj e).symm))⟩
end
abbrev evV (ev:Int×Int):Value:=.agg #[.int .u64 ev.1,.int .u64 ev.2]
theorem ySa (vm b:Value)(ev:Int×Int)(w:World) :
  Cl 11 #[.agg #[vm,b],evV ev,.pointer none] w fun e a=>e=.returned (.tuple #[.pointer none,I4 2])/\Bw w a:=by
 go_enter Tryz.func11,Tryz.ntmps11;go_wp2;go_ret2;exact ⟨rfl,by go_grown⟩
theorem yUe {vm b:Value}{ms:List Int}{xs:List In}(ev:Int×Int)(sb:Nat)(w:World)(hm:Sees .i64 w vm ms)(g:SeesI w b xs){P E:Int}(n:Hid (qFq ms xs=(P,E)))(i:E≠0) :
  Cl 11 #[.agg #[vm,b],evV ev,.pointer (some ⟨sb,0,none⟩)] w fun e l=>e=.returned (.tuple #[.pointer none,I4 E])/\Bw w l:=by
 have r:¬ E=0:=i
 have o:(E==0)=false:=by simpa using i
 obtain ⟨V,k,a⟩:∃ V,Hid ((w.alloc (.cells #[vm,b] 25)).alloc (.cells #[U8 ev.1,U8 ev.2] 28)=V)/\Bw w V:=⟨_,rfl,by go_grown⟩;have d:=qAa (hm.below a (Nat.le_refl _));have c:=qAa (g.below a);clear hm g;go_enter Tryz.func11,Tryz.ntmps11
 go_wp2_with (go_at_call 23;rw [k.out];go_must (refine (qXz d.out c.out n).mono ?_);rintro e s ⟨rfl,f⟩)
 go_ret2;exact ⟨rfl,a.trans (f.mono a.size)⟩
def xCi (w w':World) (sb:Nat) (ms:List Int) (xs:List In) (ev:Int×Int) (cs:List Int) (e:Ending):Prop:=∃ (b cb' ccap':Nat) (um:Value),e=.returned (.tuple #[.pointer (some ⟨b,0,none⟩),.int .i64 0])/\w.heap.size<=b/\Mh w' b sb um cb' 0 ccap' ms xs ev { startE with cs:=cs }/\Chg w w' (fun k=>k=sb)/\w.heap.size<=cb'/\(ms=[]∨∀ j,um.ownBlock=some j->w.heap.size<=j)
theorem qPr {k:IntKind}{w:World}{v:Value}{xs:List Int}(h:Sees k w v xs){j:Nat}(d:v.ownBlock=some j):xs=[]∨j<w.heap.size:=by
 obtain ⟨a,cap,rfl,l,hm,f,i,c⟩:=h
 by_cases hne:xs=[]
 ·exact .inl hne
 ·obtain ⟨b,off,rfl,g,_⟩:=c hne;have:b=j:=Option.some.inj d;exact .inr (by omega)
theorem yGe {vm:Value}{cb co ccap:Nat}{ms:List Int}{xs:List In}(ev:Int×Int)(sb:Nat){ws cs:List Int}(w:World)(hm:Sees .i64 w vm ms)(hx:SeesI w (.slice (some ⟨cb,co,none⟩) xs.length ccap) xs)(U:Sc w sb ws cs)(Z:Hid (qFq ms xs=(0,0)))(aa:ms.length<=1048576)(a1:ms=[]∨vm.ownBlock≠some sb)(T:cb≠sb)(a9:0<xs.length/\xs.length<=64) :
  Cl 11 #[.agg #[vm,.slice (some ⟨cb,co,none⟩) xs.length ccap],evV ev,.pointer (some ⟨sb,0,none⟩)] w fun e o=>xCi w o sb ms xs ev cs e:=by
 obtain ⟨V,HV,i,R,y⟩:∃ V,Hid ((w.alloc (.cells #[vm,.slice (some ⟨cb,co,none⟩) xs.length ccap] 25)).alloc (.cells #[U8 ev.1,U8 ev.2] 28)=V)/\Bw w V/\Hid (Hp V w.heap.size 25 [vm,.slice (some ⟨cb,co,none⟩) xs.length ccap])/\Hid (Hp V (w.heap.size+1) 28 [U8 ev.1,U8 ev.2]) :=
  ⟨_,rfl,by go_grown,(Hp.new w _ _).alloc _,by have:=Hp.new (w.alloc (.cells #[vm,.slice (some ⟨cb,co,none⟩) xs.length ccap] 25)) [U8 ev.1,U8 ev.2] 28;rw [World.size_alloc] at this;exact this⟩
 have N:=qAa (hm.below i (Nat.le_refl _));have J:=qAa (hx.below i);have O:=qAa (U.below i U.lt);have ag:=U.lt
 have ad:w.heap.size+2<=V.heap.size:=by have:=y.out.lt;omega
 clear hm hx;go_enter Tryz.func11,Tryz.ntmps11
 go_wp2_with (first
  | (go_at_call 23;rw [HV.out];go_must (refine (qXz N.out J.out Z).mono ?_);rintro e w4 ⟨rfl,a⟩;go_must (have a5:=qAa (O.out.below a O.out.lt)))
  | (go_at_call 24;go_must (refine (yUn w4 a5.out).mono ?_);rintro e b ⟨rfl,L,c⟩))
 have a3:Bw w w4:=i.trans (a.mono i.size);have a7:=qAa ((Chg.of_below (S:=fun k=>k=sb) a3).trans (Chg.of_grown (S:=fun k=>k=sb) c rfl) (fun _ _ e=>e));have aj:=a.size;have ai:=c.size;have G:=qAa ((R.out.below a R.out.lt).grown c (show some w.heap.size≠some sb from fun e=>by have:=Option.some.inj e;omega));have Q:=qAa ((y.out.below a y.out.lt).grown c (show some (w.heap.size+1)≠some sb from fun e=>by have:=Option.some.inj e;omega));have a2:=qAa ((N.out.below a (Nat.le_refl _)).kept c a1);have a0:=qAa ((J.out.below a).chg (Chg.of_grown (S:=fun k=>k=sb) c rfl) T)
 have B:Hid (∀ s:World,Bw b s->s.cell? ⟨w.heap.size,0,none⟩=some vm/\s.cell? ⟨w.heap.size,1,none⟩=some (.slice (some ⟨cb,co,none⟩) xs.length ccap)/\s.cell? ⟨w.heap.size+1,0,none⟩=some (U8 ev.1)/\s.cell? ⟨w.heap.size+1,1,none⟩=some (U8 ev.2)):=fun s D=>⟨(G.out.below D (by omega)).cell rfl,(G.out.below D (by omega)).cell rfl,(Q.out.below D (by omega)).cell rfl,(Q.out.below D (by omega)).cell rfl⟩
 refine wp_region_held_drew (S:=fun o=>o.cell? ⟨w.heap.size,0,none⟩=some vm/\o.cell? ⟨w.heap.size,1,none⟩=some (.slice (some ⟨cb,co,none⟩) xs.length ccap)/\o.cell? ⟨w.heap.size+1,0,none⟩=some (U8 ev.1)/\o.cell? ⟨w.heap.size+1,1,none⟩=some (U8 ev.2)) (by kernel_rfl) (B.out _ (qAn (Below.refl _ _))) (fun hHeld=>?_);refine qBb [0,1,2,4,5,7] ?_
 repeat (refine tkO (v:=?_) rfl ?_ ?_;rotate_left;(intro wy hSw;(try dsimp only at hSw);go_simp;(first|done|with_reducible rfl));try simp only [Act.put,p1q,p2q,p3q,p4q,p5q,p6q])
 refine qAs ?_;refine qAr 3 (by kernel_rfl) rfl (by rfl) (fun KK hK=>?_);go_simp
 go_at_call 25
 refine (yZy vm ms b.drew a2.out aa).mono ?_;rintro e w6 ⟨um,rfl,M,Y,X⟩;have I:ms=[]∨∀ j,um.ownBlock=some j->b.heap.size<=j:=Y;have P:=qAa M;obtain ⟨E,mcap,rfl,_,_,_,_,_⟩:=M;have n:Bw b w6:=qAg X;have a6:=n.size;go_simp;refine hK.out _ _ (B.out w6 n) (fun hHeld=>?_);clear hK KK
 try simp only [Act.put,p1q,p2q,p3q,p4q,p5q,p6q]
 have ab:=qAa (a0.out.below n);refine qAr 6 (by kernel_rfl) rfl (by rfl) (fun KK hK=>?_);go_simp
 go_at_call 26
 refine (yZd cb co ccap xs w6 ab.out (by omega)).mono ?_;rintro e f ⟨uc,rfl,z,A⟩;have ac:=qAa z;obtain ⟨g,d,rfl,af,ae,_⟩:=qYs z a9.1;clear z;go_simp;have ah:=A.size;have K:Bw b f:=n.trans (A.mono a6);refine hK.out _ _ (B.out f K) (fun hHeld=>?_);clear hK KK
 try simp only [Act.put,p1q,p2q,p3q,p4q,p5q,p6q]
 refine qBb [8] ?_
 repeat (refine tkO (v:=?_) rfl ?_ ?_;rotate_left;(intro wy hSw;(try dsimp only at hSw);go_simp;(first|done|with_reducible rfl));try simp only [Act.put,p1q,p2q,p3q,p4q,p5q,p6q])
 refine qAs ?_;refine qAr 9 (by kernel_rfl) rfl (by rfl) (fun KK hK=>?_);go_simp;obtain ⟨F,HF,a4,u⟩:∃ F,Hid (f.alloc (.cells (((((Tryz.zeroCells93.setIfInBounds 0 (U8 ev.1)).setIfInBounds 1 (U8 ev.2)).setIfInBounds 2 (.slice E ms.length mcap)).setIfInBounds 3 (.slice (some ⟨g,0,none⟩) xs.length d)).setIfInBounds 4 (.pointer (some ⟨sb,0,none⟩))) 93)=F)/\Hid (Hp F f.heap.size 93 (mcC (.slice E ms.length mcap) (.slice (some ⟨g,0,none⟩) xs.length d) ev sb { startE with cs:=cs }))/\Bw f F :=
  ⟨_,rfl,Hp.new f (mcC (.slice E ms.length mcap) (.slice (some ⟨g,0,none⟩) xs.length d) ev sb { startE with cs:=cs }) _,(Below.refl _ _).alloc (Nat.le_refl _) _⟩
 rw [HF.out];have l:Bw b F:=K.trans (u.mono (by omega));refine hK.out _ _ (B.out F l) (fun hHeld=>?_);clear hK KK
 try simp only [Act.put,p1q,p2q,p3q,p4q,p5q,p6q]
 refine qBb [10,11] ?_
 repeat (refine tkO (v:=?_) rfl ?_ ?_;rotate_left;(intro wy hSw;(try dsimp only at hSw);go_simp;(first|done|with_reducible rfl));try simp only [Act.put,p1q,p2q,p3q,p4q,p5q,p6q])
 refine qAs ?_;refine wpAnyH_done (by kernel_rfl) ?_ _;go_wp2;go_ret2;have hz:WR (List.replicate 8 (0:Int)):=⟨rfl,fun r hr=>by rw [show (List.replicate 8 (0:Int)).getD r 0=0 by rw [List.getD_eq_getElem?_getD,List.getElem?_replicate,if_pos hr];rfl];decide⟩;have a8:=(L.below l L.lt);refine ⟨f.heap.size,g,d,.slice E ms.length mcap,rfl,by omega,⟨⟨a4.out,hz,show 0<64 by decide⟩,a8,(P.out.below A (Nat.le_refl _)).below u (Nat.le_refl _),(qSe ac.out).below u,by omega,?_,by omega,by omega⟩,a7.out.trans (Chg.of_below (S:=fun _=>False) l) (fun _ _ e=>e.elim),by omega,I.imp id fun h j Z=>by have:=h j Z;omega⟩
 by_cases hms:ms=[]
 ·exact .inl hms
 refine .inr ⟨fun e=>?_,fun e=>?_⟩
 ·rcases qPr P.out e with h|h
  ·exact hms h
  ·omega
 ·rcases I with h|h
  ·exact hms h
  ·have:=h _ e;omega
theorem yHb {ms:List Int}{xs:List In}{P E:Int}(h:qKj ms xs=.error (P,E))(c:∀ e:Nat×Int,qEq xs ms.length xs.length=.error e->e.2≠0):E≠0:=by
 unfold qKj at h
 split at h
 ·injection h with h;injection h with b a;subst a;decide
 split at h
 ·rename_i hE
  injection h with h;injection h with b a;subst a;exact hE
 split at h
 ·rename_i e he
  injection h with h;injection h with b a;subst a;exact c e he
 ·cases h
theorem qTm {ms:List Int}{xs:List In}{K:Kn}(h:qKj ms xs=.ok K):qGa ms=true/\(∃ a,Known xs ms.length a/\Pull xs ms.length xs.length K a)/\qFq ms xs=(0,0):=by
 have f:qFq ms xs=(0,0):=by unfold qFq;rw [h]
 unfold qKj at h
 split at h
 ·cases h
 rename_i hm
 split at h
 ·cases h
 rename_i hE
 have c:Taken xs:=check_ok.1 (show qLu xs=0 from Decidable.of_not_not hE);refine ⟨by simpa using hm,?_,f⟩
 split at h
 ·cases h
 rename_i K' hr
 injection h with h;subst h
 rcases qNo (nm:=ms.length) c xs.length (Nat.le_refl _) with ⟨e,b,_⟩|⟨i,a,b,g,d⟩
 ·rw [hr] at b;cases b
 ·rw [hr] at b;injection b with b;subst b;exact ⟨a,⟨c,g⟩,d⟩
theorem yCk {ms:List Int}(h:qGa ms=true):ms.length<=4:=by
 unfold qGa at h
 simp at h
 exact h.1
def xBt:Value->Nat
 | .slice _ n _=>n
 | _=>0
theorem qQs {w:World}{base:Nat}{e:TypeId}{z:Nat}{v:Value}{n:Nat}{xs:List Value}(h:w.ownsRow base e z v n xs):xBt v=n:=by
 rcases h with ⟨c,⟨rfl,a⟩|⟨g,cap,b,rfl,_⟩⟩
 ·exact a.symm
 ·rfl
theorem yMo {w wr d:World}{B:Nat}{e:TypeId}{v c:Value}{o:Obj}{a:List Ac}{A:Ac}(f:wr.ownsRow B e 7 v a.length (qGx a))(b:d.ownsRow B e 7 c (a.length+1) (qGx a++acC A)):d.ownsRow B e 7 c (a++[A]).length (qGx (a++[A])):=by
 rw [<- yQe]
 simpa [qGx] using b
theorem ySg {w0 a Y c:World}{B W b sb cb co ccap:Nat}{um:Value}{ms:List Int}{xs:List In}{ev:Int×Int}{y:Mc}{e:TypeId}{i D:Value}{o:Obj}{A:List Ac}{A1:Ac}(f:a.ownsRow B e 7 i A.length (qGx A))(r:Bw a Y)(K:Y.heap.size=a.heap.size+1)(z:Hp Y a.heap.size 80 (acC A1))(E:Mh a b sb um cb co ccap ms xs ev y)(L:b<B/\sb<B/\cb<B)(u:ms=[]∨∀ j,um.ownBlock=some j->j<B)(n:Below W w0 a)(hW:W<=B)(J:W<=w0.heap.size)(l:c.ownsRow B e 7 D (A.length+1) (qGx A++acC A1))(d:(Y.alloc o).grownBy c i.ownBlock) :
  c.ownsRow B e 7 D (A++[A1]).length (qGx (A++[A1]))/\Hp c a.heap.size 80 (acC A1)/\Below W w0 c/\Mh c b sb um cb co ccap ms xs ev y/\a.heap.size+2<=c.heap.size:=by
 have s:Chg Y c (fun k=>i.ownBlock=some k):=(Chg.of_below (S:=fun k=>i.ownBlock=some k) (qGr Y o)).trans (Chg.of_grown' d (S:=fun k=>i.ownBlock=some k) (fun b F=>F)) (fun _ _ e=>e)
 have N:Y.heap.size+1<=c.heap.size:=by
  have:=d.size;rw [World.size_alloc] at this;exact this
 have M:=n.size
 have g:=fun k (hk:i.ownBlock=some k)=>f.lt k hk
 have G:Below W a Y:=r.mono (by omega);refine ⟨yMo (w:=a) (o:=o) f l,z.chg s (fun e=>by have:=(g _ e).2;omega),(n.trans G).trans (s.below (fun k e=>by have:=(g k e).1;omega) (by omega)),(E.below r).apart s (fun e=>by have:=(g _ e).1;omega) (fun e=>by have:=(g _ e).1;omega) (fun e=>by have:=(g _ e).1;omega) (u.imp id fun h j I e=>by have:=h j I;have:=(g _ e).1;omega),by omega⟩
def yZz (w w':World) (T:List Ac) (e:Ending):Prop:=∃ v,e=.returned (.tuple #[v,.int .i64 0])/\w'.ownsRow w.heap.size 80 7 v T.length (qGx T)/\Below w.heap.size w w'
theorem yOj {vm:Value}{cb co ccap:Nat}{ms:List Int}{xs:List In}(ev:Int×Int)(b6:(0<=ev.1/\ev.1<=18446744073709551615)/\0<=ev.2/\ev.2<=18446744073709551615){vr:Value}{rs:List Rs}(w:World)(hm:Sees .i64 w vm ms)(hx:SeesI w (.slice (some ⟨cb,co,none⟩) xs.length ccap) xs)(ae:SeesR w vr rs){K:Kn}(hK:qKj ms xs=.ok K){T:List Ac}(HT:Hid (qFs ms xs ev 257 startE rs=T)) :
  Cl 7 #[.agg #[vm,.slice (some ⟨cb,co,none⟩) xs.length ccap],evV ev,vr] w fun e Q=>yZz w Q T e:=by
 obtain ⟨c9,⟨b4,s,_⟩,br⟩:=qTm hK;have hj:Hid (qFq ms xs=(0,0)):=br;have cw:=yCk c9;have af:0<xs.length/\xs.length<=64:=⟨s.T.pos,s.T.top⟩;obtain ⟨i0,hi,ce,b1,c0⟩:=info_parts Tryz.infoActE;obtain ⟨V,HV,a4,a8,Z⟩:∃ V,Hid ((w.alloc (.cells #[vm,.slice (some ⟨cb,co,none⟩) xs.length ccap] 25)).alloc (.cells #[U8 ev.1,U8 ev.2] 28)=V)/\Bw w V/\Hid (Hp V w.heap.size 25 [vm,.slice (some ⟨cb,co,none⟩) xs.length ccap])/\Hid (Hp V (w.heap.size+1) 28 [U8 ev.1,U8 ev.2]) :=
  ⟨_,rfl,by go_grown,(Hp.new w _ _).alloc _,by have:=Hp.new (w.alloc (.cells #[vm,.slice (some ⟨cb,co,none⟩) xs.length ccap] 25)) [U8 ev.1,U8 ev.2] 28;rw [World.size_alloc] at this;exact this⟩
 have bx:=qAa (hm.below a4 (Nat.le_refl _));have bt:=qAa (hx.below a4)
 have HP:Hid (∀ G:World,Bw V G->G.cell? ⟨w.heap.size,0,none⟩=some vm/\G.cell? ⟨w.heap.size,1,none⟩=some (.slice (some ⟨cb,co,none⟩) xs.length ccap)/\G.cell? ⟨w.heap.size+1,0,none⟩=some (U8 ev.1)/\G.cell? ⟨w.heap.size+1,1,none⟩=some (U8 ev.2)):=fun G hb=>⟨(a8.out.below hb a8.out.lt).cell rfl,(a8.out.below hb a8.out.lt).cell rfl,(Z.out.below hb Z.out.lt).cell rfl,(Z.out.below hb Z.out.lt).cell rfl⟩
 have cm:cb<w.heap.size:=(qIl hx af.1).2.1
 have bq:ms=[]∨∀ j,vm.ownBlock=some j->j<w.heap.size:=by
  by_cases h:ms=[]
  ·exact .inl h
  ·exact .inr fun j hj=>(qPr hm hj).resolve_left h
 have bs:=qAa ae
 obtain ⟨ra,bo,rfl⟩:∃ a c,vr=.slice a rs.length c:=by obtain ⟨a,c,h,_⟩:=ae;exact ⟨a,c,h⟩
 clear hm hx ae
 have cp:w.heap.size+2<=V.heap.size:=by have:=Z.out.lt;omega
 go_enter Tryz.func7,Tryz.ntmps7;go_wp2;rw [HV.out]
 go_region_held3 (fun Q=>Q.cell? ⟨w.heap.size,0,none⟩=some vm/\Q.cell? ⟨w.heap.size,1,none⟩=some (.slice (some ⟨cb,co,none⟩) xs.length ccap)/\Q.cell? ⟨w.heap.size+1,0,none⟩=some (U8 ev.1)/\Q.cell? ⟨w.heap.size+1,1,none⟩=some (U8 ev.2))
  (first|with_reducible exact bi|with_reducible exact bb|exact HP.out V (Below.refl _ _))
  (first
   | (go_at_call 10;go_must (refine (yGt V.drew).mono ?_);rintro e w4 ⟨rfl,be,ct,aj⟩;go_must (have a2:Bw V w4:=qAg aj;have bi:=HP.out w4 a2;have c7:=qAa (bx.out.below a2 (Nat.le_refl _));have c2:=qAa (bt.out.below a2);have bu:=qAa (show Sc w4 V.heap.size nought nought from be);clear be))
   | (go_at_call 11;go_must (refine (yGe ev V.heap.size w4 c7.out c2.out bu.out hj (by omega) (bq.imp id fun h e=>by have:=h _ e;omega) (by omega) af).mono ?_);rintro e O ⟨b,au,a7,um,rfl,cn,a6,bd,cu,cq⟩;go_must (have ba:Chg V O (fun k=>k=V.heap.size):=(Chg.of_below (S:=fun k=>k=V.heap.size) a2).trans bd (fun _ _ e=>e);have bf:Bw V O:=ba.below (fun k e=>by omega) (Nat.le_refl _);have bb:=HP.out O bf;have a0:=qAa a6;clear a6)))
 have ch:=a0.out.ma.hp.lt;have ca:=a0.out.sc.lt;have bw:au<O.heap.size:=(qIl a0.out.code af.1).2.1
 have bj:ms=[]∨∀ j,um.ownBlock=some j->j<O.heap.size:=by
  by_cases h:ms=[]
  ·exact .inl h
  ·exact .inr fun j hj=>(qPr a0.out.maps hj).resolve_left h
 have ay:Bw w O:=a4.trans (bf.mono a4.size);have a3:=ay.size;have bm:=b1
 have cj:w.heap.size+2<=b:=by have:=a2.size;omega
 clear bi bb ba bd aj b1;go_wp2
 go_loopw [2,10] (fun vr va0 wr=>∃ (M:Mc) (l:List Rs) (A:List Ac) (X:Option Addr) (d:Nat) (va:Value),vr=.slice X l.length d/\va=va0/\Safe xs ms.length b4 M/\M.mode=0/\Mh wr b V.heap.size um au 0 a7 ms xs ev M/\pot xs M<=256/\A.length=M.steps/\Hid (A++qFs ms xs ev (257-M.steps) M l=T)/\SeesR w (.slice X l.length d) l/\wr.ownsRow O.heap.size 80 7 va A.length (qGx A)/\Bw w wr/\O.heap.size<=wr.heap.size) (fun _ va _=>300-xBt va)
 case atStart =>
  have bz:pot xs startE<=256:=Int.le_trans (qYh s.T) (yCx s.T);exact ⟨startE,rs,[],ra,bo,_,rfl,rfl,qUp s,rfl,a0.out,bz,rfl,by show []++_=_;rw [List.nil_append];exact HT.out,bs.out,World.ownsRow_nil _ _ _ _,ay,Nat.le_refl _⟩
 case round =>
  obtain ⟨M,l,A,X,d,va,rfl,rfl,hS,m0,a6,ck,hA,L,hr,ho,bg,cs⟩:=hrel;have c8:=hS.pot_le s.T;rw [if_pos m0] at c8
  have cv:M.steps<=255:=by omega
  obtain ⟨y,b5,bc⟩:=qPy (ms:=ms) s hS m0 b6;have ab:=qVt (ms:=ms) (xs:=xs) (ev:=ev) m0;rw [show 257-M.steps=(256-M.steps)+1 by omega] at L;have P:=qAa (qWz s hS b6 a6 (by omega));have ax:=qAa (fun h=>yLw (ms:=ms) (xs:=xs) (ev:=ev) (M:=M) (n:=256-M.steps) (rs:=l) h);have ac:=qAa (fun h=>yJa (ms:=ms) (xs:=xs) (ev:=ev) (M:=M) (n:=256-M.steps) h);have ar:=qAa (fun r i h=>yOb (ms:=ms) (xs:=xs) (ev:=ev) (M:=M) (n:=256-M.steps) (r:=r) (rs:=i) h);have b2:=qAa (fun h=>yWg (ms:=ms) (xs:=xs) (ev:=ev) (M:=M) (n:=256-M.steps) (rs:=l) h);obtain ⟨⟨⟨ak,apc,am,ao,aq,av,an⟩,z⟩,F⟩:∃ R,Hid (qBe ms xs ev M=R):=⟨_,rfl⟩;rw [F.out] at ab y b5 bc;simp only at ab y b5 bc
  have P:Hid (Cl 18 #[.pointer (some ⟨b,0,none⟩)] wr fun e Q=>e=.returned (qEp ak apc am ao aq av an)/\Chg wr Q (fun k=>k=b∨k=V.heap.size)/\Mh Q b V.heap.size um au 0 a7 ms xs ev z):=by
   have:=P.out;rw [F.out] at this;exact this
  have ax:Hid (ak=4->A++[⟨ak,apc,am,ao,aq,av,an⟩]=T):=fun h=>by rw [<- L.out,ax.out (by rw [F.out];exact h),F.out]
  have b2:Hid (ak≠4/\ak≠2->(A++[⟨ak,apc,am,ao,aq,av,an⟩])++qFs ms xs ev (257-z.steps) z l=T):=fun h=>by
   rw [<- L.out,b2.out (by rw [F.out];exact h),F.out,show 257-z.steps=256-M.steps by omega,List.append_assoc]
   rfl
  have ac:Hid (ak=2->l=[]->A++[⟨ak,apc,am,ao,aq,av,an⟩]=T):=fun h e=>by subst e;rw [<- L.out,ac.out (by rw [F.out];exact h),F.out]
  have ar:Hid (∀ r i,ak=2->l=r :: i->(A++[⟨ak,apc,am,ao,aq,av,an⟩])++qFs ms xs ev (257-z.steps) (qGk xs z r.E r.f r.v) i=T):=fun r i h e=>by
   subst e;rw [<- L.out,ar.out r i (by rw [F.out];exact h),F.out,show 257-z.steps=256-M.steps by omega,List.append_assoc]
   rfl
  clear L F
  have h4:(ak=4/\z.mode=2/\(ak==4)=true/\(ak==2)=false)∨(ak=2/\z.mode=1/\(ak==4)=false/\(ak==2)=true/\l=[])∨(ak=2/\z.mode=1/\(ak==4)=false/\(ak==2)=true/\∃ r i,l=r :: i)∨((ak=1∨ak=3)/\z.mode=0/\(ak==4)=false/\(ak==2)=false):=by
   rcases ab with ⟨g,g'⟩|⟨g,g'⟩|⟨g,g'⟩
   ·exact .inl ⟨g,g',by simp [g],by simp [g]⟩
   ·cases l with
    | nil=>exact .inr (.inl ⟨g,g',by simp [g],by simp [g],rfl⟩)
    | cons r i=>exact .inr (.inr (.inl ⟨g,g',by simp [g],by simp [g],r,i,rfl⟩))
   ·exact .inr (.inr (.inr ⟨g,g',by simp;omega,by simp;omega⟩))
  clear ab
  rcases h4 with ⟨U,J,k4,k2⟩|⟨U,J,k4,k2,b7⟩|⟨U,J,k4,k2,r,i,b7⟩|⟨U,J,k4,k2⟩
  all_goals (have HK:=qAa U;clear U;(try subst b7))
  rotate_left 2
  have c4:=qMf (E:=r.E) (f:=r.f) s y J (v:=r.v) (by obtain ⟨_,_,_,_,_,_,hw,_⟩:=hr;exact hw r (by simp))
  have c6:r.wf:=by obtain ⟨_,_,_,_,_,_,hw,_⟩:=hr;exact hw r (by simp)
  have bl:=qAa hr.cut
  have cg:i.length+1<=d/\d<=9223372036854775807:=by
   obtain ⟨a1,c1,e,g1,g2,_⟩:=hr;injection e with e1 e2 e3;subst e3;unfold maxLen at g2;exact ⟨g1,by omega⟩
  obtain ⟨rb,ro,c3,bn,aw⟩:∃ b off,X=some ⟨b,off,none⟩/\b<w.heap.size/\AtR w b off r:=by
   obtain ⟨a1,c1,e,_,_,_,_,g⟩:=hr;injection e with e1 e2 e3;subst e1;obtain ⟨b,off,rfl,cf,aw⟩:=g (by simp);exact ⟨b,off,rfl,cf,by have:=aw 0 (by simp);rw [Nat.zero_mul,Nat.add_zero] at this;exact this⟩
  subst c3;have c5:=qAa aw
  have hcut:∀ G:World,(Instr.slice 29 (.slice (some ⟨rb,ro,none⟩) (i.length+1) d) (some (I4 1)) none none).run Tryz.prog G=.ok (yHo (some ⟨rb,ro,none⟩) (i.length+1) d) G:=fun G=>yTs _ _ _ (by omega) cg.1 G
  simp only [List.length_cons]
  rotate_left 2
  all_goals go_wp2_with (first
   | (go_at_call 18;go_must (refine P.out.mono ?_);rintro e w1 ⟨rfl,ai,ag⟩;go_must (have b1:=ai.size;have aa:=qSy ho ai (fun k U e=>by have:=(ho.lt k U).1;omega);have bp:=qAa ag;have cc:=qAa (bg.trans (ai.below (B:=w.heap.size) (fun k e=>by omega) bg.size));obtain ⟨Y,HY,D,b9,bh⟩:∃ Y,Hid (w1.alloc (.cells #[I4 ak,I4 apc,I4 am,I4 ao,U8 aq,U8 av,U8 an] 80)=Y)/\Hid (Hp Y w1.heap.size 80 (qAh ak apc am ao aq av an))/\Bw w1 Y/\Y.heap.size=w1.heap.size+1:=⟨_,rfl,Hp.new w1 _ _,(Below.refl _ _).alloc (Nat.le_refl _) _,by simp⟩;have b3:=qCn aa b9 (Nat.le_refl _);obtain ⟨⟨y0,y1,y2,y3,y4,y5,y6⟩,-⟩:=hq7 D.out;clear ag))
   | (at_builtin;rw [HY.out];go_must (refine wpList_append_own _ rfl _ _ 34 rfl O.heap.size 80 i0 _ 7 56 Tryz.underlying34 hi ce bm c0 rfl (by decide) _ _ _ rfl (b3.alloc _) ⟨_,0,none⟩ 1 1 (qAh ak apc am ao aq av an) rfl rfl (yRu _ _ _ _ bh.symm) (yOn ⟨ak,apc,am,ao,aq,av,an⟩) (by unfold maxLen;omega) (by omega) (by simp;omega) ?_);intro v' w2 a9 a5 _;have R:=ySg (A1:=⟨ak,apc,am,ao,aq,av,an⟩) aa b9 bh D.out bp.out ⟨ch,ca,bw⟩ bj cc.out (W:=w.heap.size) a3 (Nat.le_refl _) a9 a5;clear a9 a5;obtain ⟨al,az,ad,ah,cl⟩:=R;have I:=qAa al;have ci:=qAa az;have N:=qAa ad;have b8:=qAa ah;have b0:=ci.out.cell (j:=0) rfl;clear al az ad ah;(try (have bk:=c5.out.below N.out bn;obtain ⟨r0,r1,r2,r3,r4,r5⟩:=bk)))
   | (go_at_call 17;go_must (refine (qTd s y b8.out J r.E r.f r.v r.o r.k r.u c6).mono ?_);rintro e w3 ⟨rfl,ap,cd⟩))
  ·go_ret2;refine ⟨v',rfl,?_,N.out⟩;rw [<- ax.out HK.out];exact qPe I.out a3
  ·go_ret2;refine ⟨v',rfl,?_,N.out⟩;rw [<- ac.out HK.out (by first|rfl|trivial)];exact qPe I.out a3
  ·go_roundw
   case rel =>
    have cr:=ap.size;exact ⟨qGk xs z r.E r.f r.v,i,A++[⟨ak,apc,am,ao,aq,av,an⟩],_,_,v',rfl,rfl,c4.1,rfl,cd,by omega,by simp;omega,qAa (ar.out r i HK.out (by first|rfl|trivial)),bl.out,qSy I.out ap (fun k U e=>by have:=(I.out.lt k U).1;omega),N.out.trans (ap.below (fun k e=>by omega) N.out.size),(by omega)⟩
   case measure =>
    rw [qQs I.out,qQs ho]
    simp
    omega
  ·go_roundw
   case rel=>exact ⟨z,l,A++[⟨ak,apc,am,ao,aq,av,an⟩],X,d,v',rfl,rfl,y,J,b8.out,by omega,by simp;omega,qAa (b2.out (by have:=HK.out;omega)),hr,I.out,N.out,(by omega)⟩
   case measure =>
    rw [qQs I.out,qQs ho]
    simp
    omega
def qPl:List In:=[⟨13,2,0,0,0⟩,⟨14,1,0,0,0⟩,⟨21,0,0,0,0⟩,⟨22,0,0,0,0⟩]
def okE (e:Except (Int×Int) Kn):Bool:=match e with|.ok _=>true|.error _=>false
theorem yXp:∃ K,qKj [2] qPl=.ok K:=by
 have h:okE (qKj [2] qPl)=true:=by decide +kernel
 cases hc:qKj [2] qPl with
 | ok K=>exact ⟨K,rfl⟩
 | error e=>rw [hc] at h;cases h
def yKb:List Ac:=[⟨1,0,0,0,0,0,0⟩,⟨1,1,0,0,0,0,0⟩,⟨2,2,2,0,20,0,0⟩,⟨4,3,0,0,0,0,9⟩]
theorem yIv:qFs [2] qPl (20,3) 257 startE [⟨0,true,9,false,0,0⟩]=yKb:=by kernel_rfl
theorem yNg (w:World)(t:TypeId)(xs:List Int)(cs:Array Value)(n g:Nat)(d:g=w.heap.size)(a:cs=(xs.map (Value.int .i64)).toArray)(c:n=xs.length)(hm:xs.length<=1048576)(b:∀ x∈xs,(Lit.int .i64 x).wf=true):Sees .i64 (w.alloc (.cells cs t)) (.slice (some ⟨g,0,none⟩) n n) xs:=by
 subst d a c;refine ⟨_,xs.length,rfl,Nat.le_refl _,by unfold maxLen;omega,fun h=>(by cases h),b,fun f=>⟨_,0,rfl,by simp,fun i hi=>?_⟩⟩;rw [World.cell?_alloc_at _ _ _ _ rfl]
 simp [List.getD,List.getElem?_eq_getElem hi]
theorem yHl (w:World):Cl 22 #[] w fun e a=>∃ m g,e=.returned (yTr (.slice (some ⟨m,0,none⟩) 1 1) (.slice (some ⟨g,0,none⟩) 4 4))/\Sees .i64 a (.slice (some ⟨m,0,none⟩) 1 1) [2]/\SeesI a (.slice (some ⟨g,0,none⟩) 4 4) qPl/\Bw w a:=by
 go_enter Tryz.func22,Tryz.ntmps22
 go_wp2_with fail
 have hm:=((MdC.new w (.slice (some ⟨w.heap.size+1,0,none⟩) 1 1) (.slice (some ⟨w.heap.size+1+1,0,none⟩) 4 4)).kept (qJd _ (.cells #[I4 2] 3) none) (by simp)).kept (qJd _ (.cells #[I4 13,I4 2,I4 0,I4 0,I4 0,I4 14,I4 1,I4 0,I4 0,I4 0,I4 21,I4 0,I4 0,I4 0,I4 0,I4 22,I4 0,I4 0,I4 0,I4 0] 43) none) (by simp);refine bodyPost_ret (results_cell_row rfl _ _ w.heap.size _ _ (0,0) _ rfl hm Tryz.underlying25 rfl (by kernel_rfl)) rfl ?_;refine ⟨w.heap.size+1,w.heap.size+1+1,rfl,(yNg (w.alloc _) 3 [2] _ 1 _ (by simp) rfl rfl (by decide) (by intro x b;simp at b;subst b;decide)).below ((Below.refl _ _).alloc (Nat.le_refl _) _) (Nat.le_refl _),yPm _ _ qPl _ _ _ (by simp) rfl rfl (by decide),(((Below.refl _ _).alloc (Nat.le_refl _) _).alloc (by simp) _).alloc (by simp;omega) _⟩
theorem yRn (w:World)(t:TypeId)(r:Rs)(c:r.wf):SeesR (w.alloc (.cells #[I4 r.E,.bool r.f,U8 r.v,.bool r.o,U8 r.k,U8 r.u] t)) (.slice (some ⟨w.heap.size,0,none⟩) 1 1) [r]:=by
 refine ⟨_,1,rfl,Nat.le_refl _,by unfold maxLen;omega,fun h=>(by cases h),by intro x b;simp at b;subst b;exact c,fun g=>⟨_,0,rfl,by simp,fun k d=>?_⟩⟩
 obtain rfl:k=0:=by simpa using d
 have a:=Hp.new w (rsC r) t;exact ⟨a.cell rfl,a.cell rfl,a.cell rfl,a.cell rfl,a.cell rfl,a.cell rfl⟩
theorem yEj (w:World):Cl 5 #[] w fun e N=>e=.returned (.bool true)/\Bw w N:=by
 obtain ⟨K,hK⟩:=yXp;have T:=qAa hK;have Q:Hid (qFs [2] qPl (20,3) 257 startE [⟨0,true,9,false,0,0⟩]=yKb):=yIv;clear hK;go_enter Tryz.func5,Tryz.ntmps5
 go_wp2_with (first
  | (go_at_call 22;go_must (refine (yHl w).mono ?_);rintro e c ⟨m,g,rfl,l,f,i⟩;go_must (have z:=qAa l;have r:=qAa f;clear l f))
  | (go_at_call 7;go_must (refine (yOj (20,3) (by decide) (rs:=[⟨0,true,9,false,0,0⟩]) _ (z.out.below (qGr _ _) (Nat.le_refl _)) (r.out.below (qGr _ _)) (yRn c _ ⟨0,true,9,false,0,0⟩ ⟨by decide,by decide⟩) T.out Q).mono ?_);rintro e O ⟨v,rfl,d,a⟩;go_must (have u:Bw c O:=(qGr c _).trans (a.mono (by simp));have s:=i.trans (u.mono i.size);have HO:=qAa d;obtain ⟨ga,cap,rfl,_,Y,n,V,o⟩:=yAk d (k:=2) (by decide);obtain ⟨X,F,M,_,_,_,_,y⟩:=yAk d (k:=3) (by decide);injection M with b Z e3;injection b with b;injection b with b e4;subst b;obtain ⟨B,R,J,D,A,S,L⟩:=o.seven;obtain ⟨b0,E,b2,U,I,P,G⟩:=y.seven;simp only [yKb,List.getD,List.getElem?_cons_succ,List.getElem?_cons_zero,Option.getD_some,Nat.reduceMul,Nat.reduceAdd,List.length_cons,List.length_nil] at B R J D A S L b0 E b2 U I P G n;clear d o y a)))
 go_ret;exact ⟨rfl,s⟩
theorem yKw {xs:List In}{nm:Nat}:∀ {n:Nat} {p:Nat} {E:Int},qEq xs nm n=.error (p,E)->p<n/\E≠0:=by
 intro n
 induction n with
 | zero=>intro p E h;rw [qEq] at h;cases h
 | succ n ih =>
  intro p E h;rw [qEq] at h
  cases h0:qEq xs nm n with
  | error e =>
   rw [h0] at h;simp only at h;injection h with h;subst h;have:=ih h0;exact ⟨by omega,this.2⟩
  | ok K =>
   rw [h0] at h;simp only at h
   cases a:qJq xs nm n K with
   | ok K'=>rw [a] at h;cases h
   | error e =>
    rw [a] at h;simp only at h;injection h with h;injection h with c b;subst c b;refine ⟨by omega,?_⟩;unfold qJq at a
    split at a
    ·cases a
    split at a
    ·injection a with a;subst a;assumption
    ·cases a
theorem yKi {H:Type}{enc:TypeId×Value->H}{W:World}{base i:Nat}{c:Nat->Bool}{a:Bool}{cs:List Value}{x:DataW H×List MemPlace}(h:DataW.trod enc Tryz.prog W base c a i 45 cs=some x):∃ (E:Int) (f:Bool) (v:Int) (o:Bool) (k u:Int),cs=[I4 E,.bool f,U8 v,.bool o,U8 k,U8 u]/\0<=v/\v<=18446744073709551615:=by
 obtain ⟨xs,n,rfl,T,J,d,b⟩:=DataW.trod_struct Tryz.underlying45 h
 have K:cs.length=6:=by rw [J];kernel_rfl
 have L:Tryz.prog.cellsOf 35=1:=by kernel_rfl
 have w:Tryz.prog.cellsOf 4=1:=by kernel_rfl
 have g:Tryz.prog.cellsOf 26=1:=by kernel_rfl
 match cs,K,xs,d,b with
 | [c0,c1,c2,c3,c4,c5],_,[x0,x1,x2,x3,x4,x5],_,b =>
  have h0:DataW.trod enc Tryz.prog W base c a n 35 (([c0,c1,c2,c3,c4,c5].drop 0).take (Tryz.prog.cellsOf 35))=some x0:=b 0 _ rfl;rw [L] at h0;have B:DataW.trod enc Tryz.prog W base c a n 4 (([c0,c1,c2,c3,c4,c5].drop 1).take (Tryz.prog.cellsOf 4))=some x1:=b 1 _ rfl;rw [w] at B;have y:DataW.trod enc Tryz.prog W base c a n 26 (([c0,c1,c2,c3,c4,c5].drop 2).take (Tryz.prog.cellsOf 26))=some x2:=b 2 _ rfl;rw [g] at y;have G:DataW.trod enc Tryz.prog W base c a n 4 (([c0,c1,c2,c3,c4,c5].drop 3).take (Tryz.prog.cellsOf 4))=some x3:=b 3 _ rfl;rw [w] at G;have D:DataW.trod enc Tryz.prog W base c a n 26 (([c0,c1,c2,c3,c4,c5].drop 4).take (Tryz.prog.cellsOf 26))=some x4:=b 4 _ rfl;rw [g] at D;have r:DataW.trod enc Tryz.prog W base c a n 26 (([c0,c1,c2,c3,c4,c5].drop 5).take (Tryz.prog.cellsOf 26))=some x5:=b 5 _ rfl;rw [g] at r;obtain ⟨E,e0,U,g0⟩:=DataW.trod_int Tryz.underlying35 h0;obtain ⟨f,F,N⟩:=DataW.trod_bool Tryz.underlying4 B;obtain ⟨v,l,R,I⟩:=DataW.trod_int Tryz.underlying26 y;obtain ⟨o,A,Q⟩:=DataW.trod_bool Tryz.underlying4 G;obtain ⟨k,s,P,O⟩:=DataW.trod_int Tryz.underlying26 D;obtain ⟨u,z,M,S⟩:=DataW.trod_int Tryz.underlying26 r
  simp at e0 F l A s z
  subst e0 F l A s z;exact ⟨E,f,v,o,k,u,rfl,bounds_u64 I⟩
theorem yDt {H:Type}{enc:TypeId×Value->H}{W:World}{v:Value}{d:DataW H}{p:List MemPlace}(U:∃ a r cap,v=.slice a r cap)(h:DataW.Trod enc Tryz.prog W 0 (fun _=>true) true 29 v d p) :
  ∃ xs,SeesR W v xs/\((d.weights Tryz.prog 29).all (·<=reachBytes)=true->xs.length*48<=140737488355328):=by
 obtain ⟨a,r,cap,rfl⟩:=U
 have c5:Tryz.prog.cellsOf 45=6:=by kernel_rfl
 obtain ⟨Z,hf⟩:=h
 rcases DataW.trod_slice Tryz.underlying29 hf with ⟨s,B⟩|⟨x,l,c,F,X,n,rfl,s,B,_,hl,hm,Y,S,a0,_⟩
 ·simp [Value.cells] at s B
  obtain ⟨rfl,rfl,rfl⟩:=s;obtain ⟨rfl,rfl⟩:=B;exact ⟨[],⟨none,0,rfl,by simp,by simp [maxLen],fun _=>rfl,by simp,fun h=>absurd rfl h⟩,fun _=>by simp⟩
 ·simp [Value.cells] at s B
  obtain ⟨rfl,rfl,rfl⟩:=s;obtain ⟨rfl,rfl⟩:=B
  have N:∀ i:Nat,∃ I:Rs,i<r->I.wf/\(∀ j,j<6->W.cell? ((x.add (i*6)).add j)=(rsC I)[j]?):=by
   intro i
   by_cases hi:i<r
   ·have G:=S i hi
    have R:i<F.length:=by omega
    rw [c5,List.getElem?_eq_getElem R,Option.bind_eq_some_iff] at G;obtain ⟨cs,P,Q⟩:=G;obtain ⟨E,f,v,o,k,u,rfl,hw⟩:=yKi Q;exact ⟨⟨E,f,v,o,k,u⟩,fun _=>⟨hw,(World.cells?_some P).2.2⟩⟩
   ·exact ⟨Rs.nil,fun h=>absurd h hi⟩
  obtain ⟨g,K⟩:=Classical.axiomOfChoice N
  have A:((List.range r).map g).length=r:=by simp
  have V:∀ k,k<r->((List.range r).map g).getD k Rs.nil=g k:=fun k z=>by simp [List.getD,z]
  refine ⟨(List.range r).map g,⟨some x,cap,by rw [A],by omega,hm,fun h=>by simp at h,?_,fun O=>?_⟩,?_⟩
  ·intro i hi;simp only [List.mem_map,List.mem_range] at hi;obtain ⟨k,z,rfl⟩:=hi;exact (K k z).1
  ·have L:0<r:=by
    rcases Nat.eq_zero_or_pos r with h0|h0
    ·subst h0;exact absurd rfl O
    ·exact h0
   obtain ⟨b,off,M⟩:=x;have J:=(K 0 L).2 0 (by omega)
   have D:M=none:=by
    have:=World.cell?_spot (show W.cell? _=some _ from J)
    simpa [Addr.add] using this
   subst D;refine ⟨b,off,rfl,?_,fun k z=>?_⟩
   ·have:=World.block_lt_of_cell? W _ (show W.cell? _=some _ from J)
    simpa [Addr.add] using this
   ·rw [A] at z;rw [V k z];have y:=(K k z).2;simp only [Addr.add_mid] at y;exact ⟨y 0 (by omega),y 1 (by omega),y 2 (by omega),y 3 (by omega),y 4 (by omega),y 5 (by omega)⟩
  ·intro w
   have T:Tryz.prog.bytesOf 45=48:=by kernel_rfl
   rw [DataW.weights,Tryz.underlying29] at w;simp only [List.all_cons,Bool.and_eq_true,decide_eq_true_eq,List.length_map,T] at w;have G:=w.1;unfold reachBytes at G;rw [A]
   omega
theorem ySe {H:Type}{enc:TypeId×Value->H}{W:World}{base:Nat}{v:Value}{d:DataW H}{p:List MemPlace}(L:Value.okWide Tryz.prog W .any base 31 v)(h:DataW.Trod enc Tryz.prog W 0 (fun _=>true) true 31 v d p) :
  ∃ vm vc r l vr i ms is rs,v=.agg #[vm,vc,U8 r,U8 l,vr,I4 i]/\SeesM W vm vc ms is/\SeesR W vr rs/\((0<=r/\r<=18446744073709551615)/\0<=l/\l<=18446744073709551615)/\(-9223372036854775808<=i/\i<=9223372036854775807)/\((d.weights Tryz.prog 31).all (·<=reachBytes)=true->ms.length*8<=140737488351232/\is.length*40<=140737488355328/\rs.length*48<=140737488355328):=by
 obtain ⟨cs,rfl,_⟩:=okWide_struct Tryz.underlying31 L;obtain ⟨U,c⟩:=h;obtain ⟨xs,n,_,hx,X,A,c⟩:=DataW.trod_struct Tryz.underlying31 c
 have e6:Tryz.prog.cellsOf 31=6:=by kernel_rfl
 have G:cs.toList.length=6:=X.trans e6
 have u0:Tryz.prog.cellsOf 25=2:=by kernel_rfl
 have V:Tryz.prog.cellsOf 28=2:=by kernel_rfl
 have Q:Tryz.prog.cellsOf 29=1:=by kernel_rfl
 have T:Tryz.prog.cellsOf 3=1:=by kernel_rfl
 have u4:Tryz.prog.cellsOf 22=1:=by kernel_rfl
 have Z:Tryz.prog.cellsOf 23=1:=by kernel_rfl
 have F:Tryz.prog.cellsOf 26=1:=by kernel_rfl
 obtain ⟨cl⟩:=cs;simp only [Value.cells] at c G
 match cl,G,xs,A,c with
 | [c0,c1,c2,c3,c4,c5],_,[x0,x1,x2,x3],_,c =>
  have h0:DataW.trod enc Tryz.prog W 0 (fun _=>true) true n 25 (([c0,c1,c2,c3,c4,c5].drop 0).take (Tryz.prog.cellsOf 25))=some x0:=c 0 _ rfl;rw [u0] at h0;have w:DataW.trod enc Tryz.prog W 0 (fun _=>true) true n 28 (([c0,c1,c2,c3,c4,c5].drop 2).take (Tryz.prog.cellsOf 28))=some x1:=c 1 _ rfl;rw [V] at w;have o:DataW.trod enc Tryz.prog W 0 (fun _=>true) true n 29 (([c0,c1,c2,c3,c4,c5].drop 4).take (Tryz.prog.cellsOf 29))=some x2:=c 2 _ rfl;rw [Q] at o;have z:DataW.trod enc Tryz.prog W 0 (fun _=>true) true n 3 (([c0,c1,c2,c3,c4,c5].drop 5).take (Tryz.prog.cellsOf 3))=some x3:=c 3 _ rfl;rw [T] at z;have h0:DataW.trod enc Tryz.prog W 0 (fun _=>true) true n 25 [c0,c1]=some x0:=h0;have w:DataW.trod enc Tryz.prog W 0 (fun _=>true) true n 28 [c2,c3]=some x1:=w;have o:DataW.trod enc Tryz.prog W 0 (fun _=>true) true n 29 [c4]=some x2:=o;have z:DataW.trod enc Tryz.prog W 0 (fun _=>true) true n 3 [c5]=some x3:=z;obtain ⟨Y,m,_,M,_,s,u⟩:=DataW.trod_struct Tryz.underlying25 h0;obtain ⟨zs,K,_,_,_,y,f⟩:=DataW.trod_struct Tryz.underlying28 w
  match Y,s,u,zs,y,f with
  | [y0,y1],_,u,[z0,z1],_,f =>
   have k0:DataW.trod enc Tryz.prog W 0 (fun _=>true) true m 22 (([c0,c1].drop 0).take (Tryz.prog.cellsOf 22))=some y0:=u 0 _ rfl;rw [u4] at k0;have g:DataW.trod enc Tryz.prog W 0 (fun _=>true) true m 23 (([c0,c1].drop 1).take (Tryz.prog.cellsOf 23))=some y1:=u 1 _ rfl;rw [Z] at g;have g0:DataW.trod enc Tryz.prog W 0 (fun _=>true) true K 26 (([c2,c3].drop 0).take (Tryz.prog.cellsOf 26))=some z0:=f 0 _ rfl;rw [F] at g0;have J:DataW.trod enc Tryz.prog W 0 (fun _=>true) true K 26 (([c2,c3].drop 1).take (Tryz.prog.cellsOf 26))=some z1:=f 1 _ rfl;rw [F] at J;have k0:DataW.trod enc Tryz.prog W 0 (fun _=>true) true m 22 [c0]=some y0:=k0;have g:DataW.trod enc Tryz.prog W 0 (fun _=>true) true m 23 [c1]=some y1:=g;obtain ⟨r,D,_,w2⟩:=DataW.trod_int Tryz.underlying26 g0;obtain ⟨l,I,_,N⟩:=DataW.trod_int Tryz.underlying26 J;obtain ⟨i,E,_,R⟩:=DataW.trod_int Tryz.underlying3 z
   simp at D I E
   subst D I E;obtain ⟨a0,l0,q0,rfl⟩:=qMv Tryz.underlying22 k0;obtain ⟨a1,l1,q1,rfl⟩:=qMv Tryz.underlying23 g;obtain ⟨a2,l2,q2,rfl⟩:=qMv Tryz.underlying29 o;obtain ⟨ms,s0,b0⟩:=yCt (k:=.i64) (d:=y0.1) (p:=y0.2) Tryz.underlying22 Tryz.underlying3 (by kernel_rfl) ⟨_,_,_,rfl⟩ ⟨m,k0⟩;obtain ⟨is,⟨s1,S⟩,_,P⟩:=qZk (d:=y1.1) (p:=y1.2) ⟨_,_,_,rfl⟩ ⟨m,g⟩;obtain ⟨rs,O,b2⟩:=yDt (d:=x2.1) (p:=x2.2) ⟨_,_,_,rfl⟩ ⟨n,o⟩;refine ⟨_,_,r,l,_,i,ms,is,rs,rfl,⟨s0,s1,S⟩,O,⟨bounds_u64 w2,bounds_u64 N⟩,bounds_i64 R,fun b=>?_⟩;have hd:d=.agg [x0.1,x1.1,x2.1,x3.1]:=congrArg (·.1) hx;have B:x0.1=.agg [y0.1,y1.1]:=congrArg (·.1) M;rw [hd,DataW.weights,Tryz.underlying31] at b;simp only [DataW.weightsEach,List.map_cons,List.map_nil,List.all_append,Bool.and_eq_true] at b;have a:=b.1;rw [B,DataW.weights,Tryz.underlying25] at a;simp only [DataW.weightsEach,List.map_cons,List.map_nil,List.all_append,Bool.and_eq_true] at a
   have b8:Tryz.prog.bytesOf 3=8:=by kernel_rfl
   have r0:=b0 a.1;rw [b8] at r0;exact ⟨by unfold reachBytes at r0;omega,P a.2.1,b2 b.2.2.1⟩
end Go.Proofs.YtmdhljoicnommaaGreat
