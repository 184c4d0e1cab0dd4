/-
  E11LClone
  E11LNew
  E11LTrace
  E11Awake
  W11Alike
  W11Err
  E11Open
-/
import Derived.Test.YtmdhljoicnommaaGreatMS49
import Derived.Test.YtmdhljoicnommaaGreatMS48
namespace Go.Proofs.YtmdhljoicnommaaGreat
set_option maxHeartbeats 12800000
open Go.RowKit
set_option linter.unusedVariables false
set_option linter.unusedSimpArgs false
set_option maxRecDepth 100000
open Go.ChangeShapes Go.WideShapes Go.ChangeAt Go.RowKit
theorem own_emptyE (w:World)(e:TypeId)(k:IntKind):(w.alloc (.cells #[] e)).ownsRow w.heap.size e 1 (.slice (some ⟨w.heap.size,0,none⟩) 0 0) ([]:List Int).length (([]:List Int).map (Value.int k)):=by
 refine ⟨rfl,.inr ⟨w.heap.size,0,#[],rfl,Nat.le_refl _,?_,Nat.le_refl _,by simp [maxLen],rfl,rfl⟩⟩
 show (w.heap.push _)[w.heap.size]? = _
 simp
theorem grown_newE {w a:World}{o:Obj}(b:(w.alloc o).grownBy a (some w.heap.size)):Bw w a :=
 ((Below.refl w.heap.size w).alloc (Nat.le_refl _) o).grown b (by simp) (fun k c=>(by have h:w.heap.size=k:=Option.some.inj c;omega))
theorem mcloneN (v:Value)(xs:List Int)(w:World)(i:Sees .i64 w v xs)(I:xs.length<=1048576) :
  Cl 25 #[v] w fun e y=>∃ u,e=.returned u/\Sees .i64 y u xs/\(xs=[]∨∀ j,u.ownBlock=some j->w.heap.size<=j)/\Bw w y:=by
 obtain ⟨B,hi,k,l,s⟩:=info_parts infoInt9;have d:=keepJ i;have n:=i.wf;obtain ⟨a,cap,rfl,L,J,G,K,f⟩:=i
 cases a with
 | none =>
  obtain rfl:xs=[]:=by
   by_cases h:xs=[]
   ·exact h
   ·obtain ⟨_,_,e,_⟩:=f h
    cases e
  obtain rfl:=G rfl;clear f
  have z:∀ wx:World,(Go.binOp .eql 22 (.slice none 0 0) (.slice none 0 0)).run Tryz.prog wx=.ok (.bool true) wx:=fun _=>by kernel_rfl
  go_enter Tryz.func25,Tryz.ntmps25;go_wp2;go_ret
  first
   | exact ⟨_,rfl,d.out,.inl rfl,Below.refl _ _⟩
   | exact ⟨_,rfl,d.out,Below.refl _ _⟩
 | some ad =>
  obtain ⟨A,off,q⟩:=ad
  have z:∀ wx:World,(Go.binOp .eql 22 (.slice (some ⟨A,off,q⟩) xs.length cap) (.slice none 0 0)).run Tryz.prog wx=.ok (.bool false) wx:=fun _=>by kernel_rfl
  clear f;go_enter Tryz.func25,Tryz.ntmps25
  go_wp2_with (at_builtin;go_must (refine wpList_append_sees rfl (.tmp 5) (.tmp 6) 22 rfl w.heap.size 3 B (I4 0) 8 Tryz.underlying22 hi k l s rfl .i64 (.slice (some ⟨w.heap.size,0,none⟩) 0 0) [] rfl (own_emptyE w _ _) _ xs rfl (d.out.below ((Below.refl _ _).alloc (Nat.le_refl _) _) (Nat.le_refl _)) (by unfold maxLen;simp;omega) (by simp;omega) (by simp) ?_);intro D F b r)
  go_ret
  have o:F.ownsRow w.heap.size 3 1 D xs.length (xs.map (Value.int .i64)):=by simpa using b
  refine ⟨_,rfl,Sees.own o n,?_,grown_newE r⟩
  by_cases h:xs=[]
  ·exact .inl h
  ·refine .inr fun j E=>?_
   obtain ⟨g,c,rfl,M,_⟩:=own_block o (List.length_pos_iff.2 h);have:g=j:=Option.some.inj E
   omega
theorem mcloneI (cb co ccap:Nat)(xs:List In)(w:World)(f:SeesI w (.slice (some ⟨cb,co,none⟩) xs.length ccap) xs)(o:xs.length<=1048576) :
  Cl 26 #[.slice (some ⟨cb,co,none⟩) xs.length ccap] w fun e g=>∃ u,e=.returned u/\g.ownsRow w.heap.size 43 5 u xs.length (flat xs)/\Bw w g:=by
 obtain ⟨l,hi,b,i,d⟩:=info_parts infoInst9;have k:=keepJ f
 have n:∀ wx:World,(Go.binOp .eql 23 (.slice (some ⟨cb,co,none⟩) xs.length ccap) (.slice none 0 0)).run Tryz.prog wx=.ok (.bool false) wx:=fun _=>by kernel_rfl
 clear f;go_enter Tryz.func26,Tryz.ntmps26
 go_wp2_with (at_builtin;go_must (refine wpList_append_seesI rfl (.tmp 5) (.tmp 6) 23 rfl w.heap.size 43 l (instV 0 0 0 0 0) Tryz.underlying23 hi b i d rfl (.slice (some ⟨w.heap.size,0,none⟩) 0 0) [] rfl (own_empty w _) _ xs rfl (k.out.below ((Below.refl _ _).alloc (Nat.le_refl _) _)) (by unfold maxLen;simp;omega) (by simp;omega) (by simp) ?_);intro s r a c)
 go_ret;exact ⟨_,rfl,by simpa using a,grown_newE c⟩
section
variable {w:World} {b sb cb co ccap:Nat} {vm vc:Value} {ms:List Int} {xs:List In} {ev:Int×Int} {M:Mc}
theorem manswer_all {a:List St}(hK:Known xs ms.length a)(n:Safe xs ms.length a M)(h:Mh w b sb vm cb co ccap ms xs ev M)(hm:M.mode=1)(E:Int)(f:Bool)(v:Int)(o:Bool)(k u:Int)(r:0<=v/\v<=18446744073709551615) :
  Cl 17 #[.pointer (some ⟨b,0,none⟩),resV E f v o k u] w fun e c=>e=.returned (I4 0)/\Chg w c (fun k=>k=b∨k=sb)/\Mh c b sb vm cb co ccap ms xs ev (answerE xs M E f v):=by
 have s:=(safe_answer (E:=E) (f:=f) hK n hm r).1;have l:M.pc+1<64:=Nat.lt_of_lt_of_le s.pc hK.T.top;refine (manswer_yes E f v o k u w h.ma hm h.code n.pc l h.cn.1 r rfl).mono ?_;rintro e c ⟨rfl,d,g⟩;have i:Chg w c (fun k=>k=b∨k=sb):=Chg.of_grown d (.inl rfl);exact ⟨rfl,i,h.step i g (h.sc.grown d (show some sb≠some b from fun e=>h.ne (Option.some.inj e).symm))⟩
end
abbrev evV (ev:Int×Int):Value:=.agg #[.int .u64 ev.1,.int .u64 ev.2]
theorem mnew_nil (b c:Value)(ev:Int×Int)(w:World) :
  Cl 11 #[.agg #[b,c],evV ev,.pointer none] w fun e a=>e=.returned (.tuple #[.pointer none,I4 2])/\Bw w a:=by
 go_enter Tryz.func11,Tryz.ntmps11;go_wp2;go_ret2;exact ⟨rfl,by go_grown⟩
theorem mnew_bad {b c:Value}{ms:List Int}{xs:List In}(ev:Int×Int)(sb:Nat)(w:World)(hm:Sees .i64 w b ms)(i:SeesI w c xs){P E:Int}(o:Hid (judgeR ms xs=(P,E)))(k:E≠0) :
  Cl 11 #[.agg #[b,c],evV ev,.pointer (some ⟨sb,0,none⟩)] w fun e l=>e=.returned (.tuple #[.pointer none,I4 E])/\Bw w l:=by
 have r:¬ E=0:=k
 have s:(E==0)=false:=by simpa using k
 obtain ⟨V,n,a⟩:∃ V,Hid ((w.alloc (.cells #[b,c] 25)).alloc (.cells #[U8 ev.1,U8 ev.2] 28)=V)/\Bw w V:=⟨_,rfl,by go_grown⟩;have g:=keepJ (hm.below a (Nat.le_refl _));have f:=keepJ (i.below a);clear hm i;go_enter Tryz.func11,Tryz.ntmps11
 go_wp2_with (go_at_call 23;rw [n.out];go_must (refine (ljudge_as g.out f.out o).mono ?_);rintro e u ⟨rfl,d⟩)
 go_ret2;exact ⟨rfl,a.trans (d.mono a.size)⟩
def NewOk (w w':World) (sb:Nat) (ms:List Int) (xs:List In) (ev:Int×Int) (cs:List Int) (e:Ending):Prop:=∃ (b cb' ccap':Nat) (um:Value),e=.returned (.tuple #[.pointer (some ⟨b,0,none⟩),.int .i64 0])/\w.heap.size<=b/\Mh w' b sb um cb' 0 ccap' ms xs ev { startE with cs:=cs }/\Chg w w' (fun k=>k=sb)/\w.heap.size<=cb'/\(ms=[]∨∀ j,um.ownBlock=some j->w.heap.size<=j)
theorem sees_ltE {k:IntKind}{w:World}{v:Value}{xs:List Int}(h:Sees k w v xs){j:Nat}(d:v.ownBlock=some j):xs=[]∨j<w.heap.size:=by
 obtain ⟨a,cap,rfl,i,hm,g,l,c⟩:=h
 by_cases hne:xs=[]
 ·exact .inl hne
 ·obtain ⟨b,off,rfl,f,_⟩:=c hne;have:b=j:=Option.some.inj d;exact .inr (by omega)
theorem mnew_ok {i:Value}{l s a:Nat}{ms:List Int}{xs:List In}(ev:Int×Int)(sb:Nat){ws cs:List Int}(w:World)(hm:Sees .i64 w i ms)(hx:SeesI w (.slice (some ⟨l,s,none⟩) xs.length a) xs)(hs:Sc w sb ws cs)(hj:Hid (judgeR ms xs=(0,0)))(a7:ms.length<=1048576)(a2:ms=[]∨i.ownBlock≠some sb)(a1:l≠sb)(a6:0<xs.length/\xs.length<=64) :
  Cl 11 #[.agg #[i,.slice (some ⟨l,s,none⟩) xs.length a],evV ev,.pointer (some ⟨sb,0,none⟩)] w fun e A=>NewOk w A sb ms xs ev cs e:=by
 obtain ⟨V,HV,o,X,D⟩:∃ V,Hid ((w.alloc (.cells #[i,.slice (some ⟨l,s,none⟩) xs.length a] 25)).alloc (.cells #[U8 ev.1,U8 ev.2] 28)=V)/\Bw w V/\Hid (Hp V w.heap.size 25 [i,.slice (some ⟨l,s,none⟩) xs.length a])/\Hid (Hp V (w.heap.size+1) 28 [U8 ev.1,U8 ev.2]) :=
  ⟨_,rfl,by go_grown,(Hp.new w _ _).alloc _,by have:=Hp.new (w.alloc (.cells #[i,.slice (some ⟨l,s,none⟩) xs.length a] 25)) [U8 ev.1,U8 ev.2] 28;rw [World.size_alloc] at this;exact this⟩
 have M:=keepJ (hm.below o (Nat.le_refl _));have R:=keepJ (hx.below o);have P:=keepJ (hs.below o hs.lt);have ak:=hs.lt
 have am:w.heap.size+2<=V.heap.size:=by have:=D.out.lt;omega
 clear hm hx;go_enter Tryz.func11,Tryz.ntmps11
 go_wp2_with (first
  | (go_at_call 23;rw [HV.out];go_must (refine (ljudge_as M.out R.out hj).mono ?_);rintro e w4 ⟨rfl,b⟩;go_must (have ac:=keepJ (P.out.below b P.out.lt)))
  | (go_at_call 24;go_must (refine (wipe_any w4 ac.out).mono ?_);rintro e c ⟨rfl,U,d⟩))
 have a8:Bw w w4:=o.trans (b.mono o.size);have af:=keepJ ((Chg.of_below (S:=fun k=>k=sb) a8).trans (Chg.of_grown (S:=fun k=>k=sb) d rfl) (fun _ _ e=>e));have aj:=b.size;have ag:=d.size;have O:=keepJ ((X.out.below b X.out.lt).grown d (show some w.heap.size≠some sb from fun e=>by have:=Option.some.inj e;omega));have L:=keepJ ((D.out.below b D.out.lt).grown d (show some (w.heap.size+1)≠some sb from fun e=>by have:=Option.some.inj e;omega));have a5:=keepJ ((M.out.below b (Nat.le_refl _)).kept d a2);have a3:=keepJ ((R.out.below b).chg (Chg.of_grown (S:=fun k=>k=sb) d rfl) a1)
 have I:Hid (∀ z:World,Bw c z->z.cell? ⟨w.heap.size,0,none⟩=some i/\z.cell? ⟨w.heap.size,1,none⟩=some (.slice (some ⟨l,s,none⟩) xs.length a)/\z.cell? ⟨w.heap.size+1,0,none⟩=some (U8 ev.1)/\z.cell? ⟨w.heap.size+1,1,none⟩=some (U8 ev.2)):=fun z K=>⟨(O.out.below K (by omega)).cell rfl,(O.out.below K (by omega)).cell rfl,(L.out.below K (by omega)).cell rfl,(L.out.below K (by omega)).cell rfl⟩
 refine wp_region_held_drew (S:=fun A=>A.cell? ⟨w.heap.size,0,none⟩=some i/\A.cell? ⟨w.heap.size,1,none⟩=some (.slice (some ⟨l,s,none⟩) xs.length a)/\A.cell? ⟨w.heap.size+1,0,none⟩=some (U8 ev.1)/\A.cell? ⟨w.heap.size+1,1,none⟩=some (U8 ev.2)) (by kernel_rfl) (I.out _ (qAj (Below.refl _ _))) (fun hHeld=>?_);refine tkGo [0,1,2,4,5,7] ?_
 repeat (refine tkO (v:=?_) rfl ?_ ?_;rotate_left;(intro wy hSw;(try dsimp only at hSw);go_simp;(first|done|with_reducible rfl));try simp only [Act.put,p1q,p2q,p3q,p4q,p5q,p6q])
 refine tkEnd ?_;refine runO 3 (by kernel_rfl) rfl (by rfl) (fun KK hK=>?_);go_simp
 go_at_call 25
 refine (mcloneN i ms c.drew a5.out a7).mono ?_;rintro e Z ⟨um,rfl,N,a0,a4⟩;have T:ms=[]∨∀ j,um.ownBlock=some j->c.heap.size<=j:=a0;have Y:=keepJ N;obtain ⟨J,mcap,rfl,_,_,_,_,_⟩:=N;have y:Bw c Z:=qAf a4;have ae:=y.size;go_simp;refine hK.out _ _ (I.out Z y) (fun hHeld=>?_);clear hK KK
 try simp only [Act.put,p1q,p2q,p3q,p4q,p5q,p6q]
 have aa:=keepJ (a3.out.below y);refine runO 6 (by kernel_rfl) rfl (by rfl) (fun KK hK=>?_);go_simp
 go_at_call 26
 refine (mcloneI l s a xs Z aa.out (by omega)).mono ?_;rintro e n ⟨uc,rfl,B,E⟩;have ad:=keepJ B;obtain ⟨g,f,rfl,ai,ah,_⟩:=own_block B a6.1;clear B;go_simp;have al:=E.size;have Q:Bw c n:=y.trans (E.mono ae);refine hK.out _ _ (I.out n Q) (fun hHeld=>?_);clear hK KK
 try simp only [Act.put,p1q,p2q,p3q,p4q,p5q,p6q]
 refine tkGo [8] ?_
 repeat (refine tkO (v:=?_) rfl ?_ ?_;rotate_left;(intro wy hSw;(try dsimp only at hSw);go_simp;(first|done|with_reducible rfl));try simp only [Act.put,p1q,p2q,p3q,p4q,p5q,p6q])
 refine tkEnd ?_;refine runO 9 (by kernel_rfl) rfl (by rfl) (fun KK hK=>?_);go_simp;obtain ⟨F,HF,a9,G⟩:∃ F,Hid (n.alloc (.cells (((((Tryz.zeroCells93.setIfInBounds 0 (U8 ev.1)).setIfInBounds 1 (U8 ev.2)).setIfInBounds 2 (.slice J ms.length mcap)).setIfInBounds 3 (.slice (some ⟨g,0,none⟩) xs.length f)).setIfInBounds 4 (.pointer (some ⟨sb,0,none⟩))) 93)=F)/\Hid (Hp F n.heap.size 93 (mcC (.slice J ms.length mcap) (.slice (some ⟨g,0,none⟩) xs.length f) ev sb { startE with cs:=cs }))/\Bw n F :=
  ⟨_,rfl,Hp.new n (mcC (.slice J ms.length mcap) (.slice (some ⟨g,0,none⟩) xs.length f) ev sb { startE with cs:=cs }) _,(Below.refl _ _).alloc (Nat.le_refl _) _⟩
 rw [HF.out];have u:Bw c F:=Q.trans (G.mono (by omega));refine hK.out _ _ (I.out F u) (fun hHeld=>?_);clear hK KK
 try simp only [Act.put,p1q,p2q,p3q,p4q,p5q,p6q]
 refine tkGo [10,11] ?_
 repeat (refine tkO (v:=?_) rfl ?_ ?_;rotate_left;(intro wy hSw;(try dsimp only at hSw);go_simp;(first|done|with_reducible rfl));try simp only [Act.put,p1q,p2q,p3q,p4q,p5q,p6q])
 refine tkEnd ?_;refine wpAnyH_done (by kernel_rfl) ?_ _;go_wp2;go_ret2;have hz:WR (List.replicate 8 (0:Int)):=⟨rfl,fun r hr=>by rw [show (List.replicate 8 (0:Int)).getD r 0=0 by rw [List.getD_eq_getElem?_getD,List.getElem?_replicate,if_pos hr];rfl];decide⟩;have ab:=(U.below u U.lt);refine ⟨n.heap.size,g,f,.slice J ms.length mcap,rfl,by omega,⟨⟨a9.out,hz,show 0<64 by decide⟩,ab,(Y.out.below E (Nat.le_refl _)).below G (Nat.le_refl _),(own_seesI ad.out).below G,by omega,?_,by omega,by omega⟩,af.out.trans (Chg.of_below (S:=fun _=>False) u) (fun _ _ e=>e.elim),by omega,T.imp id fun h j hj=>by have:=h j hj;omega⟩
 by_cases hms:ms=[]
 ·exact .inl hms
 refine .inr ⟨fun e=>?_,fun e=>?_⟩
 ·rcases sees_ltE Y.out e with h|h
  ·exact hms h
  ·omega
 ·rcases T with h|h
  ·exact hms h
  ·have:=h _ e;omega
theorem inq_errorE {ms:List Int}{xs:List In}{P E:Int}(h:inqR ms xs=.error (P,E))(c:∀ e:Nat×Int,runK xs ms.length xs.length=.error e->e.2≠0):E≠0:=by
 unfold inqR at h
 split at h
 ·injection h with h;injection h with b a;subst a;decide
 split at h
 ·rename_i hE
  injection h with h;injection h with b a;subst a;exact hE
 split at h
 ·rename_i e he
  injection h with h;injection h with b a;subst a;exact c e he
 ·cases h
theorem judge_known {ms:List Int}{xs:List In}{K:Kn}(h:inqR ms xs=.ok K):mapsJ ms=true/\(∃ a,Known xs ms.length a/\Pull xs ms.length xs.length K a)/\judgeR ms xs=(0,0):=by
 have f:judgeR ms xs=(0,0):=by unfold judgeR;rw [h]
 unfold inqR at h
 split at h
 ·cases h
 rename_i hm
 split at h
 ·cases h
 rename_i hE
 have c:Taken xs:=check_ok.1 (show errL xs=0 from Decidable.of_not_not hE);refine ⟨by simpa using hm,?_,f⟩
 split at h
 ·cases h
 rename_i K' hr
 injection h with h;subst h
 rcases pull_run (nm:=ms.length) c xs.length (Nat.le_refl _) with ⟨e,b,_⟩|⟨i,a,b,g,d⟩
 ·rw [hr] at b;cases b
 ·rw [hr] at b;injection b with b;subst b;exact ⟨a,⟨c,g⟩,d⟩
theorem maps_len {ms:List Int}(h:mapsJ ms=true):ms.length<=4:=by
 unfold mapsJ at h
 simp at h
 exact h.1
def lenV:Value->Nat
 | .slice _ n _=>n
 | _=>0
theorem own_lenV {w:World}{base:Nat}{e:TypeId}{z:Nat}{v:Value}{n:Nat}{xs:List Value}(h:w.ownsRow base e z v n xs):lenV v=n:=by
 rcases h with ⟨c,⟨rfl,a⟩|⟨g,cap,b,rfl,_⟩⟩
 ·exact a.symm
 ·rfl
theorem step_actE {w wr c:World}{B:Nat}{e:TypeId}{v d:Value}{o:Obj}{a:List Ac}{A:Ac}(f:wr.ownsRow B e 7 v a.length (flatX a))(b:c.ownsRow B e 7 d (a.length+1) (flatX a++acC A)):c.ownsRow B e 7 d (a++[A]).length (flatX (a++[A])):=by
 rw [<- flatX_app]
 simpa [flatX] using b
theorem act_more {w0 a Y c:World}{B W b sb z J l:Nat}{y:Value}{ms:List Int}{xs:List In}{ev:Int×Int}{F:Mc}{e:TypeId}{i G:Value}{o:Obj}{A:List Ac}{A1:Ac}(d:a.ownsRow B e 7 i A.length (flatX A))(r:Bw a Y)(N:Y.heap.size=a.heap.size+1)(E:Hp Y a.heap.size 80 (acC A1))(D:Mh a b sb y z J l ms xs ev F)(O:b<B/\sb<B/\z<B)(I:ms=[]∨∀ j,y.ownBlock=some j->j<B)(s:Below W w0 a)(hW:W<=B)(P:W<=w0.heap.size)(n:c.ownsRow B e 7 G (A.length+1) (flatX A++acC A1))(f:(Y.alloc o).grownBy c i.ownBlock) :
  c.ownsRow B e 7 G (A++[A1]).length (flatX (A++[A1]))/\Hp c a.heap.size 80 (acC A1)/\Below W w0 c/\Mh c b sb y z J l ms xs ev F/\a.heap.size+2<=c.heap.size:=by
 have u:Chg Y c (fun k=>i.ownBlock=some k):=(Chg.of_below (S:=fun k=>i.ownBlock=some k) (qDa Y o)).trans (Chg.of_grown' f (S:=fun k=>i.ownBlock=some k) (fun b M=>M)) (fun _ _ e=>e)
 have Q:Y.heap.size+1<=c.heap.size:=by
  have:=f.size;rw [World.size_alloc] at this;exact this
 have R:=s.size
 have g:=fun k (hk:i.ownBlock=some k)=>d.lt k hk
 have K:Below W a Y:=r.mono (by omega);refine ⟨step_actE (w:=a) (o:=o) d n,E.chg u (fun e=>by have:=(g _ e).2;omega),(s.trans K).trans (u.below (fun k e=>by have:=(g k e).1;omega) (by omega)),(D.below r).apart u (fun e=>by have:=(g _ e).1;omega) (fun e=>by have:=(g _ e).1;omega) (fun e=>by have:=(g _ e).1;omega) (I.imp id fun h j L e=>by have:=h j L;have:=(g _ e).1;omega),by omega⟩
theorem mtrace_bad {c b:Value}{ms:List Int}{xs:List In}(ev:Int×Int)(K:Value)(w:World)(hm:Sees .i64 w c ms)(I:SeesI w b xs){P E:Int}(L:Hid (judgeR ms xs=(P,E)))(u:E≠0) :
  Cl 7 #[.agg #[c,b],evV ev,K] w fun e k=>e=.returned (.tuple #[.slice none 0 0,I4 E])/\Bw w k:=by
 have Q:¬ E=0:=u
 have R:(E==0)=false:=by simpa using u
 obtain ⟨V,M,f,d,g⟩:∃ V,Hid ((w.alloc (.cells #[c,b] 25)).alloc (.cells #[U8 ev.1,U8 ev.2] 28)=V)/\Bw w V/\Hid (Hp V w.heap.size 25 [c,b])/\Hid (Hp V (w.heap.size+1) 28 [U8 ev.1,U8 ev.2]) :=
  ⟨_,rfl,by go_grown,(Hp.new w _ _).alloc _,by have:=Hp.new (w.alloc (.cells #[c,b] 25)) [U8 ev.1,U8 ev.2] 28;rw [World.size_alloc] at this;exact this⟩
 have A:=keepJ (hm.below f (Nat.le_refl _));have G:=keepJ (I.below f)
 have s:Hid (∀ i:World,Bw V i->i.cell? ⟨w.heap.size,0,none⟩=some c/\i.cell? ⟨w.heap.size,1,none⟩=some b/\i.cell? ⟨w.heap.size+1,0,none⟩=some (U8 ev.1)/\i.cell? ⟨w.heap.size+1,1,none⟩=some (U8 ev.2)):=fun i l=>⟨(d.out.below l d.out.lt).cell rfl,(d.out.below l d.out.lt).cell rfl,(g.out.below l g.out.lt).cell rfl,(g.out.below l g.out.lt).cell rfl⟩
 clear hm I;go_enter Tryz.func7,Tryz.ntmps7;go_wp2;rw [M.out]
 go_region_held3 (fun k=>k.cell? ⟨w.heap.size,0,none⟩=some c/\k.cell? ⟨w.heap.size,1,none⟩=some b/\k.cell? ⟨w.heap.size+1,0,none⟩=some (U8 ev.1)/\k.cell? ⟨w.heap.size+1,1,none⟩=some (U8 ev.2))
  (first|with_reducible exact D|with_reducible exact z|exact s.out V (Below.refl _ _))
  (first
   | (go_at_call 10;go_must (refine (new_any V.drew).mono ?_);rintro e o ⟨rfl,N,O,r⟩;go_must (have a:Bw V o:=qAf r;have D:=s.out o a;have y:=keepJ (A.out.below a (Nat.le_refl _));have F:=keepJ (G.out.below a)))
   | (go_at_call 11;go_must (refine (mnew_bad ev _ o y.out F.out L u).mono ?_);rintro e B ⟨rfl,J⟩;go_must (have n:Bw V B:=a.trans (J.mono a.size);have z:=s.out B n)))
 go_wp2;go_ret2;exact ⟨rfl,f.trans (n.mono f.size)⟩
def TraceOk (w w':World) (T:List Ac) (e:Ending):Prop:=∃ v,e=.returned (.tuple #[v,.int .i64 0])/\w'.ownsRow w.heap.size 80 7 v T.length (flatX T)/\Below w.heap.size w w'
theorem mtrace_ok {Z:Value}{cb co y:Nat}{ms:List Int}{xs:List In}(ev:Int×Int)(bg:(0<=ev.1/\ev.1<=18446744073709551615)/\0<=ev.2/\ev.2<=18446744073709551615){vr:Value}{rs:List Rs}(w:World)(hm:Sees .i64 w Z ms)(hx:SeesI w (.slice (some ⟨cb,co,none⟩) xs.length y) xs)(af:SeesR w vr rs){K:Kn}(hK:inqR ms xs=.ok K){T:List Ac}(HT:Hid (traceE ms xs ev 257 startE rs=T)) :
  Cl 7 #[.agg #[Z,.slice (some ⟨cb,co,none⟩) xs.length y],evV ev,vr] w fun e U=>TraceOk w U T e:=by
 obtain ⟨cc,⟨b5,s,_⟩,c7⟩:=judge_known hK;have hj:Hid (judgeR ms xs=(0,0)):=c7;have cq:=maps_len cc;have ae:0<xs.length/\xs.length<=64:=⟨s.T.pos,s.T.top⟩;obtain ⟨i0,hi,bt,ah,c4⟩:=info_parts Tryz.infoActE;obtain ⟨V,HV,ab,a7,a3⟩:∃ V,Hid ((w.alloc (.cells #[Z,.slice (some ⟨cb,co,none⟩) xs.length y] 25)).alloc (.cells #[U8 ev.1,U8 ev.2] 28)=V)/\Bw w V/\Hid (Hp V w.heap.size 25 [Z,.slice (some ⟨cb,co,none⟩) xs.length y])/\Hid (Hp V (w.heap.size+1) 28 [U8 ev.1,U8 ev.2]) :=
  ⟨_,rfl,by go_grown,(Hp.new w _ _).alloc _,by have:=Hp.new (w.alloc (.cells #[Z,.slice (some ⟨cb,co,none⟩) xs.length y] 25)) [U8 ev.1,U8 ev.2] 28;rw [World.size_alloc] at this;exact this⟩
 have bu:=keepJ (hm.below ab (Nat.le_refl _));have c3:=keepJ (hx.below ab)
 have HP:Hid (∀ I:World,Bw V I->I.cell? ⟨w.heap.size,0,none⟩=some Z/\I.cell? ⟨w.heap.size,1,none⟩=some (.slice (some ⟨cb,co,none⟩) xs.length y)/\I.cell? ⟨w.heap.size+1,0,none⟩=some (U8 ev.1)/\I.cell? ⟨w.heap.size+1,1,none⟩=some (U8 ev.2)):=fun I hb=>⟨(a7.out.below hb a7.out.lt).cell rfl,(a7.out.below hb a7.out.lt).cell rfl,(a3.out.below hb a3.out.lt).cell rfl,(a3.out.below hb a3.out.lt).cell rfl⟩
 have cm:cb<w.heap.size:=(codeL hx ae.1).2.1
 have bs:ms=[]∨∀ j,Z.ownBlock=some j->j<w.heap.size:=by
  by_cases h:ms=[]
  ·exact .inl h
  ·exact .inr fun j hj=>(sees_ltE hm hj).resolve_left h
 have c5:=keepJ af
 obtain ⟨ra,bp,rfl⟩:∃ a c,vr=.slice a rs.length c:=by obtain ⟨a,c,h,_⟩:=af;exact ⟨a,c,h⟩
 clear hm hx af
 have cv:w.heap.size+2<=V.heap.size:=by have:=a3.out.lt;omega
 go_enter Tryz.func7,Tryz.ntmps7;go_wp2;rw [HV.out]
 go_region_held3 (fun U=>U.cell? ⟨w.heap.size,0,none⟩=some Z/\U.cell? ⟨w.heap.size,1,none⟩=some (.slice (some ⟨cb,co,none⟩) xs.length y)/\U.cell? ⟨w.heap.size+1,0,none⟩=some (U8 ev.1)/\U.cell? ⟨w.heap.size+1,1,none⟩=some (U8 ev.2))
  (first|with_reducible exact bf|with_reducible exact ba|exact HP.out V (Below.refl _ _))
  (first
   | (go_at_call 10;go_must (refine (new_any V.drew).mono ?_);rintro e w4 ⟨rfl,be,cs,ag⟩;go_must (have a2:Bw V w4:=qAf ag;have bf:=HP.out w4 a2;have bz:=keepJ (bu.out.below a2 (Nat.le_refl _));have bx:=keepJ (c3.out.below a2);have cg:=keepJ (show Sc w4 V.heap.size nought nought from be);clear be))
   | (go_at_call 11;go_must (refine (mnew_ok ev V.heap.size w4 bz.out bx.out cg.out hj (by omega) (bs.imp id fun h e=>by have:=h _ e;omega) (by omega) ae).mono ?_);rintro e P ⟨b,ap,a9,um,rfl,cx,ac,bj,cr,cu⟩;go_must (have b7:Chg V P (fun k=>k=V.heap.size):=(Chg.of_below (S:=fun k=>k=V.heap.size) a2).trans bj (fun _ _ e=>e);have b9:Bw V P:=b7.below (fun k e=>by omega) (Nat.le_refl _);have ba:=HP.out P b9;have a4:=keepJ ac;clear ac)))
 have cd:=a4.out.ma.hp.lt;have ch:=a4.out.sc.lt;have c8:ap<P.heap.size:=(codeL a4.out.code ae.1).2.1
 have bo:ms=[]∨∀ j,um.ownBlock=some j->j<P.heap.size:=by
  by_cases h:ms=[]
  ·exact .inl h
  ·exact .inr fun j hj=>(sees_ltE a4.out.maps hj).resolve_left h
 have au:Bw w P:=ab.trans (b9.mono ab.size);have a5:=au.size;have bn:=ah
 have cn:w.heap.size+2<=b:=by have:=a2.size;omega
 clear bf ba b7 bj ag ah;go_wp2
 go_loopw [2,10] (fun vr va0 wr=>∃ (M:Mc) (l:List Rs) (A:List Ac) (a0:Option Addr) (d:Nat) (va:Value),vr=.slice a0 l.length d/\va=va0/\Safe xs ms.length b5 M/\M.mode=0/\Mh wr b V.heap.size um ap 0 a9 ms xs ev M/\pot xs M<=256/\A.length=M.steps/\Hid (A++traceE ms xs ev (257-M.steps) M l=T)/\SeesR w (.slice a0 l.length d) l/\wr.ownsRow P.heap.size 80 7 va A.length (flatX A)/\Bw w wr/\P.heap.size<=wr.heap.size) (fun _ va _=>300-lenV va)
 case atStart =>
  have ci:pot xs startE<=256:=Int.le_trans (pot_start s.T) (cost_256 s.T);exact ⟨startE,rs,[],ra,bp,_,rfl,rfl,safe_start s,rfl,a4.out,ci,rfl,by show []++_=_;rw [List.nil_append];exact HT.out,c5.out,World.ownsRow_nil _ _ _ _,au,Nat.le_refl _⟩
 case round =>
  obtain ⟨M,l,A,a0,d,va,rfl,rfl,hS,m0,ac,cl,hA,N,hr,ho,bk,ct⟩:=hrel;have ck:=hS.pot_le s.T;rw [if_pos m0] at ck
  have cw:M.steps<=255:=by omega
  obtain ⟨z,b8,bb⟩:=safe_run (ms:=ms) s hS m0 bg;have a6:=step_kinds (ms:=ms) (xs:=xs) (ev:=ev) m0;rw [show 257-M.steps=(256-M.steps)+1 by omega] at N;have Q:=keepJ (mstep_all s hS bg ac (by omega));have ax:=keepJ (fun h=>trace_end (ms:=ms) (xs:=xs) (ev:=ev) (M:=M) (n:=256-M.steps) (rs:=l) h);have al:=keepJ (fun h=>trace_none (ms:=ms) (xs:=xs) (ev:=ev) (M:=M) (n:=256-M.steps) h);have ai:=keepJ (fun r i h=>trace_ask (ms:=ms) (xs:=xs) (ev:=ev) (M:=M) (n:=256-M.steps) (r:=r) (rs:=i) h);have aw:=keepJ (fun h=>trace_on (ms:=ms) (xs:=xs) (ev:=ev) (M:=M) (n:=256-M.steps) (rs:=l) h);obtain ⟨⟨⟨ak,apc,am,ao,aq,av,an⟩,D⟩,G⟩:∃ R,Hid (stepE ms xs ev M=R):=⟨_,rfl⟩;rw [G.out] at a6 z b8 bb;simp only at a6 z b8 bb
  have Q:Hid (Cl 18 #[.pointer (some ⟨b,0,none⟩)] wr fun e U=>e=.returned (actV ak apc am ao aq av an)/\Chg wr U (fun k=>k=b∨k=V.heap.size)/\Mh U b V.heap.size um ap 0 a9 ms xs ev D):=by
   have:=Q.out;rw [G.out] at this;exact this
  have ax:Hid (ak=4->A++[⟨ak,apc,am,ao,aq,av,an⟩]=T):=fun h=>by rw [<- N.out,ax.out (by rw [G.out];exact h),G.out]
  have aw:Hid (ak≠4/\ak≠2->(A++[⟨ak,apc,am,ao,aq,av,an⟩])++traceE ms xs ev (257-D.steps) D l=T):=fun h=>by
   rw [<- N.out,aw.out (by rw [G.out];exact h),G.out,show 257-D.steps=256-M.steps by omega,List.append_assoc]
   rfl
  have al:Hid (ak=2->l=[]->A++[⟨ak,apc,am,ao,aq,av,an⟩]=T):=fun h e=>by subst e;rw [<- N.out,al.out (by rw [G.out];exact h),G.out]
  have ai:Hid (∀ r i,ak=2->l=r :: i->(A++[⟨ak,apc,am,ao,aq,av,an⟩])++traceE ms xs ev (257-D.steps) (answerE xs D r.E r.f r.v) i=T):=fun r i h e=>by
   subst e;rw [<- N.out,ai.out r i (by rw [G.out];exact h),G.out,show 257-D.steps=256-M.steps by omega,List.append_assoc]
   rfl
  clear N G
  have h4:(ak=4/\D.mode=2/\(ak==4)=true/\(ak==2)=false)∨(ak=2/\D.mode=1/\(ak==4)=false/\(ak==2)=true/\l=[])∨(ak=2/\D.mode=1/\(ak==4)=false/\(ak==2)=true/\∃ r i,l=r :: i)∨((ak=1∨ak=3)/\D.mode=0/\(ak==4)=false/\(ak==2)=false):=by
   rcases a6 with ⟨g,g'⟩|⟨g,g'⟩|⟨g,g'⟩
   ·exact .inl ⟨g,g',by simp [g],by simp [g]⟩
   ·cases l with
    | nil=>exact .inr (.inl ⟨g,g',by simp [g],by simp [g],rfl⟩)
    | cons r i=>exact .inr (.inr (.inl ⟨g,g',by simp [g],by simp [g],r,i,rfl⟩))
   ·exact .inr (.inr (.inr ⟨g,g',by simp;omega,by simp;omega⟩))
  clear a6
  rcases h4 with ⟨X,L,k4,k2⟩|⟨X,L,k4,k2,bc⟩|⟨X,L,k4,k2,r,i,bc⟩|⟨X,L,k4,k2⟩
  all_goals (have HK:=keepJ X;clear X;(try subst bc))
  rotate_left 2
  have c2:=safe_answer (E:=r.E) (f:=r.f) s z L (v:=r.v) (by obtain ⟨_,_,_,_,_,_,hw,_⟩:=hr;exact hw r (by simp))
  have ca:r.wf:=by obtain ⟨_,_,_,_,_,_,hw,_⟩:=hr;exact hw r (by simp)
  have bq:=keepJ hr.cut
  have c9:i.length+1<=d/\d<=9223372036854775807:=by
   obtain ⟨a1,c1,e,g1,g2,_⟩:=hr;injection e with e1 e2 e3;subst e3;unfold maxLen at g2;exact ⟨g1,by omega⟩
  obtain ⟨rb,ro,cf,bm,ay⟩:∃ b off,a0=some ⟨b,off,none⟩/\b<w.heap.size/\AtR w b off r:=by
   obtain ⟨a1,c1,e,_,_,_,_,g⟩:=hr;injection e with e1 e2 e3;subst e1;obtain ⟨b,off,rfl,bw,ay⟩:=g (by simp);exact ⟨b,off,rfl,bw,by have:=ay 0 (by simp);rw [Nat.zero_mul,Nat.add_zero] at this;exact this⟩
  subst cf;have c0:=keepJ ay
  have hcut:∀ I:World,(Instr.slice 29 (.slice (some ⟨rb,ro,none⟩) (i.length+1) d) (some (I4 1)) none none).run Tryz.prog I=.ok (cutR (some ⟨rb,ro,none⟩) (i.length+1) d) I:=fun I=>run_cutR _ _ _ (by omega) c9.1 I
  simp only [List.length_cons]
  rotate_left 2
  all_goals go_wp2_with (first
   | (go_at_call 18;go_must (refine Q.out.mono ?_);rintro e w1 ⟨rfl,az,ar⟩;go_must (have ah:=az.size;have ad:=own_chg ho az (fun k X e=>by have:=(ho.lt k X).1;omega);have bl:=keepJ ar;have cj:=keepJ (bk.trans (az.below (B:=w.heap.size) (fun k e=>by omega) bk.size));obtain ⟨Y,HY,F,bi,bd⟩:∃ Y,Hid (w1.alloc (.cells #[I4 ak,I4 apc,I4 am,I4 ao,U8 aq,U8 av,U8 an] 80)=Y)/\Hid (Hp Y w1.heap.size 80 (actC ak apc am ao aq av an))/\Bw w1 Y/\Y.heap.size=w1.heap.size+1:=⟨_,rfl,Hp.new w1 _ _,(Below.refl _ _).alloc (Nat.le_refl _) _,by simp⟩;have b6:=qBa ad bi (Nat.le_refl _);obtain ⟨⟨y0,y1,y2,y3,y4,y5,y6⟩,-⟩:=hq7 F.out;clear ar))
   | (at_builtin;rw [HY.out];go_must (refine wpList_append_own _ rfl _ _ 34 rfl P.heap.size 80 i0 _ 7 56 Tryz.underlying34 hi bt bn c4 rfl (by decide) _ _ _ rfl (b6.alloc _) ⟨_,0,none⟩ 1 1 (actC ak apc am ao aq av an) rfl rfl (seven_new _ _ _ _ bd.symm) (seven_one ⟨ak,apc,am,ao,aq,av,an⟩) (by unfold maxLen;omega) (by omega) (by simp;omega) ?_);intro v' w2 aa a8 _;have R:=act_more (A1:=⟨ak,apc,am,ao,aq,av,an⟩) ad bi bd F.out bl.out ⟨cd,ch,c8⟩ bo cj.out (W:=w.heap.size) a5 (Nat.le_refl _) aa a8;clear aa a8;obtain ⟨b4,aj,b2,b1,cp⟩:=R;have J:=keepJ b4;have c6:=keepJ aj;have O:=keepJ b2;have bh:=keepJ b1;have b0:=c6.out.cell (j:=0) rfl;clear b4 aj b2 b1;(try (have br:=c0.out.below O.out bm;obtain ⟨r0,r1,r2,r3,r4,r5⟩:=br)))
   | (go_at_call 17;go_must (refine (manswer_all s z bh.out L r.E r.f r.v r.o r.k r.u ca).mono ?_);rintro e w3 ⟨rfl,b3,ce⟩))
  ·go_ret2;refine ⟨v',rfl,?_,O.out⟩;rw [<- ax.out HK.out];exact own_low J.out a5
  ·go_ret2;refine ⟨v',rfl,?_,O.out⟩;rw [<- al.out HK.out (by first|rfl|trivial)];exact own_low J.out a5
  ·go_roundw
   case rel =>
    have cy:=b3.size;exact ⟨answerE xs D r.E r.f r.v,i,A++[⟨ak,apc,am,ao,aq,av,an⟩],_,_,v',rfl,rfl,c2.1,rfl,ce,by omega,by simp;omega,keepJ (ai.out r i HK.out (by first|rfl|trivial)),bq.out,own_chg J.out b3 (fun k X e=>by have:=(J.out.lt k X).1;omega),O.out.trans (b3.below (fun k e=>by omega) O.out.size),(by omega)⟩
   case measure =>
    rw [own_lenV J.out,own_lenV ho]
    simp
    omega
  ·go_roundw
   case rel=>exact ⟨D,l,A++[⟨ak,apc,am,ao,aq,av,an⟩],a0,d,v',rfl,rfl,z,L,bh.out,by omega,by simp;omega,keepJ (aw.out (by have:=HK.out;omega)),hr,J.out,O.out,(by omega)⟩
   case measure =>
    rw [own_lenV J.out,own_lenV ho]
    simp
    omega
def asksX:List In:=[⟨13,2,0,0,0⟩,⟨14,1,0,0,0⟩,⟨21,0,0,0,0⟩,⟨22,0,0,0,0⟩]
def okE (e:Except (Int×Int) Kn):Bool:=match e with|.ok _=>true|.error _=>false
theorem asks_ok:∃ K,inqR [2] asksX=.ok K:=by
 have h:okE (inqR [2] asksX)=true:=by decide +kernel
 cases hc:inqR [2] asksX with
 | ok K=>exact ⟨K,rfl⟩
 | error e=>rw [hc] at h;cases h
def asksT:List Ac:=[⟨1,0,0,0,0,0,0⟩,⟨1,1,0,0,0,0,0⟩,⟨2,2,2,0,20,0,0⟩,⟨4,3,0,0,0,0,9⟩]
theorem asks_trace:traceE [2] asksX (20,3) 257 startE [⟨0,true,9,false,0,0⟩]=asksT:=by kernel_rfl
theorem seesN_lit (w:World)(t:TypeId)(xs:List Int)(cs:Array Value)(n g:Nat)(b:g=w.heap.size)(a:cs=(xs.map (Value.int .i64)).toArray)(c:n=xs.length)(hm:xs.length<=1048576)(d:∀ x∈xs,(Lit.int .i64 x).wf=true):Sees .i64 (w.alloc (.cells cs t)) (.slice (some ⟨g,0,none⟩) n n) xs:=by
 subst b a c;refine ⟨_,xs.length,rfl,Nat.le_refl _,by unfold maxLen;omega,fun h=>(by cases h),d,fun f=>⟨_,0,rfl,by simp,fun i hi=>?_⟩⟩;rw [World.cell?_alloc_at _ _ _ _ rfl]
 simp [List.getD,List.getElem?_eq_getElem hi]
theorem asks11_any (w:World):Cl 22 #[] w fun e a=>∃ m g,e=.returned (modV (.slice (some ⟨m,0,none⟩) 1 1) (.slice (some ⟨g,0,none⟩) 4 4))/\Sees .i64 a (.slice (some ⟨m,0,none⟩) 1 1) [2]/\SeesI a (.slice (some ⟨g,0,none⟩) 4 4) asksX/\Bw w a:=by
 go_enter Tryz.func22,Tryz.ntmps22
 go_wp2_with fail
 have hm:=((MdC.new w (.slice (some ⟨w.heap.size+1,0,none⟩) 1 1) (.slice (some ⟨w.heap.size+1+1,0,none⟩) 4 4)).kept (grownA_alloc _ (.cells #[I4 2] 3) none) (by simp)).kept (grownA_alloc _ (.cells #[I4 13,I4 2,I4 0,I4 0,I4 0,I4 14,I4 1,I4 0,I4 0,I4 0,I4 21,I4 0,I4 0,I4 0,I4 0,I4 22,I4 0,I4 0,I4 0,I4 0] 43) none) (by simp);refine bodyPost_ret (results_cell_row rfl _ _ w.heap.size _ _ (0,0) _ rfl hm Tryz.underlying25 rfl (by kernel_rfl)) rfl ?_;refine ⟨w.heap.size+1,w.heap.size+1+1,rfl,(seesN_lit (w.alloc _) 3 [2] _ 1 _ (by simp) rfl rfl (by decide) (by intro x b;simp at b;subst b;decide)).below ((Below.refl _ _).alloc (Nat.le_refl _) _) (Nat.le_refl _),seesI_lit _ _ asksX _ _ _ (by simp) rfl rfl (by decide),(((Below.refl _ _).alloc (Nat.le_refl _) _).alloc (by simp) _).alloc (by simp;omega) _⟩
theorem seesR_lit (w:World)(t:TypeId)(r:Rs)(c:r.wf):SeesR (w.alloc (.cells #[I4 r.E,.bool r.f,U8 r.v,.bool r.o,U8 r.k,U8 r.u] t)) (.slice (some ⟨w.heap.size,0,none⟩) 1 1) [r]:=by
 refine ⟨_,1,rfl,Nat.le_refl _,by unfold maxLen;omega,fun h=>(by cases h),by intro x b;simp at b;subst b;exact c,fun g=>⟨_,0,rfl,by simp,fun k d=>?_⟩⟩
 obtain rfl:k=0:=by simpa using d
 have a:=Hp.new w (rsC r) t;exact ⟨a.cell rfl,a.cell rfl,a.cell rfl,a.cell rfl,a.cell rfl,a.cell rfl⟩
theorem awake11_any (w:World):Cl 5 #[] w fun e S=>e=.returned (.bool true)/\Bw w S:=by
 obtain ⟨K,hK⟩:=asks_ok;have A:=keepJ hK;have J:Hid (traceE [2] asksX (20,3) 257 startE [⟨0,true,9,false,0,0⟩]=asksT):=asks_trace;clear hK;go_enter Tryz.func5,Tryz.ntmps5
 go_wp2_with (first
  | (go_at_call 22;go_must (refine (asks11_any w).mono ?_);rintro e d ⟨m,g,rfl,i,l,f⟩;go_must (have y:=keepJ i;have u:=keepJ l;clear i l))
  | (go_at_call 7;go_must (refine (mtrace_ok (20,3) (by decide) (rs:=[⟨0,true,9,false,0,0⟩]) _ (y.out.below (qDa _ _) (Nat.le_refl _)) (u.out.below (qDa _ _)) (seesR_lit d _ ⟨0,true,9,false,0,0⟩ ⟨by decide,by decide⟩) A.out J).mono ?_);rintro e P ⟨v,rfl,c,b⟩;go_must (have r:Bw d P:=(qDa d _).trans (b.mono (by simp));have o:=f.trans (r.mono f.size);have HO:=keepJ c;obtain ⟨ga,cap,rfl,_,X,n,Y,s⟩:=own_acts c (k:=2) (by decide);obtain ⟨Z,D,N,_,_,_,_,z⟩:=own_acts c (k:=3) (by decide);injection N with a e2 e3;injection a with a;injection a with a e4;subst a;obtain ⟨L,U,F,R,B,G,T⟩:=s.seven;obtain ⟨b0,O,E,I,V,M,Q⟩:=z.seven;simp only [asksT,List.getD,List.getElem?_cons_succ,List.getElem?_cons_zero,Option.getD_some,Nat.reduceMul,Nat.reduceAdd,List.length_cons,List.length_nil] at L U F R B G T b0 O E I V M Q n;clear c s z b)))
 go_ret;exact ⟨rfl,o⟩
def SeesX (w:World) (v:Value) (L:List Ac):Prop :=
 ∃ a cap,v=.slice a L.length cap/\L.length<=cap/\cap<=9223372036854775807/\(L≠[]->∃ g off,a=some ⟨g,off,none⟩/\g<w.heap.size/\∀ k,k<L.length->AtA w g (off+k*7) (L.getD k Ac.nil))
theorem own_seesX {w:World}{base:Nat}{e:TypeId}{v:Value}{L:List Ac}(h:w.ownsRow base e 7 v L.length (flatX L)):SeesX w v L:=by
 have h0:=h
 rcases h with ⟨r,⟨rfl,d⟩|⟨g,cap,l,rfl,o,a,c,b,u,s⟩⟩
 ·have:L=[]:=List.eq_nil_of_length_eq_zero d;subst this;exact ⟨none,0,rfl,by simp,by omega,fun h=>absurd rfl h⟩
 ·refine ⟨_,cap,rfl,c,by unfold maxLen at b;omega,fun n=>⟨g,0,rfl,(Array.getElem?_eq_some_iff.1 a).1,fun k f j i=>?_⟩⟩;rw [Nat.zero_add,h0.cellAt (k*7+j) (by omega)];exact flatX_at L k j f i
theorem SeesX.below {w f:World}{v:Value}{L:List Ac}(h:SeesX w v L)(c:Bw w f):SeesX f v L:=by
 obtain ⟨a,cap,rfl,o,n,l⟩:=h;refine ⟨a,cap,rfl,o,n,fun i=>?_⟩;obtain ⟨g,off,rfl,b,d⟩:=l i;exact ⟨g,off,rfl,Nat.lt_of_lt_of_le b c.size,fun k r j s=>(c.cell (p:=⟨g,off+k*7+j,none⟩) b).trans (d k r j s)⟩
theorem alike11_any {E G:Value}{L:List Ac}(w:World)(ha:SeesX w E L)(hb:SeesX w G L) :
  Cl 9 #[E,G] w fun e w'=>e=.returned (.bool true)/\Bw w w':=by
 obtain ⟨a,X,rfl,I,a8,o⟩:=ha;obtain ⟨b,a7,rfl,B,aa,l⟩:=hb;have Q:=keepJ o;have T:=keepJ l;clear o l
 have Y:L.length<=9223372036854775807:=by omega
 obtain ⟨n,g⟩:∃ n,Hid (L.length=n):=⟨_,rfl⟩;rw [g.out] at Y I B;rw [g.out];go_enter Tryz.func9,Tryz.ntmps9;go_wp2
 go_loopw [5] (fun i wr=>∃ k:Nat,k<=n/\i=I4 k/\Bw w wr) (fun i _=>n-(intOf i).toNat)
 case atStart=>exact ⟨0,by omega,rfl,Below.refl _ _⟩
 case round =>
  obtain ⟨k,hk,rfl,c⟩:=hrel
  by_cases hkn:k<n
  ·have a9:(k:Int)<n:=by omega
   have r:L≠[]:=fun e=>by have:=g.out;rw [e] at this;simp at this;omega
   have s:k<L.length:=by have:=g.out;omega
   obtain ⟨M,F,rfl,D,f⟩:=Q.out r;obtain ⟨O,K,rfl,N,d⟩:=T.out r
   have y:AtA wr M (F+k*7) (L.getD k Ac.nil):=fun j z=>(c.cell (p:=⟨M,F+k*7+j,none⟩) D).trans (f k s j z)
   have u:AtA wr O (K+k*7) (L.getD k Ac.nil):=fun j z=>(c.cell (p:=⟨O,K+k*7+j,none⟩) N).trans (d k s j z)
   obtain ⟨⟨ak,apc,am,ao,aq,av,an⟩,J⟩:∃ A,Hid (L.getD k Ac.nil=A):=⟨_,rfl⟩;rw [J.out] at y u;obtain ⟨Z,a1,S,a3,P,U,a6⟩:=y.seven;obtain ⟨b0,b1,R,V,b4,b5,b6⟩:=u.seven;simp only at Z a1 S a3 P U a6 b0 b1 R V b4 b5 b6;clear f d y u;go_wp2;go_region;go_wp2
   go_roundw
   case rel=>exact ⟨k+1,by omega,by go_num,qAj c⟩
   case measure=>(simp [intOf];try omega)
  ·obtain rfl:n=k:=by omega
   go_wp2;go_ret;exact ⟨rfl,c⟩
theorem run_errorE {xs:List In}{nm:Nat}:∀ {n:Nat} {p:Nat} {E:Int},runK xs nm n=.error (p,E)->p<n/\E≠0:=by
 intro n
 induction n with
 | zero=>intro p E h;rw [runK] at h;cases h
 | succ n ih =>
  intro p E h;rw [runK] at h
  cases h0:runK xs nm n with
  | error e =>
   rw [h0] at h;simp only at h;injection h with h;subst h;have:=ih h0;exact ⟨by omega,this.2⟩
  | ok K =>
   rw [h0] at h;simp only at h
   cases a:stepK xs nm n K with
   | ok K'=>rw [a] at h;cases h
   | error e =>
    rw [a] at h;simp only at h;injection h with h;injection h with b c;subst b c;refine ⟨by omega,?_⟩;unfold stepK at a
    split at a
    ·cases a
    split at a
    ·injection a with a;subst a;assumption
    ·cases a
theorem res_cellsE {H:Type}{enc:TypeId×Value->H}{W:World}{base g:Nat}{c:Nat->Bool}{a:Bool}{cs:List Value}{x:DataW H×List MemPlace}(h:DataW.trod enc Tryz.prog W base c a g 45 cs=some x):∃ (E:Int) (f:Bool) (v:Int) (o:Bool) (k u:Int),cs=[I4 E,.bool f,U8 v,.bool o,U8 k,U8 u]/\0<=v/\v<=18446744073709551615:=by
 obtain ⟨xs,n,rfl,S,I,i,b⟩:=DataW.trod_struct Tryz.underlying45 h
 have L:cs.length=6:=by rw [I];kernel_rfl
 have J:Tryz.prog.cellsOf 35=1:=by kernel_rfl
 have D:Tryz.prog.cellsOf 4=1:=by kernel_rfl
 have d:Tryz.prog.cellsOf 26=1:=by kernel_rfl
 match cs,L,xs,i,b with
 | [c0,c1,c2,c3,c4,c5],_,[x0,x1,x2,x3,x4,x5],_,b =>
  have h0:DataW.trod enc Tryz.prog W base c a n 35 (([c0,c1,c2,c3,c4,c5].drop 0).take (Tryz.prog.cellsOf 35))=some x0:=b 0 _ rfl;rw [J] at h0;have A:DataW.trod enc Tryz.prog W base c a n 4 (([c0,c1,c2,c3,c4,c5].drop 1).take (Tryz.prog.cellsOf 4))=some x1:=b 1 _ rfl;rw [D] at A;have s:DataW.trod enc Tryz.prog W base c a n 26 (([c0,c1,c2,c3,c4,c5].drop 2).take (Tryz.prog.cellsOf 26))=some x2:=b 2 _ rfl;rw [d] at s;have F:DataW.trod enc Tryz.prog W base c a n 4 (([c0,c1,c2,c3,c4,c5].drop 3).take (Tryz.prog.cellsOf 4))=some x3:=b 3 _ rfl;rw [D] at F;have w:DataW.trod enc Tryz.prog W base c a n 26 (([c0,c1,c2,c3,c4,c5].drop 4).take (Tryz.prog.cellsOf 26))=some x4:=b 4 _ rfl;rw [d] at w;have B:DataW.trod enc Tryz.prog W base c a n 26 (([c0,c1,c2,c3,c4,c5].drop 5).take (Tryz.prog.cellsOf 26))=some x5:=b 5 _ rfl;rw [d] at B;obtain ⟨E,e0,R,g0⟩:=DataW.trod_int Tryz.underlying35 h0;obtain ⟨f,y,Q⟩:=DataW.trod_bool Tryz.underlying4 A;obtain ⟨v,z,U,K⟩:=DataW.trod_int Tryz.underlying26 s;obtain ⟨o,r,M⟩:=DataW.trod_bool Tryz.underlying4 F;obtain ⟨k,G,T,N⟩:=DataW.trod_int Tryz.underlying26 w;obtain ⟨u,l,P,O⟩:=DataW.trod_int Tryz.underlying26 B
  simp at e0 y z r G l
  subst e0 y z r G l;exact ⟨E,f,v,o,k,u,rfl,bounds_u64 K⟩
theorem opens_Res_sh {H:Type}{enc:TypeId×Value->H}{W:World}{v:Value}{d:DataW H}{p:List MemPlace}(U:∃ a r cap,v=.slice a r cap)(h:DataW.Trod enc Tryz.prog W 0 (fun _=>true) true 29 v d p) :
  ∃ xs,SeesR W v xs/\((d.weights Tryz.prog 29).all (·<=reachBytes)=true->xs.length*48<=140737488355328):=by
 obtain ⟨a,r,cap,rfl⟩:=U
 have c5:Tryz.prog.cellsOf 45=6:=by kernel_rfl
 obtain ⟨X,Z⟩:=h
 rcases DataW.trod_slice Tryz.underlying29 Z with ⟨s,B⟩|⟨x,l,c,G,a0,n,rfl,s,B,_,hl,hm,Y,V,a1,_⟩
 ·simp [Value.cells] at s B
  obtain ⟨rfl,rfl,rfl⟩:=s;obtain ⟨rfl,rfl⟩:=B;exact ⟨[],⟨none,0,rfl,by simp,by simp [maxLen],fun _=>rfl,by simp,fun h=>absurd rfl h⟩,fun _=>by simp⟩
 ·simp [Value.cells] at s B
  obtain ⟨rfl,rfl,rfl⟩:=s;obtain ⟨rfl,rfl⟩:=B
  have S:∀ i:Nat,∃ I:Rs,i<r->I.wf/\(∀ j,j<6->W.cell? ((x.add (i*6)).add j)=(rsC I)[j]?):=by
   intro i
   by_cases hi:i<r
   ·have D:=V i hi
    have T:i<G.length:=by omega
    rw [c5,List.getElem?_eq_getElem T,Option.bind_eq_some_iff] at D;obtain ⟨cs,O,Q⟩:=D;obtain ⟨E,f,v,o,k,u,rfl,hw⟩:=res_cellsE Q;exact ⟨⟨E,f,v,o,k,u⟩,fun _=>⟨hw,(World.cells?_some O).2.2⟩⟩
   ·exact ⟨Rs.nil,fun h=>absurd h hi⟩
  obtain ⟨g,L⟩:=Classical.axiomOfChoice S
  have A:((List.range r).map g).length=r:=by simp
  have P:∀ k,k<r->((List.range r).map g).getD k Rs.nil=g k:=fun k w=>by simp [List.getD,w]
  refine ⟨(List.range r).map g,⟨some x,cap,by rw [A],by omega,hm,fun h=>by simp at h,?_,fun R=>?_⟩,?_⟩
  ·intro i hi;simp only [List.mem_map,List.mem_range] at hi;obtain ⟨k,w,rfl⟩:=hi;exact (L k w).1
  ·have K:0<r:=by
    rcases Nat.eq_zero_or_pos r with h0|h0
    ·subst h0;exact absurd rfl R
    ·exact h0
   obtain ⟨b,off,M⟩:=x;have J:=(L 0 K).2 0 (by omega)
   have F:M=none:=by
    have:=World.cell?_spot (show W.cell? _=some _ from J)
    simpa [Addr.add] using this
   subst F;refine ⟨b,off,rfl,?_,fun k w=>?_⟩
   ·have:=World.block_lt_of_cell? W _ (show W.cell? _=some _ from J)
    simpa [Addr.add] using this
   ·rw [A] at w;rw [P k w];have y:=(L k w).2;simp only [Addr.add_mid] at y;exact ⟨y 0 (by omega),y 1 (by omega),y 2 (by omega),y 3 (by omega),y 4 (by omega),y 5 (by omega)⟩
  ·intro z
   have N:Tryz.prog.bytesOf 45=48:=by kernel_rfl
   rw [DataW.weights,Tryz.underlying29] at z;simp only [List.all_cons,Bool.and_eq_true,decide_eq_true_eq,List.length_map,N] at z;have D:=z.1;unfold reachBytes at D;rw [A]
   omega
theorem open_Run {H:Type}{enc:TypeId×Value->H}{W:World}{base:Nat}{v:Value}{d:DataW H}{p:List MemPlace}(B:Value.okWide Tryz.prog W .any base 31 v)(h:DataW.Trod enc Tryz.prog W 0 (fun _=>true) true 31 v d p) :
  ∃ vm vc i g vr r ms is rs,v=.agg #[vm,vc,U8 i,U8 g,vr,I4 r]/\SeesM W vm vc ms is/\SeesR W vr rs/\((0<=i/\i<=18446744073709551615)/\0<=g/\g<=18446744073709551615)/\(-9223372036854775808<=r/\r<=9223372036854775807)/\((d.weights Tryz.prog 31).all (·<=reachBytes)=true->ms.length*8<=140737488351232/\is.length*40<=140737488355328/\rs.length*48<=140737488355328):=by
 obtain ⟨cs,rfl,_⟩:=okWide_struct Tryz.underlying31 B;obtain ⟨S,b⟩:=h;obtain ⟨xs,n,_,hx,V,A,b⟩:=DataW.trod_struct Tryz.underlying31 b
 have e6:Tryz.prog.cellsOf 31=6:=by kernel_rfl
 have J:cs.toList.length=6:=V.trans e6
 have Y:Tryz.prog.cellsOf 25=2:=by kernel_rfl
 have u1:Tryz.prog.cellsOf 28=2:=by kernel_rfl
 have P:Tryz.prog.cellsOf 29=1:=by kernel_rfl
 have u3:Tryz.prog.cellsOf 3=1:=by kernel_rfl
 have u4:Tryz.prog.cellsOf 22=1:=by kernel_rfl
 have Q:Tryz.prog.cellsOf 23=1:=by kernel_rfl
 have I:Tryz.prog.cellsOf 26=1:=by kernel_rfl
 obtain ⟨T⟩:=cs;simp only [Value.cells] at b J
 match T,J,xs,A,b with
 | [c0,c1,c2,c3,c4,c5],_,[x0,x1,x2,x3],_,b =>
  have h0:DataW.trod enc Tryz.prog W 0 (fun _=>true) true n 25 (([c0,c1,c2,c3,c4,c5].drop 0).take (Tryz.prog.cellsOf 25))=some x0:=b 0 _ rfl;rw [Y] at h0;have w:DataW.trod enc Tryz.prog W 0 (fun _=>true) true n 28 (([c0,c1,c2,c3,c4,c5].drop 2).take (Tryz.prog.cellsOf 28))=some x1:=b 1 _ rfl;rw [u1] at w;have l:DataW.trod enc Tryz.prog W 0 (fun _=>true) true n 29 (([c0,c1,c2,c3,c4,c5].drop 4).take (Tryz.prog.cellsOf 29))=some x2:=b 2 _ rfl;rw [P] at l;have z:DataW.trod enc Tryz.prog W 0 (fun _=>true) true n 3 (([c0,c1,c2,c3,c4,c5].drop 5).take (Tryz.prog.cellsOf 3))=some x3:=b 3 _ rfl;rw [u3] at z;have h0:DataW.trod enc Tryz.prog W 0 (fun _=>true) true n 25 [c0,c1]=some x0:=h0;have w:DataW.trod enc Tryz.prog W 0 (fun _=>true) true n 28 [c2,c3]=some x1:=w;have l:DataW.trod enc Tryz.prog W 0 (fun _=>true) true n 29 [c4]=some x2:=l;have z:DataW.trod enc Tryz.prog W 0 (fun _=>true) true n 3 [c5]=some x3:=z;obtain ⟨ys,m,_,M,_,y,u⟩:=DataW.trod_struct Tryz.underlying25 h0;obtain ⟨O,K,_,_,_,s,f⟩:=DataW.trod_struct Tryz.underlying28 w
  match ys,y,u,O,s,f with
  | [y0,y1],_,u,[z0,z1],_,f =>
   have k0:DataW.trod enc Tryz.prog W 0 (fun _=>true) true m 22 (([c0,c1].drop 0).take (Tryz.prog.cellsOf 22))=some y0:=u 0 _ rfl;rw [u4] at k0;have o:DataW.trod enc Tryz.prog W 0 (fun _=>true) true m 23 (([c0,c1].drop 1).take (Tryz.prog.cellsOf 23))=some y1:=u 1 _ rfl;rw [Q] at o;have g0:DataW.trod enc Tryz.prog W 0 (fun _=>true) true K 26 (([c2,c3].drop 0).take (Tryz.prog.cellsOf 26))=some z0:=f 0 _ rfl;rw [I] at g0;have F:DataW.trod enc Tryz.prog W 0 (fun _=>true) true K 26 (([c2,c3].drop 1).take (Tryz.prog.cellsOf 26))=some z1:=f 1 _ rfl;rw [I] at F;have k0:DataW.trod enc Tryz.prog W 0 (fun _=>true) true m 22 [c0]=some y0:=k0;have o:DataW.trod enc Tryz.prog W 0 (fun _=>true) true m 23 [c1]=some y1:=o;obtain ⟨i,L,_,w2⟩:=DataW.trod_int Tryz.underlying26 g0;obtain ⟨g,E,_,w3⟩:=DataW.trod_int Tryz.underlying26 F;obtain ⟨r,D,_,X⟩:=DataW.trod_int Tryz.underlying3 z
   simp at L E D
   subst L E D;obtain ⟨a0,l0,q0,rfl⟩:=slice_of_trod Tryz.underlying22 k0;obtain ⟨a1,l1,q1,rfl⟩:=slice_of_trod Tryz.underlying23 o;obtain ⟨a2,l2,q2,rfl⟩:=slice_of_trod Tryz.underlying29 l;obtain ⟨ms,s0,b0⟩:=sees_open_sh (k:=.i64) (d:=y0.1) (p:=y0.2) Tryz.underlying22 Tryz.underlying3 (by kernel_rfl) ⟨_,_,_,rfl⟩ ⟨m,k0⟩;obtain ⟨is,⟨N,w1⟩,_,b1⟩:=opens_Inst_sh (d:=y1.1) (p:=y1.2) ⟨_,_,_,rfl⟩ ⟨m,o⟩;obtain ⟨rs,Z,R⟩:=opens_Res_sh (d:=x2.1) (p:=x2.2) ⟨_,_,_,rfl⟩ ⟨n,l⟩;refine ⟨_,_,i,g,_,r,ms,is,rs,rfl,⟨s0,N,w1⟩,Z,⟨bounds_u64 w2,bounds_u64 w3⟩,bounds_i64 X,fun c=>?_⟩;have U:d=.agg [x0.1,x1.1,x2.1,x3.1]:=congrArg (·.1) hx;have G:x0.1=.agg [y0.1,y1.1]:=congrArg (·.1) M;rw [U,DataW.weights,Tryz.underlying31] at c;simp only [DataW.weightsEach,List.map_cons,List.map_nil,List.all_append,Bool.and_eq_true] at c;have a:=c.1;rw [G,DataW.weights,Tryz.underlying25] at a;simp only [DataW.weightsEach,List.map_cons,List.map_nil,List.all_append,Bool.and_eq_true] at a
   have b8:Tryz.prog.bytesOf 3=8:=by kernel_rfl
   have r0:=b0 a.1;rw [b8] at r0;exact ⟨by unfold reachBytes at r0;omega,b1 a.2.1,R c.2.2.1⟩
end Go.Proofs.YtmdhljoicnommaaGreat
