/-
  E11DNew
  W11Hd
  E11DTr
  W11Sp
  W11St
-/
import Derived.Test.YtmdhljoicnommaaGreatME50
import Derived.Test.YtmdhljoicnommaaGreatME47
import Derived.Test.YtmdhljoicnommaaGreatME51
namespace Go.Proofs.YtmdhljoicnommaaGreat
set_option maxHeartbeats 12800000
open Go.RowKit
set_option linter.unusedVariables false
set_option linter.unusedSimpArgs false
set_option maxRecDepth 100000
theorem qUt (w:World):(Instr.makeSlice 67 (I4 8) (I4 8)).run Tryz.prog w=.ok (.slice (some ⟨w.heap.size,0,none⟩) 8 8) (w.alloc (.cells (qBx startE.regs).toArray 26)):=by
 have hi:∃ i,Tryz.prog.info? 26=some i/\i.size=1/\i.zero=some (U8 0)/\i.bytes=8:=⟨_,rfl,rfl,rfl,rfl⟩;obtain ⟨i,d,c,a,b⟩:=hi;have:=run_make (P:=Tryz.prog) w 67 26 i _ Tryz.underlying67 d a .i64 .i64 8 8 (by omega) (Int.le_refl _) (by rw [b];omega) (by omega);rw [c,show madeCells (Value.int .u64 0).cells (Int.toNat 8*1)=(qBx startE.regs).toArray from by kernel_rfl] at this;exact this
theorem qTs (w:World):(Instr.makeSlice 71 (I4 64) (I4 64)).run Tryz.prog w=.ok (.slice (some ⟨w.heap.size,0,none⟩) 64 64) (w.alloc (.cells (tnC startE.turn).toArray 2)):=by
 have hi:∃ i,Tryz.prog.info? 2=some i/\i.size=1/\i.zero=some (I4 0)/\i.bytes=8:=⟨_,rfl,rfl,rfl,rfl⟩;obtain ⟨i,d,c,a,b⟩:=hi;have:=run_make (P:=Tryz.prog) w 71 2 i _ Tryz.underlying71 d a .i64 .i64 64 64 (by omega) (Int.le_refl _) (by rw [b];omega) (by omega);rw [c,show madeCells (Value.int .i64 0).cells (Int.toNat 64*1)=(tnC startE.turn).toArray from by kernel_rfl] at this;exact this
theorem yQu {vm:Value}{ms:List Int}{a:Value}{xs:List In}{w:World}(hm:Sees .i64 w vm ms)(d:SeesI w a xs){P E:Int}(f:Hid (qFq ms xs=(P,E))) :
  Cl 28 #[.agg #[vm,a]] w fun e b=>∃ u,e=.returned (.tuple #[u,I4 P,I4 E])/\Bw w b:=by
 refine (ySz vm ms a xs w hm d).mono ?_;rintro e b ⟨u,rfl,_,c⟩;have h:=(yOr ms xs).symm.trans f.out;rw [h];exact ⟨u,rfl,c⟩
theorem ySp {vm b:Value}{ms:List Int}{xs:List In}(ev:Int×Int)(c:Nat)(w:World)(hm:Sees .i64 w vm ms)(k:SeesI w b xs){P E:Int}(r:Hid (qFq ms xs=(P,E)))(l:E≠0) :
  Cl 16 #[.agg #[vm,b],evV ev,.pointer (some ⟨c,0,none⟩)] w fun e o=>e=.returned (.tuple #[.pointer none,I4 E])/\Bw w o:=by
 have y:¬ E=0:=l
 have s:(E != 0)=true:=by simpa using l
 obtain ⟨V,n,a,d⟩:∃ V,Hid ((w.alloc (.cells #[vm,b] 25)).alloc (.cells #[U8 ev.1,U8 ev.2] 28)=V)/\Bw w V/\Hid (Hp V w.heap.size 25 [vm,b]):=⟨_,rfl,by go_grown,(Hp.new w _ _).alloc _⟩;have g:=qAa (hm.below a (Nat.le_refl _));have f:=qAa (k.below a);have m0:=d.out.cell (j:=0) rfl;have z:=d.out.cell (j:=1) rfl;clear hm k;go_enter Tryz.func16,Tryz.ntmps16
 go_wp2_with (go_at_call 28;rw [n.out];go_must (refine (yQu g.out f.out r).mono ?_);rintro e A ⟨u,rfl,i⟩)
 go_ret2;exact ⟨rfl,a.trans (i.mono a.size)⟩
def yLy (w0 w w':World) (c B:Nat) (v vm:Value) (cb co ccap:Nat) (ms:List Int) (xs:List In) (ev:Int×Int) (cs:List Int) (ks:List Ak) (e:Ending):Prop :=
 ∃ b rb tb v',e=.returned (.tuple #[.pointer (some ⟨b,0,none⟩),.int .i64 0])/\Dh w0 w' b rb tb c B vm cb co ccap ms xs ev { startE with cs:=cs } v' (ks++[⟨2,0,0⟩])/\Chg w w' (bkS c v)/\w.heap.size<=b/\w.heap.size<=rb/\w.heap.size<=tb/\RowNew w v v'
theorem yTv {w0 w a F:World}{b rb tb c B cb co ccap:Nat}{v l vm:Value}{ms:List Int}{xs:List In}{ev:Int×Int}{ws cs:List Int}{ks:List Ak}(hm:Sees .i64 w0 vm ms)(K:SeesI w0 (.slice (some ⟨cb,co,none⟩) xs.length ccap) xs)(h0:Bw w0 w)(s:w0.heap.size<=c)(G:w0.heap.size<=B)(O:B<=w.heap.size)(i:Tie ks ws cs)(n:Bk w B c v ks)(D:Chg w a (bkS c v))(u:Bk a B c l (ks++[⟨2,0,0⟩]))(A:RowNew w v l)(g:Bw a F)(E:Hp F b 73 (sdC vm (.slice (some ⟨cb,co,none⟩) xs.length ccap) ev.1 ev.2 c rb tb 0 0 0))(y:Hp F rb 26 (qBx startE.regs))(o:Hp F tb 2 (tnC startE.turn))(M:a.heap.size<=b)(Q:a.heap.size<=rb)(P:a.heap.size<=tb) :
  yLy w0 w F c B v vm cb co ccap ms xs ev cs ks (.returned (.tuple #[.pointer (some ⟨b,0,none⟩),I4 0])):=by
 have R:=D.size;have z:=h0.size;have N:=g.size;have J:WR startE.regs:=⟨rfl,fun r I=>by rw [show startE.regs.getD r 0=0 by show (List.replicate 8 (0:Int)).getD r 0=0;rw [List.getD_eq_getElem?_getD,List.getElem?_replicate,if_pos I];rfl];decide⟩;have f:Chg w F (bkS c v):=D.trans (Chg.of_below (S:=fun _=>False) g) (fun _ _ e=>e.elim)
 have d:∀ k,bkS c v k->w0.heap.size<=k:=fun k L=>by
  rcases L with e|e
  ·omega
  ·have:=(n.row.lt k e).1;omega
 exact ⟨b,rb,tb,l,rfl,⟨⟨E,rfl,rfl,rfl,y,o,J,show 0<64 by decide⟩,u.below g,i.wipe,hm,K,h0.trans (f.below d z),⟨by omega,by omega,by omega,s,G⟩,by omega⟩,f,by omega,by omega,by omega,A⟩
theorem yXt {w0:World}{vm v:Value}{c B cb co ccap:Nat}{ms:List Int}{xs:List In}(ev:Int×Int){ws cs:List Int}{ks:List Ak}(w:World)(hm:Sees .i64 w0 vm ms)(hx:SeesI w0 (.slice (some ⟨cb,co,none⟩) xs.length ccap) xs)(h0:Bw w0 w)(a9:w0.heap.size<=c)(ag:w0.heap.size<=B)(ad:B<=w.heap.size)(a5:Tie ks ws cs)(D:Bk w B c v ks)(ak:ks.length<=90000)(hj:Hid (qFq ms xs=(0,0))) :
  Cl 16 #[.agg #[vm,.slice (some ⟨cb,co,none⟩) xs.length ccap],evV ev,.pointer (some ⟨c,0,none⟩)] w fun e I=>yLy w0 w I c B v vm cb co ccap ms xs ev cs ks e:=by
 obtain ⟨V,HV,o,G,O⟩:∃ V,Hid ((w.alloc (.cells #[vm,.slice (some ⟨cb,co,none⟩) xs.length ccap] 25)).alloc (.cells #[U8 ev.1,U8 ev.2] 28)=V)/\Bw w V/\Hid (Hp V w.heap.size 25 [vm,.slice (some ⟨cb,co,none⟩) xs.length ccap])/\Hid (Hp V (w.heap.size+1) 28 [U8 ev.1,U8 ev.2]) :=
  ⟨_,rfl,by go_grown,(Hp.new w _ _).alloc _,by have:=Hp.new (w.alloc (.cells #[vm,.slice (some ⟨cb,co,none⟩) xs.length ccap] 25)) [U8 ev.1,U8 ev.2] 28;rw [World.size_alloc] at this;exact this⟩
 have af:=qAa ((hm.below h0 (Nat.le_refl _)).below o (Nat.le_refl _));have ab:=qAa ((hx.below h0).below o);have aa:=qAa (D.below o);have al:=D.hp.lt
 have ah:=fun k e=>(D.row.lt k e).2
 have aj:w.heap.size+2<=V.heap.size:=by have:=O.out.lt;omega
 have m0:=G.out.cell (j:=0) rfl;have m1:=G.out.cell (j:=1) rfl;have M:=qAa (fun (a F:World) (b rb tb:Nat) (J:Value) (h1:Chg w a (bkS c v)) (h2:Bk a B c J (ks++[⟨2,0,0⟩])) (h3:RowNew w v J)=>yTv (F:=F) (b:=b) (rb:=rb) (tb:=tb) (ev:=ev) (ws:=ws) (cs:=cs) hm hx h0 a9 ag ad a5 D h1 h2 h3);clear hm hx;go_enter Tryz.func16,Tryz.ntmps16
 go_wp2_with (first
  | (go_at_call 28;rw [HV.out];go_must (refine (yQu af.out ab.out hj).mono ?_);rintro e w4 ⟨u,rfl,y⟩;go_must (have ac:=qAa (aa.out.below y);have an:=y.size))
  | (go_at_call 29;go_must (refine (yPy w4 ac.out (by omega) (by omega)).mono ?_);rintro e a ⟨rfl,J,a4,n,N⟩))
 have a7:Bw w w4:=o.trans (y.mono o.size);have a0:=qAa ((Chg.of_below (S:=bkS c v) a7).trans n (fun _ _ e=>e))
 have a1:=qAa (show RowNew w v J from by
  rcases N with e|⟨k,e,hk⟩
  ·exact .inl e
  ·exact .inr ⟨k,e,by omega⟩)
 have am:=n.size
 have nb:∀ k,w.heap.size<=k->¬ bkS c v k:=fun k hk e=>by
  rcases e with e|e
  ·omega
  ·have:=ah k e;omega
 have U:=qAa ((G.out.below y G.out.lt).chg n (nb _ (Nat.le_refl _)));have a3:=qAa ((O.out.below y O.out.lt).chg n (nb _ (by omega)));have a2:=qAa a4
 have z:Hid (∀ d:World,Bw a d->d.cell? ⟨w.heap.size,0,none⟩=some vm/\d.cell? ⟨w.heap.size,1,none⟩=some (.slice (some ⟨cb,co,none⟩) xs.length ccap)/\d.cell? ⟨w.heap.size+1,0,none⟩=some (U8 ev.1)/\d.cell? ⟨w.heap.size+1,1,none⟩=some (U8 ev.2)):=fun d R=>⟨(U.out.below R (by omega)).cell rfl,(U.out.below R (by omega)).cell rfl,(a3.out.below R (by omega)).cell rfl,(a3.out.below R (by omega)).cell rfl⟩
 obtain ⟨K,E⟩:∃ K,Hid (K=(qBx startE.regs).toArray):=⟨_,rfl⟩;obtain ⟨i,l⟩:∃ i,Hid (i=(tnC startE.turn).toArray):=⟨_,rfl⟩
 have T:∀ d:World,(Instr.makeSlice 67 (I4 8) (I4 8)).run Tryz.prog d=.ok (.slice (some ⟨d.heap.size,0,none⟩) 8 8) (d.alloc (.cells K 26)):=fun d=>by rw [E.out];exact qUt d
 have Z:∀ d:World,(Instr.makeSlice 71 (I4 64) (I4 64)).run Tryz.prog d=.ok (.slice (some ⟨d.heap.size,0,none⟩) 64 64) (d.alloc (.cells i 2)):=fun d=>by rw [l.out];exact qTs d
 clear m0 m1 a4 n N T Z
 have T:∀ d:World,(Instr.makeSlice 67 (I4 8) (I4 8)).run Tryz.prog d=.ok (.slice (some ⟨d.heap.size,0,none⟩) 8 8) (d.alloc (.cells K 26)):=fun d=>by rw [E.out];exact qUt d
 have Z:∀ d:World,(Instr.makeSlice 71 (I4 64) (I4 64)).run Tryz.prog d=.ok (.slice (some ⟨d.heap.size,0,none⟩) 64 64) (d.alloc (.cells i 2)):=fun d=>by rw [l.out];exact qTs d
 refine wp_region_held_drew (S:=fun I=>I.cell? ⟨w.heap.size,0,none⟩=some vm/\I.cell? ⟨w.heap.size,1,none⟩=some (.slice (some ⟨cb,co,none⟩) xs.length ccap)/\I.cell? ⟨w.heap.size+1,0,none⟩=some (U8 ev.1)/\I.cell? ⟨w.heap.size+1,1,none⟩=some (U8 ev.2)) (by kernel_rfl) (z.out _ (qAn (Below.refl _ _))) (fun hHeld=>?_);refine qBb [0,1,2] ?_
 repeat (refine tkO (v:=?_) rfl ?_ ?_;rotate_left;(intro wy hSw;(try dsimp only at hSw);go_simp;(first|done|with_reducible rfl));try simp only [Act.put,p1q,p2q,p3q,p4q,p5q,p6q])
 refine qAs ?_;refine qOc 3 4 (by kernel_rfl) rfl rfl (by rfl) (by rfl) (fun KK hK=>?_) (fun KK hK=>?_)
 ·obtain ⟨X,L,g,Q⟩:∃ X,Hid (a.alloc (.cells K 26)=X)/\Bw a X/\X.heap.size=a.heap.size+1:=⟨_,rfl,(Below.refl a.heap.size a).alloc (Nat.le_refl _) _,by simp⟩;obtain ⟨Y,A,f,P⟩:∃ Y,Hid (X.alloc (.cells i 2)=Y)/\Bw a Y/\Y.heap.size=a.heap.size+2:=⟨_,rfl,g.alloc g.size _,by simp;omega⟩
  have r:Hp X a.heap.size 26 (qBx startE.regs):=by rw [<- L.out,E.out];exact Hp.new a _ _
  have s:Hp Y (a.heap.size+1) 2 (tnC startE.turn):=by rw [<- A.out,l.out];have:=Hp.new X (tnC startE.turn) 2;rw [Q] at this;exact this
  have a6:Hid (Hp (Y.alloc (.cells (sdC vm (.slice (some ⟨cb,co,none⟩) xs.length ccap) ev.1 ev.2 c (a.heap.size) (a.heap.size+1) 0 0 0).toArray 73)) a.heap.size 26 (qBx startE.regs)):=Hp.alloc (by rw [<- A.out];exact r.alloc _) _;have ai:Hid (Hp (Y.alloc (.cells (sdC vm (.slice (some ⟨cb,co,none⟩) xs.length ccap) ev.1 ev.2 c (a.heap.size) (a.heap.size+1) 0 0 0).toArray 73)) (a.heap.size+1) 2 (tnC startE.turn)):=s.alloc _;clear r s;go_simp;rw [L.out];refine hK.out _ _ (z.out _ (qAn g)) (fun hHeld=>?_);clear hK KK
  try simp only [Act.put,p1q,p2q,p3q,p4q,p5q,p6q]
  refine qAr 4 (by kernel_rfl) rfl (by rfl) (fun KK hK=>?_);go_simp;rw [A.out];refine hK.out _ _ (z.out _ (qAn f)) (fun hHeld=>?_);clear hK KK
  try simp only [Act.put,p1q,p2q,p3q,p4q,p5q,p6q]
  refine qBb [5] ?_
  repeat (refine tkO (v:=?_) rfl ?_ ?_;rotate_left;(intro wy hSw;(try dsimp only at hSw);go_simp;(first|done|with_reducible rfl));try simp only [Act.put,p1q,p2q,p3q,p4q,p5q,p6q])
  refine qAs ?_;refine qAr 6 (by kernel_rfl) rfl (by rfl) (fun KK hK=>?_);go_simp;refine hK.out _ _ (z.out _ (qAn (f.alloc f.size _))) (fun hHeld=>?_);clear hK KK
  try simp only [Act.put,p1q,p2q,p3q,p4q,p5q,p6q]
  refine qBb [7,8] ?_
  repeat (refine tkO (v:=?_) rfl ?_ ?_;rotate_left;(intro wy hSw;(try dsimp only at hSw);go_simp;(first|done|with_reducible rfl));try simp only [Act.put,p1q,p2q,p3q,p4q,p5q,p6q])
  refine qAs ?_;refine wpAnyH_done (by kernel_rfl) ?_ _;clear hHeld;go_wp2;go_ret2;exact M.out a _ (a.heap.size+2) (a.heap.size) (a.heap.size+1) J a0.out a2.out a1.out (qAn (f.alloc f.size _)) (by have:=Hp.new Y (sdC vm (.slice (some ⟨cb,co,none⟩) xs.length ccap) ev.1 ev.2 c (a.heap.size) (a.heap.size+1) 0 0 0) 73;rw [P] at this;exact this.drew) a6.out.drew ai.out.drew (by omega) (by omega) (by omega)
 ·obtain ⟨X,L,g,Q⟩:∃ X,Hid (a.alloc (.cells i 2)=X)/\Bw a X/\X.heap.size=a.heap.size+1:=⟨_,rfl,(Below.refl a.heap.size a).alloc (Nat.le_refl _) _,by simp⟩;obtain ⟨Y,A,f,P⟩:∃ Y,Hid (X.alloc (.cells K 26)=Y)/\Bw a Y/\Y.heap.size=a.heap.size+2:=⟨_,rfl,g.alloc g.size _,by simp;omega⟩
  have r:Hp X a.heap.size 2 (tnC startE.turn):=by rw [<- L.out,l.out];exact Hp.new a _ _
  have s:Hp Y (a.heap.size+1) 26 (qBx startE.regs):=by rw [<- A.out,E.out];have:=Hp.new X (qBx startE.regs) 26;rw [Q] at this;exact this
  have ae:Hid (Hp (Y.alloc (.cells (sdC vm (.slice (some ⟨cb,co,none⟩) xs.length ccap) ev.1 ev.2 c (a.heap.size+1) (a.heap.size) 0 0 0).toArray 73)) a.heap.size 2 (tnC startE.turn)):=Hp.alloc (by rw [<- A.out];exact r.alloc _) _;have a8:Hid (Hp (Y.alloc (.cells (sdC vm (.slice (some ⟨cb,co,none⟩) xs.length ccap) ev.1 ev.2 c (a.heap.size+1) (a.heap.size) 0 0 0).toArray 73)) (a.heap.size+1) 26 (qBx startE.regs)):=s.alloc _;clear r s;go_simp;rw [L.out];refine hK.out _ _ (z.out _ (qAn g)) (fun hHeld=>?_);clear hK KK
  try simp only [Act.put,p1q,p2q,p3q,p4q,p5q,p6q]
  refine qAr 3 (by kernel_rfl) rfl (by rfl) (fun KK hK=>?_);go_simp;rw [A.out];refine hK.out _ _ (z.out _ (qAn f)) (fun hHeld=>?_);clear hK KK
  try simp only [Act.put,p1q,p2q,p3q,p4q,p5q,p6q]
  refine qBb [5] ?_
  repeat (refine tkO (v:=?_) rfl ?_ ?_;rotate_left;(intro wy hSw;(try dsimp only at hSw);go_simp;(first|done|with_reducible rfl));try simp only [Act.put,p1q,p2q,p3q,p4q,p5q,p6q])
  refine qAs ?_;refine qAr 6 (by kernel_rfl) rfl (by rfl) (fun KK hK=>?_);go_simp;refine hK.out _ _ (z.out _ (qAn (f.alloc f.size _))) (fun hHeld=>?_);clear hK KK
  try simp only [Act.put,p1q,p2q,p3q,p4q,p5q,p6q]
  refine qBb [7,8] ?_
  repeat (refine tkO (v:=?_) rfl ?_ ?_;rotate_left;(intro wy hSw;(try dsimp only at hSw);go_simp;(first|done|with_reducible rfl));try simp only [Act.put,p1q,p2q,p3q,p4q,p5q,p6q])
  refine qAs ?_;refine wpAnyH_done (by kernel_rfl) ?_ _;clear hHeld;go_wp2;go_ret2;exact M.out a _ (a.heap.size+2) (a.heap.size+1) (a.heap.size) J a0.out a2.out a1.out (qAn (f.alloc f.size _)) (by have:=Hp.new Y (sdC vm (.slice (some ⟨cb,co,none⟩) xs.length ccap) ev.1 ev.2 c (a.heap.size+1) (a.heap.size) 0 0 0) 73;rw [P] at this;exact this.drew) a8.out.drew ae.out.drew (by omega) (by omega) (by omega)
theorem xCo {w:World}{B:Nat}{u:Value}{R:List Int}(h:w.ownsRow B 26 1 u 8 (qBx R)):∃ g cap,u=.slice (some ⟨g,0,none⟩) 8 cap/\B<=g/\g<w.heap.size/\8<=cap/\cap<=9223372036854775807/\w.frozen? ⟨g,0,none⟩=false:=by
 rcases h with ⟨_,⟨_,h0⟩|⟨g,cap,f,e,b,a,c,d,_⟩⟩
 ·omega
 ·unfold maxLen at d;refine ⟨g,cap,e,b,(Array.getElem?_eq_some_iff.1 a).1,c,by omega,?_⟩
  simp [World.frozen?,a]
section
variable {w0:World} {b sb mb mo mcap b2 rb tb c B cb co ccap:Nat} {um vm v:Value} {ms:List Int} {xs:List In} {ev:Int×Int} {M:Mc} {ks:List Ak} {known:List St}
theorem yXh (hK:Known xs ms.length known)(a:Safe xs ms.length known M):∃ n o,(∀ w,Mh w b sb um mb mo mcap ms xs ev M->Cl 42 #[.pointer (some ⟨b,0,none⟩)] w fun e f=>e=.returned (.tuple #[U8 n,.bool o])/\Bw w f)/\(∀ w,Dh w0 w b2 rb tb c B vm cb co ccap ms xs ev M v ks->Cl 43 #[.pointer (some ⟨b2,0,none⟩)] w fun e f=>e=.returned (.tuple #[U8 n,.bool o])/\Bw w f):=by
 by_cases m2:M.mode=2
 ·have i:(nth xs M.pc).op=22:=by
   rcases a.mode with g|g|g
   ·omega
   ·omega
   ·exact g.2
  have d:=qDc (hK.T.right a.pc) (.inr (.inr (.inr i)));exact ⟨_,true,fun w h=>yQn w h.ma m2 h.code a.pc d rfl,fun w h=>yOx w h.rd (by rw [m2];rfl) rfl h.codeW a.pc d rfl⟩
 ·exact ⟨0,false,fun w h=>yXc w h.ma m2,fun w h=>yTt w h.rd rfl m2⟩
theorem qVq (w:World)(hK:Known xs ms.length known)(Y:Safe xs ms.length known M)(h:Mh w b sb um mb mo mcap ms xs ev M)(s:Dh w0 w b2 rb tb c B vm cb co ccap ms xs ev M v ks)(a5:M.steps<=1000) :
  Cl 20 #[.pointer (some ⟨b,0,none⟩),.pointer (some ⟨b2,0,none⟩)] w fun e G=>e=.returned (.bool true)/\Bw w G:=by
 obtain ⟨n,o,R,hD⟩:=yXh (w0:=w0) (b:=b) (sb:=sb) (mb:=mb) (mo:=mo) (mcap:=mcap) (b2:=b2) (rb:=rb) (tb:=tb) (c:=c) (B:=B) (cb:=cb) (co:=co) (ccap:=ccap) (um:=um) (vm:=vm) (v:=v) (ev:=ev) (ks:=ks) hK Y;have HL:=qAa R;have HD:=qAa hD;have L:=qAa (fun (a:World) (f:Bw w a)=>h.below f);have P:=qAa (fun (a:World) (f:Bw w a)=>s.belowD f);have h8:=Y.wr.1
 have a1:(M.pc:Int)<=100:=by have:=h.ma.pc;omega
 have a3:(o != o)=false:=by cases o<;>rfl
 clear h s R hD;go_enter Tryz.func20,Tryz.ntmps20
 go_wp2_with (first
  | (go_at_call 42;go_must (refine (HL.out w (L.out w (Below.refl _ _))).mono ?_);rintro e Q ⟨rfl,A⟩)
  | (go_at_call 43;go_must (refine (HD.out Q (P.out Q A)).mono ?_);rintro e Z ⟨rfl,a0⟩;go_must (have r:Bw w Z:=A.trans (a0.mono A.size)))
  | (go_at_call 44;go_must (refine (yNr (L.out Z r).ma).mono ?_);rintro e d ⟨u,rfl,E,X⟩;go_must (have T:=qAa E;have g:Bw w d:=r.trans (X.mono r.size);obtain ⟨l,gc,hu,O,I,a4,a2,F⟩:=xCo E;subst hu;have S:∀ a:World,Bw d a->a.frozen? ⟨l,0,none⟩=false:=(fun a f=>(World.frozen?_of_block (f.block l I)).trans F);clear E)))
 have K:=qAa (L.out d g).ma.drew;have z:=qAa (fun (a:World) (f:Bw d a)=>(P.out a (g.trans (f.mono g.size))).rd);have U:d.drew.cell? ⟨b2,7,none⟩=some (I4 M.pc)/\d.drew.cell? ⟨b2,8,none⟩=some (I4 M.steps):=⟨(z.out d (Below.refl _ _)).st.drew.cell (j:=7) rfl,(z.out d (Below.refl _ _)).st.drew.cell (j:=8) rfl⟩
 have J:Hid (∀ a:World,Bw d a->∀ k,k<8->a.cell? ⟨l,k,none⟩=some (U8 (M.regs.getD k 0))/\a.cell? ⟨b2,5,none⟩=some (.slice (some ⟨rb,0,none⟩) 8 8)/\a.cell? ⟨rb,k,none⟩=some (U8 (M.regs.getD k 0))):=fun a f k hk=>by
  have e:=T.out.cellAt k (by omega);rw [qDu (show k<M.regs.length by omega)] at e;have s:=z.out a f;exact ⟨(f.cell (p:=⟨l,k,none⟩) I).trans e,s.st.cell s.c5,s.rg.cell (qDu (show k<M.regs.length by omega))⟩
 go_region_held3 (fun G=>G.cell? ⟨b2,7,none⟩=some (I4 M.pc)/\G.cell? ⟨b2,8,none⟩=some (I4 M.steps))
  (exact U)
  (first
   | (go_at_call 45;go_must (refine (xAu _ K.out).mono ?_);rintro e w4 ⟨rfl,rfl⟩)
   | (go_at_call 46;go_must (refine (yIe _ K.out).mono ?_);rintro e w4 ⟨rfl,rfl⟩))
 go_wp2
 go_loopw [10] (fun i wr=>∃ k:Nat,k<=8/\i=I4 k/\Hid (Bw d wr)) (fun i _=>8-(intOf i).toNat)
 case atStart=>exact ⟨0,by omega,rfl,qAn (Below.refl _ _)⟩
 case round =>
  obtain ⟨k,hk,rfl,D⟩:=hrel
  rename World=>wr
  by_cases hk8:k<8
  ·have V:(k:Int)<8:=by omega
   obtain ⟨c1,c2,c3⟩:=J.out wr D.out k hk8
   generalize M.regs.getD k 0=y at c1 c3
   go_wp2;go_region;go_wp2
   go_roundw
   case rel=>exact ⟨k+1,by omega,by go_num,qAn D.out⟩
   case measure=>(simp [intOf];try omega)
  ·have V:¬ (k:Int)<8:=by omega
   obtain ⟨c1,_,_⟩:=J.out wr D.out 0 (by omega);have f1:wr.frozen? ⟨l,0,none⟩=false:=(S wr D.out);have N:Hid (Bw w wr):=g.trans (D.out.mono g.size);have F:w.heap.size<=l:=Nat.le_trans r.size O;go_wp2;go_ret;exact ⟨rfl,N.out.trans (qAi (qAc wr l 0 _) F N.out.size)⟩
end
theorem SeesR.at11 {w:World}{a:Option Addr}{n cap:Nat}{xs:List Rs}(h:SeesR w (.slice a n cap) xs){j:Nat}(b:j<xs.length):∃ p off,a=some ⟨p,off,none⟩/\p<w.heap.size/\AtR w p (off+j*6) (xs.getD j Rs.nil)/\(xs.getD j Rs.nil).wf:=by
 obtain ⟨k,i,ev,_,_,_,d,g⟩:=h;simp only [Value.slice.injEq] at ev;obtain ⟨rfl,_,rfl⟩:=ev;obtain ⟨p,off,rfl,f,c⟩:=g (fun e=>by rw [e] at b;simp at b);exact ⟨p,off,rfl,f,c j b,d _ (by simp [List.getD,b])⟩
section
variable {w0 w w':World} {b rb tb c B cb co ccap:Nat} {vm v:Value} {ms:List Int} {xs:List In} {ev:Int×Int} {M:Mc} {ks:List Ak}
theorem Dh.far {S:Nat->Prop}(h:Dh w0 w b rb tb c B vm cb co ccap ms xs ev M v ks)(a:Chg w w' S)(d:∀ k,dhS b rb tb c v k->¬ S k)(g:∀ k,S k->w0.heap.size<=k):Dh w0 w' b rb tb c B vm cb co ccap ms xs ev M v ks :=
 ⟨⟨h.rd.st.chg a (d b (.inl rfl)),h.rd.c5,h.rd.c6,h.rd.c7,h.rd.rg.chg a (d rb (.inr (.inl rfl))),h.rd.tn.chg a (d tb (.inr (.inr (.inl rfl)))),h.rd.wr,h.rd.pc⟩,h.bk.chg a (d c (.inr (.inr (.inr (.inl rfl))))) (fun k f=>d k (.inr (.inr (.inr (.inr f))))),h.tie,h.maps,h.code,h.bel.trans (a.below g h.bel.size),h.hi,Nat.le_trans h.bw a.size⟩
theorem Dh.mode9 (h:Dh w0 w b rb tb c B vm cb co ccap ms xs ev M v ks){m:Nat}(hm:M.mode=m):w.cell? ⟨b,9,none⟩=some (I4 m):=by
 have:=h.rd.st.cell (j:=9) rfl;rw [hm] at this;exact this
end
structure Pk (w1 w:World) (n m b sb mb mcap b2 rb tb c cb co ccap:Nat) (um vm:Value) (ms:List Int) (xs:List In) (ev:Int×Int) (M N:Mc) (v:Value) (ks:List Ak):Prop where
 l:Mh w b sb um mb 0 mcap ms xs ev M
 d:Dh w1 w b2 rb tb c w1.heap.size vm cb co ccap ms xs ev N v ks
 lo:(w1.heap.size<=sb/\sb<n/\c<n/\c≠sb/\m<=w.heap.size)/\(n<=b/\b<m/\n<=mb/\mb<m)/\m<=b2/\m<=rb/\m<=tb
 um:ms=[]∨∀ j,um.ownBlock=some j->n<=j/\j<m
 rw:∀ j,v.ownBlock=some j->(j<n/\j≠sb)∨m<=j
section
variable {w1 w w':World} {n m b sb mb mcap b2 rb tb c cb co ccap:Nat} {um vm v v':Value} {ms:List Int} {xs:List In} {ev:Int×Int} {M N M' N':Mc} {ks ks':List Ak}
theorem Pk.below (h:Pk w1 w n m b sb mb mcap b2 rb tb c cb co ccap um vm ms xs ev M N v ks)(a:Bw w w'):Pk w1 w' n m b sb mb mcap b2 rb tb c cb co ccap um vm ms xs ev M N v ks :=
 ⟨h.l.below a,h.d.belowD a,⟨⟨h.lo.1.1,h.lo.1.2.1,h.lo.1.2.2.1,h.lo.1.2.2.2.1,Nat.le_trans h.lo.1.2.2.2.2 a.size⟩,h.lo.2⟩,h.um,h.rw⟩
theorem Pk.far (h:Pk w1 w n m b sb mb mcap b2 rb tb c cb co ccap um vm ms xs ev M N v ks)(k:Nat)(a:dhS b2 rb tb c v k):(k<n/\k≠sb)∨m<=k:=by
 have:=h.lo
 rcases a with e|e|e|e|e
 ·omega
 ·omega
 ·omega
 ·omega
 ·exact h.rw k e
theorem Pk.goL (h:Pk w1 w n m b sb mb mcap b2 rb tb c cb co ccap um vm ms xs ev M N v ks)(f:Chg w w' (fun k=>k=b∨k=sb))(hm:Mh w' b sb um mb 0 mcap ms xs ev M'):Pk w1 w' n m b sb mb mcap b2 rb tb c cb co ccap um vm ms xs ev M' N v ks:=by
 have a:=h.lo;have i:=f.size;exact ⟨hm,h.d.far f (fun k g e=>by have:=h.far k g;omega) (fun k e=>by omega),⟨⟨a.1.1,a.1.2.1,a.1.2.2.1,a.1.2.2.2.1,by omega⟩,a.2⟩,h.um,h.rw⟩
theorem Pk.goD (h:Pk w1 w n m b sb mb mcap b2 rb tb c cb co ccap um vm ms xs ev M N v ks)(f:Chg w w' (dhS b2 rb tb c v))(i:Dh w1 w' b2 rb tb c w1.heap.size vm cb co ccap ms xs ev N' v' ks')(g:RowNew w v v'):Pk w1 w' n m b sb mb mcap b2 rb tb c cb co ccap um vm ms xs ev M N' v' ks':=by
 have d:=h.lo;have r:=f.size;refine ⟨h.l.apart f (fun e=>by have:=h.far _ e;omega) (fun e=>by have:=h.far _ e;omega) (fun e=>by have:=h.far _ e;omega) (h.um.imp id fun q j a e=>by have:=q j a;have:=h.far _ e;omega),i,⟨⟨d.1.1,d.1.2.1,d.1.2.2.1,d.1.2.2.2.1,by omega⟩,d.2⟩,h.um,fun j a=>?_⟩
 rcases g with q|⟨k,q,o⟩
 ·rw [q] at a;exact h.rw j a
 ·rw [q] at a;have:=Option.some.inj a
  omega
variable {known:List St}
theorem Pk.stepL (h:Pk w1 w n m b sb mb mcap b2 rb tb c cb co ccap um vm ms xs ev M N v ks)(hK:Known xs ms.length known)(f:Safe xs ms.length known M)(d:(0<=ev.1/\ev.1<=18446744073709551615)/\0<=ev.2/\ev.2<=18446744073709551615)(a:M.steps<=1000) :
  Cl 18 #[.pointer (some ⟨b,0,none⟩)] w fun e w'=>e=.returned (acV (qBe ms xs ev M).1)/\Pk w1 w' n m b sb mb mcap b2 rb tb c cb co ccap um vm ms xs ev (qBe ms xs ev M).2 N v ks:=by
 refine (qWz hK f d h.l a).mono ?_;rintro e w' ⟨rfl,g,hm⟩;exact ⟨rfl,h.goL g hm⟩
theorem Pk.stepD (h:Pk w1 w n m b sb mb mcap b2 rb tb c cb co ccap um vm ms xs ev M N v ks)(hK:Known xs ms.length known)(i:Safe xs ms.length known N)(f:(0<=ev.1/\ev.1<=18446744073709551615)/\0<=ev.2/\ev.2<=18446744073709551615)(a:N.steps<=1000)(g:ks.length<=90000) :
  Cl 19 #[.pointer (some ⟨b2,0,none⟩)] w fun e w'=>e=.returned (acV (qBe ms xs ev N).1)/\∃ v' ks',ks'.length<=ks.length+1/\Pk w1 w' n m b sb mb mcap b2 rb tb c cb co ccap um vm ms xs ev M (qBe ms xs ev N).2 v' ks':=by
 refine (yNt hK i f h.d a g).mono ?_;rintro e w' ⟨rfl,k,v',ks',l,o,r⟩;exact ⟨rfl,v',ks',o,h.goD k l r⟩
theorem Pk.ansL (h:Pk w1 w n m b sb mb mcap b2 rb tb c cb co ccap um vm ms xs ev M N v ks)(hK:Known xs ms.length known)(a:Safe xs ms.length known M)(hm:M.mode=1)(r:Rs)(g:r.wf) :
  Cl 17 #[.pointer (some ⟨b,0,none⟩),qNw r.E r.f r.v r.o r.k r.u] w fun e w'=>e=.returned (I4 0)/\Pk w1 w' n m b sb mb mcap b2 rb tb c cb co ccap um vm ms xs ev (qGk xs M r.E r.f r.v) N v ks:=by
 refine (qTd hK a h.l hm r.E r.f r.v r.o r.k r.u g).mono ?_;rintro e w' ⟨rfl,d,hm⟩;exact ⟨rfl,h.goL d hm⟩
theorem Pk.ansD (h:Pk w1 w n m b sb mb mcap b2 rb tb c cb co ccap um vm ms xs ev M N v ks)(hK:Known xs ms.length known)(a:Safe xs ms.length known N)(hm:N.mode=1)(r:Rs)(l:r.wf) :
  Cl 21 #[.pointer (some ⟨b2,0,none⟩),qNw r.E r.f r.v r.o r.k r.u] w fun e w'=>e=.returned (I4 0)/\Pk w1 w' n m b sb mb mcap b2 rb tb c cb co ccap um vm ms xs ev M (qGk xs N r.E r.f r.v) v ks:=by
 refine (yFf hK a h.d hm r.E r.f r.v r.o r.k r.u l).mono ?_;rintro e w' ⟨rfl,g,i⟩;exact ⟨rfl,h.goD g i (.inl rfl)⟩
end
theorem yJg (w:World)(t:TypeId):Sees .u64 (w.alloc (.cells #[U8 1,U8 2,U8 3] t)) (.slice (some ⟨w.heap.size,0,none⟩) 3 3) [1,2,3]:=by
 refine ⟨some ⟨w.heap.size,0,none⟩,3,rfl,by simp,by simp [maxLen],fun e=>(by cases e),fun x a=>?_,fun _=>⟨w.heap.size,0,rfl,by simp,fun i hi=>?_⟩⟩
 ·simp at a
  rcases a with rfl|rfl|rfl<;>rfl
 ·rw [Nat.zero_add,World.cell?_alloc_at _ _ _ _ rfl]
  have b:i=0∨i=1∨i=2:=by simp at hi;omega
  rcases b with rfl|rfl|rfl<;>rfl
theorem xBr (w:World)(vm c:Value)(a f:Int)(d:Value)(b:Int):∃ V,Hid (w.alloc (.cells #[vm,c,U8 a,U8 f,d,I4 b] 31)=V)/\Hid (Hp V w.heap.size 31 [vm,c,U8 a,U8 f,d,I4 b])/\Bw w V/\V.heap.size=w.heap.size+1:=⟨_,rfl,Hp.new w _ _,(Below.refl _ _).alloc (Nat.le_refl _) _,by simp⟩
theorem yLz {w:World}{a:Option Addr}{n cap:Nat}{xs:List In}(h:SeesI w (.slice a n cap) xs)(c:0<xs.length):∃ p off,a=some ⟨p,off,none⟩:=by
 obtain ⟨d,c',ev,_,_,_,g⟩:=h;simp only [Value.slice.injEq] at ev;obtain ⟨rfl,_,rfl⟩:=ev;obtain ⟨b,off,rfl,_⟩:=g (fun e=>by rw [e] at c;simp at c);exact ⟨b,off,rfl⟩
theorem yMt {w:World}{v:Value}{xs:List In}(h:SeesI w v xs)(d:0<xs.length):∃ cb co ccap,v=.slice (some ⟨cb,co,none⟩) xs.length ccap:=by
 obtain ⟨a,c,rfl,_,_,_,g⟩:=h;obtain ⟨b,off,rfl,_⟩:=g (fun e=>by rw [e] at d;simp at d);exact ⟨b,off,c,rfl⟩
theorem yAv {α:Type}{w:World}{B:Nat}{e:TypeId}{z:Nat}{v:Value}{xs:List α}{cs:List Value}(h:OwnOr w B e z v xs.length cs):xs=[]∨∀ j,v.ownBlock=some j->B<=j:=by
 rcases h with ⟨h,_⟩|h
 ·exact .inl (List.eq_nil_of_length_eq_zero h)
 ·exact .inr fun j a=>(h.lt j a).1
theorem yQk {w:World}{k:IntKind}{a:Option Addr}{n cap:Nat}{xs:List Int}(h:Sees k w (.slice a n cap) xs)(c:0<xs.length):∃ p off,a=some ⟨p,off,none⟩:=by
 obtain ⟨d,c',ev,_,_,_,_,g⟩:=h;simp only [Value.slice.injEq] at ev;obtain ⟨rfl,_,rfl⟩:=ev;obtain ⟨b,off,rfl,_⟩:=g (fun e=>by rw [e] at c;simp at c);exact ⟨b,off,rfl⟩
theorem yAp {w:World}{B p off n cap z:Nat}{e:TypeId}{cs:List Value}(h:OwnOr w B e z (.slice (some ⟨p,off,none⟩) n cap) n cs)(k:0<n):off=0/\p<w.heap.size/\∃ l,Hp w p e l/\n*z<=l.length:=by
 rcases h with ⟨h,_⟩|⟨_,⟨_,h⟩|⟨g,c',a,ev,f,b,d,o,c,i⟩⟩
 ·omega
 ·omega
 ·simp only [Value.slice.injEq,Option.some.injEq,Addr.mk.injEq] at ev;obtain ⟨⟨rfl,rfl,_⟩,_,rfl⟩:=ev;refine ⟨rfl,(Array.getElem?_eq_some_iff.1 b).1,a.toList,?_,?_⟩
  ·show w.heap[p]? = some (.cells a.toList.toArray e (0,0))
   rw [Array.toArray_toList];exact b
  ·rw [Array.length_toList,c];exact Nat.mul_le_mul_right _ d
def ws0:List Int:=nought.set 4 44
def cs0:List Int:=qVm nought [1,2,3]
theorem xCq:Tie (qDg ([]++[⟨1,4,44⟩]) [1,2,3] 3) ws0 cs0:=by
 have h:=(Tie.nil.store (a:=4) (by decide) 44).raise [1,2,3] 3 (by decide) (by decide);rw [qYv (m:=3) (by decide)] at h;exact h
theorem yFg (vm vc:Value)(ms:List Int)(xs:List In)(L I:Int)(vr:Value)(rs:List Rs)(od:Int)(w:World)(h:SeesM w vm vc ms xs)(hr:SeesR w vr rs)(ay:(0<=L/\L<=18446744073709551615)/\0<=I/\I<=18446744073709551615)(gv : -9223372036854775808<=od/\od<=9223372036854775807)(z:ms.length*8<=140737488351232/\xs.length*40<=140737488355328/\rs.length*48<=140737488355328) :
  Cl 4 #[.agg #[vm,vc,U8 L,U8 I,vr,I4 od]] w fun e w'=>e=.returned (.bool true)/\Bw w w':=by
 have e6:ms.length*8<=140737488351232/\xs.length*40<=140737488355328:=⟨z.1,z.2.1⟩
 obtain ⟨ra,rc,rfl,gj,h6⟩:∃ a c,vr=.slice a rs.length c/\rs.length<=c/\c<=9223372036854775807:=by obtain ⟨a,c,e,h1,X,_⟩:=hr;unfold maxLen at X;exact ⟨a,c,e,h1,by omega⟩
 obtain ⟨V,HV,fm,bl,gi⟩:=xBr w vm vc L I (.slice ra rs.length rc) od
 have HQ:Hid (∀ s:World,Bw V s->Hp s w.heap.size 31 [vm,vc,U8 L,U8 I,.slice ra rs.length rc,I4 od]):=fun s hb=>fm.out.below hb (by omega)
 have HP:Hid (∀ s:World,Bw V s->s.cell? ⟨w.heap.size,0,none⟩=some vm/\s.cell? ⟨w.heap.size,1,none⟩=some vc/\s.cell? ⟨w.heap.size,2,none⟩=some (U8 L)/\s.cell? ⟨w.heap.size,3,none⟩=some (U8 I)):=fun s hb=>⟨(HQ.out s hb).cell rfl,(HQ.out s hb).cell rfl,(HQ.out s hb).cell rfl,(HQ.out s hb).cell rfl⟩
 have ah:Hid (∀ s:World,Bw V s->SeesM s vm vc ms xs/\SeesR s (.slice ra rs.length rc) rs):=fun s hb=>⟨(h.below bl).below hb,(hr.below bl (Nat.le_refl _)).below hb (Nat.le_refl _)⟩
 clear h hr;go_enter Tryz.func4,Tryz.ntmps4
 go_wp2_with (first
  | (go_at_call 5;(try rw [HV.out]);go_must (refine (yEj V).mono ?_);rintro e n ⟨rfl,a6⟩)
  | (go_at_call 10;go_must (refine (yGt n).mono ?_);rintro e w2 ⟨rfl,dp,-,bg⟩;go_must (have c7:=qAa dp;have b1:Bw V w2:=a6.trans (bg.mono a6.size);clear dp))
  | (rw [HV.out]))
 go_region_held3 (fun w'=>w'.cell? ⟨w.heap.size,0,none⟩=some vm/\w'.cell? ⟨w.heap.size,1,none⟩=some vc/\w'.cell? ⟨w.heap.size,2,none⟩=some (U8 L)/\w'.cell? ⟨w.heap.size,3,none⟩=some (U8 I))
  (first|with_reducible exact d3|with_reducible exact d5|exact HP.out w2 b1)
  (first
   | (go_at_call 6;go_must (refine (qTl _ _ ms xs w2.drew (ah.out w2.drew (qAn b1)).1 e6).mono ?_);rintro e w3 ⟨fz,fl,rfl,ft,-,-,bt⟩;go_must (have b3:Bw w2 w3:=qAg bt;have bf:Bw V w3:=b1.trans (b3.mono b1.size);have d3:=HP.out w3 bf;clear ft bt))
   | (go_at_call 11;go_must (refine (ySa fz fl (L,I) w3).mono ?_);rintro e w4 ⟨rfl,cw⟩;go_must (have cz:Bw V w4:=bf.trans (cw.mono bf.size);have d5:=HP.out w4 cz)))
 have dj:Bw n w4:=bg.trans ((b3.trans (cw.mono b3.size)).mono bg.size);have fd:Hid (Sc w4 n.heap.size nought nought):=(c7.out.below (b3.trans (cw.mono b3.size)) c7.out.lt)
 have a0:Hid (∀ s:World,Bw n s->Bw V s):=fun s hb=>a6.trans (hb.mono a6.size)
 clear d3 d5 b1 bf cz c7
 go_wp2_with (first
  | (go_at_call 12;go_must (refine (qYk 4 44 w4 fd.out).mono ?_);rintro e w5 ⟨rfl,e5,g2,-⟩;go_must (have cd:Hid (Sc w5 n.heap.size ws0 nought):=e5;have dm:Bw n w5:=dj.trans (qAi g2 (Nat.le_refl _) dj.size);obtain ⟨W6,dk,fe,em⟩:∃ W6,Hid (w5.alloc (.cells #[U8 1,U8 2,U8 3] 26)=W6)/\Hid (Sees .u64 W6 (.slice (some ⟨w5.heap.size,0,none⟩) 3 3) [1,2,3])/\Bw w5 W6:=⟨_,rfl,yJg w5 _,(Below.refl _ _).alloc (Nat.le_refl _) _⟩;have fk:=qAa (cd.out.below em cd.out.lt);have di:Bw n W6:=dm.trans (em.mono dm.size);have es:w5.heap.size≠n.heap.size:=(by have:=cd.out.lt;omega);clear e5))
  | (go_at_call 13;(try rw [dk.out]);go_must (refine (yPd W6 fk.out (fun w' hg=>fe.out.grown hg es)).mono ?_);rintro e w7 ⟨rfl,d7,fn,-⟩;go_must (have cq:Hid (Sc w7 n.heap.size ws0 cs0):=d7;have bi:Bw n w7:=di.trans (qAi fn (Nat.le_refl _) di.size);obtain ⟨W8,dh,ca,d1⟩:∃ W8,Hid (w7.alloc (.cells #[.slice none 0 0] 64)=W8)/\Hid (Bk W8 n.heap.size w7.heap.size (.slice none 0 0) [])/\Bw w7 W8:=⟨_,rfl,⟨Hp.new w7 _ _,World.ownsRow_nil _ _ _ _⟩,(Below.refl _ _).alloc (Nat.le_refl _) _⟩;have dy:=qAa (cq.out.below d1 cq.out.lt);have cu:Bw n W8:=bi.trans (d1.mono bi.size);obtain ⟨c,az⟩:∃ c,Hid (w7.heap.size=c):=⟨_,rfl⟩;rw [az.out] at ca;clear d7))
  | (go_at_call 14;(try rw [dh.out]);go_must (refine (qXs 4 44 (show inB 4=true from rfl) W8 ca.out cu.size (by simp)).mono ?_);rintro e w9 ⟨rfl,v9,ej,ch,fo⟩;go_must (have b9:=qAa ej;have d6:Bw n w9:=cu.trans (ch.below (fun k hk=>(by rcases hk with e|e<;>first|(have:=az.out;have:=bi.size;omega)|cases e)) cu.size);have bb:=qAa (dy.out.chg ch (qBv ca.out dy.out.hp (by decide) (by decide)));have gw:c<w9.heap.size:=b9.out.hp.lt;have du:Hid (∀ k,bkS c v9 k->n.heap.size<=k/\k<w9.heap.size):=(fun k hk=>(by rcases hk with e|e<;>first|(have:=az.out;have:=bi.size;omega)|exact b9.out.row.lt k e));obtain ⟨a9,cg,f6,ad,ep⟩:∃ a9,Hid (w9.alloc (.cells #[U8 1,U8 2,U8 3] 26)=a9)/\Hid (Sees .u64 a9 (.slice (some ⟨w9.heap.size,0,none⟩) 3 3) [1,2,3])/\Bw w9 a9/\Hid (∀ w',Chg a9 w' (bkS c v9)->Sees .u64 w' (.slice (some ⟨w9.heap.size,0,none⟩) 3 3) [1,2,3]):=⟨_,rfl,yJg w9 _,(Below.refl _ _).alloc (Nat.le_refl _) _,fun w' hc=>(yJg w9 _).chg hc (.inr fun j F e=>by (have dn:w9.heap.size=j:=Option.some.inj F);have:=(du.out j e).2;omega)⟩;have b5:Bw n a9:=d6.trans (ad.mono d6.size);clear ej ch fo))
  | (go_at_call 15;(try rw [cg.out]);go_must (refine (yJr a9 (b9.out.below ad) b5.size (by simp) f6.out ep.out (m:=3) (by decide)).mono ?_);rintro e o ⟨rfl,el,ce,b4,-⟩;go_must (have Z:=qAa ce;have ar:Bw n o:=b5.trans (b4.below (fun k hk=>(du.out k hk).1) b5.size);have al:=qAa ((bb.out.below ad bb.out.lt).chg b4 (qBv (b9.out.below ad) (bb.out.below ad bb.out.lt).hp (by decide) (by decide)));obtain ⟨q0,q1,-,-⟩:=HP.out o (a0.out o ar);clear ce b4))
  | (go_at_call 6;go_must (refine (qTl _ _ ms xs o (ah.out o (a0.out o ar)).1 e6).mono ?_);rintro e N ⟨um,uc,rfl,ap,ec,dl,ag⟩;go_must (obtain ⟨na,nc,fy,gy,gr⟩:∃ a c,um=.slice a ms.length c/\ms.length<=c/\c<=9223372036854775807:=(by obtain ⟨a,c,e,h1,X,_⟩:=ap.maps;unfold maxLen at X;exact ⟨a,c,e,h1,by omega⟩);obtain ⟨da,dc,ff,gz,gh⟩:∃ a c,uc=.slice a xs.length c/\xs.length<=c/\c<=9223372036854775807:=(by obtain ⟨a,c,e,h1,X,_⟩:=ap.code;unfold maxLen at X;exact ⟨a,c,e,h1,by omega⟩);subst fy ff;have f5:=qAa ap;have df:=qAa ec;have eg:=qAa dl;have cj:Bw n N:=ar.trans (ag.mono ar.size);obtain ⟨Y,aa,b8,Q⟩:∃ Y,Hid (N.alloc (.cells #[.slice na ms.length nc,.slice da xs.length dc] 25)=Y)/\Hid (Hp Y N.heap.size 25 [.slice na ms.length nc,.slice da xs.length dc])/\Bw N Y:=⟨_,rfl,Hp.new N _ _,(Below.refl _ _).alloc (Nat.le_refl _) _⟩;have a8:Bw n Y:=cj.trans (Q.mono cj.size);obtain ⟨-,-,r2,r3⟩:=HP.out Y (a0.out Y a8);have i0:=b8.out.cell (j:=0) rfl;have i1:=b8.out.cell (j:=1) rfl;clear ap ec dl q0 q1))
  | (rw [dk.out])
  | (rw [dh.out];rw [az.out])
  | (rw [cg.out])
  | (rw [aa.out]))
 have a3:=qAa (f5.out.below Q)
 have dq:∀ s:World,Bw n s->Bw w s:=fun s hb=>bl.trans ((a6.trans (hb.mono a6.size)).mono bl.size)
 cases hi:qKj ms xs with
 | error e =>
  obtain ⟨P,E⟩:=e;have hE:E≠0:=yHb hi (fun e h=>(yKw (p:=e.1) (E:=e.2) h).2)
  have F:Hid (qFq ms xs=(P,E)):=by show _=_;unfold qFq;rw [hi]
  have gp:¬ E=0:=hE
  have gt:(E != 0)=true:=by simpa using hE
  have gl:(E==E)=true:=by simp
  clear hi
  go_wp2_with (first
   | (go_at_call 11;(try rw [aa.out]);go_must (refine (yUe (L,I) _ Y a3.out.maps a3.out.code F hE).mono ?_);rintro e y ⟨rfl,ew⟩;go_must (have U:Bw n y:=a8.trans (ew.mono a8.size);obtain ⟨q0,q1,q2,q3⟩:=HP.out y (a0.out y U)))
   | (go_at_call 16;go_must (refine (ySp (L,I) c y (ah.out y (a0.out y U)).1.maps (ah.out y (a0.out y U)).1.code F hE).mono ?_);rintro e ab ⟨rfl,eq⟩)
   | (rw [aa.out]))
  go_ret;exact ⟨rfl,dq ab (U.trans (eq.mono U.size))⟩
 | ok K =>
  obtain ⟨fx,⟨be,D,_⟩,fp⟩:=qTm hi;have F:Hid (qFq ms xs=(0,0)):=fp;have gq:=yCk fx;have af:0<xs.length/\xs.length<=64:=⟨D.T.pos,D.T.top⟩;obtain ⟨pb,po,rfl⟩:=yLz a3.out.code af.1;have g8:n.heap.size<o.heap.size:=al.out.lt;have d8:ms=[]∨∀ j,(Value.slice na ms.length nc).ownBlock=some j->o.heap.size<=j:=yAv df.out
  have fb:o.heap.size<=pb:=by
   rcases yAv eg.out with e|e
   ·rw [e] at af;exact absurd af.1 (by simp)
   ·exact e pb rfl
  have au:Bw o Y:=ag.trans (Q.mono ag.size);have ck:=qAa (al.out.below au al.out.lt);have bz:=qAa (Z.out.below au);have gb:=au.size;have h5:c<o.heap.size:=Z.out.hp.lt
  have h8:n.heap.size<c:=by have:=az.out;have:=cq.out.lt;omega
  have cc:=qAa (ah.out n a6).1;obtain ⟨rfl,gg,g9,ct,f7⟩:=yAp eg.out af.1;have ez:=qAa (ct.below Q ct.lt)
  have ex:Hid (ms≠[]->∃ g,na=some ⟨g,0,none⟩/\o.heap.size<=g/\g<N.heap.size/\∃ cs,Hp Y g 3 cs/\ms.length<=cs.length):=fun A=>by
   have ei:0<ms.length:=List.length_pos_iff.2 A;obtain ⟨mp,gu,fg⟩:=yQk a3.out.maps ei;subst fg;obtain ⟨rfl,h1,cs,X,h3⟩:=yAp df.out ei;exact ⟨mp,rfl,(d8.resolve_left A) mp rfl,h1,cs,X.below Q X.lt,by omega⟩
  obtain ⟨cb,co,ccap,fs⟩:=yMt cc.out.code af.1;subst fs;have HE:Hid (SeesI n (.slice (some ⟨cb,co,none⟩) xs.length ccap) xs):=cc.out.code;clear hi
  go_wp2_with (first
   | (go_at_call 11;(try rw [aa.out]);go_must (refine (yGe (L,I) n.heap.size Y a3.out.maps a3.out.code ck.out F (by omega) (d8.imp id fun h e=>by have:=h _ e;omega) (by omega) af).mono ?_);rintro e y ⟨b,mb,mcap,ae,rfl,gx,dd,O,hd,b6⟩;go_must (have a2:=qAa dd;have U:Bw n y:=a8.trans (O.below (fun k e=>by omega) a8.size);have gc:=O.size;have b7:=qAa (bz.out.chg O (fun e=>by omega) (fun k hk e=>qBv bz.out ck.out.hp (by decide) (by decide) (.inr (by rw [<- e];exact hk))));obtain ⟨q0,q1,q2,q3⟩:=HP.out y (a0.out y U);have er:=qAa (b8.out.chg O (fun e=>by have:=ag.size;omega));have ey:=qAa (ez.out.chg O (fun e=>by omega));have eu:Hid (ms≠[]->∃ g,na=some ⟨g,0,none⟩/\o.heap.size<=g/\g<N.heap.size/\∃ cs,Hp y g 3 cs/\ms.length<=cs.length):=(fun A=>by obtain ⟨g,e,h1,X,cs,h3,h4⟩:=ex.out A;exact ⟨g,e,h1,X,cs,h3.chg O (fun e=>by omega),h4⟩);clear dd O))
   | (go_at_call 16;go_must (refine (yXt (w0:=n) (c:=c) (B:=n.heap.size) (v:=el) (L,I) y cc.out.maps HE.out U (by omega) (Nat.le_refl _) U.size xCq b7.out (by decide) F).mono ?_);rintro e ab ⟨b2,rb,tb,ed,rfl,cn,O,bg,gm,ha,d4⟩;go_must (have f9:=qAa cn;have ge:Bw n ab:=cn.bel;have gd:=O.size;have et:=qAa (a2.out.apart O (qBv b7.out a2.out.ma.hp (by decide) (by decide)) (qBv b7.out a2.out.sc.hp (by decide) (by decide)) (fun e=>by rcases e with e|e<;>first|omega|(have:=(Z.out.row.lt _ e).2;omega)) (b6.imp id fun h j F e=>by have:=h j F;rcases e with e|e<;>first|omega|(have:=(Z.out.row.lt _ e).2;omega)));have bj:∀ k,o.heap.size<=k->¬ bkS c el k:=(fun k hk e=>by rcases e with e|e<;>first|omega|(have:=(Z.out.row.lt _ e).2;omega));have c9:=qAa (er.out.chg O (bj _ ag.size));have bs:=qAa (ey.out.chg O (bj _ fb));have f8:Hid (ms≠[]->∃ g,na=some ⟨g,0,none⟩/\o.heap.size<=g/\g<N.heap.size/\∃ cs,Hp ab g 3 cs/\ms.length<=cs.length):=(fun A=>by obtain ⟨g,e,h1,X,cs,h3,h4⟩:=eu.out A;exact ⟨g,e,h1,X,cs,h3.chg O (bj _ h1),h4⟩);clear cn O))
   | (rw [aa.out]))
  clear q0 q1 q2 q3
  go_loopw [11] (fun i wr=>∃ k:Nat,k<=xs.length/\i=I4 k/\Hid (Chg ab wr (fun k=>k=pb))/\Hid (∃ cs,Hp wr pb 43 cs/\xs.length*5<=cs.length)) (fun i _=>xs.length-(intOf i).toNat)
  case atStart=>exact ⟨0,by omega,rfl,Chg.refl _ _,_,bs.out,f7⟩
  case round =>
   obtain ⟨k,hk,rfl,HC,HH⟩:=hrel
   rename World=>wr
   have ai:=qAa (c9.out.chg HC.out (fun e=>by omega));have j0:=ai.out.cell (j:=0) rfl;have j1:=ai.out.cell (j:=1) rfl
   by_cases hkn:k<xs.length
   ·have aj:(k:Int)<xs.length:=by omega
    obtain ⟨cs,J,hl⟩:=HH.out
    have hg:∀ j,j<5->∃ v,cs[k*5+j]? = some v:=fun j F=>⟨_,List.getElem?_eq_getElem (by omega)⟩
    obtain ⟨v0,e0⟩:=hg 0 (by omega);obtain ⟨v1,e1⟩:=hg 1 (by omega);obtain ⟨v2,e2⟩:=hg 2 (by omega);obtain ⟨v3,e3⟩:=hg 3 (by omega);obtain ⟨v4,e4⟩:=hg 4 (by omega);have c0:=J.cell e0;have c1:=J.cell e1;have c2:=J.cell e2;have c3:=J.cell e3;have c4:=J.cell e4;rw [Nat.add_zero] at c0;have f0:=J.frozen (k*5);have f1:=J.frozen (k*5+1);have f2:=J.frozen (k*5+2);have f3:=J.frozen (k*5+3);have f4:=J.frozen (k*5+4);have bw:=qAa (J.sets [I4 99,I4 0,I4 0,I4 0,I4 0] (k*5))
    have ax:Hid (xs.length*5<=(qEr cs (k*5) [I4 99,I4 0,I4 0,I4 0,I4 0]).length):=by show _<=_;rw [yIc];exact hl
    have c5:=qAa (HC.out.trans (Chg.of_grown (qAd pb [I4 99,I4 0,I4 0,I4 0,I4 0] wr (k*5)) (S:=fun k=>k=pb) rfl) (fun _ _ e=>e));clear J hl hg e0 e1 e2 e3 e4 HH;go_wp2
    go_roundw
    case rel=>exact ⟨k+1,by omega,by go_num,c5.out,_,bw.out,ax.out⟩
    case measure=>(simp [intOf];try omega)
   ·have aj:¬ (k:Int)<xs.length:=by omega
    have dw:Hid (Chg ab wr (fun k=>k=pb∨(ms≠[]/\(Value.slice na ms.length nc).ownBlock=some k))):=HC.out.mono (fun _ e=>.inl e)
    have db:Hid (ms≠[]->∃ g,na=some ⟨g,0,none⟩/\o.heap.size<=g/\g<N.heap.size/\∃ cs,Hp wr g 3 cs/\ms.length<=cs.length):=fun A=>by
     obtain ⟨g,e,h1,X,cs,h3,h4⟩:=f8.out A;exact ⟨g,e,h1,X,cs,h3.chg HC.out (fun e=>absurd (qCw h3 bs.out (by decide)) (fun q=>q e)),h4⟩
    clear HH HC;go_wp2;clear ai j0 j1
    go_loopw [12] (fun i wr=>∃ k:Nat,k<=ms.length/\i=I4 k/\Hid (Chg ab wr (fun k=>k=pb∨(ms≠[]/\(Value.slice na ms.length nc).ownBlock=some k)))/\Hid (ms≠[]->∃ g,na=some ⟨g,0,none⟩/\o.heap.size<=g/\g<N.heap.size/\∃ cs,Hp wr g 3 cs/\ms.length<=cs.length)) (fun i _=>ms.length-(intOf i).toNat)
    case atStart=>exact ⟨0,by omega,rfl,dw.out,db.out⟩
    case round =>
     clear dw db aj hkn hk;obtain ⟨k,hk,rfl,HC,HN⟩:=hrel
     rename World=>wz
     have cx:¬ (N.heap.size=pb∨(ms≠[]/\(Value.slice na ms.length nc).ownBlock=some N.heap.size)):=by
      rintro (e|⟨A,e⟩)
      ·omega
      ·obtain ⟨g,rfl,_,X,_⟩:=HN.out A;have dn:g=N.heap.size:=Option.some.inj e
       omega
     have ai:=qAa (c9.out.chg HC.out cx);have j0:=ai.out.cell (j:=0) rfl
     by_cases hkn:k<ms.length
     ·have aj:(k:Int)<ms.length:=by omega
      have A:ms≠[]:=fun e=>by rw [e] at hkn;simp at hkn
      obtain ⟨g,rfl,fq,fa,cs,J,hl⟩:=HN.out A;obtain ⟨v0,e0⟩:∃ v,cs[k]? = some v:=⟨_,List.getElem?_eq_getElem (by omega)⟩;have c0:=J.cell e0;have f0:=J.frozen k;have bw:=qAa (J.set k (I4 77))
      have ax:Hid (ms.length<=(cs.set k (I4 77)).length):=by show _<=_;rw [List.length_set];exact hl
      have c5:=qAa (HC.out.trans (Chg.of_grown (qAc wz g k (I4 77)) (S:=fun k=>k=g) rfl) (fun j _ e=>.inr ⟨A,by rw [e];rfl⟩));clear J hl e0;go_wp2
      go_roundw
      case rel=>exact ⟨k+1,by omega,by go_num,c5.out,fun _=>⟨g,rfl,fq,fa,_,bw.out,ax.out⟩⟩
      case measure=>(simp [intOf];try omega)
     ·have aj:¬ (k:Int)<ms.length:=by omega
      have a4:Hid (∀ j,(j=pb∨(ms≠[]/\(Value.slice (na) ms.length nc).ownBlock=some j))->o.heap.size<=j/\j<N.heap.size):=fun j F=>by
       rcases F with e|⟨A,e⟩
       ·omega
       ·obtain ⟨g,rfl,h1,X,_⟩:=HN.out A;have dn:g=j:=Option.some.inj e
        omega
      have dg:=qAa (et.out.apart HC.out (fun e=>by have:=a4.out _ e;have:=Q.size;omega) (fun e=>by have:=a4.out _ e;omega) (fun e=>by have:=a4.out _ e;have:=Q.size;omega) (b6.imp id fun h j F e=>by have:=h j F;have:=a4.out _ e;have:=Q.size;omega))
      have dr:=qAa (f9.out.far HC.out (fun j F e=>by
       have h1:=a4.out j e;have X:=Q.size
       rcases F with e|e|e|e|e
       ·omega
       ·omega
       ·omega
       ·omega
       ·rcases d4 with q|⟨x,q,hx⟩
        ·rw [q] at e;have:=(Z.out.row.lt _ e).2;omega
        ·rw [q] at e;have e':=Option.some.inj e;omega) (fun j e=>by have:=a4.out j e;omega))
      have dt:Hid (Pk n wz o.heap.size y.heap.size b n.heap.size mb mcap b2 rb tb c cb co ccap ae vm ms xs (L,I) { startE with cs:=cs0 } { startE with cs:=cs0 } ed (qDg ([]++[⟨1,4,44⟩]) [1,2,3] 3++[⟨2,0,0⟩])):=by
       have h1:=a2.out.ma.hp.lt;have X:=(qIl a2.out.code af.1).2.1;have h3:=HC.out.size;refine ⟨dg.out,dr.out,⟨⟨Nat.le_refl _,by omega,by omega,by omega,by omega⟩,⟨by omega,by omega,by omega,by omega⟩,by omega,by omega,by omega⟩,?_,fun j F=>?_⟩
       ·by_cases A:ms=[]
        ·exact .inl A
        ·exact .inr fun j F=>⟨by have:=(b6.resolve_left A) j F;omega,(qPr a2.out.maps F).resolve_left A⟩
       ·rcases d4 with q|⟨x,q,hx⟩
        ·rw [q] at F;exact .inl ⟨(Z.out.row.lt _ F).2,fun e=>qBv Z.out al.out.hp (by decide) (by decide) (.inr (by rw [<- e];exact F))⟩
        ·rw [q] at F;have:=Option.some.inj F
         omega
      have ci:W16 cs0:=⟨rfl,by decide⟩
      have de:Safe xs ms.length be { startE with cs:=cs0 }:=by
       have g:=qUp D;exact ⟨g.pc,g.kn,g.wr,g.hold,g.cnt,g.ws,ci,g.mode⟩
      have d2:pot xs { startE with cs:=cs0 }<=256:=Int.le_trans (qYh D.T) (yCx D.T)
      have c8:((qDg ([]++[⟨1,4,44⟩]) [1,2,3] 3)++[⟨2,0,0⟩]:List Ak).length<=100:=by decide
      have cm:=qAa c8;have ef:=qAa de;clear HN ai dg dr ci de c8;go_wp2;clear j0
      go_loopw [13,14] (fun us nn wr=>∃ (M:Mc) (u k:Nat) (v:Value) (ks:List Ak),us=I4 u/\nn=I4 k/\u<=rs.length/\Hid (M.steps=k)/\Hid (Safe xs ms.length be M/\M.mode=0/\pot xs M<=256)/\Hid (Pk n wr o.heap.size y.heap.size b n.heap.size mb mcap b2 rb tb c cb co ccap ae vm ms xs (L,I) M M v ks)/\Hid (ks.length<=3*k+100)) (fun _ nn _=>520-(intOf nn).toNat)
      case atStart=>exact ⟨{ startE with cs:=cs0 },0,0,ed,_,rfl,rfl,by omega,qAa rfl,⟨ef.out,rfl,d2⟩,dt.out,cm.out⟩
      case round =>
       clear dt ef cm d2 HC aj hkn hk;obtain ⟨M,u,k,v,ks,rfl,rfl,hu,bx,HI,bd,c6⟩:=hrel
       rename World=>wr
       obtain ⟨hS,m0,gf⟩:=HI.out;have dz:=hS.pot_le D.T;rw [if_pos m0] at dz
       have gn:M.steps<=255:=by omega
       have g7:k<=255:=by have:=bx.out;omega
       have aj:(k:Int)<520:=by omega
       have ga:ks.length<=1000:=by have:=c6.out;omega
       obtain ⟨a7,ee,eh⟩:=qPy (ms:=ms) (ev:=(L,I)) D hS m0 ay;have bc:=qVt (ms:=ms) (xs:=xs) (ev:=(L,I)) m0
       have hL:=fun (s:World) (hb:Bw wr s)=>(bd.out.below hb).stepL D hS ay (by omega)
       have hD:=fun (s:World) (M':Mc) (J:Pk n s o.heap.size y.heap.size b n.heap.size mb mcap b2 rb tb c cb co ccap ae vm ms xs (L,I) M' M v ks)=>J.stepD D hS ay (by omega) (by omega)
       obtain ⟨⟨⟨ak,apc,am,ao,aq,av,an⟩,G⟩,HR⟩:∃ R,Hid (qBe ms xs (L,I) M=R):=⟨_,rfl⟩;rw [HR.out] at bc a7 ee eh hL hD;simp only at bc a7 ee eh hL hD;have HL:=qAa hL;have HD:=qAa hD;have a1:=qAa a7
       obtain ⟨q,aw,fi⟩:∃ q:Nat,G.mode=q/\(q=0∨q=1∨q=2):=by
        rcases bc with ⟨_,e⟩|⟨_,e⟩|⟨_,e⟩
        ·exact ⟨2,e,by omega⟩
        ·exact ⟨1,e,by omega⟩
        ·exact ⟨0,e,by omega⟩
       have q5:=(HQ.out wr (a0.out wr bd.out.d.bel)).cell (j:=5) rfl;have m9:=bd.out.d.mode9 m0
       obtain ⟨⟨bk,ek,bm,e9,bq,bv,bn⟩,cr⟩:∃ A2:Ac,G.mode≠0->qBe ms xs (L,I) G=(A2,G):=by
        by_cases e1:G.mode=1
        ·exact ⟨qGe 5 G.pc 0,fun _=>by unfold qBe;rw [if_pos e1]⟩
        ·by_cases e2:G.mode=2
         ·exact ⟨qGe 6 G.pc (qBj G.regs (nth xs G.pc).a),fun _=>by unfold qBe;rw [if_neg e1,if_pos e2]⟩
         ·exact ⟨Ac.nil,fun h=>by omega⟩
       have ax:Hid (G.mode≠0->∀ s v' a5,Pk n s o.heap.size y.heap.size b n.heap.size mb mcap b2 rb tb c cb co ccap ae vm ms xs (L,I) G G v' a5->Cl 18 #[.pointer (some ⟨b,0,none⟩)] s fun e w'=>e=.returned (qEp bk ek bm e9 bq bv bn)/\Pk n w' o.heap.size y.heap.size b n.heap.size mb mcap b2 rb tb c cb co ccap ae vm ms xs (L,I) G G v' a5):=fun h s v' a5 J=>by
        have g:=J.stepL D a1.out ay (by omega);rw [cr h] at g;exact g
       have g1:Hid (G.mode≠0->∀ s v' a5,a5.length<=2000->Pk n s o.heap.size y.heap.size b n.heap.size mb mcap b2 rb tb c cb co ccap ae vm ms xs (L,I) G G v' a5->Cl 19 #[.pointer (some ⟨b2,0,none⟩)] s fun e w'=>e=.returned (qEp bk ek bm e9 bq bv bn)/\∃ v'' ks'',ks''.length<=a5.length+1/\Pk n w' o.heap.size y.heap.size b n.heap.size mb mcap b2 rb tb c cb co ccap ae vm ms xs (L,I) G G v'' ks''):=fun h s v' a5 hk J=>by
        have g:=J.stepD D a1.out ay (by omega) (by omega);rw [cr h] at g;exact g
       have fh:q=0∨q=2∨(q=1/\u=rs.length)∨(q=1/\u<rs.length):=by omega
       obtain ⟨bo,bj⟩:∃ bo,((k:Int)==od)=bo:=⟨_,rfl⟩;have bu:Hid True:=trivial;have dv:Hid True:=trivial;have cy:Hid True:=trivial;have d9:Hid True:=trivial;clear bc hL hD a7 HR hS dz cr fi
       rcases fh with rfl|rfl|⟨rfl,dx⟩|⟨rfl,dx⟩<;>cases bo
       all_goals try (have en:¬ (rs.length:Int)<=u:=by omega)
       all_goals try (have en:(rs.length:Int)<=u:=by omega)
       all_goals try (obtain ⟨rp,ro,g5,e8,cf,cl⟩:=(ah.out n a6).2.at11 dx;subst g5;have cv:=qAa cf;have ba:=qAa cl;have bh:=qAa (qMf (E:=(rs.getD u Rs.nil).E) (f:=(rs.getD u Rs.nil).f) D a1.out aw (v:=(rs.getD u Rs.nil).v) cl);obtain ⟨r,fu⟩:∃ r,Hid (rs.getD u Rs.nil=r):=⟨_,rfl⟩;rw [fu.out] at cv ba bh;clear cf cl)
       all_goals go_wp2_with (first
        | (go_at_call 17;(have hq:=bu;clear hq);go_must (refine (qVe 0 false 5 false 0 0 wr bd.out.l.ma (by omega)).mono ?_);rintro e wa ⟨rfl,fv⟩;clear bu)
        | (go_at_call 18;(have hq:=dv;clear hq);go_must (refine (HL.out _ (by first|exact fv|exact Below.refl _ _)).mono ?_);rintro e fj ⟨rfl,p2⟩;go_must (have P2:=qAa p2;clear p2 dv;(try clear bu)))
        | (go_at_call 19;(have hq:=cy;clear hq);go_must (refine (HD.out fj G P2.out).mono ?_);rintro e fc ⟨rfl,v3,cp,h9,p3⟩;go_must (have P3:=qAa p3;clear p3 cy))
        | (go_at_call 20;(have hq:=d9;clear hq);go_must (refine (qVq fc D a1.out P3.out.l P3.out.d (by omega)).mono ?_);rintro e fw ⟨rfl,eo⟩;go_must (have P4:=qAa (P3.out.below eo);have n9:=P4.out.d.mode9 aw;clear d9))
        | (go_at_call 18;go_must (refine (ax.out (by omega) fw v3 cp P4.out).mono ?_);rintro e g3 ⟨rfl,p5⟩;go_must (have P5:=qAa p5;clear p5))
        | (go_at_call 19;go_must (refine (g1.out (by omega) g3 v3 cp (by omega) P5.out).mono ?_);rintro e bp ⟨rfl,v6,fr,h7,p6⟩;go_must (have P6:=qAa p6;have q4:=(HQ.out bp (a0.out bp P6.out.d.bel)).cell (j:=4) rfl;(try (obtain ⟨r0,r1,r2,r3,r4,r5⟩:=cv.out.below P6.out.d.bel e8));clear p6))
        | (go_at_call 17;(have hq:=ba;clear hq);go_must (refine (P6.out.ansL D a1.out aw r ba.out).mono ?_);rintro e br ⟨rfl,p7⟩;go_must (have P7:=qAa p7;have gk:=(HQ.out br (a0.out br P7.out.d.bel)).cell (j:=4) rfl;obtain ⟨s0,s1,s2,s3,s4,s5⟩:=cv.out.below P7.out.d.bel e8;clear p7))
        | (go_at_call 17;go_must (refine (qVe 0 false 0 false 0 0 bp P6.out.l.ma (by omega)).mono ?_);rintro e br ⟨rfl,g6⟩;go_must (have P7:=qAa (P6.out.below g6)))
        | (go_at_call 21;go_must (refine (P7.out.ansD D a1.out aw r ba.out).mono ?_);rintro e g4 ⟨rfl,p8⟩;go_must (have P8:=qAa p8;clear p8))
        | (go_at_call 20;(have hq:=P8;clear hq);go_must (refine (qVq g4 D bh.out.1 P8.out.l P8.out.d (by show G.steps<=1000;omega)).mono ?_);rintro e e7 ⟨rfl,ac⟩;go_must (have P9:=qAa (P8.out.below ac)))
        | (go_at_call 20;(have hq:=P7;clear hq);go_must (refine (qVq br D a1.out P7.out.l P7.out.d (by omega)).mono ?_);rintro e e7 ⟨rfl,ac⟩;go_must (have P9:=qAa (P7.out.below ac)))
        | (go_at_call 20;go_must (refine (qVq bp D a1.out P6.out.l P6.out.d (by omega)).mono ?_);rintro e e7 ⟨rfl,ac⟩;go_must (have P9:=qAa (P6.out.below ac))))
       iterate 2
        ·go_roundw
         case rel=>exact ⟨G,u,k+1,v3,cp,rfl,by go_num,hu,(by show _=_;have:=bx.out;omega),⟨a1.out,aw,by omega⟩,P4.out,(by show _<=_;have:=c6.out;omega)⟩
         case measure=>(simp [intOf];omega)
       iterate 4
        ·go_ret;exact ⟨rfl,dq _ P9.out.d.bel⟩
       iterate 2
        ·go_roundw
         case rel=>exact ⟨qGk xs G r.E r.f r.v,u+1,k+1,v6,fr,by go_num,by go_num,by omega,(by show G.steps=_;have:=bx.out;omega),⟨bh.out.1,rfl,by have:=bh.out.2.1;omega⟩,P9.out,(by show _<=_;have:=c6.out;omega)⟩
         case measure=>(simp [intOf];omega)
end Go.Proofs.YtmdhljoicnommaaGreat
