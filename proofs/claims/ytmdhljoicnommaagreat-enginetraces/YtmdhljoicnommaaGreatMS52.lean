/-
  E11DNew
  E11DTr
  W11Tr
-/
import Derived.Test.YtmdhljoicnommaaGreatMS51
import Derived.Test.YtmdhljoicnommaaGreatMS50
namespace Go.Proofs.YtmdhljoicnommaaGreat
set_option maxHeartbeats 12800000
open Go.RowKit
set_option linter.unusedVariables false
set_option linter.unusedSimpArgs false
set_option maxRecDepth 100000
theorem run_makeR8 (w:World):(Instr.makeSlice 67 (I4 8) (I4 8)).run Tryz.prog w=.ok (.slice (some ⟨w.heap.size,0,none⟩) 8 8) (w.alloc (.cells (nums startE.regs).toArray 26)):=by
 have hi:∃ i,Tryz.prog.info? 26=some i/\i.size=1/\i.zero=some (U8 0)/\i.bytes=8:=⟨_,rfl,rfl,rfl,rfl⟩;obtain ⟨i,d,b,c,a⟩:=hi;have:=run_make (P:=Tryz.prog) w 67 26 i _ Tryz.underlying67 d c .i64 .i64 8 8 (by omega) (Int.le_refl _) (by rw [a];omega) (by omega);rw [b,show madeCells (Value.int .u64 0).cells (Int.toNat 8*1)=(nums startE.regs).toArray from by kernel_rfl] at this;exact this
theorem run_makeT64 (w:World):(Instr.makeSlice 71 (I4 64) (I4 64)).run Tryz.prog w=.ok (.slice (some ⟨w.heap.size,0,none⟩) 64 64) (w.alloc (.cells (tnC startE.turn).toArray 2)):=by
 have hi:∃ i,Tryz.prog.info? 2=some i/\i.size=1/\i.zero=some (I4 0)/\i.bytes=8:=⟨_,rfl,rfl,rfl,rfl⟩;obtain ⟨i,d,b,c,a⟩:=hi;have:=run_make (P:=Tryz.prog) w 71 2 i _ Tryz.underlying71 d c .i64 .i64 64 64 (by omega) (Int.le_refl _) (by rw [a];omega) (by omega);rw [b,show madeCells (Value.int .i64 0).cells (Int.toNat 64*1)=(tnC startE.turn).toArray from by kernel_rfl] at this;exact this
theorem rall_e {a:Value}{ms:List Int}{b:Value}{xs:List In}{w:World}(hm:Sees .i64 w a ms)(f:SeesI w b xs){P E:Int}(g:Hid (judgeR ms xs=(P,E))) :
  Cl 28 #[.agg #[a,b]] w fun e c=>∃ u,e=.returned (.tuple #[u,I4 P,I4 E])/\Bw w c:=by
 refine (rall_any a ms b xs w hm f).mono ?_;rintro e c ⟨u,rfl,_,d⟩;have h:=(judge_all ms xs).symm.trans g.out;rw [h];exact ⟨u,rfl,d⟩
theorem dnew_bad {b d:Value}{ms:List Int}{xs:List In}(ev:Int×Int)(c:Nat)(w:World)(hm:Sees .i64 w b ms)(l:SeesI w d xs){P E:Int}(s:Hid (judgeR ms xs=(P,E)))(n:E≠0) :
  Cl 16 #[.agg #[b,d],evV ev,.pointer (some ⟨c,0,none⟩)] w fun e o=>e=.returned (.tuple #[.pointer none,I4 E])/\Bw w o:=by
 have y:¬ E=0:=n
 have z:(E != 0)=true:=by simpa using n
 obtain ⟨V,r,a,f⟩:∃ V,Hid ((w.alloc (.cells #[b,d] 25)).alloc (.cells #[U8 ev.1,U8 ev.2] 28)=V)/\Bw w V/\Hid (Hp V w.heap.size 25 [b,d]):=⟨_,rfl,by go_grown,(Hp.new w _ _).alloc _⟩;have k:=keepJ (hm.below a (Nat.le_refl _));have i:=keepJ (l.below a);have m0:=f.out.cell (j:=0) rfl;have B:=f.out.cell (j:=1) rfl;clear hm l;go_enter Tryz.func16,Tryz.ntmps16
 go_wp2_with (go_at_call 28;rw [r.out];go_must (refine (rall_e k.out i.out s).mono ?_);rintro e A ⟨u,rfl,g⟩)
 go_ret2;exact ⟨rfl,a.trans (g.mono a.size)⟩
def DNewOk (w0 w w':World) (c B:Nat) (v vm:Value) (cb co ccap:Nat) (ms:List Int) (xs:List In) (ev:Int×Int) (cs:List Int) (ks:List Ak) (e:Ending):Prop :=
 ∃ b rb tb v',e=.returned (.tuple #[.pointer (some ⟨b,0,none⟩),.int .i64 0])/\Dh w0 w' b rb tb c B vm cb co ccap ms xs ev { startE with cs:=cs } v' (ks++[⟨2,0,0⟩])/\Chg w w' (bkS c v)/\w.heap.size<=b/\w.heap.size<=rb/\w.heap.size<=tb/\RowNew w v v'
theorem dnew_end {w0 w a F:World}{b rb tb c B y u d:Nat}{v l s:Value}{ms:List Int}{xs:List In}{ev:Int×Int}{ws cs:List Int}{g:List Ak}(hm:Sees .i64 w0 s ms)(P:SeesI w0 (.slice (some ⟨y,u,none⟩) xs.length d) xs)(h0:Bw w0 w)(L:w0.heap.size<=c)(M:w0.heap.size<=B)(U:B<=w.heap.size)(z:Tie g ws cs)(o:Bk w B c v g)(D:Chg w a (bkS c v))(K:Bk a B c l (g++[⟨2,0,0⟩]))(E:RowNew w v l)(n:Bw a F)(G:Hp F b 73 (sdC s (.slice (some ⟨y,u,none⟩) xs.length d) ev.1 ev.2 c rb tb 0 0 0))(I:Hp F rb 26 (nums startE.regs))(J:Hp F tb 2 (tnC startE.turn))(R:a.heap.size<=b)(T:a.heap.size<=rb)(X:a.heap.size<=tb) :
  DNewOk w0 w F c B v s y u d ms xs ev cs g (.returned (.tuple #[.pointer (some ⟨b,0,none⟩),I4 0])):=by
 have Y:=D.size;have A:=h0.size;have V:=n.size;have Q:WR startE.regs:=⟨rfl,fun r N=>by rw [show startE.regs.getD r 0=0 by show (List.replicate 8 (0:Int)).getD r 0=0;rw [List.getD_eq_getElem?_getD,List.getElem?_replicate,if_pos N];rfl];decide⟩;have i:Chg w F (bkS c v):=D.trans (Chg.of_below (S:=fun _=>False) n) (fun _ _ e=>e.elim)
 have f:∀ k,bkS c v k->w0.heap.size<=k:=fun k O=>by
  rcases O with e|e
  ·omega
  ·have:=(o.row.lt k e).1;omega
 exact ⟨b,rb,tb,l,rfl,⟨⟨G,rfl,rfl,rfl,I,J,Q,show 0<64 by decide⟩,K.below n,z.wipe,hm,P,h0.trans (i.below f A),⟨by omega,by omega,by omega,L,M⟩,by omega⟩,i,by omega,by omega,by omega,E⟩
theorem dnew_ok {w0:World}{i v:Value}{c B n l f:Nat}{ms:List Int}{xs:List In}(ev:Int×Int){ws cs:List Int}{Z:List Ak}(w:World)(hm:Sees .i64 w0 i ms)(hx:SeesI w0 (.slice (some ⟨n,l,none⟩) xs.length f) xs)(h0:Bw w0 w)(ak:w0.heap.size<=c)(am:w0.heap.size<=B)(ah:B<=w.heap.size)(a9:Tie Z ws cs)(K:Bk w B c v Z)(au:Z.length<=90000)(hj:Hid (judgeR ms xs=(0,0))) :
  Cl 16 #[.agg #[i,.slice (some ⟨n,l,none⟩) xs.length f],evV ev,.pointer (some ⟨c,0,none⟩)] w fun e O=>DNewOk w0 w O c B v i n l f ms xs ev cs Z e:=by
 obtain ⟨V,HV,D,L,a0⟩:∃ V,Hid ((w.alloc (.cells #[i,.slice (some ⟨n,l,none⟩) xs.length f] 25)).alloc (.cells #[U8 ev.1,U8 ev.2] 28)=V)/\Bw w V/\Hid (Hp V w.heap.size 25 [i,.slice (some ⟨n,l,none⟩) xs.length f])/\Hid (Hp V (w.heap.size+1) 28 [U8 ev.1,U8 ev.2]) :=
  ⟨_,rfl,by go_grown,(Hp.new w _ _).alloc _,by have:=Hp.new (w.alloc (.cells #[i,.slice (some ⟨n,l,none⟩) xs.length f] 25)) [U8 ev.1,U8 ev.2] 28;rw [World.size_alloc] at this;exact this⟩
 have ac:=keepJ ((hm.below h0 (Nat.le_refl _)).below D (Nat.le_refl _));have ai:=keepJ ((hx.below h0).below D);have ae:=keepJ (K.below D);have aq:=K.hp.lt
 have ag:=fun k e=>(K.row.lt k e).2
 have ar:w.heap.size+2<=V.heap.size:=by have:=a0.out.lt;omega
 have m0:=L.out.cell (j:=0) rfl;have m1:=L.out.cell (j:=1) rfl;have T:=keepJ (fun (a F:World) (b rb tb:Nat) (M:Value) (h1:Chg w a (bkS c v)) (h2:Bk a B c M (Z++[⟨2,0,0⟩])) (h3:RowNew w v M)=>dnew_end (F:=F) (b:=b) (rb:=rb) (tb:=tb) (ev:=ev) (ws:=ws) (cs:=cs) hm hx h0 ak am ah a9 K h1 h2 h3);clear hm hx;go_enter Tryz.func16,Tryz.ntmps16
 go_wp2_with (first
  | (go_at_call 28;rw [HV.out];go_must (refine (rall_e ac.out ai.out hj).mono ?_);rintro e w4 ⟨u,rfl,y⟩;go_must (have aa:=keepJ (ae.out.below y);have ap:=y.size))
  | (go_at_call 29;go_must (refine (bwipe_any w4 aa.out (by omega) (by omega)).mono ?_);rintro e a ⟨rfl,M,a7,z,Q⟩))
 have af:Bw w w4:=D.trans (y.mono D.size);have a8:=keepJ ((Chg.of_below (S:=bkS c v) af).trans z (fun _ _ e=>e))
 have a6:=keepJ (show RowNew w v M from by
  rcases Q with e|⟨k,e,hk⟩
  ·exact .inl e
  ·exact .inr ⟨k,e,by omega⟩)
 have ao:=z.size
 have nb:∀ k,w.heap.size<=k->¬ bkS c v k:=fun k hk e=>by
  rcases e with e|e
  ·omega
  ·have:=ag k e;omega
 have a3:=keepJ ((L.out.below y L.out.lt).chg z (nb _ (Nat.le_refl _)));have a1:=keepJ ((a0.out.below y a0.out.lt).chg z (nb _ (by omega)));have a4:=keepJ a7
 have G:Hid (∀ d:World,Bw a d->d.cell? ⟨w.heap.size,0,none⟩=some i/\d.cell? ⟨w.heap.size,1,none⟩=some (.slice (some ⟨n,l,none⟩) xs.length f)/\d.cell? ⟨w.heap.size+1,0,none⟩=some (U8 ev.1)/\d.cell? ⟨w.heap.size+1,1,none⟩=some (U8 ev.2)):=fun d hb=>⟨(a3.out.below hb (by omega)).cell rfl,(a3.out.below hb (by omega)).cell rfl,(a1.out.below hb (by omega)).cell rfl,(a1.out.below hb (by omega)).cell rfl⟩
 obtain ⟨N,J⟩:∃ N,Hid (N=(nums startE.regs).toArray):=⟨_,rfl⟩;obtain ⟨r,s⟩:∃ r,Hid (r=(tnC startE.turn).toArray):=⟨_,rfl⟩
 have a2:∀ d:World,(Instr.makeSlice 67 (I4 8) (I4 8)).run Tryz.prog d=.ok (.slice (some ⟨d.heap.size,0,none⟩) 8 8) (d.alloc (.cells N 26)):=fun d=>by rw [J.out];exact run_makeR8 d
 have a5:∀ d:World,(Instr.makeSlice 71 (I4 64) (I4 64)).run Tryz.prog d=.ok (.slice (some ⟨d.heap.size,0,none⟩) 64 64) (d.alloc (.cells r 2)):=fun d=>by rw [s.out];exact run_makeT64 d
 clear m0 m1 a7 z Q a2 a5
 have a2:∀ d:World,(Instr.makeSlice 67 (I4 8) (I4 8)).run Tryz.prog d=.ok (.slice (some ⟨d.heap.size,0,none⟩) 8 8) (d.alloc (.cells N 26)):=fun d=>by rw [J.out];exact run_makeR8 d
 have a5:∀ d:World,(Instr.makeSlice 71 (I4 64) (I4 64)).run Tryz.prog d=.ok (.slice (some ⟨d.heap.size,0,none⟩) 64 64) (d.alloc (.cells r 2)):=fun d=>by rw [s.out];exact run_makeT64 d
 refine wp_region_held_drew (S:=fun O=>O.cell? ⟨w.heap.size,0,none⟩=some i/\O.cell? ⟨w.heap.size,1,none⟩=some (.slice (some ⟨n,l,none⟩) xs.length f)/\O.cell? ⟨w.heap.size+1,0,none⟩=some (U8 ev.1)/\O.cell? ⟨w.heap.size+1,1,none⟩=some (U8 ev.2)) (by kernel_rfl) (G.out _ (qAj (Below.refl _ _))) (fun hHeld=>?_);refine tkGo [0,1,2] ?_
 repeat (refine tkO (v:=?_) rfl ?_ ?_;rotate_left;(intro wy hSw;(try dsimp only at hSw);go_simp;(first|done|with_reducible rfl));try simp only [Act.put,p1q,p2q,p3q,p4q,p5q,p6q])
 refine tkEnd ?_;refine runT 3 4 (by kernel_rfl) rfl rfl (by rfl) (by rfl) (fun KK hK=>?_) (fun KK hK=>?_)
 ·obtain ⟨X,U,o,R⟩:∃ X,Hid (a.alloc (.cells N 26)=X)/\Bw a X/\X.heap.size=a.heap.size+1:=⟨_,rfl,(Below.refl a.heap.size a).alloc (Nat.le_refl _) _,by simp⟩;obtain ⟨Y,I,g,P⟩:∃ Y,Hid (X.alloc (.cells r 2)=Y)/\Bw a Y/\Y.heap.size=a.heap.size+2:=⟨_,rfl,o.alloc o.size _,by simp;omega⟩
  have A:Hp X a.heap.size 26 (nums startE.regs):=by rw [<- U.out,J.out];exact Hp.new a _ _
  have E:Hp Y (a.heap.size+1) 2 (tnC startE.turn):=by rw [<- I.out,s.out];have:=Hp.new X (tnC startE.turn) 2;rw [R] at this;exact this
  have al:Hid (Hp (Y.alloc (.cells (sdC i (.slice (some ⟨n,l,none⟩) xs.length f) ev.1 ev.2 c (a.heap.size) (a.heap.size+1) 0 0 0).toArray 73)) a.heap.size 26 (nums startE.regs)):=Hp.alloc (by rw [<- I.out];exact A.alloc _) _;have aj:Hid (Hp (Y.alloc (.cells (sdC i (.slice (some ⟨n,l,none⟩) xs.length f) ev.1 ev.2 c (a.heap.size) (a.heap.size+1) 0 0 0).toArray 73)) (a.heap.size+1) 2 (tnC startE.turn)):=E.alloc _;clear A E;go_simp;rw [U.out];refine hK.out _ _ (G.out _ (qAj o)) (fun hHeld=>?_);clear hK KK
  try simp only [Act.put,p1q,p2q,p3q,p4q,p5q,p6q]
  refine runO 4 (by kernel_rfl) rfl (by rfl) (fun KK hK=>?_);go_simp;rw [I.out];refine hK.out _ _ (G.out _ (qAj g)) (fun hHeld=>?_);clear hK KK
  try simp only [Act.put,p1q,p2q,p3q,p4q,p5q,p6q]
  refine tkGo [5] ?_
  repeat (refine tkO (v:=?_) rfl ?_ ?_;rotate_left;(intro wy hSw;(try dsimp only at hSw);go_simp;(first|done|with_reducible rfl));try simp only [Act.put,p1q,p2q,p3q,p4q,p5q,p6q])
  refine tkEnd ?_;refine runO 6 (by kernel_rfl) rfl (by rfl) (fun KK hK=>?_);go_simp;refine hK.out _ _ (G.out _ (qAj (g.alloc g.size _))) (fun hHeld=>?_);clear hK KK
  try simp only [Act.put,p1q,p2q,p3q,p4q,p5q,p6q]
  refine tkGo [7,8] ?_
  repeat (refine tkO (v:=?_) rfl ?_ ?_;rotate_left;(intro wy hSw;(try dsimp only at hSw);go_simp;(first|done|with_reducible rfl));try simp only [Act.put,p1q,p2q,p3q,p4q,p5q,p6q])
  refine tkEnd ?_;refine wpAnyH_done (by kernel_rfl) ?_ _;clear hHeld;go_wp2;go_ret2;exact T.out a _ (a.heap.size+2) (a.heap.size) (a.heap.size+1) M a8.out a4.out a6.out (qAj (g.alloc g.size _)) (by have:=Hp.new Y (sdC i (.slice (some ⟨n,l,none⟩) xs.length f) ev.1 ev.2 c (a.heap.size) (a.heap.size+1) 0 0 0) 73;rw [P] at this;exact this.drew) al.out.drew aj.out.drew (by omega) (by omega) (by omega)
 ·obtain ⟨X,U,o,R⟩:∃ X,Hid (a.alloc (.cells r 2)=X)/\Bw a X/\X.heap.size=a.heap.size+1:=⟨_,rfl,(Below.refl a.heap.size a).alloc (Nat.le_refl _) _,by simp⟩;obtain ⟨Y,I,g,P⟩:∃ Y,Hid (X.alloc (.cells N 26)=Y)/\Bw a Y/\Y.heap.size=a.heap.size+2:=⟨_,rfl,o.alloc o.size _,by simp;omega⟩
  have A:Hp X a.heap.size 2 (tnC startE.turn):=by rw [<- U.out,s.out];exact Hp.new a _ _
  have E:Hp Y (a.heap.size+1) 26 (nums startE.regs):=by rw [<- I.out,J.out];have:=Hp.new X (nums startE.regs) 26;rw [R] at this;exact this
  have ab:Hid (Hp (Y.alloc (.cells (sdC i (.slice (some ⟨n,l,none⟩) xs.length f) ev.1 ev.2 c (a.heap.size+1) (a.heap.size) 0 0 0).toArray 73)) a.heap.size 2 (tnC startE.turn)):=Hp.alloc (by rw [<- I.out];exact A.alloc _) _;have ad:Hid (Hp (Y.alloc (.cells (sdC i (.slice (some ⟨n,l,none⟩) xs.length f) ev.1 ev.2 c (a.heap.size+1) (a.heap.size) 0 0 0).toArray 73)) (a.heap.size+1) 26 (nums startE.regs)):=E.alloc _;clear A E;go_simp;rw [U.out];refine hK.out _ _ (G.out _ (qAj o)) (fun hHeld=>?_);clear hK KK
  try simp only [Act.put,p1q,p2q,p3q,p4q,p5q,p6q]
  refine runO 3 (by kernel_rfl) rfl (by rfl) (fun KK hK=>?_);go_simp;rw [I.out];refine hK.out _ _ (G.out _ (qAj g)) (fun hHeld=>?_);clear hK KK
  try simp only [Act.put,p1q,p2q,p3q,p4q,p5q,p6q]
  refine tkGo [5] ?_
  repeat (refine tkO (v:=?_) rfl ?_ ?_;rotate_left;(intro wy hSw;(try dsimp only at hSw);go_simp;(first|done|with_reducible rfl));try simp only [Act.put,p1q,p2q,p3q,p4q,p5q,p6q])
  refine tkEnd ?_;refine runO 6 (by kernel_rfl) rfl (by rfl) (fun KK hK=>?_);go_simp;refine hK.out _ _ (G.out _ (qAj (g.alloc g.size _))) (fun hHeld=>?_);clear hK KK
  try simp only [Act.put,p1q,p2q,p3q,p4q,p5q,p6q]
  refine tkGo [7,8] ?_
  repeat (refine tkO (v:=?_) rfl ?_ ?_;rotate_left;(intro wy hSw;(try dsimp only at hSw);go_simp;(first|done|with_reducible rfl));try simp only [Act.put,p1q,p2q,p3q,p4q,p5q,p6q])
  refine tkEnd ?_;refine wpAnyH_done (by kernel_rfl) ?_ _;clear hHeld;go_wp2;go_ret2;exact T.out a _ (a.heap.size+2) (a.heap.size+1) (a.heap.size) M a8.out a4.out a6.out (qAj (g.alloc g.size _)) (by have:=Hp.new Y (sdC i (.slice (some ⟨n,l,none⟩) xs.length f) ev.1 ev.2 c (a.heap.size+1) (a.heap.size) 0 0 0) 73;rw [P] at this;exact this.drew) ad.out.drew ab.out.drew (by omega) (by omega) (by omega)
theorem own_two11 {w:World}{B s:Nat}{e f:TypeId}{z G:Nat}{v l:Value}{n J:Nat}{xs c:List Value}(h:w.ownsRow B e z v n xs)(u:w.ownsRow s f G l J c)(d:e≠f):∀ k,v.ownBlock=some k->l.ownBlock≠some k:=by
 intro k i b
 rcases h with ⟨_,⟨rfl,_⟩|⟨g,cap,K,rfl,_,F,_⟩⟩
 ·cases i
 rcases u with ⟨_,⟨rfl,_⟩|⟨o,r,I,rfl,_,a,_⟩⟩
 ·cases b
 ·have A:g=k:=Option.some.inj i;have D:o=k:=Option.some.inj b;subst A;subst D;rw [F] at a;injection a with E;injection E with _ y;exact d y
theorem own_shape11 {w:World}{base:Nat}{e:TypeId}{z:Nat}{v:Value}{n:Nat}{xs:List Value}(h:w.ownsRow base e z v n xs):∃ a cap,v=.slice a n cap:=by
 rcases h with ⟨d,⟨rfl,b⟩|⟨g,cap,c,rfl,_⟩⟩
 ·exact ⟨none,0,by rw [b]⟩
 ·exact ⟨_,_,rfl⟩
theorem SeesR.at11 {w:World}{a:Option Addr}{n cap:Nat}{xs:List Rs}(h:SeesR w (.slice a n cap) xs){j:Nat}(b:j<xs.length):∃ p off,a=some ⟨p,off,none⟩/\p<w.heap.size/\AtR w p (off+j*6) (xs.getD j Rs.nil)/\(xs.getD j Rs.nil).wf:=by
 obtain ⟨k,f,ev,_,_,_,i,d⟩:=h;simp only [Value.slice.injEq] at ev;obtain ⟨rfl,_,rfl⟩:=ev;obtain ⟨p,off,rfl,g,c⟩:=d (fun e=>by rw [e] at b;simp at b);exact ⟨p,off,rfl,g,c j b,i _ (by simp [List.getD,b])⟩
section
variable {w0 w w':World} {b rb tb c B cb co ccap:Nat} {vm v:Value} {ms:List Int} {xs:List In} {ev:Int×Int} {M:Mc} {ks:List Ak}
theorem Dh.far {S:Nat->Prop}(h:Dh w0 w b rb tb c B vm cb co ccap ms xs ev M v ks)(a:Chg w w' S)(d:∀ k,dhS b rb tb c v k->¬ S k)(f:∀ k,S k->w0.heap.size<=k):Dh w0 w' b rb tb c B vm cb co ccap ms xs ev M v ks :=
 ⟨⟨h.rd.st.chg a (d b (.inl rfl)),h.rd.c5,h.rd.c6,h.rd.c7,h.rd.rg.chg a (d rb (.inr (.inl rfl))),h.rd.tn.chg a (d tb (.inr (.inr (.inl rfl)))),h.rd.wr,h.rd.pc⟩,h.bk.chg a (d c (.inr (.inr (.inr (.inl rfl))))) (fun k g=>d k (.inr (.inr (.inr (.inr g))))),h.tie,h.maps,h.code,h.bel.trans (a.below f h.bel.size),h.hi,Nat.le_trans h.bw a.size⟩
theorem Dh.acts {i z:Nat}{f:Value}{n:Nat}{g:List Value}(h:Dh w0 w b rb tb c B vm cb co ccap ms xs ev M v ks)(a:w.ownsRow i 80 z f n g)(k:Nat)(d:f.ownBlock=some k):¬ dhS b rb tb c v k:=by
 rintro (e|e|e|e|e)
 ·exact own_type10 a h.rd.st (by decide) (by rw [d,e])
 ·exact own_type10 a h.rd.rg (by decide) (by rw [d,e])
 ·exact own_type10 a h.rd.tn (by decide) (by rw [d,e])
 ·exact own_type10 a h.bk.hp (by decide) (by rw [d,e])
 ·exact own_two11 a h.bk.row (by decide) k d e
theorem Dh.mode9 (h:Dh w0 w b rb tb c B vm cb co ccap ms xs ev M v ks){m:Nat}(hm:M.mode=m):w.cell? ⟨b,9,none⟩=some (I4 m):=by
 have:=h.rd.st.cell (j:=9) rfl;rw [hm] at this;exact this
theorem dact_more {Y a:World}{W:Nat}{d u:Value}{o:Obj}{A:List Ac}{A1:Ac}(h:Dh w0 w b rb tb c B vm cb co ccap ms xs ev M v ks)(g:w.ownsRow W 80 7 d A.length (flatX A))(f:Bw w Y)(hW:w0.heap.size<=W)(l:a.ownsRow W 80 7 u (A.length+1) (flatX A++acC A1))(n:(Y.alloc o).grownBy a d.ownBlock):a.ownsRow W 80 7 u (A++[A1]).length (flatX (A++[A1]))/\Dh w0 a b rb tb c B vm cb co ccap ms xs ev M v ks/\w.heap.size<=a.heap.size:=by
 have i:Chg Y a (fun k=>d.ownBlock=some k):=(Chg.of_below (S:=fun k=>d.ownBlock=some k) (qDa Y o)).trans (Chg.of_grown' n (S:=fun k=>d.ownBlock=some k) (fun b r=>r)) (fun _ _ e=>e);exact ⟨step_actE (w:=w) (o:=o) g l,(h.belowD f).far i (fun k s e=>h.acts g k e s) (fun k e=>Nat.le_trans hW (g.lt k e).1),Nat.le_trans f.size i.size⟩
end
theorem dtrace_bad {vm b:Value}{ms:List Int}{xs:List In}(ev:Int×Int)(r:Value)(w:World)(hm:Sees .i64 w vm ms)(o:SeesI w b xs){P E:Int}(s:Hid (judgeR ms xs=(P,E)))(g:E≠0) :
  Cl 8 #[.agg #[vm,b],evV ev,r] w fun e w'=>e=.returned (.tuple #[.slice none 0 0,I4 E])/\Bw w w':=by
 have y:¬ E=0:=g
 have z:(E != 0)=true:=by simpa using g
 obtain ⟨V,u,d,c,f⟩:∃ V,Hid ((w.alloc (.cells #[vm,b] 25)).alloc (.cells #[U8 ev.1,U8 ev.2] 28)=V)/\Bw w V/\Hid (Hp V w.heap.size 25 [vm,b])/\Hid (Hp V (w.heap.size+1) 28 [U8 ev.1,U8 ev.2]) :=
  ⟨_,rfl,by go_grown,(Hp.new w _ _).alloc _,by have:=Hp.new (w.alloc (.cells #[vm,b] 25)) [U8 ev.1,U8 ev.2] 28;rw [World.size_alloc] at this;exact this⟩
 obtain ⟨W,l,a⟩:∃ W,Hid (V.alloc (.cells #[.slice none 0 0] 64)=W)/\Bw w W:=⟨_,rfl,d.alloc d.size _⟩;have k:=keepJ (hm.below a (Nat.le_refl _));have n:=keepJ (o.below a);have m0:=c.out.cell (j:=0) rfl;have B:=c.out.cell (j:=1) rfl;have e0:=f.out.cell (j:=0) rfl;have D:=f.out.cell (j:=1) rfl;clear hm o;go_enter Tryz.func8,Tryz.ntmps8
 go_wp2_with (first
  | (go_at_call 16;(try rw [l.out]);go_must (refine (dnew_bad ev _ W k.out n.out s g).mono ?_);rintro e A ⟨rfl,i⟩)
  | (rw [u.out])
  | (rw [l.out]))
 go_ret2;exact ⟨rfl,a.trans (i.mono a.size)⟩
theorem dtrace_ok {vm:Value}{cb co ccap:Nat}{ms:List Int}{xs:List In}(ev:Int×Int)(ay:(0<=ev.1/\ev.1<=18446744073709551615)/\0<=ev.2/\ev.2<=18446744073709551615){vr:Value}{rs:List Rs}(w:World)(hm:Sees .i64 w vm ms)(hx:SeesI w (.slice (some ⟨cb,co,none⟩) xs.length ccap) xs)(a4:SeesR w vr rs){K:Kn}(hK:inqR ms xs=.ok K){T:List Ac}(HT:Hid (traceE ms xs ev 257 startE rs=T)) :
  Cl 8 #[.agg #[vm,.slice (some ⟨cb,co,none⟩) xs.length ccap],evV ev,vr] w fun e w'=>TraceOk w w' T e:=by
 obtain ⟨c9,⟨ai,g,_⟩,bj⟩:=judge_known hK;have hj:Hid (judgeR ms xs=(0,0)):=bj;obtain ⟨i0,hi,bc,a7,bg⟩:=info_parts Tryz.infoActE;obtain ⟨V,HV,ad,al,az⟩:∃ V,Hid ((w.alloc (.cells #[vm,.slice (some ⟨cb,co,none⟩) xs.length ccap] 25)).alloc (.cells #[U8 ev.1,U8 ev.2] 28)=V)/\Bw w V/\Hid (Hp V w.heap.size 25 [vm,.slice (some ⟨cb,co,none⟩) xs.length ccap])/\Hid (Hp V (w.heap.size+1) 28 [U8 ev.1,U8 ev.2]) :=
  ⟨_,rfl,by go_grown,(Hp.new w _ _).alloc _,by have:=Hp.new (w.alloc (.cells #[vm,.slice (some ⟨cb,co,none⟩) xs.length ccap] 25)) [U8 ev.1,U8 ev.2] 28;rw [World.size_alloc] at this;exact this⟩
 obtain ⟨W,HW,aw,bf,c5⟩:∃ W,Hid (V.alloc (.cells #[.slice none 0 0] 64)=W)/\Bw w W/\Hid (Bk W w.heap.size V.heap.size (.slice none 0 0) [])/\V.heap.size<=W.heap.size:=⟨_,rfl,ad.alloc ad.size _,⟨Hp.new V _ _,World.ownsRow_nil _ _ _ _⟩,by simp⟩;have m0:=al.out.cell (j:=0) rfl;have m1:=al.out.cell (j:=1) rfl;have e0:=az.out.cell (j:=0) rfl;have e1:=az.out.cell (j:=1) rfl;have a5:=keepJ (dnew_ok (w0:=w) (c:=V.heap.size) (B:=w.heap.size) (v:=.slice none 0 0) ev W hm hx aw ad.size (Nat.le_refl _) aw.size Tie.nil bf.out (by simp) hj);have bh:=keepJ a4
 obtain ⟨ra,c0,rfl,c7,c8⟩:∃ a c,vr=.slice a rs.length c/\rs.length<=c/\c<=9223372036854775807:=by obtain ⟨a,c,h,h1,h2,_⟩:=a4;unfold maxLen at h2;exact ⟨a,c,h,h1,by omega⟩
 clear hm hx a4;go_enter Tryz.func8,Tryz.ntmps8
 go_wp2_with (first
  | (go_at_call 16;(try rw [HW.out]);go_must (refine a5.out.mono ?_);rintro e w5 ⟨b,rb,tb,v5,rfl,b5,bq,hb,cc,ce,bk⟩;go_must (have b1:=keepJ b5;clear b5 bq bk))
  | (rw [HV.out])
  | (rw [HW.out]))
 have a8:w.heap.size<=w5.heap.size:=b1.out.bel.size;have b9:=a7;clear a7 a5
 go_loopw [10,11] (fun va0 us wr=>∃ (M:Mc) (A:List Ac) (u:Nat) (va v:Value) (ks:List Ak),us=I4 u/\va=va0/\u<=rs.length/\Hid (Safe xs ms.length ai M/\((M.mode=0/\pot xs M<=256/\A++traceE ms xs ev (257-M.steps) M (rs.drop u)=T)∨(M.mode=2/\A=T)))/\A.length=M.steps/\Hid (Dh w wr b rb tb V.heap.size w.heap.size vm cb co ccap ms xs ev M v ks)/\ks.length<=M.steps+1/\Hid (wr.ownsRow w5.heap.size 80 7 va A.length (flatX A))/\w5.heap.size<=wr.heap.size) (fun va _ _=>300-lenV va)
 case atStart =>
  have bu:pot xs startE<=256:=Int.le_trans (pot_start g.T) (cost_256 g.T);exact ⟨startE,[],0,_,v5,_,rfl,rfl,by omega,⟨safe_start g,.inl ⟨rfl,bu,by rw [List.nil_append,List.drop_zero];exact HT.out⟩⟩,rfl,b1.out,by simp [startE],World.ownsRow_nil _ _ _ _,Nat.le_refl _⟩
 case round =>
  obtain ⟨M,A,u,va,v,ks,rfl,rfl,hu,HI,hA,HD,c6,HO,c3⟩:=hrel
  rename World=>wr
  obtain ⟨hS,⟨m0,bx,F⟩|⟨m2,bp⟩⟩:=HI.out
  ·have b7:=hS.pot_le g.T;rw [if_pos m0] at b7
   have cd:M.steps<=255:=by omega
   have HA:=keepJ hA
   have ca:A.length<=255:=by omega
   clear hA;obtain ⟨s,ap,ar⟩:=safe_run (ms:=ms) g hS m0 ay;have Q:=step_kinds (ms:=ms) (xs:=xs) (ev:=ev) m0;rw [show 257-M.steps=(256-M.steps)+1 by omega] at F;have l:=dstep_all g hS ay HD.out (by omega) (by omega)
   have P:=fun h=>trace_end (ms:=ms) (xs:=xs) (ev:=ev) (M:=M) (n:=256-M.steps) (rs:=rs.drop u) h
   have a3:=fun h=>trace_none (ms:=ms) (xs:=xs) (ev:=ev) (M:=M) (n:=256-M.steps) h
   have S:=fun r l' h=>trace_ask (ms:=ms) (xs:=xs) (ev:=ev) (M:=M) (n:=256-M.steps) (r:=r) (rs:=l') h
   have X:=fun h=>trace_on (ms:=ms) (xs:=xs) (ev:=ev) (M:=M) (n:=256-M.steps) (rs:=rs.drop u) h
   have h9:=HD.out.mode9 m0;have I:=own_shape11 HO.out;obtain ⟨⟨⟨ak,apc,am,ao,aq,av,an⟩,i⟩,HR⟩:∃ R,Hid (stepE ms xs ev M=R):=⟨_,rfl⟩;rw [HR.out] at Q s ap ar l P a3 S X;simp only at Q s ap ar l P a3 S X;have ah:=keepJ l
   have aj:∃ (q:Nat) (r:Rs) (k2:Bool),i.mode=q/\(q=1∨k2=false)/\((q=2/\A++[⟨ak,apc,am,ao,aq,av,an⟩]=T)∨(q=1/\u=rs.length/\A++[⟨ak,apc,am,ao,aq,av,an⟩]=T)∨(q=1/\u<rs.length/\rs.getD u Rs.nil=r/\(A++[⟨ak,apc,am,ao,aq,av,an⟩])++traceE ms xs ev (257-i.steps) (answerE xs i r.E r.f r.v) (rs.drop (u+1))=T)∨(q=0/\(A++[⟨ak,apc,am,ao,aq,av,an⟩])++traceE ms xs ev (257-i.steps) i (rs.drop u)=T)):=by
    rcases Q with ⟨G,D⟩|⟨G,D⟩|⟨G,D⟩
    ·exact ⟨2,Rs.nil,false,D,.inr rfl,.inl ⟨rfl,by rw [<- F,P G]⟩⟩
    ·by_cases J:u=rs.length
     ·exact ⟨1,Rs.nil,false,D,.inl rfl,.inr (.inl ⟨rfl,J,by rw [<- F,J,List.drop_length,a3 G]⟩)⟩
     ·have a6:u<rs.length:=by omega
      have bw:rs.drop u=rs.getD u Rs.nil :: rs.drop (u+1):=by rw [List.drop_eq_getElem_cons a6];simp [List.getD,a6]
      exact ⟨1,_,true,D,.inl rfl,.inr (.inr (.inl ⟨rfl,a6,rfl,by rw [<- F,bw,S _ _ G,show 257-i.steps=256-M.steps by omega,List.append_assoc];rfl⟩))⟩
    ·exact ⟨0,Rs.nil,false,D,.inr rfl,.inr (.inr (.inr ⟨rfl,by rw [<- F,X (by omega),show 257-i.steps=256-M.steps by omega,List.append_assoc];rfl⟩))⟩
   clear P a3 S X l Q F HR;obtain ⟨q,r,k2,L,-,bs⟩:=aj;obtain ⟨aa,ax,I⟩:=I;subst I;have a1:=keepJ s;have HS:=keepJ hS;clear hS s b7
   rcases bs with ⟨hq,N⟩|⟨hq,J,N⟩|⟨hq,J,br,N⟩|⟨hq,N⟩<;>subst hq
   all_goals (have a0:=keepJ N;clear N)
   all_goals try (obtain ⟨c4,c2,bt,b8,O,ac⟩:=bh.out.at11 J;rw [br] at O ac;subst bt;have bl:=keepJ O;have au:=keepJ (safe_answer (E:=r.E) (f:=r.f) g a1.out L (v:=r.v) ac);have ba:¬ (rs.length:Int)<=u:=(by omega);clear O)
   all_goals try (have ba:(rs.length:Int)<=u:=by omega)
   all_goals go_wp2_with (first
    | (go_at_call 19;go_must (refine ah.out.mono ?_);rintro e w1 ⟨rfl,ae,v1,Z,b6,bz,-⟩;go_must (have a7:=ae.size;have a9:=own_chg HO.out ae (fun k G=>HD.out.acts HO.out k G);have bm:=keepJ a9;have bd:=keepJ b6;obtain ⟨Y,HY,z,b4,bi⟩:∃ Y,Hid (w1.alloc (.cells #[I4 ak,I4 apc,I4 am,I4 ao,U8 aq,U8 av,U8 an] 80)=Y)/\Hid (Hp Y w1.heap.size 80 (actC ak apc am ao aq av an))/\Bw w1 Y/\Y.heap.size=w1.heap.size+1:=⟨_,rfl,Hp.new w1 _ _,(Below.refl _ _).alloc (Nat.le_refl _) _,by simp⟩;have b2:=qBa a9 b4 (Nat.le_refl _);have bo:=keepJ b2;obtain ⟨⟨y0,y1,y2,y3,y4,y5,y6⟩,-⟩:=hq7 z.out;clear b6 a9 b2 ae))
    | (at_builtin;(try rw [HY.out]);go_must (refine wpList_append_own _ rfl _ _ 34 rfl w5.heap.size 80 i0 _ 7 56 Tryz.underlying34 hi bc b9 bg rfl (by decide) (.slice aa A.length ax) A.length (flatX A) rfl (bo.out.alloc _) ⟨_,0,none⟩ 1 1 (actC ak apc am ao aq av an) rfl rfl (seven_new _ _ _ _ bi.symm) (seven_one ⟨ak,apc,am,ao,aq,av,an⟩) (by unfold maxLen;omega) (by omega) (by simp;omega) ?_);intro v' w2 a2 U _;have R:=dact_more (A1:=⟨ak,apc,am,ao,aq,av,an⟩) bd.out bm.out b4 a8 a2 U;clear a2 U;obtain ⟨ag,ab,c1⟩:=R;have d:=keepJ ag;have y:=keepJ ab;have n9:=y.out.mode9 L;clear ag ab;(try (have bb:=bl.out.below y.out.bel b8;obtain ⟨r0,r1,r2,r3,r4,r5⟩:=bb)))
    | (go_at_call 21;go_must (refine (danswer_all g a1.out y.out L r.E r.f r.v r.o r.k r.u ac).mono ?_);rintro e w3 ⟨rfl,af,b3⟩;go_must (have bn:=keepJ af;have be:=keepJ b3;have cf:=af.size;clear af b3))
    | (rw [HY.out]))
   ·go_roundw
    case rel=>exact ⟨i,_,u,_,v1,Z,rfl,rfl,hu,⟨a1.out,.inr ⟨L,a0.out⟩⟩,by have:=HA.out;simp;omega,y.out,by omega,d.out,by omega⟩
    case measure=>rw [own_lenV d.out];simp [lenV];omega
   ·go_ret2;refine ⟨_,rfl,?_,y.out.bel⟩;rw [<- a0.out];exact own_low d.out a8
   ·go_roundw
    case rel=>exact ⟨answerE xs i r.E r.f r.v,_,u+1,_,v1,Z,by go_num,rfl,by omega,⟨au.out.1,.inl ⟨rfl,by have:=au.out.2;omega,a0.out⟩⟩,by show _=i.steps;have:=HA.out;simp;omega,be.out,by show Z.length<=i.steps+1;omega,own_chg d.out bn.out (fun k G=>y.out.acts d.out k G),by omega⟩
    case measure=>rw [own_lenV d.out];simp [lenV];omega
   ·go_roundw
    case rel=>exact ⟨i,_,u,_,v1,Z,rfl,rfl,hu,⟨a1.out,.inl ⟨L,by omega,a0.out⟩⟩,by have:=HA.out;simp;omega,y.out,by omega,d.out,by omega⟩
    case measure=>rw [own_lenV d.out];simp [lenV];omega
  ·have h9:=HD.out.mode9 m2;obtain ⟨aa,ax,I⟩:=own_shape11 HO.out;subst I;clear HI;go_wp2;go_ret2;refine ⟨_,rfl,?_,HD.out.bel⟩;subst bp;exact own_low HO.out a8
theorem flatR_len (xs:List Rs):(flatR xs).length=xs.length*6:=by
 induction xs with
 | nil=>rfl
 | cons x xs ih =>
  have e:flatR (x :: xs)=rsC x++flatR xs:=rfl;rw [e,List.length_append,ih,List.length_cons]
  simp;omega
theorem flatR_cells {w:World}{b off:Nat}{xs:List Rs}(h:∀ k,k<xs.length->AtR w b (off+k*6) (xs.getD k Rs.nil))(j:Nat)(u:Value)(a:(flatR xs)[j]? = some u):w.cell? ((⟨b,off,none⟩:Addr).add j)=some u:=by
 have n:j<xs.length*6:=by rw [<- flatR_len];exact (List.getElem?_eq_some_iff.1 a).1
 have e:j=(j / 6)*6+j%6:=by omega
 have h0:=h (j / 6) (by omega);rw [e,flatR_at xs (j / 6) (j%6) (by omega) (by omega)] at a;rw [Addr.add_mid,show off+j=off+j / 6*6+j%6 by omega,<- a];obtain ⟨h0,g,i,f,d,l⟩:=h0
 have c:j%6=0∨j%6=1∨j%6=2∨j%6=3∨j%6=4∨j%6=5:=by omega
 rcases c with e|e|e|e|e|e<;>rw [e]
 ·exact h0
 ·exact g
 ·exact i
 ·exact f
 ·exact d
 ·exact l
theorem wpList_append_seesR {P:Program}{w:World}{E:Array Oper}{y:List Oper}{o:Oper}{a:Act}{Q:Exit->Act->World->Prop}(T:o.guard=none)(s x:Operand)(t:TypeId)(J:o.op=.call { callee:=.builtin .append,args:=#[s,x],argTypes:=#[t,t] })(base:Nat)(e:TypeId)(i:TypeInfo)(z:Value)(I:P.underlying t=some (.slice e))(hi:P.info? e=some i)(U:i.zero=some z)(g:i.size=6)(B:i.bytes=48)(F:z.cells.size=6)(v:Value)(R:a.eval s=v)(c:w.ownsRow base e 6 v 0 [])(D:Value)(d:List Rs)(N:a.eval x=D)(L:SeesR w D d)(X:d.length<=maxLen)(n:d.length*48<=140737488355328)(k:base<=w.heap.size)(h:∀ l f,f.ownsRow base e 6 l d.length (flatR d)->w.grownBy f v.ownBlock->wpList P E Q y (a.put o.dst l) f):wpList P E Q (o :: y) a w:=by
 refine wpList_plain T fun K hK=>?_
 obtain ⟨O,cap,rfl,hl,hm,Y,_,hc⟩:=L
 by_cases hne:d=[]
 ·subst hne
  cases O with
  | none =>
   obtain rfl:cap=0:=Y rfl;have G:=run_append_owned_none (P:=P) (w:=w) base t o.type e i 6 I hi v _ _ c;have V:a.eval x=.slice none 0 0:=N;unfold Oper.wp
   simp [execOp,J,resolve,invoke,builtin,R,V,G,Result.andThen]
   exact hK _ _ (h v w c ⟨rfl,rfl,rfl,Nat.le_refl _,fun _ _ _=>rfl⟩)
  | some O =>
   refine wp_append_own w s x t J base e i z 6 48 I hi U g B F (by decide) v _ _ R c O 0 cap [] N rfl (by simp) (by simp) (by simp [maxLen]) (by simp) k ?_;intro l f A M _;exact hK _ _ (h l f A M)
 ·obtain ⟨b,off,rfl,a0,S⟩:=hc hne;refine wp_append_own w s x t J base e i z 6 48 I hi U g B F (by decide) v _ _ R c ⟨b,off,none⟩ d.length cap (flatR d) N (flatR_len d) (flatR_cells S) (fun u hu=>?_) (by simpa using X) (by simpa using n) k ?_
  ·obtain ⟨r,_,Z⟩:=List.mem_flatMap.1 hu;exact six_one r u Z
  ·intro l f A M _;exact hK _ _ (h l f (by rw [Nat.zero_add,List.nil_append] at A;exact A) M)
theorem own_none6 (w:World)(e:TypeId):(w.alloc (.cells #[] e)).ownsRow w.heap.size e 6 (.slice (some ⟨w.heap.size,0,none⟩) 0 0) 0 []:=by
 refine ⟨rfl,.inr ⟨w.heap.size,0,#[],rfl,Nat.le_refl _,?_,Nat.le_refl _,by simp [maxLen],rfl,rfl⟩⟩
 show (w.heap.push _)[w.heap.size]? = _
 simp
theorem Sees.at11 {w:World}{k:IntKind}{a:Option Addr}{n cap:Nat}{xs:List Int}(h:Sees k w (.slice a n cap) xs){j:Nat}(b:j<xs.length):∃ p off,a=some ⟨p,off,none⟩/\w.cell? ⟨p,off+j,none⟩=some (.int k (xs.getD j 0)):=by
 obtain ⟨i,f,ev,_,_,_,_,d⟩:=h;simp only [Value.slice.injEq] at ev;obtain ⟨rfl,_,rfl⟩:=ev;obtain ⟨p,off,rfl,g,c⟩:=d (fun e=>by rw [e] at b;simp at b);exact ⟨p,off,rfl,c j b⟩
theorem SeesI.at11 {w:World}{a:Option Addr}{n cap:Nat}{xs:List In}(h:SeesI w (.slice a n cap) xs){j:Nat}(b:j<xs.length):∃ p off,a=some ⟨p,off,none⟩/\At w p (off+j*5) (xs.getD j In.nil):=by
 obtain ⟨i,f,ev,_,_,_,d⟩:=h;simp only [Value.slice.injEq] at ev;obtain ⟨rfl,_,rfl⟩:=ev;obtain ⟨p,off,rfl,g,c⟩:=d (fun e=>by rw [e] at b;simp at b);exact ⟨p,off,rfl,c j b⟩
def TraceTo (w w':World) (T:List Ac) (E:Int) (e:Ending):Prop:=∃ v,e=.returned (.tuple #[v,.int .i64 E])/\w'.ownsRow w.heap.size 80 7 v T.length (flatX T)/\Below w.heap.size w w'
theorem code_at11 {w:World}{v:Value}{xs:List In}(h:SeesI w v xs)(d:0<xs.length):∃ cb co ccap,v=.slice (some ⟨cb,co,none⟩) xs.length ccap:=by
 obtain ⟨a,c,rfl,_,_,_,g⟩:=h;obtain ⟨b,off,rfl,_⟩:=g (fun e=>by rw [e] at d;simp at d);exact ⟨b,off,c,rfl⟩
theorem trace_two (ms:List Int)(xs:List In)(ev:Int×Int)(i:(0<=ev.1/\ev.1<=18446744073709551615)/\0<=ev.2/\ev.2<=18446744073709551615)(rs:List Rs):∃ T E,(∀ b c a w,SeesM w b c ms xs->SeesR w a rs->Cl 7 #[modV b c,evV ev,a] w fun e f=>TraceTo w f T E e)/\(∀ b c a w,SeesM w b c ms xs->SeesR w a rs->Cl 8 #[modV b c,evV ev,a] w fun e f=>TraceTo w f T E e):=by
 cases hi:inqR ms xs with
 | ok K =>
  obtain ⟨z,⟨r,g,_⟩,y⟩:=judge_known hi;refine ⟨traceE ms xs ev 257 startE rs,0,fun b c a w hm d=>?_,fun b c a w hm d=>?_⟩
  ·obtain ⟨u,s,l,rfl⟩:=code_at11 hm.code g.T.pos;exact mtrace_ok ev i w hm.maps hm.code d hi (keepJ rfl)
  ·obtain ⟨u,s,l,rfl⟩:=code_at11 hm.code g.T.pos;exact dtrace_ok ev i w hm.maps hm.code d hi (keepJ rfl)
 | error e =>
  obtain ⟨P,E⟩:=e;have n:E≠0:=inq_errorE hi (fun e h=>(run_errorE (p:=e.1) (E:=e.2) h).2)
  have o:Hid (judgeR ms xs=(P,E)):=by show _=_;unfold judgeR;rw [hi]
  refine ⟨[],E,fun b c a w hm d=>?_,fun b c a w hm d=>?_⟩
  ·refine (mtrace_bad ev a w hm.maps hm.code o n).mono ?_;rintro e f ⟨rfl,k⟩;exact ⟨_,rfl,World.ownsRow_nil _ _ _ _,k⟩
  ·refine (dtrace_bad ev a w hm.maps hm.code o n).mono ?_;rintro e f ⟨rfl,k⟩;exact ⟨_,rfl,World.ownsRow_nil _ _ _ _,k⟩
theorem boxQ11 (w:World)(a g:Value)(d b:Int)(c:Value)(f:Int):∃ V,Hid (w.alloc (.cells #[a,g,U8 d,U8 b,c,I4 f] 31)=V)/\Hid (Hp V w.heap.size 31 [a,g,U8 d,U8 b,c,I4 f])/\Bw w V/\V.heap.size=w.heap.size+1:=⟨_,rfl,Hp.new w _ _,(Below.refl _ _).alloc (Nat.le_refl _) _,by simp⟩
theorem traces11_any (vm vc:Value)(ms:List Int)(xs:List In)(P S:Int)(vr:Value)(rs:List Rs)(od:Int)(w:World)(h:SeesM w vm vc ms xs)(hr:SeesR w vr rs)(bh:(0<=P/\P<=18446744073709551615)/\0<=S/\S<=18446744073709551615)(c7 : -9223372036854775808<=od/\od<=9223372036854775807)(z:ms.length*8<=140737488351232/\xs.length*40<=140737488355328/\rs.length*48<=140737488355328) :
  Cl 3 #[.agg #[vm,vc,U8 P,U8 S,vr,I4 od]] w fun e w'=>e=.returned (.bool true)/\Bw w w':=by
 obtain ⟨T,E,hL,hD⟩:=trace_two ms xs (P,S) bh rs;have HL:=keepJ hL;have HD:=keepJ hD;have b4:ms.length*8<=140737488351232/\xs.length*40<=140737488355328:=⟨z.1,z.2.1⟩;have b9:=z.2.2
 have c8:(E != E)=false:=by simp
 obtain ⟨i0,hi,ba,b3,b2⟩:=info_parts Tryz.infoResE
 obtain ⟨ma,mc,rfl,bx,bo⟩:∃ a c,vm=.slice a ms.length c/\ms.length<=c/\c<=9223372036854775807:=by obtain ⟨a,c,e,A,o,_⟩:=h.maps;unfold maxLen at o;exact ⟨a,c,e,A,by omega⟩
 obtain ⟨ca,cc,rfl,bp,bn⟩:∃ a c,vc=.slice a xs.length c/\xs.length<=c/\c<=9223372036854775807:=by obtain ⟨a,c,e,A,o,_⟩:=h.code;unfold maxLen at o;exact ⟨a,c,e,A,by omega⟩
 obtain ⟨ra,rc,rfl,bs,bu⟩:∃ a c,vr=.slice a rs.length c/\rs.length<=c/\c<=9223372036854775807:=by obtain ⟨a,c,e,A,o,_⟩:=hr;unfold maxLen at o;exact ⟨a,c,e,A,by omega⟩
 have ar:∀ r∈rs,r.wf:=by obtain ⟨_,_,_,_,_,_,hw,_⟩:=hr;exact hw
 obtain ⟨V,HV,aj,a3,br⟩:=boxQ11 w (.slice ma ms.length mc) (.slice ca xs.length cc) P S (.slice ra rs.length rc) od
 have B:Hid (∀ b:World,Bw V b->Hp b w.heap.size 31 [.slice ma ms.length mc,.slice ca xs.length cc,U8 P,U8 S,.slice ra rs.length rc,I4 od]):=fun b D=>aj.out.below D (by omega)
 have G:Hid (∀ b:World,Bw V b->SeesM b (.slice ma ms.length mc) (.slice ca xs.length cc) ms xs/\SeesR b (.slice ra rs.length rc) rs):=fun b D=>⟨(h.below a3).below D,(hr.below a3 (Nat.le_refl _)).below D (Nat.le_refl _)⟩
 clear h hr hL hD;go_enter Tryz.func3,Tryz.ntmps3
 go_wp2_with (first
  | (go_at_call 5;(try rw [HV.out]);go_must (refine (awake11_any V).mono ?_);rintro e w1 ⟨rfl,J⟩;go_must (have b6:=J.size;have q0:=(B.out w1 J).cell (j:=0) rfl;have q1:=(B.out w1 J).cell (j:=1) rfl))
  | (go_at_call 6;go_must (refine (copied9_own _ _ ms xs w1 (G.out w1 J).1 b4).mono ?_);rintro e U ⟨um,uc,rfl,a5,b5,au,bd⟩;go_must (obtain ⟨na,nc,bc,cb,c9⟩:∃ a c,um=.slice a ms.length c/\ms.length<=c/\c<=9223372036854775807:=(by obtain ⟨a,c,e,A,o,_⟩:=a5.maps;unfold maxLen at o;exact ⟨a,c,e,A,by omega⟩);obtain ⟨da,dc,aw,c6,bz⟩:∃ a c,uc=.slice a xs.length c/\xs.length<=c/\c<=9223372036854775807:=(by obtain ⟨a,c,e,A,o,_⟩:=a5.code;unfold maxLen at o;exact ⟨a,c,e,A,by omega⟩);subst bc aw;have ak:Bw V U:=J.trans (bd.mono b6);clear b5 au q0 q1;obtain ⟨d,b8,a7,ah⟩:∃ d,Hid (U.alloc (.cells #[.slice na ms.length nc,.slice da xs.length dc] 25)=d)/\Hid (Hp d U.heap.size 25 [.slice na ms.length nc,.slice da xs.length dc])/\Bw U d:=⟨_,rfl,Hp.new U _ _,(Below.refl _ _).alloc (Nat.le_refl _) _⟩;have Z:Bw V d:=ak.trans (ah.mono ak.size);have al:=keepJ (a5.below ah);clear a5;obtain ⟨R,ag,bk,I⟩:∃ R,Hid (d.alloc (.cells #[] 45)=R)/\Hid (R.ownsRow d.heap.size 45 6 (.slice (some ⟨d.heap.size,0,none⟩) 0 0) 0 [])/\Bw d R:=⟨_,rfl,own_none6 d _,(Below.refl _ _).alloc (Nat.le_refl _) _⟩;have a9:Bw V R:=Z.trans (I.mono Z.size);have q4:=(B.out R a9).cell (j:=4) rfl))
  | (at_builtin;(try rw [ag.out]);go_must (refine wpList_append_seesR rfl (.tmp 17) (.tmp 19) 29 rfl d.heap.size 45 i0 (resV 0 false 0 false 0 0) Tryz.underlying29 hi ba b3 b2 rfl _ rfl bk.out _ rs rfl (G.out R a9).2 (by unfold maxLen;omega) b9 I.size ?_);intro v4 O a1 ap;go_must (have aa:Bw d O:=I.grown ap I.size (fun j hj=>by (have bq:d.heap.size=j:=Option.some.inj hj);omega);have a0:Bw V O:=Z.trans (aa.mono Z.size);have ab:=keepJ (al.out.below aa);have Y:=keepJ (own_seesR a1 ar);obtain ⟨ga,gc,b7,bw,bt⟩:∃ a c,v4=.slice a rs.length c/\rs.length<=c/\c<=9223372036854775807:=(by obtain ⟨a,c,e,A,o,_⟩:=Y.out;unfold maxLen at o;exact ⟨a,c,e,A,by omega⟩);subst b7;have N:=keepJ (a7.out.below aa a7.out.lt);have av:=N.out.cell (j:=0) rfl;have be:=N.out.cell (j:=1) rfl;have b1:=(B.out O a0).cell (j:=2) rfl;have bj:=(B.out O a0).cell (j:=3) rfl;clear a1 ap q4))
  | (go_at_call 7;go_must (refine (HL.out _ _ _ O ab.out Y.out).mono ?_);rintro e w5 ⟨v5,rfl,am,a2⟩;go_must (have ao:=keepJ am;have M:Bw V w5:=a0.trans (a2.mono a0.size);have F:=keepJ (B.out w5 M);obtain ⟨⟨ay,bg,az,bm,bb,_⟩,-⟩:=hq6 F.out;clear am av be b1 bj))
  | (go_at_call 8;go_must (refine (HD.out _ _ _ w5 (G.out w5 M).1 (G.out w5 M).2).mono ?_);rintro e w6 ⟨v6,rfl,aq,a4⟩;go_must (have af:=keepJ aq;have ae:Bw V w6:=M.trans (a4.mono M.size);clear aq ay bg az bm bb))
  | (go_at_call 9;go_must (refine (alike11_any w6 ((own_seesX ao.out).below a4) (own_seesX af.out)).mono ?_);rintro e g ⟨rfl,ad⟩;go_must (have n:Bw V g:=ae.trans (ad.mono ae.size);have Q:Bw O g:=(a2.trans (a4.mono a2.size)).trans (ad.mono (Nat.le_trans a2.size a4.size));have L:=keepJ (N.out.below Q N.out.lt);have ac:=keepJ (ab.out.below Q);have ai:=keepJ (Y.out.below Q (Nat.le_refl _));have bl:=L.out.cell (j:=0) rfl;have ax:=L.out.cell (j:=1) rfl;have bf:=(B.out g n).cell (j:=0) rfl;have bi:=(B.out g n).cell (j:=1) rfl))
  | (rw [HV.out])
  | (rw [b8.out])
  | (rw [ag.out]))
 clear bl ax bf bi HL HD
 have HB:Hid (∀ b:World,Bw g b->(Hp b U.heap.size 25 [.slice na ms.length nc,.slice da xs.length dc]/\Hp b w.heap.size 31 [.slice ma ms.length mc,.slice ca xs.length cc,U8 P,U8 S,.slice ra rs.length rc,I4 od])/\(SeesM b (.slice na ms.length nc) (.slice da xs.length dc) ms xs/\SeesR b (.slice ga rs.length gc) rs)/\SeesM b (.slice ma ms.length mc) (.slice ca xs.length cc) ms xs/\SeesR b (.slice ra rs.length rc) rs):=fun b D=>⟨⟨L.out.below D L.out.lt,B.out b (n.trans (D.mono n.size))⟩,⟨ac.out.below D,ai.out.below D (Nat.le_refl _)⟩,G.out b (n.trans (D.mono n.size))⟩
 have a6:Bw w g:=a3.trans (n.mono a3.size);clear B G ab al Y a7 N L ac ai ao af F aj
 go_loopw [9] (fun i wr=>∃ k:Nat,k<=ms.length/\i=I4 k/\Hid (Bw g wr)) (fun i _=>ms.length-(intOf i).toNat)
 case atStart=>exact ⟨0,by omega,rfl,Below.refl _ _⟩
 case round =>
  obtain ⟨k,hk,rfl,f⟩:=hrel
  rename World=>wr
  obtain ⟨⟨X,l⟩,⟨u,_⟩,s,_⟩:=HB.out wr f.out;have i0:=X.cell (j:=0) rfl;have q0:=l.cell (j:=0) rfl
  by_cases hkn:k<ms.length
  ·have K:(k:Int)<ms.length:=by omega
   obtain ⟨p,off,rfl,c1⟩:=u.maps.at11 hkn;obtain ⟨p',a8,rfl,c2⟩:=s.maps.at11 hkn
   generalize ms.getD k 0=y at c1 c2
   clear X l u s;go_wp2;go_region;go_wp2
   go_roundw
   case rel=>exact ⟨k+1,by omega,by go_num,qAj f.out⟩
   case measure=>(simp [intOf];try omega)
  ·have K:¬ (k:Int)<ms.length:=by omega
   clear X l u s q0;go_wp2
   go_loopw [10] (fun i wr=>∃ k:Nat,k<=xs.length/\i=I4 k/\Hid (Bw g wr)) (fun i _=>xs.length-(intOf i).toNat)
   case atStart=>exact ⟨0,by omega,rfl,f.out⟩
   case round =>
    clear f i0;obtain ⟨k,hk,rfl,f⟩:=hrel
    rename World=>wr
    obtain ⟨⟨X,l⟩,⟨u,_⟩,s,_⟩:=HB.out wr f.out;have i1:=X.cell (j:=1) rfl;have q1:=l.cell (j:=1) rfl
    by_cases hkn:k<xs.length
    ·have K:(k:Int)<xs.length:=by omega
     obtain ⟨p,off,rfl,c0,c1,c2,c3,c4⟩:=u.code.at11 hkn;obtain ⟨p',a8,rfl,d0,d1,d2,d3,d4⟩:=s.code.at11 hkn
     generalize xs.getD k In.nil=y at c0 c1 c2 c3 c4 d0 d1 d2 d3 d4
     obtain ⟨o1,o2,o3,o4,o5⟩:=y;simp only at c0 c1 c2 c3 c4 d0 d1 d2 d3 d4;clear X l u s;go_wp2;go_region;go_wp2
     go_roundw
     case rel=>exact ⟨k+1,by omega,by go_num,qAj f.out⟩
     case measure=>(simp [intOf];try omega)
    ·have K:¬ (k:Int)<xs.length:=by omega
     clear X l u s q1;go_wp2
     go_loopw [11] (fun i wr=>∃ k:Nat,k<=rs.length/\i=I4 k/\Hid (Bw g wr)) (fun i _=>rs.length-(intOf i).toNat)
     case atStart=>exact ⟨0,by omega,rfl,f.out⟩
     case round =>
      clear f i1;obtain ⟨k,hk,rfl,f⟩:=hrel
      rename World=>wr
      obtain ⟨⟨_,l⟩,⟨_,u⟩,_,s⟩:=HB.out wr f.out;have q4:=l.cell (j:=4) rfl
      by_cases hkn:k<rs.length
      ·have K:(k:Int)<rs.length:=by omega
       obtain ⟨p,off,rfl,-,⟨c0,c1,c2,c3,c4,c5⟩,-⟩:=u.at11 hkn;obtain ⟨p',a8,rfl,-,⟨d0,d1,d2,d3,d4,d5⟩,-⟩:=s.at11 hkn
       generalize rs.getD k Rs.nil=y at c0 c1 c2 c3 c4 c5 d0 d1 d2 d3 d4 d5
       obtain ⟨o1,o2,o3,o4,o5,o6⟩:=y;simp only at c0 c1 c2 c3 c4 c5 d0 d1 d2 d3 d4 d5;clear l u s;go_wp2;go_region;go_wp2
       go_roundw
       case rel=>exact ⟨k+1,by omega,by go_num,qAj f.out⟩
       case measure=>(simp [intOf];try omega)
      ·have K:¬ (k:Int)<rs.length:=by omega
       clear l u s q4;go_wp2;go_ret;exact ⟨rfl,a6.trans (f.out.mono a6.size)⟩
end Go.Proofs.YtmdhljoicnommaaGreat
