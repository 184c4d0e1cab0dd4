/-
  E11LMh
  E11Acts
-/
import Derived.Test.YtmdhljoicnommaaGreatME40
import Derived.Test.YtmdhljoicnommaaGreatME46
namespace Go.Proofs.YtmdhljoicnommaaGreat
set_option maxHeartbeats 12800000
open Go.RowKit
set_option linter.unusedVariables false
set_option linter.unusedSimpArgs false
set_option maxRecDepth 100000
abbrev acV (A:Ac):Value:=qEp A.k A.pc A.im A.io A.ik A.iv A.v
theorem Sees.chg {k:IntKind}{w w':World}{v:Value}{xs:List Int}{S:Nat->Prop}(h:Sees k w v xs)(n:Chg w w' S)(c:xs=[]∨∀ j,v.ownBlock=some j->¬ S j):Sees k w' v xs:=by
 obtain ⟨a,cap,rfl,u,hm,l,s,r⟩:=h;refine ⟨a,cap,rfl,u,hm,l,s,fun f=>?_⟩;obtain ⟨b,off,rfl,g,d⟩:=r f;refine ⟨b,off,rfl,Nat.lt_of_lt_of_le g n.size,fun i hi=>?_⟩
 have o:¬ S b:=by
  rcases c with c|c
  ·exact absurd c f
  ·exact c b rfl
 exact (n.cellL g o).trans (d i hi)
structure Mh (w:World) (b sb:Nat) (vm:Value) (cb co ccap:Nat) (ms:List Int) (xs:List In) (ev:Int×Int) (M:Mc):Prop where
 ma:Ma w b sb vm (.slice (some ⟨cb,co,none⟩) xs.length ccap) ev M
 sc:Sc w sb M.ws M.cs
 maps:Sees .i64 w vm ms
 code:SeesI w (.slice (some ⟨cb,co,none⟩) xs.length ccap) xs
 ne:b≠sb
 mb:ms=[]∨(vm.ownBlock≠some b/\vm.ownBlock≠some sb)
 cn:cb≠b/\cb≠sb
section
variable {w w':World} {b sb cb co ccap:Nat} {vm:Value} {ms:List Int} {xs:List In} {ev:Int×Int} {M:Mc}
theorem Mh.below (h:Mh w b sb vm cb co ccap ms xs ev M)(a:Bw w w'):Mh w' b sb vm cb co ccap ms xs ev M :=
 ⟨h.ma.below a h.ma.hp.lt,h.sc.below a h.sc.lt,h.maps.below a (Nat.le_refl _),h.code.below a,h.ne,h.mb,h.cn⟩
theorem Mh.step {M':Mc}(h:Mh w b sb vm cb co ccap ms xs ev M)(c:Chg w w' (fun k=>k=b∨k=sb))(hm:Ma w' b sb vm (.slice (some ⟨cb,co,none⟩) xs.length ccap) ev M')(d:Sc w' sb M'.ws M'.cs):Mh w' b sb vm cb co ccap ms xs ev M' :=
 ⟨hm,d,h.maps.chg c (h.mb.imp id fun h j a e=>by
  rcases e with e|e
  ·subst e;exact h.1 a
  ·subst e;exact h.2 a),h.code.chg c (fun e=>by rcases e with e|e;exact h.cn.1 e;exact h.cn.2 e),h.ne,h.mb,h.cn⟩
theorem Mh.apart {S:Nat->Prop}(h:Mh w b sb vm cb co ccap ms xs ev M)(a:Chg w w' S)(d:¬ S b)(g:¬ S sb)(c:¬ S cb)(f:ms=[]∨∀ j,vm.ownBlock=some j->¬ S j):Mh w' b sb vm cb co ccap ms xs ev M :=
 ⟨h.ma.chg a d,h.sc.chg a g,h.maps.chg a f,h.code.chg a c,h.ne,h.mb,h.cn⟩
theorem qWz {F:List St}(hK:Known xs ms.length F)(l:Safe xs ms.length F M)(Z:(0<=ev.1/\ev.1<=18446744073709551615)/\0<=ev.2/\ev.2<=18446744073709551615)(h:Mh w b sb vm cb co ccap ms xs ev M)(E:M.steps<=1000) :
  Cl 18 #[.pointer (some ⟨b,0,none⟩)] w fun e w'=>e=.returned (acV (qBe ms xs ev M).1)/\Chg w w' (fun k=>k=b∨k=sb)/\Mh w' b sb vm cb co ccap ms xs ev (qBe ms xs ev M).2:=by
 have B:=hK.T.right l.pc;have X:=qDm B;have hm:=hK.made l.pc l.kn;have ha:=hK.asks l.pc l.kn;have I:=hK.T.top
 have a8:=fun h0=>qPy (ms:=ms) hK l h0 Z
 by_cases m1:M.mode=1
 ·have e:qBe ms xs ev M=(qGe 5 M.pc 0,M):=by unfold qBe;rw [if_pos m1]
  rw [e];refine (yJb w h.ma m1).mono ?_;rintro e w' ⟨rfl,D⟩;exact ⟨rfl,Chg.of_below D,h.below D⟩
 by_cases m2:M.mode=2
 ·have s:(nth xs M.pc).op=22:=by
   rcases l.mode with g|g|g
   ·omega
   ·omega
   ·exact g.2
  have e:qBe ms xs ev M=(qGe 6 M.pc (qBj M.regs (nth xs M.pc).a),M):=by unfold qBe;rw [if_neg m1,if_pos m2]
  rw [e];refine (yLr w h.ma h.code l.pc m2 (qDc B (.inr (.inr (.inr s)))) rfl).mono ?_;rintro e w' ⟨rfl,D⟩;exact ⟨rfl,Chg.of_below D,h.below D⟩
 have m0:M.mode=0:=by
  rcases l.mode with g|g|g<;>omega
 obtain ⟨c,_,_⟩:=a8 m0
 by_cases c21:(nth xs M.pc).op=21
 ·have S:=qLb B c21;obtain ⟨a1,a2⟩:=qQd B hm l.wr l.hold ha c21
  have e:qBe ms xs ev M=qPo ms (nth xs M.pc) M:=by unfold qBe;rw [if_neg m1,if_neg m2,if_pos c21]
  rw [e] at c ⊢;obtain ⟨⟨op,d,a,L,n⟩,A⟩:∃ i,Hid (nth xs M.pc=i):=⟨_,rfl⟩;rw [A.out] at S a1 a2 c21 c ⊢;simp only at S a1 a2 c21;unfold qPo at c ⊢;simp only at c ⊢
  by_cases c4:n<=4
  ·rw [if_pos c4] at c ⊢;obtain ⟨b1,b2⟩:=a1 c4;obtain ⟨ad,mcap,rfl,hl,ab,_,_,P⟩:=h.maps;obtain ⟨mb,mo,rfl,Y,a9⟩:=P (fun e=>by rw [e] at b2;simp at b2;omega);obtain ⟨j,hj⟩:=Int.eq_ofNat_of_zero_le b1
   have G:j<ms.length:=by omega
   rw [show (qBj M.regs 1).toNat=j by omega]
   have a5:mb≠b:=by
    rcases h.mb with g|g
    ·subst g;simp at G
    ·exact fun e=>g.1 (by show some mb=some b;rw [e])
   refine (qQg w h.ma h.code l.pc m0 E h.cn.1 A c21 ⟨S.1,by omega⟩ (ak:=2) (apc:=M.pc) (am:=ms.getD j 0) (ao:=n) (aq:=qBj M.regs 2) (av:=if n=2∨n=4 then qBj M.regs 3 else 0) (an:=0) (Q:=fun r=>Ma r b sb (.slice (some ⟨mb,mo,none⟩) ms.length mcap) (.slice (some ⟨cb,co,none⟩) xs.length ccap) ev { M with steps:=M.steps+1,mode:=1 }/\Sc r sb M.ws M.cs) (fun U N u=>?_) h.sc.lt).mono ?_
   ·refine (yQf n ⟨S.1,c4⟩ U N G (Nat.lt_of_lt_of_le Y u.size) hl ((u.cellL Y a5).trans (a9 j G)) hj rfl rfl rfl).mono ?_;rintro e r ⟨rfl,y,o⟩;exact ⟨rfl,y.mono (fun _ e=>.inl e),o,(h.sc.chg u (fun e=>h.ne e.symm)).chg y (fun e=>h.ne e.symm)⟩
   ·rintro e w' ⟨rfl,f,r,⟨o,z⟩,hg⟩;have D:=h.ma.hp.lt;have a3:=h.sc.lt;exact ⟨rfl,f,h.step f (o.grown hg (fun e=>by have:=Option.some.inj e;omega)) (z.grown hg (fun e=>by have:=Option.some.inj e;omega))⟩
  rw [if_neg c4] at c ⊢
  by_cases c5:n=5
  ·rw [if_pos c5] at c ⊢;subst c5;have hx:=a2 rfl;have K:M.pc+1<64:=Nat.lt_of_lt_of_le c.pc I;refine (qQg w h.ma h.code l.pc m0 E h.cn.1 A c21 (by decide) (ak:=1) (apc:=M.pc) (am:=0) (ao:=0) (aq:=0) (av:=0) (an:=upW (M.cs.getD (qBj M.regs 1).toNat 0) 1) (Q:=fun r=>Ma r b sb vm (.slice (some ⟨cb,co,none⟩) xs.length ccap) ev { M with steps:=M.steps+1,regs:=M.regs.set 0 (upW (M.cs.getD (qBj M.regs 1).toNat 0) 1),pc:=M.pc+1 }/\Sc r sb M.ws (M.cs.set (qBj M.regs 1).toNat (upW (M.cs.getD (qBj M.regs 1).toNat 0) 1))) (fun U N u=>?_) h.sc.lt).mono ?_
   ·refine (yIn U N K (h.sc.chg u (fun e=>h.ne e.symm)) h.ne rfl hx rfl rfl).mono ?_;rintro e r ⟨rfl,y,o,z⟩;exact ⟨rfl,y,o,z⟩
   ·rintro e w' ⟨rfl,f,r,⟨o,z⟩,hg⟩;have D:=h.ma.hp.lt;have a3:=h.sc.lt;exact ⟨rfl,f,h.step f ((o.grown hg (fun e=>by have:=Option.some.inj e;omega)).same rfl rfl rfl rfl rfl) (z.grown hg (fun e=>by have:=Option.some.inj e;omega))⟩
  rw [if_neg c5] at c ⊢
  obtain rfl:n=6:=by omega
  have K:M.pc+1<64:=Nat.lt_of_lt_of_le c.pc I;refine (qQg w h.ma h.code l.pc m0 E h.cn.1 A c21 (by decide) (ak:=3) (apc:=M.pc) (am:=0) (ao:=0) (aq:=0) (av:=0) (an:=qBj M.regs 1) (Q:=fun r=>Ma r b sb vm (.slice (some ⟨cb,co,none⟩) xs.length ccap) ev { M with steps:=M.steps+1,regs:=M.regs.set 0 0,pc:=M.pc+1 }/\Sc r sb M.ws M.cs) (fun U N u=>?_) h.sc.lt).mono ?_
  ·refine (yJj U N K rfl).mono ?_;rintro e r ⟨rfl,y,o⟩;exact ⟨rfl,y.mono (fun _ e=>.inl e),o,(h.sc.chg u (fun e=>h.ne e.symm)).chg y (fun e=>h.ne e.symm)⟩
  ·rintro e w' ⟨rfl,f,r,⟨o,z⟩,hg⟩;have D:=h.ma.hp.lt;have a3:=h.sc.lt;exact ⟨rfl,f,h.step f ((o.grown hg (fun e=>by have:=Option.some.inj e;omega)).same rfl rfl rfl rfl rfl) (z.grown hg (fun e=>by have:=Option.some.inj e;omega))⟩
 by_cases s:(nth xs M.pc).op=22
 ·have e:qBe ms xs ev M=(qGe 4 M.pc (qBj M.regs (nth xs M.pc).a),{ M with steps:=M.steps+1,mode:=2 }):=by unfold qBe;rw [if_neg m1,if_neg m2,if_neg c21,if_pos s]
  have V:=qDc B (.inr (.inr (.inr s)));rw [e];obtain ⟨⟨op,d,a,L,n⟩,A⟩:∃ i,Hid (nth xs M.pc=i):=⟨_,rfl⟩;rw [A.out] at s V ⊢;refine (yHu w h.ma h.code l.pc m0 E h.cn.1 A s V rfl).mono ?_;rintro e w' ⟨rfl,f,O⟩;exact ⟨rfl,f.mono (fun _ e=>.inl e),h.step (f.mono (fun _ e=>.inl e)) O (h.sc.chg f (fun e=>h.ne e.symm))⟩
 ·have hw:=qSm B l.wr l.hold ha
  have ht:(nth xs M.pc).op=20->0<=M.turn M.pc/\M.turn M.pc<=255:=fun a4=>by
   have J:qBm xs M.pc∈qAk xs:=loopsU_mem.2 ⟨M.pc,l.pc,a4,rfl⟩;have h1:=l.cnt _ J;have h2:=qJl hK.T.place _ J;have e:(qBm xs M.pc).t=(M.pc:Int):=rfl;rw [e] at h1
   omega
  have e:qBe ms xs ev M=(qGe 1 M.pc 0,{ M with regs:=(qBy ev (nth xs M.pc) M).1,ws:=(qBy ev (nth xs M.pc) M).2,turn:=qCg (nth xs M.pc) M,steps:=M.steps+1,pc:=(qEv (nth xs M.pc) M).toNat }):=by
   unfold qBe;rw [if_neg m1,if_neg m2,if_neg c21,if_neg s]
   by_cases hg:((nth xs M.pc).leads&&qCz (nth xs M.pc) M)=true
   ·have a6:15<=(nth xs M.pc).op:=by
     rcases qBf (nth xs M.pc) with g|g|g|g
     ·rw [B] at g;cases g.1
     ·exact g.2.1
     ·omega
     ·rw [g.2.2.2.1] at hg;cases hg
    rw [if_pos hg,qSw a6];unfold qEv;rw [if_pos hg]
   ·rw [if_neg hg];unfold qEv;rw [if_neg hg]
    congr 2
  rw [e] at c ⊢;have a0:=c.pc;simp only at a0
  have aa:0<=qEv (nth xs M.pc) M:=by
   unfold qEv
   split
   ·rename_i hg
    obtain ⟨g1,_⟩:=Bool.and_eq_true_iff.1 hg
    rcases qBf (nth xs M.pc) with g|g|g|g
    ·rw [B] at g;cases g.1
    ·omega
    ·obtain ⟨q,hq,_⟩:=hK.back l.pc l.kn g.2.1
     omega
    ·rw [g.2.2.2.1] at g1;cases g1
   ·omega
  obtain ⟨⟨op,d,a,L,n⟩,A⟩:∃ i,Hid (nth xs M.pc=i):=⟨_,rfl⟩;rw [A.out] at c21 s B X hw ht a0 aa ⊢;simp only at c21 s X hw ht;refine (yQh w h.ma h.code l.pc m0 E h.cn.1 A B (by omega) h.sc h.ne l.ws Z hw ht (p:=(qEv ⟨op,d,a,L,n⟩ M).toNat) (by show _=_;omega) (by omega) (R:=(qBy ev ⟨op,d,a,L,n⟩ M).1) (ws:=(qBy ev ⟨op,d,a,L,n⟩ M).2) rfl rfl).mono ?_;rintro e w' ⟨rfl,f,O,a7⟩;exact ⟨rfl,f,h.step f O a7⟩
end
abbrev acC (A:Ac):List Value:=qAh A.k A.pc A.im A.io A.ik A.iv A.v
def Ac.nil:Ac:=⟨0,0,0,0,0,0,0⟩
def qGx (xs:List Ac):List Value:=xs.flatMap acC
theorem yQe (l m:List Ac):qGx l++qGx m=qGx (l++m):=by simp [qGx]
theorem yDw:∀ (xs:List Ac)(k j:Nat),k<xs.length->j<7->(qGx xs)[k*7+j]? = (acC (xs.getD k Ac.nil))[j]?
 | [],k,j,hk,_=>by simp at hk
 | x :: xs,0,j,_,hj=>by
  have e:qGx (x :: xs)=acC x++qGx xs:=rfl;rw [e,List.getElem?_append_left (by simp;omega)]
  simp
 | x :: xs,k+1,j,hk,hj=>by
  have e:qGx (x :: xs)=acC x++qGx xs:=rfl;have a:(acC x).length=7:=rfl;rw [e,List.getElem?_append_right (by rw [a];omega),a,show (k+1)*7+j-7=k*7+j by omega,yDw xs k j (by simpa using hk) hj]
  simp [List.getD]
theorem yRu (w:World)(xs:List Value)(t:TypeId)(n:Nat)(b:n=w.heap.size):∀ j u,xs[j]? = some u->(w.alloc (.cells xs.toArray t)).cell? ((⟨n,0,none⟩:Addr).add j)=some u:=by
 subst b;intro j u a;rw [qIq,Nat.zero_add,World.cell?_alloc_at _ _ _ _ rfl];exact (List.getElem?_toArray (xs:=xs)).trans a
theorem yOn (A:Ac):∀ u∈acC A,u.oneCell'=true:=by
 intro u a
 simp at a
 rcases a with rfl|rfl|rfl|rfl|rfl|rfl|rfl<;>rfl
theorem Tryz.infoActE:(Tryz.prog.info? 80).map (fun i=>(i.zero,i.size,i.bytes))=some (some (qEp 0 0 0 0 0 0 0),7,56):=by kernel_rfl
def AtA (w:World) (b off:Nat) (A:Ac):Prop:=∀ j,j<7->w.cell? ⟨b,off+j,none⟩=(acC A)[j]?
theorem AtA.seven {w:World}{b off:Nat}{A:Ac}(h:AtA w b off A):w.cell? ⟨b,off,none⟩=some (I4 A.k)/\w.cell? ⟨b,off+1,none⟩=some (I4 A.pc)/\w.cell? ⟨b,off+2,none⟩=some (I4 A.im)/\w.cell? ⟨b,off+3,none⟩=some (I4 A.io)/\w.cell? ⟨b,off+4,none⟩=some (U8 A.ik)/\w.cell? ⟨b,off+5,none⟩=some (U8 A.iv)/\w.cell? ⟨b,off+6,none⟩=some (U8 A.v) :=
 ⟨h 0 (by omega),h 1 (by omega),h 2 (by omega),h 3 (by omega),h 4 (by omega),h 5 (by omega),h 6 (by omega)⟩
theorem yAk {w:World}{base:Nat}{e:TypeId}{v:Value}{xs:List Ac}(h:w.ownsRow base e 7 v xs.length (qGx xs)){k:Nat}(d:k<xs.length):∃ g cap,v=.slice (some ⟨g,0,none⟩) xs.length cap/\base<=g/\g<w.heap.size/\xs.length<=cap/\cap<=maxLen/\AtA w g (k*7) (xs.getD k Ac.nil):=by
 have h0:=h
 rcases h with ⟨r,⟨rfl,s⟩|⟨g,cap,l,rfl,a,b,c,f,o,n⟩⟩
 ·omega
 ·refine ⟨g,cap,rfl,a,(Array.getElem?_eq_some_iff.1 b).1,c,f,fun j i=>?_⟩;rw [h0.cellAt (k*7+j) (by omega)];exact yDw xs k j d i
abbrev rsC (r:Rs):List Value:=[.int .i64 r.E,.bool r.f,.int .u64 r.v,.bool r.o,.int .u64 r.k,.int .u64 r.u]
def AtR (w:World) (b off:Nat) (r:Rs):Prop:=w.cell? ⟨b,off,none⟩=some (.int .i64 r.E)/\w.cell? ⟨b,off+1,none⟩=some (.bool r.f)/\w.cell? ⟨b,off+2,none⟩=some (.int .u64 r.v)/\w.cell? ⟨b,off+3,none⟩=some (.bool r.o)/\w.cell? ⟨b,off+4,none⟩=some (.int .u64 r.k)/\w.cell? ⟨b,off+5,none⟩=some (.int .u64 r.u)
theorem AtR.below {w d:World}{b off B:Nat}{r:Rs}(h:AtR w b off r)(a:Below B w d)(c:b<B):AtR d b off r:=by
 unfold AtR;rw [a.cell (p:=⟨b,off,none⟩) c,a.cell (p:=⟨b,off+1,none⟩) c,a.cell (p:=⟨b,off+2,none⟩) c,a.cell (p:=⟨b,off+3,none⟩) c,a.cell (p:=⟨b,off+4,none⟩) c,a.cell (p:=⟨b,off+5,none⟩) c];exact h
def Rs.wf (r:Rs):Prop:=0<=r.v/\r.v<=18446744073709551615
def SeesR (w:World) (v:Value) (xs:List Rs):Prop :=
 ∃ a cap,v=.slice a xs.length cap/\xs.length<=cap/\cap<=maxLen/\(a=none->cap=0)/\(∀ r∈xs,r.wf) /\
  (xs≠[]->∃ b off,a=some ⟨b,off,none⟩/\b<w.heap.size/\∀ k,k<xs.length->AtR w b (off+k*6) (xs.getD k Rs.nil))
theorem SeesR.below {w i:World}{v:Value}{xs:List Rs}{B:Nat}(h:SeesR w v xs)(f:Below B w i)(u:w.heap.size<=B):SeesR i v xs:=by
 obtain ⟨a,cap,rfl,o,y,n,l,s⟩:=h;refine ⟨a,cap,rfl,o,y,n,l,fun d=>?_⟩;obtain ⟨b,off,rfl,c,g⟩:=s d;exact ⟨b,off,rfl,Nat.lt_of_lt_of_le c f.size,fun k r=>(g k r).below f (Nat.lt_of_lt_of_le c u)⟩
def yHo (a:Option Addr) (len cap:Nat):Value:=.slice (if cap=1 then a else a.map (·.add 6)) (len-1) (cap-1)
theorem yTs (a:Option Addr)(b cap:Nat)(f:1<=b)(g:b<=cap)(w:World) :
  (Instr.slice 29 (.slice a b cap) (some (I4 1)) none none).run Tryz.prog w=.ok (yHo a b cap) w:=by
 have h0:(1:Int)<=(b:Int):=by omega
 have c:(b:Int)<=(cap:Int):=by omega
 have d:Tryz.prog.cellsOf 45=6:=by kernel_rfl
 simp [Instr.slice,run_underlying Tryz.underlying29,Instr.sliceBounds,run_sliceBound,h0,c,yHo,d]
theorem SeesR.cut {w:World}{a:Option Addr}{cap:Nat}{r:Rs}{xs:List Rs}(h:SeesR w (.slice a (xs.length+1) cap) (r :: xs)):SeesR w (yHo a (xs.length+1) cap) xs:=by
 obtain ⟨y,u,e,s,E,A,l,n⟩:=h;injection e with g D i;subst g;subst i;obtain ⟨b,off,rfl,f,d⟩:=n (by simp);simp only [List.length_cons] at s;refine ⟨(if cap=1 then some ⟨b,off,none⟩ else (some (⟨b,off,none⟩:Addr)).map (·.add 6)),cap-1,rfl,by omega,by omega,fun h=>?_,fun x o=>l x (by simp [o]),fun c=>?_⟩
 ·split at h<;>cases h
 ·have z:0<xs.length:=List.length_pos_iff.2 c;refine ⟨b,off+6,by rw [if_neg (by omega)];rfl,f,fun k B=>?_⟩;have:=d (k+1) (by simp;omega);rw [show off+(k+1)*6=off+6+k*6 by omega] at this;exact this
end Go.Proofs.YtmdhljoicnommaaGreat
