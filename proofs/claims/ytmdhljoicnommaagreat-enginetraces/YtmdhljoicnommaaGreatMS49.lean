/-
  E11LMh
  E11Acts
  E11Rows
-/
import Derived.Test.YtmdhljoicnommaaGreatMS41
import Derived.Test.YtmdhljoicnommaaGreatMS47
namespace Go.Proofs.YtmdhljoicnommaaGreat
set_option maxHeartbeats 12800000
open Go.RowKit
set_option linter.unusedVariables false
set_option linter.unusedSimpArgs false
set_option maxRecDepth 100000
abbrev acV (A:Ac):Value:=actV A.k A.pc A.im A.io A.ik A.iv A.v
theorem Sees.chg {k:IntKind}{w w':World}{v:Value}{xs:List Int}{S:Nat->Prop}(h:Sees k w v xs)(l:Chg w w' S)(c:xs=[]∨∀ j,v.ownBlock=some j->¬ S j):Sees k w' v xs:=by
 obtain ⟨a,cap,rfl,o,hm,n,u,s⟩:=h;refine ⟨a,cap,rfl,o,hm,n,u,fun g=>?_⟩;obtain ⟨b,off,rfl,f,d⟩:=s g;refine ⟨b,off,rfl,Nat.lt_of_lt_of_le f l.size,fun i hi=>?_⟩
 have r:¬ S b:=by
  rcases c with c|c
  ·exact absurd c g
  ·exact c b rfl
 exact (l.cellL f r).trans (d i hi)
structure Mh (w:World) (b sb:Nat) (vm:Value) (cb co ccap:Nat) (ms:List Int) (xs:List In) (ev:Int×Int) (M:Mc):Prop where
 ma:Ma w b sb vm (.slice (some ⟨cb,co,none⟩) xs.length ccap) ev M
 sc:Sc w sb M.ws M.cs
 maps:Sees .i64 w vm ms
 code:SeesI w (.slice (some ⟨cb,co,none⟩) xs.length ccap) xs
 ne:b≠sb
 mb:ms=[]∨(vm.ownBlock≠some b/\vm.ownBlock≠some sb)
 cn:cb≠b/\cb≠sb
section
variable {w w':World} {b sb cb co ccap:Nat} {vm:Value} {ms:List Int} {xs:List In} {ev:Int×Int} {M:Mc}
theorem Mh.below (h:Mh w b sb vm cb co ccap ms xs ev M)(a:Bw w w'):Mh w' b sb vm cb co ccap ms xs ev M :=
 ⟨h.ma.below a h.ma.hp.lt,h.sc.below a h.sc.lt,h.maps.below a (Nat.le_refl _),h.code.below a,h.ne,h.mb,h.cn⟩
theorem Mh.step {M':Mc}(h:Mh w b sb vm cb co ccap ms xs ev M)(a:Chg w w' (fun k=>k=b∨k=sb))(hm:Ma w' b sb vm (.slice (some ⟨cb,co,none⟩) xs.length ccap) ev M')(d:Sc w' sb M'.ws M'.cs):Mh w' b sb vm cb co ccap ms xs ev M' :=
 ⟨hm,d,h.maps.chg a (h.mb.imp id fun h j c e=>by
  rcases e with e|e
  ·subst e;exact h.1 c
  ·subst e;exact h.2 c),h.code.chg a (fun e=>by rcases e with e|e;exact h.cn.1 e;exact h.cn.2 e),h.ne,h.mb,h.cn⟩
theorem Mh.apart {S:Nat->Prop}(h:Mh w b sb vm cb co ccap ms xs ev M)(a:Chg w w' S)(f:¬ S b)(g:¬ S sb)(d:¬ S cb)(c:ms=[]∨∀ j,vm.ownBlock=some j->¬ S j):Mh w' b sb vm cb co ccap ms xs ev M :=
 ⟨h.ma.chg a f,h.sc.chg a g,h.maps.chg a c,h.code.chg a d,h.ne,h.mb,h.cn⟩
theorem mstep_all {F:List St}(hK:Known xs ms.length F)(l:Safe xs ms.length F M)(a3:(0<=ev.1/\ev.1<=18446744073709551615)/\0<=ev.2/\ev.2<=18446744073709551615)(h:Mh w b sb vm cb co ccap ms xs ev M)(D:M.steps<=1000) :
  Cl 18 #[.pointer (some ⟨b,0,none⟩)] w fun e w'=>e=.returned (acV (stepE ms xs ev M).1)/\Chg w w' (fun k=>k=b∨k=sb)/\Mh w' b sb vm cb co ccap ms xs ev (stepE ms xs ev M).2:=by
 have A:=hK.T.right l.pc;have a0:=qBp A;have hm:=hK.made l.pc l.kn;have ha:=hK.asks l.pc l.kn;have L:=hK.T.top
 have a4:=fun h0=>safe_run (ms:=ms) hK l h0 a3
 by_cases m1:M.mode=1
 ·have e:stepE ms xs ev M=(plainA 5 M.pc 0,M):=by unfold stepE;rw [if_pos m1]
  rw [e];refine (mstep_wait w h.ma m1).mono ?_;rintro e w' ⟨rfl,E⟩;exact ⟨rfl,Chg.of_below E,h.below E⟩
 by_cases m2:M.mode=2
 ·have r:(nth xs M.pc).op=22:=by
   rcases l.mode with g|g|g
   ·omega
   ·omega
   ·exact g.2
  have e:stepE ms xs ev M=(plainA 6 M.pc (regV M.regs (nth xs M.pc).a),M):=by unfold stepE;rw [if_neg m1,if_pos m2]
  rw [e];refine (mstep_over w h.ma h.code l.pc m2 (qBn A (.inr (.inr (.inr r)))) rfl).mono ?_;rintro e w' ⟨rfl,E⟩;exact ⟨rfl,Chg.of_below E,h.below E⟩
 have m0:M.mode=0:=by
  rcases l.mode with g|g|g<;>omega
 obtain ⟨c,_,_⟩:=a4 m0
 by_cases c21:(nth xs M.pc).op=21
 ·have P:=right_call A c21;obtain ⟨a1,a2⟩:=asks_callE A hm l.wr l.hold ha c21
  have e:stepE ms xs ev M=callE ms (nth xs M.pc) M:=by unfold stepE;rw [if_neg m1,if_neg m2,if_pos c21]
  rw [e] at c ⊢;obtain ⟨⟨op,d,a,G,n⟩,B⟩:∃ i,Hid (nth xs M.pc=i):=⟨_,rfl⟩;rw [B.out] at P a1 a2 c21 c ⊢;simp only at P a1 a2 c21;unfold callE at c ⊢;simp only at c ⊢
  by_cases c4:n<=4
  ·rw [if_pos c4] at c ⊢;obtain ⟨b1,b2⟩:=a1 c4;obtain ⟨ad,mcap,rfl,hl,ab,_,_,S⟩:=h.maps;obtain ⟨mb,mo,rfl,V,a9⟩:=S (fun e=>by rw [e] at b2;simp at b2;omega);obtain ⟨j,hj⟩:=Int.eq_ofNat_of_zero_le b1
   have N:j<ms.length:=by omega
   rw [show (regV M.regs 1).toNat=j by omega]
   have a6:mb≠b:=by
    rcases h.mb with g|g
    ·subst g;simp at N
    ·exact fun e=>g.1 (by show some mb=some b;rw [e])
   refine (mstep_call w h.ma h.code l.pc m0 D h.cn.1 B c21 ⟨P.1,by omega⟩ (ak:=2) (apc:=M.pc) (am:=ms.getD j 0) (ao:=n) (aq:=regV M.regs 2) (av:=if n=2∨n=4 then regV M.regs 3 else 0) (an:=0) (Q:=fun s=>Ma s b sb (.slice (some ⟨mb,mo,none⟩) ms.length mcap) (.slice (some ⟨cb,co,none⟩) xs.length ccap) ev { M with steps:=M.steps+1,mode:=1 }/\Sc s sb M.ws M.cs) (fun U I z=>?_) h.sc.lt).mono ?_
   ·refine (mcall_map n ⟨P.1,c4⟩ U I N (Nat.lt_of_lt_of_le V z.size) hl ((z.cellL V a6).trans (a9 j N)) hj rfl rfl rfl).mono ?_;rintro e s ⟨rfl,u,o⟩;exact ⟨rfl,u.mono (fun _ e=>.inl e),o,(h.sc.chg z (fun e=>h.ne e.symm)).chg u (fun e=>h.ne e.symm)⟩
   ·rintro e w' ⟨rfl,f,s,⟨o,y⟩,hg⟩;have E:=h.ma.hp.lt;have Y:=h.sc.lt;exact ⟨rfl,f,h.step f (o.grown hg (fun e=>by have:=Option.some.inj e;omega)) (y.grown hg (fun e=>by have:=Option.some.inj e;omega))⟩
  rw [if_neg c4] at c ⊢
  by_cases c5:n=5
  ·rw [if_pos c5] at c ⊢;subst c5;have hx:=a2 rfl;have O:M.pc+1<64:=Nat.lt_of_lt_of_le c.pc L;refine (mstep_call w h.ma h.code l.pc m0 D h.cn.1 B c21 (by decide) (ak:=1) (apc:=M.pc) (am:=0) (ao:=0) (aq:=0) (av:=0) (an:=upW (M.cs.getD (regV M.regs 1).toNat 0) 1) (Q:=fun s=>Ma s b sb vm (.slice (some ⟨cb,co,none⟩) xs.length ccap) ev { M with steps:=M.steps+1,regs:=M.regs.set 0 (upW (M.cs.getD (regV M.regs 1).toNat 0) 1),pc:=M.pc+1 }/\Sc s sb M.ws (M.cs.set (regV M.regs 1).toNat (upW (M.cs.getD (regV M.regs 1).toNat 0) 1))) (fun U I z=>?_) h.sc.lt).mono ?_
   ·refine (mcall_mark U I O (h.sc.chg z (fun e=>h.ne e.symm)) h.ne rfl hx rfl rfl).mono ?_;rintro e s ⟨rfl,u,o,y⟩;exact ⟨rfl,u,o,y⟩
   ·rintro e w' ⟨rfl,f,s,⟨o,y⟩,hg⟩;have E:=h.ma.hp.lt;have Y:=h.sc.lt;exact ⟨rfl,f,h.step f ((o.grown hg (fun e=>by have:=Option.some.inj e;omega)).same rfl rfl rfl rfl rfl) (y.grown hg (fun e=>by have:=Option.some.inj e;omega))⟩
  rw [if_neg c5] at c ⊢
  obtain rfl:n=6:=by omega
  have O:M.pc+1<64:=Nat.lt_of_lt_of_le c.pc L;refine (mstep_call w h.ma h.code l.pc m0 D h.cn.1 B c21 (by decide) (ak:=3) (apc:=M.pc) (am:=0) (ao:=0) (aq:=0) (av:=0) (an:=regV M.regs 1) (Q:=fun s=>Ma s b sb vm (.slice (some ⟨cb,co,none⟩) xs.length ccap) ev { M with steps:=M.steps+1,regs:=M.regs.set 0 0,pc:=M.pc+1 }/\Sc s sb M.ws M.cs) (fun U I z=>?_) h.sc.lt).mono ?_
  ·refine (mcall_note U I O rfl).mono ?_;rintro e s ⟨rfl,u,o⟩;exact ⟨rfl,u.mono (fun _ e=>.inl e),o,(h.sc.chg z (fun e=>h.ne e.symm)).chg u (fun e=>h.ne e.symm)⟩
  ·rintro e w' ⟨rfl,f,s,⟨o,y⟩,hg⟩;have E:=h.ma.hp.lt;have Y:=h.sc.lt;exact ⟨rfl,f,h.step f ((o.grown hg (fun e=>by have:=Option.some.inj e;omega)).same rfl rfl rfl rfl rfl) (y.grown hg (fun e=>by have:=Option.some.inj e;omega))⟩
 by_cases r:(nth xs M.pc).op=22
 ·have e:stepE ms xs ev M=(plainA 4 M.pc (regV M.regs (nth xs M.pc).a),{ M with steps:=M.steps+1,mode:=2 }):=by unfold stepE;rw [if_neg m1,if_neg m2,if_neg c21,if_pos r]
  have X:=qBn A (.inr (.inr (.inr r)));rw [e];obtain ⟨⟨op,d,a,G,n⟩,B⟩:∃ i,Hid (nth xs M.pc=i):=⟨_,rfl⟩;rw [B.out] at r X ⊢;refine (mstep_exit w h.ma h.code l.pc m0 D h.cn.1 B r X rfl).mono ?_;rintro e w' ⟨rfl,f,J⟩;exact ⟨rfl,f.mono (fun _ e=>.inl e),h.step (f.mono (fun _ e=>.inl e)) J (h.sc.chg f (fun e=>h.ne e.symm))⟩
 ·have hw:=asks_word A l.wr l.hold ha
  have ht:(nth xs M.pc).op=20->0<=M.turn M.pc/\M.turn M.pc<=255:=fun a7=>by
   have K:lpAt xs M.pc∈loopsL xs:=loopsU_mem.2 ⟨M.pc,l.pc,a7,rfl⟩;have h1:=l.cnt _ K;have h2:=bnd_ok hK.T.place _ K;have e:(lpAt xs M.pc).t=(M.pc:Int):=rfl;rw [e] at h1
   omega
  have e:stepE ms xs ev M=(plainA 1 M.pc 0,{ M with regs:=(laysE ev (nth xs M.pc) M).1,ws:=(laysE ev (nth xs M.pc) M).2,turn:=turnE (nth xs M.pc) M,steps:=M.steps+1,pc:=(nextE (nth xs M.pc) M).toNat }):=by
   unfold stepE;rw [if_neg m1,if_neg m2,if_neg c21,if_neg r]
   by_cases hg:((nth xs M.pc).leads&&goesE (nth xs M.pc) M)=true
   ·have aa:15<=(nth xs M.pc).op:=by
     rcases qAp (nth xs M.pc) with g|g|g|g
     ·rw [A] at g;cases g.1
     ·exact g.2.1
     ·omega
     ·rw [g.2.2.2.1] at hg;cases hg
    rw [if_pos hg,lays_id aa];unfold nextE;rw [if_pos hg]
   ·rw [if_neg hg];unfold nextE;rw [if_neg hg]
    congr 2
  rw [e] at c ⊢;have Z:=c.pc;simp only at Z
  have a8:0<=nextE (nth xs M.pc) M:=by
   unfold nextE
   split
   ·rename_i hg
    obtain ⟨g1,_⟩:=Bool.and_eq_true_iff.1 hg
    rcases qAp (nth xs M.pc) with g|g|g|g
    ·rw [A] at g;cases g.1
    ·omega
    ·obtain ⟨q,hq,_⟩:=hK.back l.pc l.kn g.2.1
     omega
    ·rw [g.2.2.2.1] at g1;cases g1
   ·omega
  obtain ⟨⟨op,d,a,G,n⟩,B⟩:∃ i,Hid (nth xs M.pc=i):=⟨_,rfl⟩;rw [B.out] at c21 r A a0 hw ht Z a8 ⊢;simp only at c21 r a0 hw ht;refine (mstep_ran w h.ma h.code l.pc m0 D h.cn.1 B A (by omega) h.sc h.ne l.ws a3 hw ht (p:=(nextE ⟨op,d,a,G,n⟩ M).toNat) (by show _=_;omega) (by omega) (R:=(laysE ev ⟨op,d,a,G,n⟩ M).1) (ws:=(laysE ev ⟨op,d,a,G,n⟩ M).2) rfl rfl).mono ?_;rintro e w' ⟨rfl,f,J,a5⟩;exact ⟨rfl,f,h.step f J a5⟩
end
abbrev acC (A:Ac):List Value:=actC A.k A.pc A.im A.io A.ik A.iv A.v
def Ac.nil:Ac:=⟨0,0,0,0,0,0,0⟩
def flatX (xs:List Ac):List Value:=xs.flatMap acC
theorem flatX_app (l m:List Ac):flatX l++flatX m=flatX (l++m):=by simp [flatX]
theorem flatX_at:∀ (xs:List Ac)(k j:Nat),k<xs.length->j<7->(flatX xs)[k*7+j]? = (acC (xs.getD k Ac.nil))[j]?
 | [],k,j,hk,_=>by simp at hk
 | x :: xs,0,j,_,hj=>by
  have e:flatX (x :: xs)=acC x++flatX xs:=rfl;rw [e,List.getElem?_append_left (by simp;omega)]
  simp
 | x :: xs,k+1,j,hk,hj=>by
  have e:flatX (x :: xs)=acC x++flatX xs:=rfl;have a:(acC x).length=7:=rfl;rw [e,List.getElem?_append_right (by rw [a];omega),a,show (k+1)*7+j-7=k*7+j by omega,flatX_at xs k j (by simpa using hk) hj]
  simp [List.getD]
theorem seven_new (w:World)(xs:List Value)(t:TypeId)(n:Nat)(a:n=w.heap.size):∀ j u,xs[j]? = some u->(w.alloc (.cells xs.toArray t)).cell? ((⟨n,0,none⟩:Addr).add j)=some u:=by
 subst a;intro j u b;rw [add_none,Nat.zero_add,World.cell?_alloc_at _ _ _ _ rfl];exact (List.getElem?_toArray (xs:=xs)).trans b
theorem seven_one (A:Ac):∀ u∈acC A,u.oneCell'=true:=by
 intro u a
 simp at a
 rcases a with rfl|rfl|rfl|rfl|rfl|rfl|rfl<;>rfl
theorem Tryz.infoActE:(Tryz.prog.info? 80).map (fun i=>(i.zero,i.size,i.bytes))=some (some (actV 0 0 0 0 0 0 0),7,56):=by kernel_rfl
def AtA (w:World) (b off:Nat) (A:Ac):Prop:=∀ j,j<7->w.cell? ⟨b,off+j,none⟩=(acC A)[j]?
theorem AtA.seven {w:World}{b off:Nat}{A:Ac}(h:AtA w b off A):w.cell? ⟨b,off,none⟩=some (I4 A.k)/\w.cell? ⟨b,off+1,none⟩=some (I4 A.pc)/\w.cell? ⟨b,off+2,none⟩=some (I4 A.im)/\w.cell? ⟨b,off+3,none⟩=some (I4 A.io)/\w.cell? ⟨b,off+4,none⟩=some (U8 A.ik)/\w.cell? ⟨b,off+5,none⟩=some (U8 A.iv)/\w.cell? ⟨b,off+6,none⟩=some (U8 A.v) :=
 ⟨h 0 (by omega),h 1 (by omega),h 2 (by omega),h 3 (by omega),h 4 (by omega),h 5 (by omega),h 6 (by omega)⟩
theorem own_acts {w:World}{base:Nat}{e:TypeId}{v:Value}{xs:List Ac}(h:w.ownsRow base e 7 v xs.length (flatX xs)){k:Nat}(f:k<xs.length):∃ g cap,v=.slice (some ⟨g,0,none⟩) xs.length cap/\base<=g/\g<w.heap.size/\xs.length<=cap/\cap<=maxLen/\AtA w g (k*7) (xs.getD k Ac.nil):=by
 have h0:=h
 rcases h with ⟨n,⟨rfl,r⟩|⟨g,cap,l,rfl,b,a,d,c,s,o⟩⟩
 ·omega
 ·refine ⟨g,cap,rfl,b,(Array.getElem?_eq_some_iff.1 a).1,d,c,fun j i=>?_⟩;rw [h0.cellAt (k*7+j) (by omega)];exact flatX_at xs k j f i
abbrev rsC (r:Rs):List Value:=[.int .i64 r.E,.bool r.f,.int .u64 r.v,.bool r.o,.int .u64 r.k,.int .u64 r.u]
def AtR (w:World) (b off:Nat) (r:Rs):Prop:=w.cell? ⟨b,off,none⟩=some (.int .i64 r.E)/\w.cell? ⟨b,off+1,none⟩=some (.bool r.f)/\w.cell? ⟨b,off+2,none⟩=some (.int .u64 r.v)/\w.cell? ⟨b,off+3,none⟩=some (.bool r.o)/\w.cell? ⟨b,off+4,none⟩=some (.int .u64 r.k)/\w.cell? ⟨b,off+5,none⟩=some (.int .u64 r.u)
theorem AtR.below {w d:World}{b off B:Nat}{r:Rs}(h:AtR w b off r)(c:Below B w d)(a:b<B):AtR d b off r:=by
 unfold AtR;rw [c.cell (p:=⟨b,off,none⟩) a,c.cell (p:=⟨b,off+1,none⟩) a,c.cell (p:=⟨b,off+2,none⟩) a,c.cell (p:=⟨b,off+3,none⟩) a,c.cell (p:=⟨b,off+4,none⟩) a,c.cell (p:=⟨b,off+5,none⟩) a];exact h
def Rs.wf (r:Rs):Prop:=0<=r.v/\r.v<=18446744073709551615
def SeesR (w:World) (v:Value) (xs:List Rs):Prop :=
 ∃ a cap,v=.slice a xs.length cap/\xs.length<=cap/\cap<=maxLen/\(a=none->cap=0)/\(∀ r∈xs,r.wf) /\
  (xs≠[]->∃ b off,a=some ⟨b,off,none⟩/\b<w.heap.size/\∀ k,k<xs.length->AtR w b (off+k*6) (xs.getD k Rs.nil))
theorem SeesR.below {w g:World}{v:Value}{xs:List Rs}{B:Nat}(h:SeesR w v xs)(d:Below B w g)(u:w.heap.size<=B):SeesR g v xs:=by
 obtain ⟨a,cap,rfl,s,r,o,n,l⟩:=h;refine ⟨a,cap,rfl,s,r,o,n,fun i=>?_⟩;obtain ⟨b,off,rfl,c,f⟩:=l i;exact ⟨b,off,rfl,Nat.lt_of_lt_of_le c d.size,fun k y=>(f k y).below d (Nat.lt_of_lt_of_le c u)⟩
def cutR (a:Option Addr) (len cap:Nat):Value:=.slice (if cap=1 then a else a.map (·.add 6)) (len-1) (cap-1)
theorem run_cutR (a:Option Addr)(b cap:Nat)(f:1<=b)(g:b<=cap)(w:World) :
  (Instr.slice 29 (.slice a b cap) (some (I4 1)) none none).run Tryz.prog w=.ok (cutR a b cap) w:=by
 have h0:(1:Int)<=(b:Int):=by omega
 have d:(b:Int)<=(cap:Int):=by omega
 have c:Tryz.prog.cellsOf 45=6:=by kernel_rfl
 simp [Instr.slice,run_underlying Tryz.underlying29,Instr.sliceBounds,run_sliceBound,h0,d,cutR,c]
theorem SeesR.cut {w:World}{a:Option Addr}{cap:Nat}{r:Rs}{xs:List Rs}(h:SeesR w (.slice a (xs.length+1) cap) (r :: xs)):SeesR w (cutR a (xs.length+1) cap) xs:=by
 obtain ⟨B,g,e,s,D,z,o,i⟩:=h;injection e with l A n;subst l;subst n;obtain ⟨b,off,rfl,c,d⟩:=i (by simp);simp only [List.length_cons] at s;refine ⟨(if cap=1 then some ⟨b,off,none⟩ else (some (⟨b,off,none⟩:Addr)).map (·.add 6)),cap-1,rfl,by omega,by omega,fun h=>?_,fun x u=>o x (by simp [u]),fun f=>?_⟩
 ·split at h<;>cases h
 ·have y:0<xs.length:=List.length_pos_iff.2 f;refine ⟨b,off+6,by rw [if_neg (by omega)];rfl,c,fun k E=>?_⟩;have:=d (k+1) (by simp;omega);rw [show off+(k+1)*6=off+6+k*6 by omega] at this;exact this
def flatR (xs:List Rs):List Value:=xs.flatMap rsC
theorem flatR_at:∀ (xs:List Rs)(k j:Nat),k<xs.length->j<6->(flatR xs)[k*6+j]? = (rsC (xs.getD k Rs.nil))[j]?
 | [],k,j,hk,_=>by simp at hk
 | x :: xs,0,j,_,hj=>by
  have e:flatR (x :: xs)=rsC x++flatR xs:=rfl;rw [e,List.getElem?_append_left (by simp;omega)]
  simp
 | x :: xs,k+1,j,hk,hj=>by
  have e:flatR (x :: xs)=rsC x++flatR xs:=rfl;have a:(rsC x).length=6:=rfl;rw [e,List.getElem?_append_right (by rw [a];omega),a,show (k+1)*6+j-6=k*6+j by omega,flatR_at xs k j (by simpa using hk) hj]
  simp [List.getD]
theorem own_seesR {w:World}{base:Nat}{e:TypeId}{v:Value}{xs:List Rs}(h:w.ownsRow base e 6 v xs.length (flatR xs))(b:∀ r∈xs,r.wf):SeesR w v xs:=by
 have h0:=h
 rcases h with ⟨y,⟨rfl,i⟩|⟨g,cap,o,rfl,u,c,f,d,A,z⟩⟩
 ·have:xs=[]:=List.eq_nil_of_length_eq_zero i;subst this;exact ⟨none,0,rfl,by simp,by simp [maxLen],fun _=>rfl,b,fun h=>absurd rfl h⟩
 ·refine ⟨_,cap,rfl,f,d,fun h=>(by cases h),b,fun s=>⟨g,0,rfl,(Array.getElem?_eq_some_iff.1 c).1,fun k l=>?_⟩⟩
  have a:∀ j,j<6->w.cell? ⟨g,0+k*6+j,none⟩=(rsC (xs.getD k Rs.nil))[j]? := fun j n=>by
   rw [Nat.zero_add,h0.cellAt (k*6+j) (by omega)];exact flatR_at xs k j l n
  exact ⟨a 0 (by omega),a 1 (by omega),a 2 (by omega),a 3 (by omega),a 4 (by omega),a 5 (by omega)⟩
theorem Tryz.infoResE:(Tryz.prog.info? 45).map (fun i=>(i.zero,i.size,i.bytes))=some (some (resV 0 false 0 false 0 0),6,48):=by kernel_rfl
theorem six_one (r:Rs):∀ u∈rsC r,u.oneCell'=true:=by
 intro u a
 simp at a
 rcases a with rfl|rfl|rfl|rfl|rfl|rfl<;>rfl
end Go.Proofs.YtmdhljoicnommaaGreat
