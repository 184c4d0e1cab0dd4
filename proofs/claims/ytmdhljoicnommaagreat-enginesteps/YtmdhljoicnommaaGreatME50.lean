/-
  E11Dh
  E11DAns
-/
import Derived.Test.YtmdhljoicnommaaGreatME41
import Derived.Test.YtmdhljoicnommaaGreatME49
namespace Go.Proofs.YtmdhljoicnommaaGreat
set_option maxHeartbeats 12800000
open Go.RowKit
set_option linter.unusedVariables false
set_option linter.unusedSimpArgs false
set_option maxRecDepth 100000
structure Dh (w0 w:World) (b rb tb c B:Nat) (vm:Value) (cb co ccap:Nat) (ms:List Int) (xs:List In) (ev:Int×Int) (M:Mc) (v:Value) (ks:List Ak):Prop where
 rd:Rdm w b rb tb (sdC vm (.slice (some ⟨cb,co,none⟩) xs.length ccap) ev.1 ev.2 c rb tb M.pc M.steps M.mode) M
 bk:Bk w B c v ks
 tie:Tie ks M.ws M.cs
 maps:Sees .i64 w0 vm ms
 code:SeesI w0 (.slice (some ⟨cb,co,none⟩) xs.length ccap) xs
 bel:Below w0.heap.size w0 w
 hi:w0.heap.size<=b/\w0.heap.size<=rb/\w0.heap.size<=tb/\w0.heap.size<=c/\w0.heap.size<=B
 bw:B<=w.heap.size
def dhS (b rb tb c:Nat) (v:Value) (k:Nat):Prop:=k=b∨k=rb∨k=tb∨bkS c v k
section
variable {w0 w w':World} {b rb tb c B cb co ccap:Nat} {vm v v':Value} {ms:List Int} {xs:List In} {ev:Int×Int} {M M':Mc} {ks ks':List Ak}
theorem Dh.codeW (h:Dh w0 w b rb tb c B vm cb co ccap ms xs ev M v ks):SeesI w (.slice (some ⟨cb,co,none⟩) xs.length ccap) xs:=h.code.below h.bel
theorem Dh.high (h:Dh w0 w b rb tb c B vm cb co ccap ms xs ev M v ks)(k:Nat)(a:dhS b rb tb c v k):w0.heap.size<=k:=by
 rcases a with e|e|e|e|e
 ·rw [e];exact h.hi.1
 ·rw [e];exact h.hi.2.1
 ·rw [e];exact h.hi.2.2.1
 ·rw [e];exact h.hi.2.2.2.1
 ·exact Nat.le_trans h.hi.2.2.2.2 (h.bk.row.lt k e).1
theorem Dh.belowD (h:Dh w0 w b rb tb c B vm cb co ccap ms xs ev M v ks)(a:Bw w w'):Dh w0 w' b rb tb c B vm cb co ccap ms xs ev M v ks :=
 ⟨h.rd.below a,h.bk.below a,h.tie,h.maps,h.code,h.bel.trans (a.mono h.bel.size),h.hi,Nat.le_trans h.bw a.size⟩
theorem Dh.next (h:Dh w0 w b rb tb c B vm cb co ccap ms xs ev M v ks)(a:Chg w w' (dhS b rb tb c v))(g:Hp w' b 73 (sdC vm (.slice (some ⟨cb,co,none⟩) xs.length ccap) ev.1 ev.2 c rb tb M'.pc M'.steps M'.mode))(l:Hp w' rb 26 (qBx M'.regs))(i:Hp w' tb 2 (tnC M'.turn))(k:WR M'.regs)(n:M'.pc<64)(f:Bk w' B c v' ks')(d:Tie ks' M'.ws M'.cs):Dh w0 w' b rb tb c B vm cb co ccap ms xs ev M' v' ks' :=
 ⟨⟨g,rfl,rfl,rfl,l,i,k,n⟩,f,d,h.maps,h.code,h.bel.trans (a.below h.high h.bel.size),h.hi,Nat.le_trans h.bw a.size⟩
end
theorem yNt {w0 w:World}{b rb tb c B cb co ccap:Nat}{vm v:Value}{ms:List Int}{xs:List In}{ev:Int×Int}{M:Mc}{ks:List Ak}{Y:List St}(hK:Known xs ms.length Y)(o:Safe xs ms.length Y M)(ay:(0<=ev.1/\ev.1<=18446744073709551615)/\0<=ev.2/\ev.2<=18446744073709551615)(h:Dh w0 w b rb tb c B vm cb co ccap ms xs ev M v ks)(L:M.steps<=1000)(bf:ks.length<=90000) :
  Cl 19 #[.pointer (some ⟨b,0,none⟩)] w fun e w'=>e=.returned (acV (qBe ms xs ev M).1)/\Chg w w' (dhS b rb tb c v)/\∃ v' ks',Dh w0 w' b rb tb c B vm cb co ccap ms xs ev (qBe ms xs ev M).2 v' ks'/\ks'.length<=ks.length+1/\RowNew w v v':=by
 have A:=hK.T.right o.pc;have X:=qDm A;have hm:=hK.made o.pc o.kn;have ha:=hK.asks o.pc o.kn;have a7:=hK.T.top
 have ba:=fun h0=>qPy (ms:=ms) hK o h0 ay
 obtain ⟨⟨op,d,a,bb,imm⟩,D⟩:∃ i,Hid (nth xs M.pc=i):=⟨_,rfl⟩
 by_cases m1:M.mode=1
 ·have e:qBe ms xs ev M=(qGe 5 M.pc 0,M):=by unfold qBe;rw [if_pos m1]
  rw [e];refine (yJx w h.rd rfl h.codeW o.pc rfl D m1).mono ?_;rintro e w' ⟨rfl,hb⟩;exact ⟨rfl,Chg.of_below hb,v,ks,h.belowD hb,by omega,.inl rfl⟩
 by_cases m2:M.mode=2
 ·have u:(nth xs M.pc).op=22:=by
   rcases o.mode with g|g|g
   ·omega
   ·omega
   ·exact g.2
  have e:qBe ms xs ev M=(qGe 6 M.pc (qBj M.regs (nth xs M.pc).a),M):=by unfold qBe;rw [if_neg m1,if_pos m2]
  have N:=qDc A (.inr (.inr (.inr u)));rw [e];rw [D.out] at N ⊢;refine (yHs w h.rd rfl h.codeW o.pc rfl D m2 N rfl).mono ?_;rintro e w' ⟨rfl,hb⟩;exact ⟨rfl,Chg.of_below hb,v,ks,h.belowD hb,by omega,.inl rfl⟩
 have m0:M.mode=0:=by
  rcases o.mode with g|g|g<;>omega
 obtain ⟨f,_,_⟩:=ba m0;have ah:¬ bkS c v rb:=qBv h.bk h.rd.rg (by decide) (by decide);have Z:¬ bkS c v tb:=qBv h.bk h.rd.tn (by decide) (by decide);have af:¬ bkS c v b:=qBv h.bk h.rd.st (by decide) (by decide);have a6:b≠rb:=qCw h.rd.st h.rd.rg (by decide);have O:b≠tb:=qCw h.rd.st h.rd.tn (by decide);have a0:rb≠tb:=qCw h.rd.rg h.rd.tn (by decide)
 have V:∀ {w':World} {S:Nat->Prop},Chg w w' S->(∀ k,S k->k=b∨k=rb∨k=tb)->Bk w' B c v ks:=fun {w' S} hc hs=>h.bk.chg hc (fun e=>by
  rcases hs _ e with e|e|e
  ·exact af (.inl e.symm)
  ·exact ah (.inl e.symm)
  ·exact Z (.inl e.symm)) (fun k G e=>by
  rcases hs _ e with e|e|e
  ·exact af (.inr (by rw [<- e];exact G))
  ·exact ah (.inr (by rw [<- e];exact G))
  ·exact Z (.inr (by rw [<- e];exact G)))
 by_cases u:(nth xs M.pc).op=22
 ·have e:qBe ms xs ev M=(qGe 4 M.pc (qBj M.regs (nth xs M.pc).a),{ M with steps:=M.steps+1,mode:=2 }):=by unfold qBe;rw [if_neg m1,if_neg m2,if_neg (by omega),if_pos u]
  have N:=qDc A (.inr (.inr (.inr u)));rw [e];rw [D.out] at u N ⊢;refine (yIt w h.rd rfl h.codeW o.pc rfl D m0 rfl L u N rfl).mono ?_;rintro e w' ⟨rfl,l,P⟩;have n:Chg w w' (dhS b rb tb c v):=l.mono (fun _ e=>.inl e);exact ⟨rfl,n,v,ks,h.next n P (h.rd.rg.chg l (fun e=>a6 e.symm)) (h.rd.tn.chg l (fun e=>O e.symm)) h.rd.wr h.rd.pc (V l (fun _ e=>.inl e)) h.tie,by omega,.inl rfl⟩
 by_cases c21:(nth xs M.pc).op=21
 ·have hc:=qLb A c21;obtain ⟨a1,a2⟩:=qQd A hm o.wr o.hold ha c21
  have e:qBe ms xs ev M=qPo ms (nth xs M.pc) M:=by unfold qBe;rw [if_neg m1,if_neg m2,if_pos c21]
  rw [e] at f ⊢;rw [D.out] at hc a1 a2 c21 f ⊢;simp only at hc a1 a2 c21;unfold qPo at f ⊢;simp only at f ⊢;have be:=h.rd.st.lt;have bd:=h.rd.rg.lt
  by_cases c4:imm<=4
  ·rw [if_pos c4] at f ⊢;obtain ⟨b1,b2⟩:=a1 c4;obtain ⟨ad,mcap,ax,hl,bg,_,_,ae⟩:=h.maps;obtain ⟨mb,mo,rfl,aa,b5⟩:=ae (fun e=>by rw [e] at b2;simp at b2;omega);obtain ⟨j,hj⟩:=Int.eq_ofNat_of_zero_le b1
   have ag:j<ms.length:=by omega
   rw [show (qBj M.regs 1).toNat=j by omega]
   have ap:mb≠b:=by have:=h.hi.1;omega
   refine (qQr w h.rd rfl h.codeW o.pc rfl D m0 rfl L c21 (ak:=2) (apc:=M.pc) (am:=ms.getD j 0) (ao:=imm) (aq:=qBj M.regs 2) (av:=if imm=2∨imm=4 then qBj M.regs 3 else 0) (an:=0) (S:=fun k=>k=b) (Q:=fun z=>Chg w z (fun k=>k=b)/\Hp z b 73 (sdC vm (.slice (some ⟨cb,co,none⟩) xs.length ccap) ev.1 ev.2 c rb tb M.pc (M.steps+1) 1)) (fun k G=>by omega) (fun U hU F al=>?_)).mono ?_
   ·refine (yOy op d a bb imm M.pc U hU (m0:=M.mode) rfl ⟨hc.1,c4⟩ (mb:=mb) (mo:=mo) (mcap:=mcap) (nm:=ms.length) (j:=j) (by rw [ax];rfl) ag (Nat.lt_of_lt_of_le (Nat.lt_of_lt_of_le aa h.bel.size) F.size) hl (g:=ms.getD j 0) ((F.cellL (Nat.lt_of_lt_of_le aa h.bel.size) ap).trans ((h.bel.cell (p:=⟨mb,mo+j,none⟩) aa).trans (b5 j ag))) ap hj rfl rfl rfl).mono ?_;rintro e z ⟨rfl,J,s⟩;exact ⟨rfl,J,F.trans J (fun _ _ e=>e),s⟩
   ·rintro e w' ⟨rfl,l,z,⟨J,s⟩,hg⟩;have r:Chg w w' (fun k=>k=b):=l.mono (fun _ e=>by rcases e with e|e<;>exact e);have n:Chg w w' (dhS b rb tb c v):=r.mono (fun _ e=>.inl e);exact ⟨rfl,n,v,ks,h.next (M':={ M with steps:=M.steps+1,mode:=1 }) n (s.grown hg (fun e=>by have:=Option.some.inj e;omega)) (h.rd.rg.chg r (fun e=>a6 e.symm)) (h.rd.tn.chg r (fun e=>O e.symm)) h.rd.wr h.rd.pc (V r (fun _ e=>.inl e)) h.tie,by omega,.inl rfl⟩
  rw [if_neg c4] at f ⊢
  by_cases c5:imm=5
  ·rw [if_pos c5] at f ⊢;subst c5;have hx:=a2 rfl;obtain ⟨y,hy⟩:=Int.eq_ofNat_of_zero_le hx.1
   have ab:y<16:=by omega
   have ai:=h.tie.up (a:=y) ab 1
   have au:qFa (ks++[⟨3,(y:Int),1⟩]) (y:Int)=upW (M.cs.getD y 0) 1:=by
    rw [<- ai.c y ab];have hl:=h.tie.lc;rw [List.getD_eq_getElem?_getD,List.getElem?_set_self (by omega)]
    rfl
   have a5:M.pc+1<64:=Nat.lt_of_lt_of_le f.pc a7;rw [show (qBj M.regs 1).toNat=y by omega]
   have a8:∀ k,bkS c v k->k<w.heap.size:=fun k e=>by
    rcases e with e|e
    ·rw [e];exact h.bk.hp.lt
    ·exact (h.bk.row.lt k e).2
   refine (qQr w h.rd rfl h.codeW o.pc rfl D m0 rfl L c21 (ak:=1) (apc:=M.pc) (am:=0) (ao:=0) (aq:=0) (av:=0) (an:=upW (M.cs.getD y 0) 1) (S:=fun k=>k=b∨k=rb∨bkS c v k) (Q:=fun z=>Hp z rb 26 (qBx (M.regs.set 0 (upW (M.cs.getD y 0) 1)))/\Hp z b 73 (sdC vm (.slice (some ⟨cb,co,none⟩) xs.length ccap) ev.1 ev.2 c rb tb (M.pc+1) (M.steps+1) M.mode)/\∃ v',Bk z B c v' (ks++[⟨3,(y:Int),1⟩])/\RowNew w v v'/\v'.ownBlock≠some w.heap.size) (fun k G=>by rcases G with e|e|e;omega;omega;exact a8 k e) (fun U hU F al=>?_)).mono ?_
   ·refine (yJf op d a bb M.pc U hU hy (by omega) rfl (V F (fun _ e=>.inl e)) (Nat.le_trans h.bw F.size) (by omega) au).mono ?_;rintro e z ⟨rfl,J,I,s,v',ac,K⟩;refine ⟨rfl,J,I,s,v',ac,?_,?_⟩
    ·rcases K with e|⟨k,e,G⟩
     ·exact .inl e
     ·exact .inr ⟨k,e,Nat.le_trans F.size G⟩
    ·intro e2
     rcases K with e|⟨k,e,G⟩
     ·have:=a8 _ (.inr (e ▸ e2));omega
     ·rw [e] at e2;have:=Option.some.inj e2
      omega
   ·rintro e w' ⟨rfl,l,z,⟨I,s,v',ac,K,az⟩,hg⟩;have r:Chg w w' (fun k=>k=b∨k=rb∨bkS c v k):=l.mono (fun _ e=>by rcases e with e|e;exact .inl e;exact e);have n:Chg w w' (dhS b rb tb c v):=r.mono (fun _ e=>by rcases e with e|e|e;exact .inl e;exact .inr (.inl e);exact .inr (.inr (.inr e)));have bh:=h.bk.hp.lt;have b8:=ac.chg (Chg.of_grown (S:=fun k=>k=w.heap.size) hg rfl) (fun e=>by omega) (fun k G e=>az (by rw [<- e];exact G));exact ⟨rfl,n,v',_,h.next (M':={ M with regs:=M.regs.set 0 (upW (M.cs.getD y 0) 1),cs:=M.cs.set y (upW (M.cs.getD y 0) 1),steps:=M.steps+1,pc:=M.pc+1 }) n (s.grown hg (fun e=>by have:=Option.some.inj e;omega)) (I.grown hg (fun e=>by have:=Option.some.inj e;omega)) (h.rd.tn.chg r (fun e=>by rcases e with e|e|e;exact O e.symm;exact a0 e.symm;exact Z e)) (h.rd.wr.set 0 (yDc _ _)) a5 b8 ai,by simp,K⟩
  rw [if_neg c5] at f ⊢
  obtain rfl:imm=6:=by omega
  have a5:M.pc+1<64:=Nat.lt_of_lt_of_le f.pc a7;refine (qQr w h.rd rfl h.codeW o.pc rfl D m0 rfl L c21 (ak:=3) (apc:=M.pc) (am:=0) (ao:=0) (aq:=0) (av:=0) (an:=qBj M.regs 1) (S:=fun k=>k=b∨k=rb) (Q:=fun z=>Hp z rb 26 (qBx (M.regs.set 0 0))/\Hp z b 73 (sdC vm (.slice (some ⟨cb,co,none⟩) xs.length ccap) ev.1 ev.2 c rb tb (M.pc+1) (M.steps+1) M.mode)) (fun k G=>by omega) (fun U hU F al=>?_)).mono ?_
  ·refine (yLf op d a bb 1 M.pc 0 0 0 0 0 U hU rfl).mono ?_;rintro e z ⟨rfl,J,I,s⟩;exact ⟨rfl,J,I,s⟩
  ·rintro e w' ⟨rfl,l,z,⟨I,s⟩,hg⟩;have r:Chg w w' (fun k=>k=b∨k=rb):=l.mono (fun _ e=>by rcases e with e|e;exact .inl e;exact e);have n:Chg w w' (dhS b rb tb c v):=r.mono (fun _ e=>by rcases e with e|e;exact .inl e;exact .inr (.inl e));exact ⟨rfl,n,v,ks,h.next (M':={ M with regs:=M.regs.set 0 0,steps:=M.steps+1,pc:=M.pc+1 }) n (s.grown hg (fun e=>by have:=Option.some.inj e;omega)) (I.grown hg (fun e=>by have:=Option.some.inj e;omega)) (h.rd.tn.chg r (fun e=>by rcases e with e|e;exact O e.symm;exact a0 e.symm)) (h.rd.wr.set 0 (by decide)) a5 (V r (fun _ e=>by rcases e with e|e;exact .inl e;exact .inr (.inl e))) h.tie,by omega,.inl rfl⟩
 ·have hw:=qSm A o.wr o.hold ha
  have ht:(nth xs M.pc).op=20->0<=M.turn M.pc/\M.turn M.pc<=255:=fun b3=>by
   have a9:qBm xs M.pc∈qAk xs:=loopsU_mem.2 ⟨M.pc,o.pc,b3,rfl⟩;have h1:=o.cnt _ a9;have h2:=qJl hK.T.place _ a9;have e:(qBm xs M.pc).t=(M.pc:Int):=rfl;rw [e] at h1
   omega
  have e:qBe ms xs ev M=(qGe 1 M.pc 0,{ M with regs:=(qBy ev (nth xs M.pc) M).1,ws:=(qBy ev (nth xs M.pc) M).2,turn:=qCg (nth xs M.pc) M,steps:=M.steps+1,pc:=(qEv (nth xs M.pc) M).toNat }):=by
   unfold qBe;rw [if_neg m1,if_neg m2,if_neg c21,if_neg u]
   by_cases hg:((nth xs M.pc).leads&&qCz (nth xs M.pc) M)=true
   ·have E:15<=(nth xs M.pc).op:=by
     rcases qBf (nth xs M.pc) with g|g|g|g
     ·rw [A] at g;cases g.1
     ·exact g.2.1
     ·omega
     ·rw [g.2.2.2.1] at hg;cases hg
    rw [if_pos hg,qSw E];unfold qEv;rw [if_pos hg]
   ·rw [if_neg hg];unfold qEv;rw [if_neg hg]
    congr 2
  rw [e] at f ⊢;have a3:=f.pc;simp only at a3;have a4:=f.wr;simp only at a4
  have b6:0<=qEv (nth xs M.pc) M:=by
   unfold qEv
   split
   ·rename_i hg
    obtain ⟨g1,_⟩:=Bool.and_eq_true_iff.1 hg
    rcases qBf (nth xs M.pc) with g|g|g|g
    ·rw [A] at g;cases g.1
    ·omega
    ·obtain ⟨q,hq,_⟩:=hK.back o.pc o.kn g.2.1
     omega
    ·rw [g.2.2.2.1] at g1;cases g1
   ·omega
  by_cases E:15<=(nth xs M.pc).op
  ·rw [qSw E];rw [D.out] at c21 u A X hw ht a3 b6 E ⊢;simp only at c21 u X hw ht E;refine (yWi w h.rd rfl h.codeW o.pc rfl D m0 rfl L A ⟨E,by omega⟩ ht (p:=(qEv ⟨op,d,a,bb,imm⟩ M).toNat) (by show _=_;omega) (by omega)).mono ?_;rintro e w' ⟨rfl,l,P,b9⟩;have n:Chg w w' (dhS b rb tb c v):=l.mono (fun _ e=>by rcases e with e|e;exact .inl e;exact .inr (.inr (.inl e)));exact ⟨rfl,n,v,ks,h.next (M':={ M with turn:=qCg ⟨op,d,a,bb,imm⟩ M,steps:=M.steps+1,pc:=(qEv ⟨op,d,a,bb,imm⟩ M).toNat }) n P (h.rd.rg.chg l (fun e=>by rcases e with e|e;exact a6 e.symm;exact a0 e)) b9 h.rd.wr (show (qEv ⟨op,d,a,bb,imm⟩ M).toNat<64 by omega) (V l (fun _ e=>by rcases e with e|e;exact .inl e;exact .inr (.inr e))) h.tie,by omega,.inl rfl⟩
  ·have bc:qEv (nth xs M.pc) M=(M.pc:Int)+1:=by
    have hl:(nth xs M.pc).leads=false:=by
     rcases qBf (nth xs M.pc) with g|g|g|g
     ·rw [A] at g;cases g.1
     ·omega
     ·omega
     ·exact g.2.2.2.1
    unfold qEv;rw [hl]
    rfl
   have hu:qCg (nth xs M.pc) M=M.turn:=by unfold qCg;rw [if_neg (by omega)]
   have aj:(qEv (nth xs M.pc) M).toNat=M.pc+1:=by omega
   rw [aj] at a3;rw [aj,hu];rw [D.out] at c21 u A X hw a4 E ⊢;simp only at c21 u X hw E;refine (yRl (ev:=ev) w h.rd rfl h.codeW o.pc rfl D m0 rfl L A (by omega) (by omega) rfl rfl rfl h.bk h.bw (by omega) h.tie hw (R:=(qBy ev ⟨op,d,a,bb,imm⟩ M).1) (ws:=(qBy ev ⟨op,d,a,bb,imm⟩ M).2) rfl).mono ?_;rintro e w' ⟨rfl,l,P,b7,v',ks',ar,aw,b4,K⟩;have n:Chg w w' (dhS b rb tb c v):=l.mono (fun _ e=>by rcases e with e|e|e;exact .inl e;exact .inr (.inl e);exact .inr (.inr (.inr e)));exact ⟨rfl,n,v',ks',h.next (M':={ M with regs:=(qBy ev ⟨op,d,a,bb,imm⟩ M).1,ws:=(qBy ev ⟨op,d,a,bb,imm⟩ M).2,steps:=M.steps+1,pc:=M.pc+1 }) n P b7 (h.rd.tn.chg l (fun e=>by rcases e with e|e|e;exact O e.symm;exact a0 e.symm;exact Z e)) a4 (show M.pc+1<64 by omega) ar aw,b4,K⟩
section
variable {w0 w:World} {b rb tb c B cb co ccap:Nat} {vm bv:Value} {ms:List Int} {xs:List In} {ev:Int×Int} {M:Mc} {ks:List Ak} {known:List St}
theorem yFf (hK:Known xs ms.length known)(l:Safe xs ms.length known M)(h:Dh w0 w b rb tb c B vm cb co ccap ms xs ev M bv ks)(hm:M.mode=1)(E:Int)(f:Bool)(v:Int)(o:Bool)(k u:Int)(D:0<=v/\v<=18446744073709551615) :
  Cl 21 #[.pointer (some ⟨b,0,none⟩),qNw E f v o k u] w fun e a=>e=.returned (I4 0)/\Chg w a (dhS b rb tb c bv)/\Dh w0 a b rb tb c B vm cb co ccap ms xs ev (qGk xs M E f v) bv ks:=by
 have F:=(qMf (E:=E) (f:=f) hK l hm D).1;have r:M.pc+1<64:=Nat.lt_of_lt_of_le F.pc hK.T.top;have K:=(qIl h.code l.pc).2.1;have J:b≠rb:=qCw h.rd.st h.rd.rg (by decide);have s:b≠tb:=qCw h.rd.st h.rd.tn (by decide);have y:rb≠tb:=qCw h.rd.rg h.rd.tn (by decide);have d:¬ bkS c bv rb:=qBv h.bk h.rd.rg (by decide) (by decide);have i:¬ bkS c bv b:=qBv h.bk h.rd.st (by decide) (by decide);have hi:=h.hi;refine (yFe E f v o k u w h.rd (by rw [hm];rfl) rfl h.codeW l.pc ⟨by omega,by omega⟩ rfl).mono ?_;rintro e a ⟨rfl,n,A,z⟩;have g:Chg w a (dhS b rb tb c bv):=n.mono (fun _ e=>by rcases e with e|e;exact .inl e;exact .inr (.inl e))
 have G:=h.bk.chg n (fun e=>by
  rcases e with e|e
  ·exact i (.inl e.symm)
  ·exact d (.inl e.symm)) (fun j I e=>by
  rcases e with e|e
  ·exact i (.inr (by rw [<- e];exact I))
  ·exact d (.inr (by rw [<- e];exact I)))
 exact ⟨rfl,g,h.next (M':=qGk xs M E f v) g z A (h.rd.tn.chg n (fun e=>by rcases e with e|e;exact s e.symm;exact y e.symm)) (h.rd.wr.set 0 (yGf D)) r G h.tie⟩
end
end Go.Proofs.YtmdhljoicnommaaGreat
