/-
  E11Dh
  E11DAns
  RAll
-/
import Derived.Test.YtmdhljoicnommaaGreatMS40
import Derived.Test.YtmdhljoicnommaaGreatMS49
namespace Go.Proofs.YtmdhljoicnommaaGreat
set_option maxHeartbeats 12800000
open Go.RowKit
set_option linter.unusedVariables false
set_option linter.unusedSimpArgs false
set_option maxRecDepth 100000
structure Dh (w0 w:World) (b rb tb c B:Nat) (vm:Value) (cb co ccap:Nat) (ms:List Int) (xs:List In) (ev:Int×Int) (M:Mc) (v:Value) (ks:List Ak):Prop where
 rd:Rdm w b rb tb (sdC vm (.slice (some ⟨cb,co,none⟩) xs.length ccap) ev.1 ev.2 c rb tb M.pc M.steps M.mode) M
 bk:Bk w B c v ks
 tie:Tie ks M.ws M.cs
 maps:Sees .i64 w0 vm ms
 code:SeesI w0 (.slice (some ⟨cb,co,none⟩) xs.length ccap) xs
 bel:Below w0.heap.size w0 w
 hi:w0.heap.size<=b/\w0.heap.size<=rb/\w0.heap.size<=tb/\w0.heap.size<=c/\w0.heap.size<=B
 bw:B<=w.heap.size
def dhS (b rb tb c:Nat) (v:Value) (k:Nat):Prop:=k=b∨k=rb∨k=tb∨bkS c v k
section
variable {w0 w w':World} {b rb tb c B cb co ccap:Nat} {vm v v':Value} {ms:List Int} {xs:List In} {ev:Int×Int} {M M':Mc} {ks ks':List Ak}
theorem Dh.codeW (h:Dh w0 w b rb tb c B vm cb co ccap ms xs ev M v ks):SeesI w (.slice (some ⟨cb,co,none⟩) xs.length ccap) xs:=h.code.below h.bel
theorem Dh.high (h:Dh w0 w b rb tb c B vm cb co ccap ms xs ev M v ks)(k:Nat)(a:dhS b rb tb c v k):w0.heap.size<=k:=by
 rcases a with e|e|e|e|e
 ·rw [e];exact h.hi.1
 ·rw [e];exact h.hi.2.1
 ·rw [e];exact h.hi.2.2.1
 ·rw [e];exact h.hi.2.2.2.1
 ·exact Nat.le_trans h.hi.2.2.2.2 (h.bk.row.lt k e).1
theorem Dh.belowD (h:Dh w0 w b rb tb c B vm cb co ccap ms xs ev M v ks)(a:Bw w w'):Dh w0 w' b rb tb c B vm cb co ccap ms xs ev M v ks :=
 ⟨h.rd.below a,h.bk.below a,h.tie,h.maps,h.code,h.bel.trans (a.mono h.bel.size),h.hi,Nat.le_trans h.bw a.size⟩
theorem Dh.next (h:Dh w0 w b rb tb c B vm cb co ccap ms xs ev M v ks)(d:Chg w w' (dhS b rb tb c v))(k:Hp w' b 73 (sdC vm (.slice (some ⟨cb,co,none⟩) xs.length ccap) ev.1 ev.2 c rb tb M'.pc M'.steps M'.mode))(i:Hp w' rb 26 (nums M'.regs))(n:Hp w' tb 2 (tnC M'.turn))(l:WR M'.regs)(g:M'.pc<64)(f:Bk w' B c v' ks')(a:Tie ks' M'.ws M'.cs):Dh w0 w' b rb tb c B vm cb co ccap ms xs ev M' v' ks' :=
 ⟨⟨k,rfl,rfl,rfl,i,n,l,g⟩,f,a,h.maps,h.code,h.bel.trans (d.below h.high h.bel.size),h.hi,Nat.le_trans h.bw d.size⟩
end
theorem dstep_all {w0 w:World}{b rb tb c B cb co ccap:Nat}{vm v:Value}{ms:List Int}{xs:List In}{ev:Int×Int}{M:Mc}{ks:List Ak}{Z:List St}(hK:Known xs ms.length Z)(o:Safe xs ms.length Z M)(b5:(0<=ev.1/\ev.1<=18446744073709551615)/\0<=ev.2/\ev.2<=18446744073709551615)(h:Dh w0 w b rb tb c B vm cb co ccap ms xs ev M v ks)(L:M.steps<=1000)(bf:ks.length<=90000) :
  Cl 19 #[.pointer (some ⟨b,0,none⟩)] w fun e w'=>e=.returned (acV (stepE ms xs ev M).1)/\Chg w w' (dhS b rb tb c v)/\∃ v' ks',Dh w0 w' b rb tb c B vm cb co ccap ms xs ev (stepE ms xs ev M).2 v' ks'/\ks'.length<=ks.length+1/\RowNew w v v':=by
 have A:=hK.T.right o.pc;have X:=qBp A;have hm:=hK.made o.pc o.kn;have ha:=hK.asks o.pc o.kn;have a9:=hK.T.top
 have ax:=fun h0=>safe_run (ms:=ms) hK o h0 b5
 obtain ⟨⟨op,d,a,bb,imm⟩,D⟩:∃ i,Hid (nth xs M.pc=i):=⟨_,rfl⟩
 by_cases m1:M.mode=1
 ·have e:stepE ms xs ev M=(plainA 5 M.pc 0,M):=by unfold stepE;rw [if_pos m1]
  rw [e];refine (dstep_wait w h.rd rfl h.codeW o.pc rfl D m1).mono ?_;rintro e w' ⟨rfl,hb⟩;exact ⟨rfl,Chg.of_below hb,v,ks,h.belowD hb,by omega,.inl rfl⟩
 by_cases m2:M.mode=2
 ·have s:(nth xs M.pc).op=22:=by
   rcases o.mode with g|g|g
   ·omega
   ·omega
   ·exact g.2
  have e:stepE ms xs ev M=(plainA 6 M.pc (regV M.regs (nth xs M.pc).a),M):=by unfold stepE;rw [if_neg m1,if_pos m2]
  have O:=qBn A (.inr (.inr (.inr s)));rw [e];rw [D.out] at O ⊢;refine (dstep_over w h.rd rfl h.codeW o.pc rfl D m2 O rfl).mono ?_;rintro e w' ⟨rfl,hb⟩;exact ⟨rfl,Chg.of_below hb,v,ks,h.belowD hb,by omega,.inl rfl⟩
 have m0:M.mode=0:=by
  rcases o.mode with g|g|g<;>omega
 obtain ⟨f,_,_⟩:=ax m0;have ap:¬ bkS c v rb:=qBh h.bk h.rd.rg (by decide) (by decide);have Y:¬ bkS c v tb:=qBh h.bk h.rd.tn (by decide) (by decide);have af:¬ bkS c v b:=qBh h.bk h.rd.st (by decide) (by decide);have ac:b≠rb:=qBi h.rd.st h.rd.rg (by decide);have N:b≠tb:=qBi h.rd.st h.rd.tn (by decide);have a0:rb≠tb:=qBi h.rd.rg h.rd.tn (by decide)
 have P:∀ {w':World} {S:Nat->Prop},Chg w w' S->(∀ k,S k->k=b∨k=rb∨k=tb)->Bk w' B c v ks:=fun {w' S} hc hs=>h.bk.chg hc (fun e=>by
  rcases hs _ e with e|e|e
  ·exact af (.inl e.symm)
  ·exact ap (.inl e.symm)
  ·exact Y (.inl e.symm)) (fun k G e=>by
  rcases hs _ e with e|e|e
  ·exact af (.inr (by rw [<- e];exact G))
  ·exact ap (.inr (by rw [<- e];exact G))
  ·exact Y (.inr (by rw [<- e];exact G)))
 by_cases s:(nth xs M.pc).op=22
 ·have e:stepE ms xs ev M=(plainA 4 M.pc (regV M.regs (nth xs M.pc).a),{ M with steps:=M.steps+1,mode:=2 }):=by unfold stepE;rw [if_neg m1,if_neg m2,if_neg (by omega),if_pos s]
  have O:=qBn A (.inr (.inr (.inr s)));rw [e];rw [D.out] at s O ⊢;refine (dstep_exit w h.rd rfl h.codeW o.pc rfl D m0 rfl L s O rfl).mono ?_;rintro e w' ⟨rfl,l,V⟩;have n:Chg w w' (dhS b rb tb c v):=l.mono (fun _ e=>.inl e);exact ⟨rfl,n,v,ks,h.next n V (h.rd.rg.chg l (fun e=>ac e.symm)) (h.rd.tn.chg l (fun e=>N e.symm)) h.rd.wr h.rd.pc (P l (fun _ e=>.inl e)) h.tie,by omega,.inl rfl⟩
 by_cases c21:(nth xs M.pc).op=21
 ·have hc:=right_call A c21;obtain ⟨a1,a2⟩:=asks_callE A hm o.wr o.hold ha c21
  have e:stepE ms xs ev M=callE ms (nth xs M.pc) M:=by unfold stepE;rw [if_neg m1,if_neg m2,if_pos c21]
  rw [e] at f ⊢;rw [D.out] at hc a1 a2 c21 f ⊢;simp only at hc a1 a2 c21;unfold callE at f ⊢;simp only at f ⊢;have bg:=h.rd.st.lt;have bd:=h.rd.rg.lt
  by_cases c4:imm<=4
  ·rw [if_pos c4] at f ⊢;obtain ⟨b1,b2⟩:=a1 c4;obtain ⟨ad,mcap,b3,hl,be,_,_,ae⟩:=h.maps;obtain ⟨mb,mo,rfl,ab,ba⟩:=ae (fun e=>by rw [e] at b2;simp at b2;omega);obtain ⟨j,hj⟩:=Int.eq_ofNat_of_zero_le b1
   have ag:j<ms.length:=by omega
   rw [show (regV M.regs 1).toNat=j by omega]
   have aj:mb≠b:=by have:=h.hi.1;omega
   refine (dstep_call w h.rd rfl h.codeW o.pc rfl D m0 rfl L c21 (ak:=2) (apc:=M.pc) (am:=ms.getD j 0) (ao:=imm) (aq:=regV M.regs 2) (av:=if imm=2∨imm=4 then regV M.regs 3 else 0) (an:=0) (S:=fun k=>k=b) (Q:=fun z=>Chg w z (fun k=>k=b)/\Hp z b 73 (sdC vm (.slice (some ⟨cb,co,none⟩) xs.length ccap) ev.1 ev.2 c rb tb M.pc (M.steps+1) 1)) (fun k G=>by omega) (fun U hU F al=>?_)).mono ?_
   ·refine (dcall_map op d a bb imm M.pc U hU (m0:=M.mode) rfl ⟨hc.1,c4⟩ (mb:=mb) (mo:=mo) (mcap:=mcap) (nm:=ms.length) (j:=j) (by rw [b3];rfl) ag (Nat.lt_of_lt_of_le (Nat.lt_of_lt_of_le ab h.bel.size) F.size) hl (g:=ms.getD j 0) ((F.cellL (Nat.lt_of_lt_of_le ab h.bel.size) aj).trans ((h.bel.cell (p:=⟨mb,mo+j,none⟩) ab).trans (ba j ag))) aj hj rfl rfl rfl).mono ?_;rintro e z ⟨rfl,J,u⟩;exact ⟨rfl,J,F.trans J (fun _ _ e=>e),u⟩
   ·rintro e w' ⟨rfl,l,z,⟨J,u⟩,hg⟩;have r:Chg w w' (fun k=>k=b):=l.mono (fun _ e=>by rcases e with e|e<;>exact e);have n:Chg w w' (dhS b rb tb c v):=r.mono (fun _ e=>.inl e);exact ⟨rfl,n,v,ks,h.next (M':={ M with steps:=M.steps+1,mode:=1 }) n (u.grown hg (fun e=>by have:=Option.some.inj e;omega)) (h.rd.rg.chg r (fun e=>ac e.symm)) (h.rd.tn.chg r (fun e=>N e.symm)) h.rd.wr h.rd.pc (P r (fun _ e=>.inl e)) h.tie,by omega,.inl rfl⟩
  rw [if_neg c4] at f ⊢
  by_cases c5:imm=5
  ·rw [if_pos c5] at f ⊢;subst c5;have hx:=a2 rfl;obtain ⟨y,hy⟩:=Int.eq_ofNat_of_zero_le hx.1
   have a5:y<16:=by omega
   have ai:=h.tie.up (a:=y) a5 1
   have aw:countA (ks++[⟨3,(y:Int),1⟩]) (y:Int)=upW (M.cs.getD y 0) 1:=by
    rw [<- ai.c y a5];have hl:=h.tie.lc;rw [List.getD_eq_getElem?_getD,List.getElem?_set_self (by omega)]
    rfl
   have a4:M.pc+1<64:=Nat.lt_of_lt_of_le f.pc a9;rw [show (regV M.regs 1).toNat=y by omega]
   have a7:∀ k,bkS c v k->k<w.heap.size:=fun k e=>by
    rcases e with e|e
    ·rw [e];exact h.bk.hp.lt
    ·exact (h.bk.row.lt k e).2
   refine (dstep_call w h.rd rfl h.codeW o.pc rfl D m0 rfl L c21 (ak:=1) (apc:=M.pc) (am:=0) (ao:=0) (aq:=0) (av:=0) (an:=upW (M.cs.getD y 0) 1) (S:=fun k=>k=b∨k=rb∨bkS c v k) (Q:=fun z=>Hp z rb 26 (nums (M.regs.set 0 (upW (M.cs.getD y 0) 1)))/\Hp z b 73 (sdC vm (.slice (some ⟨cb,co,none⟩) xs.length ccap) ev.1 ev.2 c rb tb (M.pc+1) (M.steps+1) M.mode)/\∃ v',Bk z B c v' (ks++[⟨3,(y:Int),1⟩])/\RowNew w v v'/\v'.ownBlock≠some w.heap.size) (fun k G=>by rcases G with e|e|e;omega;omega;exact a7 k e) (fun U hU F al=>?_)).mono ?_
   ·refine (dcall_mark op d a bb M.pc U hU hy (by omega) rfl (P F (fun _ e=>.inl e)) (Nat.le_trans h.bw F.size) (by omega) aw).mono ?_;rintro e z ⟨rfl,J,I,u,v',aa,K⟩;refine ⟨rfl,J,I,u,v',aa,?_,?_⟩
    ·rcases K with e|⟨k,e,G⟩
     ·exact .inl e
     ·exact .inr ⟨k,e,Nat.le_trans F.size G⟩
    ·intro e2
     rcases K with e|⟨k,e,G⟩
     ·have:=a7 _ (.inr (e ▸ e2));omega
     ·rw [e] at e2;have:=Option.some.inj e2
      omega
   ·rintro e w' ⟨rfl,l,z,⟨I,u,v',aa,K,b4⟩,hg⟩;have r:Chg w w' (fun k=>k=b∨k=rb∨bkS c v k):=l.mono (fun _ e=>by rcases e with e|e;exact .inl e;exact e);have n:Chg w w' (dhS b rb tb c v):=r.mono (fun _ e=>by rcases e with e|e|e;exact .inl e;exact .inr (.inl e);exact .inr (.inr (.inr e)));have bh:=h.bk.hp.lt;have b9:=aa.chg (Chg.of_grown (S:=fun k=>k=w.heap.size) hg rfl) (fun e=>by omega) (fun k G e=>b4 (by rw [<- e];exact G));exact ⟨rfl,n,v',_,h.next (M':={ M with regs:=M.regs.set 0 (upW (M.cs.getD y 0) 1),cs:=M.cs.set y (upW (M.cs.getD y 0) 1),steps:=M.steps+1,pc:=M.pc+1 }) n (u.grown hg (fun e=>by have:=Option.some.inj e;omega)) (I.grown hg (fun e=>by have:=Option.some.inj e;omega)) (h.rd.tn.chg r (fun e=>by rcases e with e|e|e;exact N e.symm;exact a0 e.symm;exact Y e)) (h.rd.wr.set 0 (upW_in _ _)) a4 b9 ai,by simp,K⟩
  rw [if_neg c5] at f ⊢
  obtain rfl:imm=6:=by omega
  have a4:M.pc+1<64:=Nat.lt_of_lt_of_le f.pc a9;refine (dstep_call w h.rd rfl h.codeW o.pc rfl D m0 rfl L c21 (ak:=3) (apc:=M.pc) (am:=0) (ao:=0) (aq:=0) (av:=0) (an:=regV M.regs 1) (S:=fun k=>k=b∨k=rb) (Q:=fun z=>Hp z rb 26 (nums (M.regs.set 0 0))/\Hp z b 73 (sdC vm (.slice (some ⟨cb,co,none⟩) xs.length ccap) ev.1 ev.2 c rb tb (M.pc+1) (M.steps+1) M.mode)) (fun k G=>by omega) (fun U hU F al=>?_)).mono ?_
  ·refine (dcall_note op d a bb 1 M.pc 0 0 0 0 0 U hU rfl).mono ?_;rintro e z ⟨rfl,J,I,u⟩;exact ⟨rfl,J,I,u⟩
  ·rintro e w' ⟨rfl,l,z,⟨I,u⟩,hg⟩;have r:Chg w w' (fun k=>k=b∨k=rb):=l.mono (fun _ e=>by rcases e with e|e;exact .inl e;exact e);have n:Chg w w' (dhS b rb tb c v):=r.mono (fun _ e=>by rcases e with e|e;exact .inl e;exact .inr (.inl e));exact ⟨rfl,n,v,ks,h.next (M':={ M with regs:=M.regs.set 0 0,steps:=M.steps+1,pc:=M.pc+1 }) n (u.grown hg (fun e=>by have:=Option.some.inj e;omega)) (I.grown hg (fun e=>by have:=Option.some.inj e;omega)) (h.rd.tn.chg r (fun e=>by rcases e with e|e;exact N e.symm;exact a0 e.symm)) (h.rd.wr.set 0 (by decide)) a4 (P r (fun _ e=>by rcases e with e|e;exact .inl e;exact .inr (.inl e))) h.tie,by omega,.inl rfl⟩
 ·have hw:=asks_word A o.wr o.hold ha
  have ht:(nth xs M.pc).op=20->0<=M.turn M.pc/\M.turn M.pc<=255:=fun b7=>by
   have a8:lpAt xs M.pc∈loopsL xs:=loopsU_mem.2 ⟨M.pc,o.pc,b7,rfl⟩;have h1:=o.cnt _ a8;have h2:=bnd_ok hK.T.place _ a8;have e:(lpAt xs M.pc).t=(M.pc:Int):=rfl;rw [e] at h1
   omega
  have e:stepE ms xs ev M=(plainA 1 M.pc 0,{ M with regs:=(laysE ev (nth xs M.pc) M).1,ws:=(laysE ev (nth xs M.pc) M).2,turn:=turnE (nth xs M.pc) M,steps:=M.steps+1,pc:=(nextE (nth xs M.pc) M).toNat }):=by
   unfold stepE;rw [if_neg m1,if_neg m2,if_neg c21,if_neg s]
   by_cases hg:((nth xs M.pc).leads&&goesE (nth xs M.pc) M)=true
   ·have E:15<=(nth xs M.pc).op:=by
     rcases qAp (nth xs M.pc) with g|g|g|g
     ·rw [A] at g;cases g.1
     ·exact g.2.1
     ·omega
     ·rw [g.2.2.2.1] at hg;cases hg
    rw [if_pos hg,lays_id E];unfold nextE;rw [if_pos hg]
   ·rw [if_neg hg];unfold nextE;rw [if_neg hg]
    congr 2
  rw [e] at f ⊢;have a3:=f.pc;simp only at a3;have a6:=f.wr;simp only at a6
  have ay:0<=nextE (nth xs M.pc) M:=by
   unfold nextE
   split
   ·rename_i hg
    obtain ⟨g1,_⟩:=Bool.and_eq_true_iff.1 hg
    rcases qAp (nth xs M.pc) with g|g|g|g
    ·rw [A] at g;cases g.1
    ·omega
    ·obtain ⟨q,hq,_⟩:=hK.back o.pc o.kn g.2.1
     omega
    ·rw [g.2.2.2.1] at g1;cases g1
   ·omega
  by_cases E:15<=(nth xs M.pc).op
  ·rw [lays_id E];rw [D.out] at c21 s A X hw ht a3 ay E ⊢;simp only at c21 s X hw ht E;refine (dstep_go w h.rd rfl h.codeW o.pc rfl D m0 rfl L A ⟨E,by omega⟩ ht (p:=(nextE ⟨op,d,a,bb,imm⟩ M).toNat) (by show _=_;omega) (by omega)).mono ?_;rintro e w' ⟨rfl,l,V,az⟩;have n:Chg w w' (dhS b rb tb c v):=l.mono (fun _ e=>by rcases e with e|e;exact .inl e;exact .inr (.inr (.inl e)));exact ⟨rfl,n,v,ks,h.next (M':={ M with turn:=turnE ⟨op,d,a,bb,imm⟩ M,steps:=M.steps+1,pc:=(nextE ⟨op,d,a,bb,imm⟩ M).toNat }) n V (h.rd.rg.chg l (fun e=>by rcases e with e|e;exact ac e.symm;exact a0 e)) az h.rd.wr (show (nextE ⟨op,d,a,bb,imm⟩ M).toNat<64 by omega) (P l (fun _ e=>by rcases e with e|e;exact .inl e;exact .inr (.inr e))) h.tie,by omega,.inl rfl⟩
  ·have bc:nextE (nth xs M.pc) M=(M.pc:Int)+1:=by
    have hl:(nth xs M.pc).leads=false:=by
     rcases qAp (nth xs M.pc) with g|g|g|g
     ·rw [A] at g;cases g.1
     ·omega
     ·omega
     ·exact g.2.2.2.1
    unfold nextE;rw [hl]
    rfl
   have hu:turnE (nth xs M.pc) M=M.turn:=by unfold turnE;rw [if_neg (by omega)]
   have ah:(nextE (nth xs M.pc) M).toNat=M.pc+1:=by omega
   rw [ah] at a3;rw [ah,hu];rw [D.out] at c21 s A X hw a6 E ⊢;simp only at c21 s X hw E;refine (dstep_lay (ev:=ev) w h.rd rfl h.codeW o.pc rfl D m0 rfl L A (by omega) (by omega) rfl rfl rfl h.bk h.bw (by omega) h.tie hw (R:=(laysE ev ⟨op,d,a,bb,imm⟩ M).1) (ws:=(laysE ev ⟨op,d,a,bb,imm⟩ M).2) rfl).mono ?_;rintro e w' ⟨rfl,l,V,b6,v',ks',ar,au,b8,K⟩;have n:Chg w w' (dhS b rb tb c v):=l.mono (fun _ e=>by rcases e with e|e|e;exact .inl e;exact .inr (.inl e);exact .inr (.inr (.inr e)));exact ⟨rfl,n,v',ks',h.next (M':={ M with regs:=(laysE ev ⟨op,d,a,bb,imm⟩ M).1,ws:=(laysE ev ⟨op,d,a,bb,imm⟩ M).2,steps:=M.steps+1,pc:=M.pc+1 }) n V b6 (h.rd.tn.chg l (fun e=>by rcases e with e|e|e;exact N e.symm;exact a0 e.symm;exact Y e)) a6 (show M.pc+1<64 by omega) ar au,b8,K⟩
section
variable {w0 w:World} {b rb tb c B cb co ccap:Nat} {vm bv:Value} {ms:List Int} {xs:List In} {ev:Int×Int} {M:Mc} {ks:List Ak} {known:List St}
theorem danswer_all (hK:Known xs ms.length known)(n:Safe xs ms.length known M)(h:Dh w0 w b rb tb c B vm cb co ccap ms xs ev M bv ks)(hm:M.mode=1)(E:Int)(f:Bool)(v:Int)(o:Bool)(k u:Int)(F:0<=v/\v<=18446744073709551615) :
  Cl 21 #[.pointer (some ⟨b,0,none⟩),resV E f v o k u] w fun e a=>e=.returned (I4 0)/\Chg w a (dhS b rb tb c bv)/\Dh w0 a b rb tb c B vm cb co ccap ms xs ev (answerE xs M E f v) bv ks:=by
 have G:=(safe_answer (E:=E) (f:=f) hK n hm F).1;have y:M.pc+1<64:=Nat.lt_of_lt_of_le G.pc hK.T.top;have J:=(codeL h.code n.pc).2.1;have K:b≠rb:=qBi h.rd.st h.rd.rg (by decide);have s:b≠tb:=qBi h.rd.st h.rd.tn (by decide);have z:rb≠tb:=qBi h.rd.rg h.rd.tn (by decide);have d:¬ bkS c bv rb:=qBh h.bk h.rd.rg (by decide) (by decide);have i:¬ bkS c bv b:=qBh h.bk h.rd.st (by decide) (by decide);have hi:=h.hi;refine (danswer_yes E f v o k u w h.rd (by rw [hm];rfl) rfl h.codeW n.pc ⟨by omega,by omega⟩ rfl).mono ?_;rintro e a ⟨rfl,l,A,r⟩;have g:Chg w a (dhS b rb tb c bv):=l.mono (fun _ e=>by rcases e with e|e;exact .inl e;exact .inr (.inl e))
 have D:=h.bk.chg l (fun e=>by
  rcases e with e|e
  ·exact i (.inl e.symm)
  ·exact d (.inl e.symm)) (fun j I e=>by
  rcases e with e|e
  ·exact i (.inr (by rw [<- e];exact I))
  ·exact d (.inr (by rw [<- e];exact I)))
 exact ⟨rfl,g,h.next (M':=answerE xs M E f v) g r A (h.rd.tn.chg l (fun e=>by rcases e with e|e;exact s e.symm;exact z e.symm)) (h.rd.wr.set 0 (valL_in F)) y D h.tie⟩
end
theorem runU_err {xs : List In}{nm p : Nat}{e : Int × Int}(h : runU xs nm p = .error e) : ∀ n, p <= n -> runU xs nm n = .error e := by
  intro n a
  induction n with
  | zero => obtain rfl : p = 0 := by omega
            exact h
  | succ n ih =>
    by_cases hp : p = n + 1
    · subst hp; exact h
    · rw [runU, ih (by omega)]
structure RunF (xs:List In) (nm q:Nat) (K:List St):Prop where
 len:K.length=q
 each:∀ s∈K,s=[]∨Made8 nm s
 cm:∀ c∈comesU xs K q q,Made8 nm c
 head:q<xs.length->comesU xs K q q≠[]->(nth xs q).op=20->0<=(q:Int)-(nth xs q).d/\(q:Int)-(nth xs q).d<q/\(K.getD ((q:Int)-(nth xs q).d).toNat []).length=8
theorem run_facts {xs:List In}{nm q:Nat}{K:List St}(g:Taken xs)(n:q<=xs.length)(h:runU xs nm q=.ok K):RunF xs nm q K:=by
 rcases pull_run (nm:=nm) g q n with ⟨e,w,c⟩|⟨G,z,w,c,a⟩
 ·rw [h] at c;cases c
 ·rw [h] at c;injection c with c;subst c;refine ⟨a.len,fun s D=>?_,a.cm q,fun f r u=>?_⟩
  ·obtain ⟨k,i,rfl⟩:=List.mem_iff_getElem.1 D;have b:=a.low k (by rw [<- a.len];exact i);rw [List.getD_eq_getElem?_getD,List.getElem?_eq_getElem i] at b;simp only [Option.getD_some] at b;rw [b]
   split
   ·exact .inr (a.made.at k)
   ·exact .inl rfl
  ·have A:=g.right f;have E:=qCd f (g.place q f)
   have F:(nth xs q).far = -(nth xs q).d/\1<=(nth xs q).d:=by
    rcases qAp (nth xs q) with h|h|h|h
    ·rw [A] at h;cases h.1
    ·omega
    ·exact ⟨h.2.2.1,h.2.2.2.2.2.1⟩
    ·omega
   have y:((q:Int)-(nth xs q).d).toNat<q:=by omega
   have i:=(a.high q (Nat.le_refl _) f).1.2 r;have o:lpAt xs q∈loopsL xs:=loopsU_mem.2 ⟨q,f,u,rfl⟩;have l:=(run_heads g n w).2 _ o q (by show (q:Int)+(nth xs q).far<q;omega) (Int.le_refl _) i
   have B:(lpAt xs q).h.toNat=((q:Int)-(nth xs q).d).toNat:=by show ((q:Int)+(nth xs q).far).toNat=_;omega
   rw [B] at l;refine ⟨by omega,by omega,?_⟩;rw [a.low _ y,if_pos l];exact (a.made.at _).1
theorem run_next {xs:List In}{nm q:Nat}{K:List St}(h:runU xs nm q=.ok K)(he:errJ xs nm K (atJ xs K q) q=0):runU xs nm (q+1)=.ok (K++[atJ xs K q]):=by
 rw [runU,h];simp only;rw [if_pos he]
theorem run_stop {xs:List In}{nm q:Nat}{K:List St}{E:Int}(h:runU xs nm q=.ok K)(he:errJ xs nm K (atJ xs K q) q=E)(h0:E≠0)(a:q<xs.length):runU xs nm xs.length=.error ((q:Int),E):=by
 refine runU_err (p:=q+1) ?_ _ (by omega);rw [runU,h];simp only;rw [he,if_neg h0]
theorem at_nil {xs:List In}{K:List St}{p:Nat}(h:comesU xs K p p=[]):atJ xs K p=[]:=by unfold atJ;rw [if_pos (by rw [h];rfl)]
theorem at_yes {xs:List In}{K:List St}{p:Nat}(h:comesU xs K p p≠[]):atJ xs K p=widen xs p (joinS (comesU xs K p p) 8) xs.length:=by
 unfold atJ;rw [if_neg (by intro a;exact h (List.length_eq_zero_iff.1 a))]
theorem asks_as {am:Option Addr}{nm mcap:Nat}{b vs a:Value}{xs:List In}{p:Nat}{s head:St}{w:World}{E:Int}(d:SeesI w b xs)(f:p<xs.length)(i:SeesT w vs s)(n:s.length=8)(g:(nth xs p).right=true)(c:(nth xs p).op=20->SeesT w a head/\head.length=8)(l:Hid (asksJ nm (nth xs p) s head=E)) :
  Cl 52 #[.agg #[.slice am nm mcap,b],I4 p,vs,a] w fun e k=>e=.returned (I4 E)/\Bw w k:=by
 rw [<- l.out];exact asks_any am nm mcap b vs a xs p s head w d f i n g c
theorem SsW.last {B:Nat}{w:World}{v u:Value}{S:List St}{vs:List Value}{s:St}(h:SsW B w v (S++[s]) (vs++[u])):w.ownsRow B 153 4 u s.length (flatT s):=by
 have b:vs.length=S.length:=by have:=h.len;simp at this;exact this
 have:=h.each S.length (by simp)
 have c:(vs++[u]).getD S.length stN=u:=by rw [<- b];simp [List.getD]
 have a:(S++[s]).getD S.length []=s:=by simp [List.getD]
 rw [c,a] at this;exact this
def Gone (W:World) (xs:List In) (nm q:Nat) (K:List St) (v:Value) (wc:World):Prop:=runU xs nm q=.ok K/\Ss W.heap.size wc v K/\Below W.heap.size W wc
theorem all_run (am:Option Addr)(mcap:Nat)(ms:List Int)(cb co A:Nat)(xs:List In)(w:World)(hm:Sees .i64 w (.slice am ms.length mcap) ms)(hx:SeesI w (.slice (some ⟨cb,co,none⟩) xs.length A) xs)(b6:Hid (mapsJ ms=true))(hT:Taken xs) :
  Cl 28 #[.agg #[.slice am ms.length mcap,.slice (some ⟨cb,co,none⟩) xs.length A]] w fun e w' =>
   (∃ q E,runU xs ms.length xs.length=.error (q,E)/\e=.returned (.tuple #[stN,I4 q,I4 E])/\Bw w w') ∨
   (∃ K,runU xs ms.length xs.length=.ok K/\∃ u,e=.returned (.tuple #[u,I4 0,I4 0])/\Ss w.heap.size w' u K/\Bw w w'):=by
 obtain ⟨i0,hi,a4,a8,X⟩:=info_parts Tryz.infoSt;have HX:=keepJ hx;have HT:=keepJ hT;have ar:=keepJ hm;have bc:xs.length<=64:=hT.top;have b1:Hid (checkL xs=(0,0)):=check_pair (check_ok.2 hT);obtain ⟨nm,b8⟩:∃ nm,Hid (ms.length=nm):=⟨_,rfl⟩;rw [b8.out] at ar ⊢;obtain ⟨W,HW,a9,bd⟩:∃ W,Hid (W=w.alloc (Obj.cells #[.slice am nm mcap,.slice (some ⟨cb,co,none⟩) xs.length A] 25))/\Hid (Bw w W)/\W.heap.size=w.heap.size+1 :=
  ⟨_,rfl,keepJ (by go_grown),by simp⟩
 have HM:Hid (W.cell? ⟨w.heap.size,0,none⟩=some (.slice am nm mcap)/\W.cell? ⟨w.heap.size,1,none⟩=some (.slice (some ⟨cb,co,none⟩) xs.length A)):=by
  rw [HW.out];exact ⟨by go_cell,by go_cell⟩
 have a0:Hid (∀ wx,Bw W wx->wx.cell? ⟨w.heap.size,0,none⟩=some (.slice am nm mcap)/\wx.cell? ⟨w.heap.size,1,none⟩=some (.slice (some ⟨cb,co,none⟩) xs.length A)):=fun wx af =>
  ⟨(af.cell (p:=⟨w.heap.size,0,none⟩) (show w.heap.size<W.heap.size by omega)).trans HM.out.1,(af.cell (p:=⟨w.heap.size,1,none⟩) (show w.heap.size<W.heap.size by omega)).trans HM.out.2⟩
 have L:Hid (∀ wx,Bw W wx->SeesI wx (.slice (some ⟨cb,co,none⟩) xs.length A) xs):=fun wx af=>HX.out.below (a9.out.trans (af.mono (by omega)))
 clear hx hm hT;go_enter Tryz.func28,Tryz.ntmps28
 go_wp2_with (first
  | (go_at_call 49;rw [<- HW.out];go_must (refine (rmaps_any _ ms _ (ar.out.below a9.out (Nat.le_refl _)) b6).mono ?_);rintro e w1 ⟨rfl,a3⟩;go_must (obtain ⟨m0,m1⟩:=a0.out w1 a3;have ax:=a3.size))
  | (go_at_call 50;go_must (refine (rcheck_any _ xs _ (L.out w1 a3) b1).mono ?_);rintro e w2 ⟨rfl,aq⟩;go_must (have ba:Hid (Bw W w2):=a3.trans (aq.mono ax);clear m0 m1;clear a3 aq)))
 go_loopw [7,8] (fun v7 v8 wr=>∃ (q:Nat) (K:List St),q<=xs.length/\v8=I4 q/\Hid (Gone W xs nm q K v7 wr)) (fun _ v8 _=>xs.length-(intOf v8).toNat)
 case atStart=>exact ⟨0,[],by omega,rfl,rfl,Ss.nil _ _,ba.out⟩
 case round =>
  rename World=>w3
  obtain ⟨q,K,hq,rfl,HG⟩:=hrel;have O:=HG.out.2.2;have Q:=O.size;obtain ⟨m0,m1⟩:=a0.out w3 O
  by_cases hlt:q<xs.length
  ·have ay:(q:Int)<xs.length:=by omega
   have bh:(xs.length:Int)<=64:=by omega
   have S:=keepJ (run_facts HT.out hq HG.out.1);have b4:=S.out.len;obtain ⟨vs,J⟩:=HG.out.2.1;have aa:=keepJ HG.out.1;have a7:=keepJ (L.out w3 O)
   by_cases hne:comesU xs K q q=[]
   ·have HA:=keepJ (at_nil hne)
    have HN:Hid (runU xs nm (q+1)=.ok (K++[[]])):=by
     have:=run_next aa.out (by rw [HA.out];unfold errJ;rw [if_pos (show ([]:St).length=0 from rfl)]);rw [HA.out] at this;exact this
    go_wp2_with (first
     | (go_at_call 51;go_must (refine (at_none _ cb co A xs q _ K nm W.heap.size _ a7.out ⟨vs,J⟩ HT.out hlt (by omega) S.out.each hne).mono ?_);rintro e R ⟨rfl,y⟩;go_must (have c:=J.below y (Nat.le_refl _);have r:Bw W R:=O.trans (y.mono Q);have M:=r.size))
     | (at_builtin;go_must (refine wpList_append_own _ rfl (.tmp 37) (.tmp 39) 99 rfl W.heap.size 124 i0 (.slice none 0 0) 1 24 Tryz.underlying99 hi a4 a8 X rfl (by decide) _ _ _ rfl (c.row.alloc _) ⟨_,0,none⟩ 1 1 [stN] rfl rfl (one_lit _ _ (by first|rfl|(simp;done)) _ _) (one_sl _ none 0 0 rfl) (by unfold maxLen;omega) (by omega) (by first|omega|(simp;done)|(simp;omega)) ?_);intro T z f n _;go_must (have b5:Hid (Gone W xs nm (q+1) (K++[[]]) T z):=⟨HN.out,⟨_,c.push (World.ownsRow_nil _ _ _ _) f n⟩,(r.alloc M _).grown n (by first|omega|(simp;done)|(simp;omega)) (fun j hj=>(c.row.lt j hj).1)⟩;clear f n)))
    go_roundw
    case rel=>exact ⟨q+1,K++[[]],by omega,by go_num,b5.out⟩
    case measure=>simp [intOf];omega
   ·have HA:=keepJ (at_yes hne);obtain ⟨l,D⟩:∃ l,Hid (atJ xs K q=l):=⟨_,rfl⟩
    have az:Hid (Made8 nm l):=by rw [<- D.out,HA.out];exact qDd (made_joinS hne S.out.cm) q _
    have h8:=az.out.1;have ag:=keepJ (HT.out.right hlt);obtain ⟨hd,au⟩:∃ hd,Hid (headJ xs K l q=hd):=⟨_,rfl⟩;obtain ⟨E,ab⟩:∃ E,Hid (asksJ nm (nth xs q) l hd=E):=⟨_,rfl⟩
    have ad:Hid (errJ xs nm K l q=E):=by show _=_;unfold errJ;rw [if_neg (by omega),au.out];exact ab.out
    have a2:=keepJ (S.out.head hlt hne);obtain ⟨⟨op,d,a,b,be⟩,HI⟩:∃ i,Hid (nth xs q=i):=⟨_,rfl⟩
    by_cases h20:op=20
    ·subst h20;have ao:=a2.out (by rw [HI.out]);rw [HI.out] at ao;simp only at ao;obtain ⟨b9,b2,av⟩:=ao
     have bf:1<=d/\d<=63:=by omega
     obtain ⟨h,hh⟩:∃ h:Nat,(q:Int)-d=h:=⟨((q:Int)-d).toNat,by omega⟩
     have bg:(h:Int)<q+1:=by omega
     have ae:Hid ((K++[l]).length=q+1):=by show _=_;simp [b4]
     have a5:Hid ((K++[l]).getD h []=hd):=by
      show _=_
      rw [<- au.out];unfold headJ;rw [HI.out,if_pos rfl];simp only;rw [hh,Int.toNat_natCast]
     have a1:Hid (hd.length=8):=by
      show _=_
      rw [<- a5.out,getD_app_l (by omega)];have:=av;rw [hh,Int.toNat_natCast] at this;exact this
     clear b9 b2 av a2
     by_cases hE:E=0
     ·subst hE
      go_wp2_with (first
       | (go_at_call 51;go_must (refine (at_some _ cb co A xs q _ K nm W.heap.size _ a7.out ⟨vs,J⟩ HT.out hlt (by omega) S.out.each S.out.cm hne).mono ?_);rintro e R ⟨u,rfl,o,y⟩;go_must (rw [<- HA.out,D.out] at o;have c:=J.below y (Nat.le_refl _);have r:Bw W R:=O.trans (y.mono Q);have M:=r.size;have F:R.ownsRow W.heap.size 153 4 u l.length (flatT l):=(by rw [h8];exact qAx o Q);obtain ⟨ug,uc,rfl,ah,ai,al⟩:=qCe o;clear o y))
       | (at_builtin;go_must (refine wpList_append_own _ rfl (.tmp 37) (.tmp 39) 99 rfl W.heap.size 124 i0 (.slice none 0 0) 1 24 Tryz.underlying99 hi a4 a8 X rfl (by decide) _ _ _ rfl (c.row.alloc _) ⟨_,0,none⟩ 1 1 [.slice (some ⟨ug,0,none⟩) 8 uc] rfl rfl (one_lit _ _ (by first|rfl|(simp;done)) _ _) (one_sl _ _ _ _ rfl) (by unfold maxLen;omega) (by omega) (by first|omega|(simp;done)|(simp;omega)) ?_);intro T z f n _;go_must (have k:=c.push F f n;have V:=keepJ k.last;have N:Hid (Ss W.heap.size z T (K++[l])):=⟨_,k⟩;have g:Bw W z:=(r.alloc M _).grown n (by first|omega|(simp;done)|(simp;omega)) (fun j hj=>(c.row.lt j hj).1);clear m0 m1;obtain ⟨m0,m1⟩:=a0.out z g;obtain ⟨G,ak,aj⟩:=codeAt (L.out z g) hlt;rw [HI.out] at G;obtain ⟨c0,c1,c2,c3,c4⟩:=G;simp only at c0 c1 c2 c3 c4;have Z:=g.size;clear f n c F k;obtain ⟨g6,c6,a6,b3,ac,aw,ap,U,I,_⟩:=N.out.get (i:=h) (by rw [ae.out];omega);rw [ae.out] at ac ap;rw [a5.out,a1.out] at U;rw [a5.out,a1.out] at I;subst ac))
       | (go_at_call 52;go_must (refine (asks_as (s:=l) (head:=hd) (L.out z g) hlt (by have:=qCs V.out;exact this) h8 ag.out (fun _=>⟨by have:=I;exact this,a1.out⟩) ab).mono ?_);rintro e Y ⟨rfl,B⟩;go_must (have P:Hid (Ss W.heap.size Y (.slice (some ⟨g6,0,none⟩) (q+1) c6) (K++[l])/\Bw W Y):=⟨N.out.below B (Nat.le_refl _),g.trans (B.mono Z)⟩;clear B)))
      go_roundw
      case rel=>exact ⟨q+1,K++[l],by omega,by go_num,by have:=run_next aa.out (by rw [D.out];exact ad.out);rw [D.out] at this;exact this,P.out.1,P.out.2⟩
      case measure=>simp [intOf];omega
     ·have b7:(E != 0)=true:=by simpa using hE
      go_wp2_with (first
       | (go_at_call 51;go_must (refine (at_some _ cb co A xs q _ K nm W.heap.size _ a7.out ⟨vs,J⟩ HT.out hlt (by omega) S.out.each S.out.cm hne).mono ?_);rintro e R ⟨u,rfl,o,y⟩;go_must (rw [<- HA.out,D.out] at o;have c:=J.below y (Nat.le_refl _);have r:Bw W R:=O.trans (y.mono Q);have M:=r.size;have F:R.ownsRow W.heap.size 153 4 u l.length (flatT l):=(by rw [h8];exact qAx o Q);obtain ⟨ug,uc,rfl,ah,ai,al⟩:=qCe o;clear o y))
       | (at_builtin;go_must (refine wpList_append_own _ rfl (.tmp 37) (.tmp 39) 99 rfl W.heap.size 124 i0 (.slice none 0 0) 1 24 Tryz.underlying99 hi a4 a8 X rfl (by decide) _ _ _ rfl (c.row.alloc _) ⟨_,0,none⟩ 1 1 [.slice (some ⟨ug,0,none⟩) 8 uc] rfl rfl (one_lit _ _ (by first|rfl|(simp;done)) _ _) (one_sl _ _ _ _ rfl) (by unfold maxLen;omega) (by omega) (by first|omega|(simp;done)|(simp;omega)) ?_);intro T z f n _;go_must (have k:=c.push F f n;have V:=keepJ k.last;have N:Hid (Ss W.heap.size z T (K++[l])):=⟨_,k⟩;have g:Bw W z:=(r.alloc M _).grown n (by first|omega|(simp;done)|(simp;omega)) (fun j hj=>(c.row.lt j hj).1);clear m0 m1;obtain ⟨m0,m1⟩:=a0.out z g;obtain ⟨G,ak,aj⟩:=codeAt (L.out z g) hlt;rw [HI.out] at G;obtain ⟨c0,c1,c2,c3,c4⟩:=G;simp only at c0 c1 c2 c3 c4;have Z:=g.size;clear f n c F k;obtain ⟨g6,c6,a6,b3,ac,aw,ap,U,I,_⟩:=N.out.get (i:=h) (by rw [ae.out];omega);rw [ae.out] at ac ap;rw [a5.out,a1.out] at U;rw [a5.out,a1.out] at I;subst ac))
       | (go_at_call 52;go_must (refine (asks_as (s:=l) (head:=hd) (L.out z g) hlt (by have:=qCs V.out;exact this) h8 ag.out (fun _=>⟨by have:=I;exact this,a1.out⟩) ab).mono ?_);rintro e Y ⟨rfl,B⟩;go_must (have P:Hid (Ss W.heap.size Y (.slice (some ⟨g6,0,none⟩) (q+1) c6) (K++[l])/\Bw W Y):=⟨N.out.below B (Nat.le_refl _),g.trans (B.mono Z)⟩;clear B)))
      go_ret3
      exact .inl ⟨q,E,run_stop aa.out (by rw [D.out];exact ad.out) hE hlt,rfl,a9.out.trans (P.out.2.mono (by omega))⟩
    ·have bb:(op==20)=false:=by simpa using h20
     clear a2
     by_cases hE:E=0
     ·subst hE
      go_wp2_with (first
       | (go_at_call 51;go_must (refine (at_some _ cb co A xs q _ K nm W.heap.size _ a7.out ⟨vs,J⟩ HT.out hlt (by omega) S.out.each S.out.cm hne).mono ?_);rintro e R ⟨u,rfl,o,y⟩;go_must (rw [<- HA.out,D.out] at o;have c:=J.below y (Nat.le_refl _);have r:Bw W R:=O.trans (y.mono Q);have M:=r.size;have F:R.ownsRow W.heap.size 153 4 u l.length (flatT l):=(by rw [h8];exact qAx o Q);obtain ⟨ug,uc,rfl,ah,ai,al⟩:=qCe o;clear o y))
       | (at_builtin;go_must (refine wpList_append_own _ rfl (.tmp 37) (.tmp 39) 99 rfl W.heap.size 124 i0 (.slice none 0 0) 1 24 Tryz.underlying99 hi a4 a8 X rfl (by decide) _ _ _ rfl (c.row.alloc _) ⟨_,0,none⟩ 1 1 [.slice (some ⟨ug,0,none⟩) 8 uc] rfl rfl (one_lit _ _ (by first|rfl|(simp;done)) _ _) (one_sl _ _ _ _ rfl) (by unfold maxLen;omega) (by omega) (by first|omega|(simp;done)|(simp;omega)) ?_);intro T z f n _;go_must (have k:=c.push F f n;have V:=keepJ k.last;have N:Hid (Ss W.heap.size z T (K++[l])):=⟨_,k⟩;have g:Bw W z:=(r.alloc M _).grown n (by first|omega|(simp;done)|(simp;omega)) (fun j hj=>(c.row.lt j hj).1);clear m0 m1;obtain ⟨m0,m1⟩:=a0.out z g;obtain ⟨G,ak,aj⟩:=codeAt (L.out z g) hlt;rw [HI.out] at G;obtain ⟨c0,c1,c2,c3,c4⟩:=G;simp only at c0 c1 c2 c3 c4;have Z:=g.size;clear f n c F k))
       | (go_at_call 52;go_must (refine (asks_as (s:=l) (head:=hd) (L.out z g) hlt (by have:=qCs V.out;exact this) h8 ag.out (fun h=>absurd (by rw [HI.out] at h;exact h) h20) ab).mono ?_);rintro e Y ⟨rfl,B⟩;go_must (have P:Hid (Ss W.heap.size Y T (K++[l])/\Bw W Y):=⟨N.out.below B (Nat.le_refl _),g.trans (B.mono Z)⟩;clear B)))
      go_roundw
      case rel=>exact ⟨q+1,K++[l],by omega,by go_num,by have:=run_next aa.out (by rw [D.out];exact ad.out);rw [D.out] at this;exact this,P.out.1,P.out.2⟩
      case measure=>simp [intOf];omega
     ·have b7:(E != 0)=true:=by simpa using hE
      go_wp2_with (first
       | (go_at_call 51;go_must (refine (at_some _ cb co A xs q _ K nm W.heap.size _ a7.out ⟨vs,J⟩ HT.out hlt (by omega) S.out.each S.out.cm hne).mono ?_);rintro e R ⟨u,rfl,o,y⟩;go_must (rw [<- HA.out,D.out] at o;have c:=J.below y (Nat.le_refl _);have r:Bw W R:=O.trans (y.mono Q);have M:=r.size;have F:R.ownsRow W.heap.size 153 4 u l.length (flatT l):=(by rw [h8];exact qAx o Q);obtain ⟨ug,uc,rfl,ah,ai,al⟩:=qCe o;clear o y))
       | (at_builtin;go_must (refine wpList_append_own _ rfl (.tmp 37) (.tmp 39) 99 rfl W.heap.size 124 i0 (.slice none 0 0) 1 24 Tryz.underlying99 hi a4 a8 X rfl (by decide) _ _ _ rfl (c.row.alloc _) ⟨_,0,none⟩ 1 1 [.slice (some ⟨ug,0,none⟩) 8 uc] rfl rfl (one_lit _ _ (by first|rfl|(simp;done)) _ _) (one_sl _ _ _ _ rfl) (by unfold maxLen;omega) (by omega) (by first|omega|(simp;done)|(simp;omega)) ?_);intro T z f n _;go_must (have k:=c.push F f n;have V:=keepJ k.last;have N:Hid (Ss W.heap.size z T (K++[l])):=⟨_,k⟩;have g:Bw W z:=(r.alloc M _).grown n (by first|omega|(simp;done)|(simp;omega)) (fun j hj=>(c.row.lt j hj).1);clear m0 m1;obtain ⟨m0,m1⟩:=a0.out z g;obtain ⟨G,ak,aj⟩:=codeAt (L.out z g) hlt;rw [HI.out] at G;obtain ⟨c0,c1,c2,c3,c4⟩:=G;simp only at c0 c1 c2 c3 c4;have Z:=g.size;clear f n c F k))
       | (go_at_call 52;go_must (refine (asks_as (s:=l) (head:=hd) (L.out z g) hlt (by have:=qCs V.out;exact this) h8 ag.out (fun h=>absurd (by rw [HI.out] at h;exact h) h20) ab).mono ?_);rintro e Y ⟨rfl,B⟩;go_must (have P:Hid (Ss W.heap.size Y T (K++[l])/\Bw W Y):=⟨N.out.below B (Nat.le_refl _),g.trans (B.mono Z)⟩;clear B)))
      go_ret3
      exact .inl ⟨q,E,run_stop aa.out (by rw [D.out];exact ad.out) hE hlt,rfl,a9.out.trans (P.out.2.mono (by omega))⟩
  ·have ay:¬ (q:Int)<xs.length:=by omega
   have HE:Hid (q=xs.length):=by show _=_;omega
   go_wp2
   go_ret3
   have h1:=HG.out.1;rw [HE.out] at h1;exact .inr ⟨K,h1,u7,rfl,HG.out.2.1.base (b:=w.heap.size) (by omega),a9.out.trans (O.mono (by omega))⟩
theorem all_maps (b l:Value)(ms:List Int)(w:World)(hm:Sees .i64 w b ms)(f:Hid (mapsJ ms=false)) :
  Cl 28 #[.agg #[b,l]] w fun e g=>e=.returned (.tuple #[stN,I4 0,I4 2])/\Bw w g:=by
 have i:=keepJ hm
 obtain ⟨n,mcap,rfl⟩:∃ a c,b=.slice a ms.length c:=by obtain ⟨a,c,h,_⟩:=hm;exact ⟨a,c,h⟩
 go_enter Tryz.func28,Tryz.ntmps28
 go_wp2_with (go_at_call 49;go_must (refine (rmaps_any _ ms _ (i.out.below ((Below.refl _ _).alloc (Nat.le_refl _) _) (Nat.le_refl _)) f).mono ?_);rintro e g ⟨rfl,d⟩;go_must (have k:=qAl d;clear d))
 go_ret3
 exact ⟨rfl,k⟩
theorem all_flow (k:Value)(ms:List Int)(i:Value)(xs:List In)(w:World)(hm:Sees .i64 w k ms)(l:SeesI w i xs)(u:Hid (mapsJ ms=true)){P E:Int}(I:Hid (checkL xs=(P,E)))(y:E≠0) :
  Cl 28 #[.agg #[k,i]] w fun e K=>e=.returned (.tuple #[stN,I4 P,I4 E])/\Bw w K:=by
 have B:=keepJ hm;have J:=keepJ l
 obtain ⟨F,mcap,rfl⟩:∃ a c,k=.slice a ms.length c:=by obtain ⟨a,c,h,_⟩:=hm;exact ⟨a,c,h⟩
 obtain ⟨A,d,rfl⟩:∃ a c,i=.slice a xs.length c:=by obtain ⟨a,c,h,_⟩:=l;exact ⟨a,c,h⟩
 have M:(E != 0)=true:=by simpa using y
 obtain ⟨W,s,f,L⟩:∃ W,Hid (W=w.alloc (Obj.cells #[.slice F ms.length mcap,.slice A xs.length d] 25))/\Hid (Bw w W)/\W.heap.size=w.heap.size+1 :=
  ⟨_,rfl,keepJ (by go_grown),by simp⟩
 have n:Hid (W.cell? ⟨w.heap.size,1,none⟩=some (.slice A xs.length d)):=by
  rw [s.out];show _=_;go_cell
 clear hm l;go_enter Tryz.func28,Tryz.ntmps28
 go_wp2_with (first
  | (go_at_call 49;rw [<- s.out];go_must (refine (rmaps_any _ ms _ (B.out.below f.out (Nat.le_refl _)) u).mono ?_);rintro e N ⟨rfl,b⟩;go_must (have D:=(b.cell (p:=⟨w.heap.size,1,none⟩) (show w.heap.size<W.heap.size by omega)).trans n.out;have o:=b.size;have z:=keepJ ((J.out.below f.out).below b)))
  | (go_at_call 50;go_must (refine (rcheck_any _ xs _ z.out I).mono ?_);rintro e G ⟨rfl,g⟩;go_must (have r:Bw W G:=b.trans (g.mono o);clear b g D)))
 go_ret3
 exact ⟨rfl,f.out.trans (r.mono (by omega))⟩
theorem rall_any (f:Value)(ms:List Int)(i:Value)(xs:List In)(w:World)(hm:Sees .i64 w f ms)(l:SeesI w i xs) :
  Cl 28 #[.agg #[f,i]] w fun e g=>∃ u,e=.returned (.tuple #[u,I4 (allJ ms xs).2.1,I4 (allJ ms xs).2.2])/\Ss w.heap.size g u (allJ ms xs).1/\Bw w g:=by
 unfold allJ
 cases hmf:mapsJ ms with
 | false =>
  refine (all_maps f i ms w hm hmf).mono ?_;rintro e g ⟨rfl,d⟩;exact ⟨stN,by simp,by simpa using Ss.nil _ _,d⟩
 | true =>
  rw [if_neg (by simp)]
  by_cases hE:(checkL xs).2=0
  ·rw [if_neg (by simpa using hE)];have n:Taken xs:=check_ok.1 hE;obtain ⟨a,cap,y,D,F,B,o⟩:=id l;obtain ⟨b,off,rfl,z,A⟩:=o (fun e=>by have:=n.pos;rw [e] at this;simp at this);subst y
   obtain ⟨s,mcap,rfl⟩:∃ a c,f=.slice a ms.length c:=by obtain ⟨a,c,h,_⟩:=hm;exact ⟨a,c,h⟩
   refine (all_run s mcap ms b off cap xs w hm l hmf n).mono ?_;rintro e g (⟨q,E,k,rfl,d⟩|⟨K,k,u,rfl,r,d⟩)
   ·rw [k];exact ⟨stN,rfl,Ss.nil _ _,d⟩
   ·rw [k];exact ⟨u,rfl,r,d⟩
  ·rw [if_pos hE];refine (all_flow f ms i xs w hm l hmf (P:=(checkL xs).1) (E:=(checkL xs).2) rfl hE).mono ?_;rintro e g ⟨rfl,d⟩;exact ⟨stN,rfl,Ss.nil _ _,d⟩
theorem judge_all (ms:List Int)(xs:List In):judgeR ms xs=(allJ ms xs).2:=by
 unfold judgeR inqR allJ
 by_cases hmf:mapsJ ms=false
 ·rw [if_pos hmf,if_pos hmf]
 ·rw [if_neg hmf,if_neg hmf]
  by_cases hE:(checkL xs).2=0
  ·rw [if_neg (show ¬ errL xs≠0 from fun h=>h hE),if_neg (show ¬ (checkL xs).2≠0 from fun h=>h hE)]
   rcases pull_run (nm:=ms.length) (check_ok.1 hE) xs.length (Nat.le_refl _) with ⟨e,a,b⟩|⟨f,c,a,b,d⟩
   ·rw [a,b]
   ·rw [a,b]
  ·rw [if_pos (show errL xs≠0 from hE),if_pos (show (checkL xs).2≠0 from hE)]
   rfl
end Go.Proofs.YtmdhljoicnommaaGreat
