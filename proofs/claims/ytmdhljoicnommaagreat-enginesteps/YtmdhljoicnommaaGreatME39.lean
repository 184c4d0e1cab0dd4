/-
  E11Doc
  E11Goes
  E11Lays
  E11LaysA
  E11Store
  E11LTurn
  E11LAsk
  E11LCall
  E11LMark
  E11LMap
  E11LAns
  E11LAll
  E11Answer
  E11Over
  E11Call
  E11LStep
-/
import Derived.Test.YtmdhljoicnommaaGreatME29
import Derived.Test.YtmdhljoicnommaaGreatME22
import Derived.Test.YtmdhljoicnommaaGreatME33
import Derived.Test.YtmdhljoicnommaaGreatME31
namespace Go.Proofs.YtmdhljoicnommaaGreat
set_option maxHeartbeats 12800000
open Go.RowKit
set_option linter.unusedVariables false
set_option linter.unusedSimpArgs false
set_option maxRecDepth 100000
abbrev sdC (vm vc:Value) (ea eb:Int) (bb rb tb:Nat) (p n m:Nat):List Value:=[vm,vc,.int .u64 ea,.int .u64 eb,.pointer (some ⟨bb,0,none⟩),.slice (some ⟨rb,0,none⟩) 8 8,.slice (some ⟨tb,0,none⟩) 64 64,.int .i64 p,.int .i64 n,.int .i64 m]
theorem qPi {b p:Nat}{cs:List Value}(w:World)(h:Hp w b 73 cs)(c:cs[7]? = some (I4 p))(i:(p:Int)<=100) :
  Cl 41 #[.pointer (some ⟨b,0,none⟩)] w fun e a=>e=.returned (.tuple #[])/\a=w.setCell ⟨b,7,none⟩ (I4 ((p+1:Nat):Int)):=by
 have f:=h.cell c;have g:=h.frozen 7;have d:=h.lt;go_enter Tryz.func41,Tryz.ntmps41;go_wp2;exact bodyPost_end (results_none rfl _ _ _) rfl ⟨rfl,by simp⟩
theorem qKe {b rb:Nat}{cs:List Value}{R:List Int}(i:In)(w:World)(h:Hp w b 73 cs)(D:cs[5]? = some (.slice (some ⟨rb,0,none⟩) 8 8))(r:Hp w rb 26 (qBx R))(N:R.length=8)(A:i.b=8∨(0<=i.b/\i.b<=7)){n:Int}(z:Hid (qCk i R=n)) :
  Cl 66 #[.pointer (some ⟨b,0,none⟩),qAl i.op i.d i.a i.b i.imm] w fun e B=>e=.returned (U8 n)/\Bw w B:=by
 obtain ⟨op,d,a,l,c⟩:=i;simp only at A ⊢;have o:=h.cell D;have u:=h.lt;have y:=r.lt
 by_cases h8:l=8
 ·subst h8
  have f:Hid (IntKind.u64.wrap c=n):=by
   show _=_
   rw [<- z.out,IntKind.wrap_u64]
   rfl
  go_enter Tryz.func66,Tryz.ntmps66;go_wp2;go_ret;exact ⟨by rw [<- f.out];first|rfl|(simp;done),by go_grown⟩
 ·have G:(l==8)=false:=by simpa using h8
  obtain ⟨k,rfl⟩:=Int.eq_ofNat_of_zero_le (show 0<=l by omega)
  have Q:k<8:=by omega
  have F:(k:Int)<8:=by omega
  have f:Hid (R.getD k 0=n):=by
   show _=_
   rw [<- z.out];unfold qCk;rw [if_neg h8]
   rfl
  have g:=r.cell (qDu (show k<R.length by omega));rw [f.out] at g
  obtain ⟨Z,E,s,P,M,I,L,O,J,K⟩:∃ Z,Hid (Z=w.alloc (qBr op d a k c))/\Bw w Z/\Z.cell? ⟨w.heap.size,0,none⟩=some (I4 op)/\Z.cell? ⟨w.heap.size,1,none⟩=some (I4 d)/\Z.cell? ⟨w.heap.size,2,none⟩=some (I4 a)/\Z.cell? ⟨w.heap.size,3,none⟩=some (I4 k)/\Z.cell? ⟨w.heap.size,4,none⟩=some (I4 c)/\Z.cell? ⟨b,5,none⟩=some (.slice (some ⟨rb,0,none⟩) 8 8)/\Z.cell? ⟨rb,k,none⟩=some (U8 n):=by
   refine ⟨_,rfl,by go_grown,by go_cell,by go_cell,by go_cell,by go_cell,by go_cell,?_,?_⟩
   ·rw [((Below.refl w.heap.size w).alloc (Nat.le_refl _) _).cell (p:=⟨b,5,none⟩) u];exact o
   ·rw [((Below.refl w.heap.size w).alloc (Nat.le_refl _) _).cell (p:=⟨rb,k,none⟩) y];exact g
  clear o g;go_enter Tryz.func66,Tryz.ntmps66;go_wp2;rw [<- E.out];go_region;go_wp2;go_ret;exact ⟨rfl,qAn s⟩
structure Rdm (w:World) (b rb tb:Nat) (cs:List Value) (M:Mc):Prop where
 st:Hp w b 73 cs
 c5:cs[5]? = some (.slice (some ⟨rb,0,none⟩) 8 8)
 c6:cs[6]? = some (.slice (some ⟨tb,0,none⟩) 64 64)
 c7:cs[7]? = some (.int .i64 M.pc)
 rg:Hp w rb 26 (qBx M.regs)
 tn:Hp w tb 2 (tnC M.turn)
 wr:WR M.regs
 pc:M.pc<64
theorem Rdm.below {w c:World}{b rb tb:Nat}{cs:List Value}{M:Mc}(h:Rdm w b rb tb cs M)(a:Bw w c):Rdm c b rb tb cs M :=
 ⟨h.st.below a h.st.lt,h.c5,h.c6,h.c7,h.rg.below a h.rg.lt,h.tn.below a h.tn.lt,h.wr,h.pc⟩
theorem Rdm.cells {w:World}{b rb tb:Nat}{cs:List Value}{M:Mc}(h:Rdm w b rb tb cs M){k:Nat}(a:k<8):w.cell? ⟨b,5,none⟩=some (.slice (some ⟨rb,0,none⟩) 8 8)/\w.cell? ⟨b,6,none⟩=some (.slice (some ⟨tb,0,none⟩) 64 64)/\w.cell? ⟨b,7,none⟩=some (I4 M.pc)/\w.cell? ⟨rb,k,none⟩=some (U8 (M.regs.getD k 0))/\w.cell? ⟨tb,M.pc,none⟩=some (I4 (M.turn M.pc)) :=
 ⟨h.st.cell h.c5,h.st.cell h.c6,h.st.cell h.c7,h.rg.cell (qDu (by rw [h.wr.1];exact a)),h.tn.cell (qSl _ h.pc)⟩
theorem qPs {w:World}{b rb tb:Nat}{cs:List Value}{M:Mc}(h:Rdm w b rb tb cs M)(op d a f c:Int):∃ Z,Hid (Z=w.alloc (qBr op d a f c))/\Bw w Z/\Z.heap.size=w.heap.size+1/\Hid (Rdm Z b rb tb cs M)/\(Z.cell? ⟨w.heap.size,0,none⟩=some (I4 op)/\Z.cell? ⟨w.heap.size,1,none⟩=some (I4 d)/\Z.cell? ⟨w.heap.size,2,none⟩=some (I4 a)/\Z.cell? ⟨w.heap.size,3,none⟩=some (I4 f)/\Z.cell? ⟨w.heap.size,4,none⟩=some (I4 c)) :=
 ⟨_,rfl,by go_grown,by simp,h.below ((Below.refl _ _).alloc (Nat.le_refl _) _),by go_cell,by go_cell,by go_cell,by go_cell,by go_cell⟩
theorem yJo {b rb tb:Nat}{cs:List Value}{M:Mc}(d a g c:Int)(w:World)(h:Rdm w b rb tb cs M) :
  Cl 39 #[.pointer (some ⟨b,0,none⟩),qAl 15 d a g c] w fun e f=>e=.returned (.bool true)/\Bw w f:=by
 go_enter Tryz.func39,Tryz.ntmps39;go_wp2;go_ret;exact ⟨rfl,by go_grown⟩
theorem yHa {b rb tb:Nat}{cs:List Value}{M:Mc}(op d a g f:Int)(w:World)(h:Rdm w b rb tb cs M)(ho:16<=op/\op<=19)(V:0<=a/\a<=7)(i:g=8∨(0<=g/\g<=7)){r:Bool}(S:Hid (qCo op (qBj M.regs a) (qCk ⟨op,d,a,g,f⟩ M.regs)=r)) :
  Cl 39 #[.pointer (some ⟨b,0,none⟩),qAl op d a g f] w fun e l=>e=.returned (.bool r)/\Bw w l:=by
 obtain ⟨Z,X,z,a4,s,O,K,G,J,N⟩:=qPs h op d a g f;obtain ⟨k,rfl⟩:=Int.eq_ofNat_of_zero_le V.1
 have P:k<8:=by omega
 have a0:(k:Int)<8:=by omega
 obtain ⟨x,E⟩:∃ x,Hid (M.regs.getD k 0=x):=⟨_,rfl⟩;obtain ⟨y,B⟩:∃ y,Hid (qCk ⟨op,d,k,g,f⟩ M.regs=y):=⟨_,rfl⟩
 have U:0<=x/\x<=18446744073709551615:=by rw [<- E.out];exact h.wr.2 k P
 have Q:0<=y/\y<=18446744073709551615:=by rw [<- B.out];exact qIu h.wr i
 have T:Hid (r=qCo op x y):=by
  show _=_
  rw [<- S.out,<- E.out,<- B.out]
  rfl
 obtain ⟨c,R⟩:∃ c,Hid (c=qFj op):=⟨_,rfl⟩
 have a1:(op==15)=false:=by simp;omega
 have Y:(op==20)=false:=by simp;omega
 have a2:=h.st.lt;have a3:=h.rg.lt
 have u:Hid (∀ n,Bw Z n->n.cell? ⟨b,5,none⟩=some (.slice (some ⟨rb,0,none⟩) 8 8)/\n.cell? ⟨rb,k,none⟩=some (U8 x)/\n.cell? ⟨w.heap.size,0,none⟩=some (I4 op)/\n.cell? ⟨w.heap.size,1,none⟩=some (I4 d)/\n.cell? ⟨w.heap.size,2,none⟩=some (I4 k)/\n.cell? ⟨w.heap.size,3,none⟩=some (I4 g)/\n.cell? ⟨w.heap.size,4,none⟩=some (I4 f)):=fun n i=>by
  have F:=(s.out.below i).cells P;rw [E.out] at F;exact ⟨F.1,F.2.2.2.1,(i.cell (p:=⟨w.heap.size,0,none⟩) (show w.heap.size<Z.heap.size by omega)).trans O,(i.cell (p:=⟨w.heap.size,1,none⟩) (show w.heap.size<Z.heap.size by omega)).trans K,(i.cell (p:=⟨w.heap.size,2,none⟩) (show w.heap.size<Z.heap.size by omega)).trans G,(i.cell (p:=⟨w.heap.size,3,none⟩) (show w.heap.size<Z.heap.size by omega)).trans J,(i.cell (p:=⟨w.heap.size,4,none⟩) (show w.heap.size<Z.heap.size by omega)).trans N⟩
 go_enter Tryz.func39,Tryz.ntmps39;go_wp2;rw [<- X.out];clear O K G J N
 go_region_held3 (fun l=>l.cell? ⟨b,5,none⟩=some (.slice (some ⟨rb,0,none⟩) 8 8)/\l.cell? ⟨rb,k,none⟩=some (U8 x)/\l.cell? ⟨w.heap.size,0,none⟩=some (I4 op)/\l.cell? ⟨w.heap.size,1,none⟩=some (I4 d)/\l.cell? ⟨w.heap.size,2,none⟩=some (I4 k)/\l.cell? ⟨w.heap.size,3,none⟩=some (I4 g)/\l.cell? ⟨w.heap.size,4,none⟩=some (I4 f))
  (first|with_reducible exact L|exact u.out Z (Below.refl _ _))
  (first
   | (go_at_call 66;go_must (refine (qKe ⟨op,d,k,g,f⟩ Z.drew s.out.st s.out.c5 s.out.rg h.wr.1 i B).mono ?_);rintro e D ⟨rfl,o⟩;go_must (have A:Bw Z D:=qAg o;have L:=u.out D A;have I:Bw w D:=z.trans (A.mono z.size);clear o))
   | (go_at_call 65;go_must (refine (yQb T R _ U Q).mono ?_);rintro e w5 ⟨rfl,rfl⟩))
 go_wp2;go_ret;exact ⟨rfl,I⟩
theorem qAm {w a:World}{tb x j:Nat}(h:w.grownBy a (some tb))(c:x<w.heap.size)(b:x≠tb):a.cell? ⟨x,j,none⟩=w.cell? ⟨x,j,none⟩:=World.cell?_of_block (h.block x c (fun e=>b (by injection e)))
theorem yJn {b rb tb:Nat}{cs:List Value}{M:Mc}(d a g c:Int)(w:World)(h:Rdm w b rb tb cs M)(N:0<=a/\a<=7)(hi:1<=c/\c<=255)(J:0<=M.turn M.pc/\M.turn M.pc<=255) :
  Cl 39 #[.pointer (some ⟨b,0,none⟩),qAl 20 d a g c] w fun e f=>e=.returned (.bool (qCz ⟨20,d,a,g,c⟩ M))/\w.grownBy f (some tb)/\Hp f tb 2 (tnC (qCg ⟨20,d,a,g,c⟩ M)):=by
 obtain ⟨Z,F,K,a1,n,x0,x1,x2,x3,x4⟩:=qPs h 20 d a g c;obtain ⟨k,rfl⟩:=Int.eq_ofNat_of_zero_le N.1
 have L:k<8:=by omega
 have X:(k:Int)<8:=by omega
 have V:(M.pc:Int)<64:=by have:=h.pc;omega
 obtain ⟨c0,o,r,O,P⟩:=n.out.cells L;obtain ⟨x,B⟩:∃ x,Hid (M.regs.getD k 0=x):=⟨_,rfl⟩;obtain ⟨t,G⟩:∃ t,Hid (M.turn M.pc=t):=⟨_,rfl⟩;rw [B.out] at O;rw [G.out] at P J;obtain ⟨U,Y⟩:=J
 have hx:0<=x/\x<=18446744073709551615:=by rw [<- B.out];exact h.wr.2 k L
 have z:b≠tb:=qCw h.st h.tn (by decide);have a0:rb≠tb:=qCw h.rg h.tn (by decide);have T:=n.out.tn.lt
 have Q:w.heap.size≠tb:=by have:=h.tn.lt;omega
 have f0:=n.out.tn.frozen M.pc
 have E:Hid (qCz ⟨20,d,k,g,c⟩ M=(decide (0<x)&&decide (t<c))):=by
  show _=_
  unfold qCz;rw [if_neg (by simp),if_pos rfl]
  show decide (0<M.regs.getD k 0/\M.turn M.pc<c)=_
  simp only [B.out,G.out,Bool.decide_and]
 have D:Hid (qCg ⟨20,d,k,g,c⟩ M=fun u:Int=>if u=M.pc then (if qCz ⟨20,d,k,g,c⟩ M=true then t+1 else 0) else M.turn u):=by
  show _=_
  unfold qCg;rw [if_pos rfl,G.out]
 have A:Hid (∀ v:Int,Hp (Z.setCell ⟨tb,M.pc,none⟩ (I4 v)) tb 2 (tnC (fun u:Int=>if u=M.pc then v else M.turn u))):=fun v=>by
  have:=n.out.tn.set M.pc (I4 v);rw [yFz _ h.pc] at this;exact this
 have l:Hid (∀ v:Int,w.grownBy (Z.setCell ⟨tb,M.pc,none⟩ (I4 v)) (some tb)):=fun v=>qCd (qBz K _) (qAc Z tb M.pc _)
 have I:Hid (IntKind.i64.wrap (t+1)=t+1):=by show _=_;rw [IntKind.wrap_i64];omega
 have y:=n.out.st.lt
 have s:Hid (∀ v:Int,(Z.setCell ⟨tb,M.pc,none⟩ (I4 v)).cell? ⟨b,6,none⟩=some (.slice (some ⟨tb,0,none⟩) 64 64)/\(Z.setCell ⟨tb,M.pc,none⟩ (I4 v)).cell? ⟨b,7,none⟩=some (I4 M.pc)):=fun v =>
  ⟨(qAm (qAc Z tb M.pc (I4 v)) y z).trans o,(qAm (qAc Z tb M.pc (I4 v)) y z).trans r⟩
 by_cases hx0:0<x
 ·by_cases hti:t<c
  ·have i:Hid (qCz ⟨20,d,k,g,c⟩ M=true):=by show _=_;rw [E.out,decide_eq_true hx0,decide_eq_true hti];rfl
   rw [D.out,i.out];go_enter Tryz.func39,Tryz.ntmps39;go_wp2;rw [<- F.out];go_region;go_wp2;refine wp_region_held_drew (S:=fun f=>f.cell? ⟨b,6,none⟩=some (.slice (some ⟨tb,0,none⟩) 64 64)/\f.cell? ⟨b,7,none⟩=some (I4 M.pc)) (by kernel_rfl) ⟨o,r⟩ (fun hHeld=>?_);refine qBb [0,1,2,3,4,5,6,7,8] ?_
   repeat (refine tkO (v:=?_) rfl ?_ ?_;rotate_left;(intro wy hSw;(try dsimp only at hSw);go_simp;(first|done|with_reducible rfl));try simp only [Act.put,p1q,p2q,p3q,p4q,p5q,p6q])
   refine qAs ?_;refine qAr 9 (by kernel_rfl) rfl (by rfl) (fun KK hK=>?_);go_simp;refine hK.out _ _ ⟨o,r⟩ (fun hHeld=>?_);clear hK KK
   try simp only [Act.put,p1q,p2q,p3q,p4q,p5q,p6q]
   refine qBb [10,11] ?_
   repeat (refine tkO (v:=?_) rfl ?_ ?_;rotate_left;(intro wy hSw;(try dsimp only at hSw);go_simp;(first|done|with_reducible rfl));try simp only [Act.put,p1q,p2q,p3q,p4q,p5q,p6q])
   refine qAs ?_;refine qAr 12 (by kernel_rfl) rfl (by rfl) (fun KK hK=>?_);go_simp;rw [I.out];refine hK.out _ _ (s.out (t+1)) (fun hHeld=>?_);clear hK KK
   try simp only [Act.put,p1q,p2q,p3q,p4q,p5q,p6q]
   refine wpAnyH_done (by kernel_rfl) ?_ _;go_wp2;go_ret;exact ⟨rfl,qCb (qCb (l.out _)),by have:=(A.out (t+1)).drew.drew;exact this⟩
  ·have R:¬ t<c:=hti
   have i:Hid (qCz ⟨20,d,k,g,c⟩ M=false):=by show _=_;rw [E.out,decide_eq_false hti,Bool.and_false]
   rw [D.out,i.out];go_enter Tryz.func39,Tryz.ntmps39;go_wp2;rw [<- F.out];go_region;go_wp2;refine wp_region_held_drew (S:=fun f=>f.cell? ⟨b,6,none⟩=some (.slice (some ⟨tb,0,none⟩) 64 64)/\f.cell? ⟨b,7,none⟩=some (I4 M.pc)) (by kernel_rfl) ⟨o,r⟩ (fun hHeld=>?_);refine qBb [0,1,2,3,4,5,6,7,8] ?_
   repeat (refine tkO (v:=?_) rfl ?_ ?_;rotate_left;(intro wy hSw;(try dsimp only at hSw);go_simp;(first|done|with_reducible rfl));try simp only [Act.put,p1q,p2q,p3q,p4q,p5q,p6q])
   refine qAs ?_;refine qAr 9 (by kernel_rfl) rfl (by rfl) (fun KK hK=>?_);go_simp;refine hK.out _ _ (s.out 0) (fun hHeld=>?_);clear hK KK
   try simp only [Act.put,p1q,p2q,p3q,p4q,p5q,p6q]
   refine wpAnyH_done (by kernel_rfl) ?_ _;go_wp2;go_ret;exact ⟨rfl,qCb (qCb (l.out _)),by have:=(A.out 0).drew.drew;exact this⟩
 ·obtain rfl:x=0:=by omega
  have i:Hid (qCz ⟨20,d,k,g,c⟩ M=false):=by show _=_;rw [E.out,decide_eq_false hx0,Bool.false_and]
  rw [D.out,i.out];go_enter Tryz.func39,Tryz.ntmps39;go_wp2;rw [<- F.out];go_region;go_wp2;refine wp_region_held_drew (S:=fun f=>f.cell? ⟨b,6,none⟩=some (.slice (some ⟨tb,0,none⟩) 64 64)/\f.cell? ⟨b,7,none⟩=some (I4 M.pc)) (by kernel_rfl) ⟨o,r⟩ (fun hHeld=>?_);refine qBb [0,1,2,3,4,5,6,7,8] ?_
  repeat (refine tkO (v:=?_) rfl ?_ ?_;rotate_left;(intro wy hSw;(try dsimp only at hSw);go_simp;(first|done|with_reducible rfl));try simp only [Act.put,p1q,p2q,p3q,p4q,p5q,p6q])
  refine qAs ?_;refine qAr 9 (by kernel_rfl) rfl (by rfl) (fun KK hK=>?_);go_simp;refine hK.out _ _ (s.out 0) (fun hHeld=>?_);clear hK KK
  try simp only [Act.put,p1q,p2q,p3q,p4q,p5q,p6q]
  refine wpAnyH_done (by kernel_rfl) ?_ _;go_wp2;go_ret;exact ⟨rfl,qCb (qCb (l.out _)),by have:=(A.out 0).drew.drew;exact this⟩
theorem qFx {w a:World}{b rb tb:Nat}{cs:List Value}{M:Mc}(h:Rdm w b rb tb cs M)(c:Bw w a){k:Nat}(v:Int) :
  w.grownBy (a.setCell ⟨rb,k,none⟩ (U8 v)) (some rb)/\Hp (a.setCell ⟨rb,k,none⟩ (U8 v)) rb 26 (qBx (M.regs.set k v)):=by
 refine ⟨qCd (qBz c _) (qAc a rb k _),?_⟩;have:=(h.rg.below c h.rg.lt).set k (U8 v);rw [qRu] at this;exact this
abbrev yKs (w w':World) (b rb:Nat) (op d a bb imm:Int):Prop:=w'.cell? ⟨b,5,none⟩=some (.slice (some ⟨rb,0,none⟩) 8 8)/\w'.cell? ⟨w.heap.size,0,none⟩=some (.int .i64 op)/\w'.cell? ⟨w.heap.size,1,none⟩=some (.int .i64 d)/\w'.cell? ⟨w.heap.size,2,none⟩=some (.int .i64 a)/\w'.cell? ⟨w.heap.size,3,none⟩=some (.int .i64 bb)/\w'.cell? ⟨w.heap.size,4,none⟩=some (.int .i64 imm)
theorem yMf {b rb tb:Nat}{cs:List Value}{M:Mc}(d a g f:Int)(w:World)(h:Rdm w b rb tb cs M)(S:0<=d/\d<=7)(i:g=8∨(0<=g/\g<=7)){y:Int}(Q:Hid (qCk ⟨0,d,a,g,f⟩ M.regs=y)) :
  Cl 40 #[.pointer (some ⟨b,0,none⟩),qAl 0 d a g f] w fun e l=>e=.returned (.tuple #[])/\w.grownBy l (some rb)/\Hp l rb 26 (qBx (M.regs.set d.toNat y)):=by
 obtain ⟨Z,T,F,Y,B,P,L,G,I,O⟩:=qPs h 0 d a g f;obtain ⟨k,rfl⟩:=Int.eq_ofNat_of_zero_le S.1
 have n:k<8:=by omega
 have U:(k:Int)<8:=by omega
 have V:=h.st.lt;have J:b≠rb:=qCw h.st h.rg (by decide)
 have o:w.heap.size≠rb:=by have:=h.rg.lt;omega
 have E:Hid (∀ c,Bw Z c->yKs w c b rb 0 k a g f):=fun c i=>by
  have R:=(B.out.below i).cells n;exact ⟨R.1,(i.cell (p:=⟨w.heap.size,0,none⟩) (show w.heap.size<Z.heap.size by omega)).trans P,(i.cell (p:=⟨w.heap.size,1,none⟩) (show w.heap.size<Z.heap.size by omega)).trans L,(i.cell (p:=⟨w.heap.size,2,none⟩) (show w.heap.size<Z.heap.size by omega)).trans G,(i.cell (p:=⟨w.heap.size,3,none⟩) (show w.heap.size<Z.heap.size by omega)).trans I,(i.cell (p:=⟨w.heap.size,4,none⟩) (show w.heap.size<Z.heap.size by omega)).trans O⟩
 have N:Hid (∀ c (v:Int),yKs w c b rb 0 k a g f->b<c.heap.size->w.heap.size<c.heap.size->yKs w (c.setCell ⟨rb,k,none⟩ (U8 v)) b rb 0 k a g f):=fun c v n i s =>
  ⟨(qAm (qAc c rb k _) i J).trans n.1,(qAm (qAc c rb k _) s o).trans n.2.1,(qAm (qAc c rb k _) s o).trans n.2.2.1,(qAm (qAc c rb k _) s o).trans n.2.2.2.1,(qAm (qAc c rb k _) s o).trans n.2.2.2.2.1,(qAm (qAc c rb k _) s o).trans n.2.2.2.2.2⟩
 go_enter Tryz.func40,Tryz.ntmps40;go_wp2;rw [<- T.out];clear P L G I O
 go_region_held3 (fun l=>l.cell? ⟨b,5,none⟩=some (.slice (some ⟨rb,0,none⟩) 8 8)/\l.cell? ⟨w.heap.size,0,none⟩=some (I4 0)/\l.cell? ⟨w.heap.size,1,none⟩=some (I4 k)/\l.cell? ⟨w.heap.size,2,none⟩=some (I4 a)/\l.cell? ⟨w.heap.size,3,none⟩=some (I4 g)/\l.cell? ⟨w.heap.size,4,none⟩=some (I4 f))
  (first|with_reducible exact D|with_reducible exact K|exact E.out Z (Below.refl _ _))
  (first
   | (go_at_call 66;go_must (refine (qKe ⟨0,k,a,g,f⟩ Z.drew B.out.st B.out.c5 B.out.rg h.wr.1 i Q).mono ?_);rintro e A ⟨rfl,u⟩;go_must (have z:Bw Z A:=qAg u;have D:=E.out A z;have r:Bw w A:=F.trans (z.mono F.size);have X:=z.size;have K:=N.out A y D (by omega) (by omega);have y0:=((h.rg.below r h.rg.lt).cell (qDu (show k<M.regs.length by rw [h.wr.1];exact n)));have f0:=(h.rg.below r h.rg.lt).frozen k;clear u)))
 go_wp2;exact bodyPost_end (results_none rfl _ _ _) rfl ⟨rfl,(qFx h r y).1,(qFx h r y).2⟩
theorem qLk {op:Int}{r:Bool}(h:Hid (qAv op=r))(w:World):Cl 67 #[I4 op] w fun e a=>e=.returned (.bool r)/\w=a:=by
 rw [<- h.out];exact qCu op w
theorem yEn {b rb tb:Nat}{cs:List Value}{M:Mc}(op d a o i:Int)(w:World)(h:Rdm w b rb tb cs M)(ho:1<=op/\op<=10)(hd:0<=d/\d<=7)(ha:0<=a/\a<=7)(l:o=8∨(0<=o/\o<=7)){x y n:Int}(O:Hid (M.regs.getD a.toNat 0=x))(N:Hid (qCk ⟨op,d,a,o,i⟩ M.regs=y))(HN:Hid (n=doL op x y)) :
  Cl 40 #[.pointer (some ⟨b,0,none⟩),qAl op d a o i] w fun e g=>e=.returned (.tuple #[])/\w.grownBy g (some rb)/\Hp g rb 26 (qBx (M.regs.set d.toNat n)):=by
 have hy:0<=y/\y<=18446744073709551615:=by rw [<- N.out];exact qIu h.wr l
 have hx:0<=x/\x<=18446744073709551615:=by rw [<- O.out];exact h.wr.2 _ (by omega)
 obtain ⟨Z,HZ,J,a4,B,Y,R,K,L,X⟩:=qPs h op d a o i;obtain ⟨k,rfl⟩:=Int.eq_ofNat_of_zero_le hd.1
 have s:k<8:=by omega
 have a0:(k:Int)<8:=by omega
 obtain ⟨q,rfl⟩:=Int.eq_ofNat_of_zero_le ha.1
 have hq:q<8:=by omega
 have a2:(q:Int)<8:=by omega
 have T:Hid (M.regs.getD q 0=x):=O.out
 have h0:(op==0)=false:=by simp;omega
 have V:Hid (qAv op=true):=by show _=_;unfold qAv;simp;omega
 obtain ⟨c,HC⟩:∃ c,Hid (c=qFf op):=⟨_,rfl⟩;have a1:=h.st.lt;have P:b≠rb:=qCw h.st h.rg (by decide)
 have r:w.heap.size≠rb:=by have:=h.rg.lt;omega
 have E:Hid (∀ f:World,Bw Z f->f.cell? ⟨rb,q,none⟩=some (U8 x)/\f.cell? ⟨b,5,none⟩=some (.slice (some ⟨rb,0,none⟩) 8 8)/\f.cell? ⟨w.heap.size,0,none⟩=some (I4 op)/\f.cell? ⟨w.heap.size,1,none⟩=some (I4 k)/\f.cell? ⟨w.heap.size,2,none⟩=some (I4 q)/\f.cell? ⟨w.heap.size,3,none⟩=some (I4 o)/\f.cell? ⟨w.heap.size,4,none⟩=some (I4 i)):=fun f l=>by
  have hc:=(B.out.below l).cells (show 0<8 by omega);exact ⟨by have:=((B.out.below l).cells hq).2.2.2.1;rw [T.out] at this;exact this,hc.1,(l.cell (p:=⟨w.heap.size,0,none⟩) (show w.heap.size<Z.heap.size by omega)).trans Y,(l.cell (p:=⟨w.heap.size,1,none⟩) (show w.heap.size<Z.heap.size by omega)).trans R,(l.cell (p:=⟨w.heap.size,2,none⟩) (show w.heap.size<Z.heap.size by omega)).trans K,(l.cell (p:=⟨w.heap.size,3,none⟩) (show w.heap.size<Z.heap.size by omega)).trans L,(l.cell (p:=⟨w.heap.size,4,none⟩) (show w.heap.size<Z.heap.size by omega)).trans X⟩
 have S:Hid (∀ f:World,Bw Z f->f.cell? ⟨b,5,none⟩=some (.slice (some ⟨rb,0,none⟩) 8 8)/\f.cell? ⟨w.heap.size,0,none⟩=some (I4 op)/\f.cell? ⟨w.heap.size,1,none⟩=some (I4 k)/\f.cell? ⟨w.heap.size,2,none⟩=some (I4 q)/\f.cell? ⟨w.heap.size,3,none⟩=some (I4 o)/\f.cell? ⟨w.heap.size,4,none⟩=some (I4 i)):=fun f l=>(E.out f l).2
 have U:Hid (∀ (f:World) (v:Int),(f.cell? ⟨b,5,none⟩=some (.slice (some ⟨rb,0,none⟩) 8 8)/\f.cell? ⟨w.heap.size,0,none⟩=some (I4 op)/\f.cell? ⟨w.heap.size,1,none⟩=some (I4 k)/\f.cell? ⟨w.heap.size,2,none⟩=some (I4 q)/\f.cell? ⟨w.heap.size,3,none⟩=some (I4 o)/\f.cell? ⟨w.heap.size,4,none⟩=some (I4 i))->b<f.heap.size->w.heap.size<f.heap.size->(f.setCell ⟨rb,k,none⟩ (U8 v)).cell? ⟨b,5,none⟩=some (.slice (some ⟨rb,0,none⟩) 8 8)/\(f.setCell ⟨rb,k,none⟩ (U8 v)).cell? ⟨w.heap.size,0,none⟩=some (I4 op)/\(f.setCell ⟨rb,k,none⟩ (U8 v)).cell? ⟨w.heap.size,1,none⟩=some (I4 k)/\(f.setCell ⟨rb,k,none⟩ (U8 v)).cell? ⟨w.heap.size,2,none⟩=some (I4 q)/\(f.setCell ⟨rb,k,none⟩ (U8 v)).cell? ⟨w.heap.size,3,none⟩=some (I4 o)/\(f.setCell ⟨rb,k,none⟩ (U8 v)).cell? ⟨w.heap.size,4,none⟩=some (I4 i)):=fun f v s l F =>
  ⟨(qAm (qAc f rb k _) l P).trans s.1,(qAm (qAc f rb k _) F r).trans s.2.1,(qAm (qAc f rb k _) F r).trans s.2.2.1,(qAm (qAc f rb k _) F r).trans s.2.2.2.1,(qAm (qAc f rb k _) F r).trans s.2.2.2.2.1,(qAm (qAc f rb k _) F r).trans s.2.2.2.2.2⟩
 go_enter Tryz.func40,Tryz.ntmps40
 go_wp2_with (go_at_call 67;go_must (refine (qLk V _).mono ?_);rintro e w1 ⟨rfl,rfl⟩)
 rw [<- HZ.out];clear Y R K L X
 go_region_held3 (fun g=>g.cell? ⟨rb,q,none⟩=some (U8 x)/\g.cell? ⟨b,5,none⟩=some (.slice (some ⟨rb,0,none⟩) 8 8)/\g.cell? ⟨w.heap.size,0,none⟩=some (I4 op)/\g.cell? ⟨w.heap.size,1,none⟩=some (I4 k)/\g.cell? ⟨w.heap.size,2,none⟩=some (I4 q)/\g.cell? ⟨w.heap.size,3,none⟩=some (I4 o)/\g.cell? ⟨w.heap.size,4,none⟩=some (I4 i))
  (first|with_reducible exact I|exact E.out Z (Below.refl _ _))
  (first
   | (go_at_call 66;go_must (refine (qKe ⟨op,k,q,o,i⟩ Z.drew B.out.st B.out.c5 B.out.rg h.wr.1 l N).mono ?_);rintro e A ⟨rfl,G⟩;go_must (have z:Bw Z A:=qAg G;have I:=E.out A z;have u:Bw w A:=J.trans (z.mono J.size);have a3:=z.size;clear G))
   | (go_at_call 68;go_must (refine (yNn HN HC _ hx hy).mono ?_);rintro e w5 ⟨rfl,rfl⟩))
 have D:=S.out A z;have Q:=U.out A n D (by omega) (by omega);have y0:=((h.rg.below u h.rg.lt).cell (qDu (show k<M.regs.length by rw [h.wr.1];exact s)));have f0:=(h.rg.below u h.rg.lt).frozen k;clear I;go_wp2
 go_region_held3 (fun g=>g.cell? ⟨b,5,none⟩=some (.slice (some ⟨rb,0,none⟩) 8 8)/\g.cell? ⟨w.heap.size,0,none⟩=some (I4 op)/\g.cell? ⟨w.heap.size,1,none⟩=some (I4 k)/\g.cell? ⟨w.heap.size,2,none⟩=some (I4 q)/\g.cell? ⟨w.heap.size,3,none⟩=some (I4 o)/\g.cell? ⟨w.heap.size,4,none⟩=some (I4 i))
  (first|with_reducible exact D|exact Q|exact D)
  (fail)
 go_wp2;exact bodyPost_end (results_none rfl _ _ _) rfl ⟨rfl,qCb (qFx h u n).1,(qFx h u n).2.drew⟩
theorem yOi {b rb tb:Nat}{cs:List Value}{M:Mc}(d a l c:Int)(w:World)(h:Rdm w b rb tb cs M)(K:0<=d/\d<=7)(hi:0<=c/\c<=3) :
  Cl 40 #[.pointer (some ⟨b,0,none⟩),qAl 14 d a l c] w fun e f=>e=.returned (.tuple #[])/\w.grownBy f (some rb)/\Hp f rb 26 (qBx (M.regs.set d.toNat c)):=by
 obtain ⟨Z,L,s,Q,r,G,D,y,z,F⟩:=qPs h 14 d a l c;obtain ⟨k,rfl⟩:=Int.eq_ofNat_of_zero_le K.1
 have i:k<8:=by omega
 have O:(k:Int)<8:=by omega
 have P:=h.st.lt;have u:=r.out.st.lt;have A:b≠rb:=qCw h.st h.rg (by decide)
 have g:w.heap.size≠rb:=by have:=h.rg.lt;omega
 have n:Z.cell? ⟨b,5,none⟩=some (.slice (some ⟨rb,0,none⟩) 8 8)/\Z.cell? ⟨w.heap.size,0,none⟩=some (I4 14)/\Z.cell? ⟨w.heap.size,1,none⟩=some (I4 k)/\Z.cell? ⟨w.heap.size,2,none⟩=some (I4 a)/\Z.cell? ⟨w.heap.size,3,none⟩=some (I4 l)/\Z.cell? ⟨w.heap.size,4,none⟩=some (I4 c):=by
  have J:=r.out.cells (show 0<8 by omega);exact ⟨J.1,G,D,y,z,F⟩
 have B:(Z.setCell ⟨rb,k,none⟩ (U8 c)).cell? ⟨b,5,none⟩=some (.slice (some ⟨rb,0,none⟩) 8 8)/\(Z.setCell ⟨rb,k,none⟩ (U8 c)).cell? ⟨w.heap.size,0,none⟩=some (I4 14)/\(Z.setCell ⟨rb,k,none⟩ (U8 c)).cell? ⟨w.heap.size,1,none⟩=some (I4 k)/\(Z.setCell ⟨rb,k,none⟩ (U8 c)).cell? ⟨w.heap.size,2,none⟩=some (I4 a)/\(Z.setCell ⟨rb,k,none⟩ (U8 c)).cell? ⟨w.heap.size,3,none⟩=some (I4 l)/\(Z.setCell ⟨rb,k,none⟩ (U8 c)).cell? ⟨w.heap.size,4,none⟩=some (I4 c):=by
  have I:b<Z.heap.size:=u
  have o:w.heap.size<Z.heap.size:=by omega
  have i:=n;exact ⟨(qAm (qAc Z rb k _) I A).trans i.1,(qAm (qAc Z rb k _) o g).trans i.2.1,(qAm (qAc Z rb k _) o g).trans i.2.2.1,(qAm (qAc Z rb k _) o g).trans i.2.2.2.1,(qAm (qAc Z rb k _) o g).trans i.2.2.2.2.1,(qAm (qAc Z rb k _) o g).trans i.2.2.2.2.2⟩
 have T:=(r.out.rg.cell (qDu (show k<M.regs.length by rw [h.wr.1];exact i)));have S:=r.out.rg.frozen k
 have N:IntKind.u64.wrap c=c:=by rw [IntKind.wrap_u64];omega
 have E:Hid (qAv 14=false):=by show _=_;unfold qAv;simp
 go_enter Tryz.func40,Tryz.ntmps40
 go_wp2_with (go_at_call 67;go_must (refine (qLk E _).mono ?_);rintro e R ⟨rfl,rfl⟩)
 rw [<- L.out];clear G D y z F
 go_region_held3 (fun f=>f.cell? ⟨b,5,none⟩=some (.slice (some ⟨rb,0,none⟩) 8 8)/\f.cell? ⟨w.heap.size,0,none⟩=some (I4 14)/\f.cell? ⟨w.heap.size,1,none⟩=some (I4 k)/\f.cell? ⟨w.heap.size,2,none⟩=some (I4 a)/\f.cell? ⟨w.heap.size,3,none⟩=some (I4 l)/\f.cell? ⟨w.heap.size,4,none⟩=some (I4 c))
  (first|with_reducible exact n|exact B|exact n)
  (fail)
 go_wp2;exact bodyPost_end (results_none rfl _ _ _) rfl ⟨rfl,qCb (qFx h s c).1,(qFx h s c).2.drew⟩
theorem yBn {b rb tb:Nat}{cs:List Value}{M:Mc}(d a n:Int)(w:World)(h:Rdm w b rb tb cs M)(L:0<=d/\d<=7){c:Int}(F:cs[2]? = some (U8 c)) :
  Cl 40 #[.pointer (some ⟨b,0,none⟩),qAl 13 d a n 0] w fun e f=>e=.returned (.tuple #[])/\w.grownBy f (some rb)/\Hp f rb 26 (qBx (M.regs.set d.toNat c)):=by
 obtain ⟨Z,N,u,Q,l,J,E,z,B,I⟩:=qPs h 13 d a n 0;obtain ⟨k,rfl⟩:=Int.eq_ofNat_of_zero_le L.1
 have g:k<8:=by omega
 have O:(k:Int)<8:=by omega
 have P:=h.st.lt;have y:=l.out.st.lt;have s:b≠rb:=qCw h.st h.rg (by decide)
 have i:w.heap.size≠rb:=by have:=h.rg.lt;omega
 have o:Z.cell? ⟨b,2,none⟩=some (U8 c)/\Z.cell? ⟨b,5,none⟩=some (.slice (some ⟨rb,0,none⟩) 8 8)/\Z.cell? ⟨w.heap.size,0,none⟩=some (I4 13)/\Z.cell? ⟨w.heap.size,1,none⟩=some (I4 k)/\Z.cell? ⟨w.heap.size,2,none⟩=some (I4 a)/\Z.cell? ⟨w.heap.size,3,none⟩=some (I4 n)/\Z.cell? ⟨w.heap.size,4,none⟩=some (I4 0):=by
  have K:=l.out.cells (show 0<8 by omega);exact ⟨l.out.st.cell F,K.1,J,E,z,B,I⟩
 have D:(Z.setCell ⟨rb,k,none⟩ (U8 c)).cell? ⟨b,2,none⟩=some (U8 c)/\(Z.setCell ⟨rb,k,none⟩ (U8 c)).cell? ⟨b,5,none⟩=some (.slice (some ⟨rb,0,none⟩) 8 8)/\(Z.setCell ⟨rb,k,none⟩ (U8 c)).cell? ⟨w.heap.size,0,none⟩=some (I4 13)/\(Z.setCell ⟨rb,k,none⟩ (U8 c)).cell? ⟨w.heap.size,1,none⟩=some (I4 k)/\(Z.setCell ⟨rb,k,none⟩ (U8 c)).cell? ⟨w.heap.size,2,none⟩=some (I4 a)/\(Z.setCell ⟨rb,k,none⟩ (U8 c)).cell? ⟨w.heap.size,3,none⟩=some (I4 n)/\(Z.setCell ⟨rb,k,none⟩ (U8 c)).cell? ⟨w.heap.size,4,none⟩=some (I4 0):=by
  have A:b<Z.heap.size:=y
  have r:w.heap.size<Z.heap.size:=by omega
  have g:=o;exact ⟨(qAm (qAc Z rb k _) A s).trans g.1,(qAm (qAc Z rb k _) A s).trans g.2.1,(qAm (qAc Z rb k _) r i).trans g.2.2.1,(qAm (qAc Z rb k _) r i).trans g.2.2.2.1,(qAm (qAc Z rb k _) r i).trans g.2.2.2.2.1,(qAm (qAc Z rb k _) r i).trans g.2.2.2.2.2.1,(qAm (qAc Z rb k _) r i).trans g.2.2.2.2.2.2⟩
 have T:=(l.out.rg.cell (qDu (show k<M.regs.length by rw [h.wr.1];exact g)));have S:=l.out.rg.frozen k
 have G:Hid (qAv 13=false):=by show _=_;unfold qAv;simp
 go_enter Tryz.func40,Tryz.ntmps40
 go_wp2_with (go_at_call 67;go_must (refine (qLk G _).mono ?_);rintro e R ⟨rfl,rfl⟩)
 rw [<- N.out];clear J E z B I
 go_region_held3 (fun f=>f.cell? ⟨b,2,none⟩=some (U8 c)/\f.cell? ⟨b,5,none⟩=some (.slice (some ⟨rb,0,none⟩) 8 8)/\f.cell? ⟨w.heap.size,0,none⟩=some (I4 13)/\f.cell? ⟨w.heap.size,1,none⟩=some (I4 k)/\f.cell? ⟨w.heap.size,2,none⟩=some (I4 a)/\f.cell? ⟨w.heap.size,3,none⟩=some (I4 n)/\f.cell? ⟨w.heap.size,4,none⟩=some (I4 0))
  (first|with_reducible exact o|exact D|exact o)
  (fail)
 go_wp2;exact bodyPost_end (results_none rfl _ _ _) rfl ⟨rfl,qCb (qFx h u c).1,(qFx h u c).2.drew⟩
theorem yCg {b rb tb:Nat}{cs:List Value}{M:Mc}(d a o f:Int)(w:World)(h:Rdm w b rb tb cs M)(N:0<=d/\d<=7){c:Int}(G:cs[3]? = some (U8 c))(hi:f≠0) :
  Cl 40 #[.pointer (some ⟨b,0,none⟩),qAl 13 d a o f] w fun e g=>e=.returned (.tuple #[])/\w.grownBy g (some rb)/\Hp g rb 26 (qBx (M.regs.set d.toNat c)):=by
 obtain ⟨Z,O,y,S,n,K,F,A,D,J⟩:=qPs h 13 d a o f;obtain ⟨k,rfl⟩:=Int.eq_ofNat_of_zero_le N.1
 have i:k<8:=by omega
 have Q:(k:Int)<8:=by omega
 have R:=h.st.lt;have z:=n.out.st.lt;have u:b≠rb:=qCw h.st h.rg (by decide)
 have l:w.heap.size≠rb:=by have:=h.rg.lt;omega
 have r:Z.cell? ⟨b,3,none⟩=some (U8 c)/\Z.cell? ⟨b,5,none⟩=some (.slice (some ⟨rb,0,none⟩) 8 8)/\Z.cell? ⟨w.heap.size,0,none⟩=some (I4 13)/\Z.cell? ⟨w.heap.size,1,none⟩=some (I4 k)/\Z.cell? ⟨w.heap.size,2,none⟩=some (I4 a)/\Z.cell? ⟨w.heap.size,3,none⟩=some (I4 o)/\Z.cell? ⟨w.heap.size,4,none⟩=some (I4 f):=by
  have L:=n.out.cells (show 0<8 by omega);exact ⟨n.out.st.cell G,L.1,K,F,A,D,J⟩
 have E:(Z.setCell ⟨rb,k,none⟩ (U8 c)).cell? ⟨b,3,none⟩=some (U8 c)/\(Z.setCell ⟨rb,k,none⟩ (U8 c)).cell? ⟨b,5,none⟩=some (.slice (some ⟨rb,0,none⟩) 8 8)/\(Z.setCell ⟨rb,k,none⟩ (U8 c)).cell? ⟨w.heap.size,0,none⟩=some (I4 13)/\(Z.setCell ⟨rb,k,none⟩ (U8 c)).cell? ⟨w.heap.size,1,none⟩=some (I4 k)/\(Z.setCell ⟨rb,k,none⟩ (U8 c)).cell? ⟨w.heap.size,2,none⟩=some (I4 a)/\(Z.setCell ⟨rb,k,none⟩ (U8 c)).cell? ⟨w.heap.size,3,none⟩=some (I4 o)/\(Z.setCell ⟨rb,k,none⟩ (U8 c)).cell? ⟨w.heap.size,4,none⟩=some (I4 f):=by
  have B:b<Z.heap.size:=z
  have s:w.heap.size<Z.heap.size:=by omega
  have i:=r;exact ⟨(qAm (qAc Z rb k _) B u).trans i.1,(qAm (qAc Z rb k _) B u).trans i.2.1,(qAm (qAc Z rb k _) s l).trans i.2.2.1,(qAm (qAc Z rb k _) s l).trans i.2.2.2.1,(qAm (qAc Z rb k _) s l).trans i.2.2.2.2.1,(qAm (qAc Z rb k _) s l).trans i.2.2.2.2.2.1,(qAm (qAc Z rb k _) s l).trans i.2.2.2.2.2.2⟩
 have V:=(n.out.rg.cell (qDu (show k<M.regs.length by rw [h.wr.1];exact i)));have U:=n.out.rg.frozen k
 have P:(f==0)=false:=by simpa using hi
 have I:Hid (qAv 13=false):=by show _=_;unfold qAv;simp
 go_enter Tryz.func40,Tryz.ntmps40
 go_wp2_with (go_at_call 67;go_must (refine (qLk I _).mono ?_);rintro e T ⟨rfl,rfl⟩)
 rw [<- O.out];clear K F A D J
 go_region_held3 (fun g=>g.cell? ⟨b,3,none⟩=some (U8 c)/\g.cell? ⟨b,5,none⟩=some (.slice (some ⟨rb,0,none⟩) 8 8)/\g.cell? ⟨w.heap.size,0,none⟩=some (I4 13)/\g.cell? ⟨w.heap.size,1,none⟩=some (I4 k)/\g.cell? ⟨w.heap.size,2,none⟩=some (I4 a)/\g.cell? ⟨w.heap.size,3,none⟩=some (I4 o)/\g.cell? ⟨w.heap.size,4,none⟩=some (I4 f))
  (first|with_reducible exact r|exact E|exact r)
  (fail)
 go_wp2;exact bodyPost_end (results_none rfl _ _ _) rfl ⟨rfl,qCb (qFx h y c).1,(qFx h y c).2.drew⟩
theorem yIs {b rb tb:Nat}{cs:List Value}{M:Mc}(d a o i:Int)(w:World)(h:Rdm w b rb tb cs M)(hd:0<=d/\d<=7)(l:o=8∨(0<=o/\o<=7)){y n:Int}(HY:Hid (qCk ⟨11,d,a,o,i⟩ M.regs=y))(hy:0<=y/\y<=15){B c:Nat}{v:Value}{ks:List Ak}(P:cs[4]? = some (.pointer (some ⟨c,0,none⟩)))(R:Bk w B c v ks)(HN:Hid (qJt ks y=n)) :
  Cl 40 #[.pointer (some ⟨b,0,none⟩),qAl 11 d a o i] w fun e g=>e=.returned (.tuple #[])/\w.grownBy g (some rb)/\Hp g rb 26 (qBx (M.regs.set d.toNat n)):=by
 have a0:IntKind.i64.wrap y=y:=by rw [IntKind.wrap_i64];omega
 have O:Hid (inB y=true):=decide_eq_true (by omega);obtain ⟨Z,HZ,J,a4,A,x0,U,N,Q,x4⟩:=qPs h 11 d a o i;obtain ⟨k,rfl⟩:=Int.eq_ofNat_of_zero_le hd.1
 have u:k<8:=by omega
 have a1:(k:Int)<8:=by omega
 have Y:Hid (qAv 11=false):=by show _=_;unfold qAv;simp
 have a2:=h.st.lt;have S:b≠rb:=qCw h.st h.rg (by decide)
 have r:w.heap.size≠rb:=by have:=h.rg.lt;omega
 have E:Hid (∀ f:World,Bw Z f->f.cell? ⟨b,4,none⟩=some (.pointer (some ⟨c,0,none⟩))/\f.cell? ⟨b,5,none⟩=some (.slice (some ⟨rb,0,none⟩) 8 8)/\f.cell? ⟨w.heap.size,0,none⟩=some (I4 11)/\f.cell? ⟨w.heap.size,1,none⟩=some (I4 k)/\f.cell? ⟨w.heap.size,2,none⟩=some (I4 a)/\f.cell? ⟨w.heap.size,3,none⟩=some (I4 o)/\f.cell? ⟨w.heap.size,4,none⟩=some (I4 i)):=fun f l=>by
  have hc:=(A.out.below l).cells (show 0<8 by omega);exact ⟨(A.out.below l).st.cell P,hc.1,(l.cell (p:=⟨w.heap.size,0,none⟩) (show w.heap.size<Z.heap.size by omega)).trans x0,(l.cell (p:=⟨w.heap.size,1,none⟩) (show w.heap.size<Z.heap.size by omega)).trans U,(l.cell (p:=⟨w.heap.size,2,none⟩) (show w.heap.size<Z.heap.size by omega)).trans N,(l.cell (p:=⟨w.heap.size,3,none⟩) (show w.heap.size<Z.heap.size by omega)).trans Q,(l.cell (p:=⟨w.heap.size,4,none⟩) (show w.heap.size<Z.heap.size by omega)).trans x4⟩
 have V:Hid (∀ f:World,Bw Z f->f.cell? ⟨b,5,none⟩=some (.slice (some ⟨rb,0,none⟩) 8 8)/\f.cell? ⟨w.heap.size,0,none⟩=some (I4 11)/\f.cell? ⟨w.heap.size,1,none⟩=some (I4 k)/\f.cell? ⟨w.heap.size,2,none⟩=some (I4 a)/\f.cell? ⟨w.heap.size,3,none⟩=some (I4 o)/\f.cell? ⟨w.heap.size,4,none⟩=some (I4 i)):=fun f l=>(E.out f l).2
 have X:Hid (∀ (f:World) (v:Int),(f.cell? ⟨b,5,none⟩=some (.slice (some ⟨rb,0,none⟩) 8 8)/\f.cell? ⟨w.heap.size,0,none⟩=some (I4 11)/\f.cell? ⟨w.heap.size,1,none⟩=some (I4 k)/\f.cell? ⟨w.heap.size,2,none⟩=some (I4 a)/\f.cell? ⟨w.heap.size,3,none⟩=some (I4 o)/\f.cell? ⟨w.heap.size,4,none⟩=some (I4 i))->b<f.heap.size->w.heap.size<f.heap.size->(f.setCell ⟨rb,k,none⟩ (U8 v)).cell? ⟨b,5,none⟩=some (.slice (some ⟨rb,0,none⟩) 8 8)/\(f.setCell ⟨rb,k,none⟩ (U8 v)).cell? ⟨w.heap.size,0,none⟩=some (I4 11)/\(f.setCell ⟨rb,k,none⟩ (U8 v)).cell? ⟨w.heap.size,1,none⟩=some (I4 k)/\(f.setCell ⟨rb,k,none⟩ (U8 v)).cell? ⟨w.heap.size,2,none⟩=some (I4 a)/\(f.setCell ⟨rb,k,none⟩ (U8 v)).cell? ⟨w.heap.size,3,none⟩=some (I4 o)/\(f.setCell ⟨rb,k,none⟩ (U8 v)).cell? ⟨w.heap.size,4,none⟩=some (I4 i)):=fun f v u l F =>
  ⟨(qAm (qAc f rb k _) l S).trans u.1,(qAm (qAc f rb k _) F r).trans u.2.1,(qAm (qAc f rb k _) F r).trans u.2.2.1,(qAm (qAc f rb k _) F r).trans u.2.2.2.1,(qAm (qAc f rb k _) F r).trans u.2.2.2.2.1,(qAm (qAc f rb k _) F r).trans u.2.2.2.2.2⟩
 go_enter Tryz.func40,Tryz.ntmps40
 go_wp2_with (go_at_call 67;go_must (refine (qLk Y _).mono ?_);rintro e w1 ⟨rfl,rfl⟩)
 rw [<- HZ.out];clear x0 U N Q x4
 go_region_held3 (fun g=>g.cell? ⟨b,4,none⟩=some (.pointer (some ⟨c,0,none⟩))/\g.cell? ⟨b,5,none⟩=some (.slice (some ⟨rb,0,none⟩) 8 8)/\g.cell? ⟨w.heap.size,0,none⟩=some (I4 11)/\g.cell? ⟨w.heap.size,1,none⟩=some (I4 k)/\g.cell? ⟨w.heap.size,2,none⟩=some (I4 a)/\g.cell? ⟨w.heap.size,3,none⟩=some (I4 o)/\g.cell? ⟨w.heap.size,4,none⟩=some (I4 i))
  (first|with_reducible exact I|exact E.out Z (Below.refl _ _))
  (first
   | (go_at_call 66;go_must (refine (qKe ⟨11,k,a,o,i⟩ Z.drew A.out.st A.out.c5 A.out.rg h.wr.1 l HY).mono ?_);rintro e K ⟨rfl,G⟩;go_must (have z:Bw Z K:=qAg G;have I:=E.out K z;have s:Bw w K:=J.trans (z.mono J.size);have a3:=z.size;have L:=R.below s;clear G))
   | (go_at_call 69;go_must (refine (yUa y O _ L HN).mono ?_);rintro e w5 ⟨rfl,rfl⟩))
 have D:=V.out _ z;have T:=X.out _ n D (by omega) (by omega);have y0:=((h.rg.below s h.rg.lt).cell (qDu (show k<M.regs.length by rw [h.wr.1];exact u)));have f0:=(h.rg.below s h.rg.lt).frozen k;clear I;go_wp2
 go_region_held3 (fun g=>g.cell? ⟨b,5,none⟩=some (.slice (some ⟨rb,0,none⟩) 8 8)/\g.cell? ⟨w.heap.size,0,none⟩=some (I4 11)/\g.cell? ⟨w.heap.size,1,none⟩=some (I4 k)/\g.cell? ⟨w.heap.size,2,none⟩=some (I4 a)/\g.cell? ⟨w.heap.size,3,none⟩=some (I4 o)/\g.cell? ⟨w.heap.size,4,none⟩=some (I4 i))
  (first|with_reducible exact D|exact T|exact D)
  (fail)
 go_wp2;exact bodyPost_end (results_none rfl _ _ _) rfl ⟨rfl,qCb (qFx h s n).1,(qFx h s n).2.drew⟩
theorem qBv {w:World}{B c x:Nat}{v:Value}{ks:List Ak}{t:TypeId}{cs:List Value}(a:Bk w B c v ks)(b:Hp w x t cs)(d:t≠64)(f:t≠98):¬ bkS c v x:=by
 rintro (e|e)
 ·subst e;exact qCw b a.hp d rfl
 ·exact qQe a.row b (Ne.symm f) e
theorem yTw {w:World}{B c:Nat}{v:Value}{ks:List Ak}(a:Bk w B c v ks):¬ bkS c v w.heap.size:=by
 rintro (e|e)
 ·have:=a.hp.lt;omega
 ·have:=(a.row.lt _ e).2;omega
theorem Chg.cellE {w a:World}{S:Nat->Prop}(h:Chg w a S){x j:Nat}(c:x<w.heap.size)(b:¬ S x):a.cell? ⟨x,j,none⟩=w.cell? ⟨x,j,none⟩:=World.cell?_of_block (h.block x c b)
theorem yEc {b rb tb:Nat}{cs:List Value}{M:Mc}(d a o n:Int)(w:World)(h:Rdm w b rb tb cs M)(ha:0<=a/\a<=7)(s:o=8∨(0<=o/\o<=7)){x y:Int}(HX:Hid (M.regs.getD a.toNat 0=x))(HY:Hid (qCk ⟨12,d,a,o,n⟩ M.regs=y))(hy:0<=y/\y<=15){B c:Nat}{v:Value}{ks:List Ak}(R:cs[4]? = some (.pointer (some ⟨c,0,none⟩)))(z:Bk w B c v ks)(hB:B<=w.heap.size)(T:ks.length<=100000) :
  Cl 40 #[.pointer (some ⟨b,0,none⟩),qAl 12 d a o n] w fun e l=>e=.returned (.tuple #[])/\∃ v',Bk l B c v' (ks++[⟨1,y,x⟩])/\Chg w l (bkS c v)/\RowNew w v v':=by
 have a1:IntKind.i64.wrap y=y:=by rw [IntKind.wrap_i64];omega
 have Q:Hid (inB y=true):=decide_eq_true (by omega);obtain ⟨Z,HZ,J,a6,A,x0,V,P,S,x4⟩:=qPs h 12 d a o n;obtain ⟨q,rfl⟩:=Int.eq_ofNat_of_zero_le ha.1
 have hq:q<8:=by omega
 have a3:(q:Int)<8:=by omega
 have X:Hid (M.regs.getD q 0=x):=HX.out
 have a0:Hid (qAv 12=false):=by show _=_;unfold qAv;simp
 have a2:=h.st.lt;have a4:=h.rg.lt
 have I:Hid (∀ r:World,Bw Z r->r.cell? ⟨b,4,none⟩=some (.pointer (some ⟨c,0,none⟩))/\r.cell? ⟨rb,q,none⟩=some (U8 x)/\r.cell? ⟨b,5,none⟩=some (.slice (some ⟨rb,0,none⟩) 8 8)/\r.cell? ⟨w.heap.size,0,none⟩=some (I4 12)/\r.cell? ⟨w.heap.size,1,none⟩=some (I4 d)/\r.cell? ⟨w.heap.size,2,none⟩=some (I4 q)/\r.cell? ⟨w.heap.size,3,none⟩=some (I4 o)/\r.cell? ⟨w.heap.size,4,none⟩=some (I4 n)):=fun r s=>by
  have K:=(A.out.below s).cells hq;rw [X.out] at K;exact ⟨(A.out.below s).st.cell R,K.2.2.2.1,K.1,(s.cell (p:=⟨w.heap.size,0,none⟩) (show w.heap.size<Z.heap.size by omega)).trans x0,(s.cell (p:=⟨w.heap.size,1,none⟩) (show w.heap.size<Z.heap.size by omega)).trans V,(s.cell (p:=⟨w.heap.size,2,none⟩) (show w.heap.size<Z.heap.size by omega)).trans P,(s.cell (p:=⟨w.heap.size,3,none⟩) (show w.heap.size<Z.heap.size by omega)).trans S,(s.cell (p:=⟨w.heap.size,4,none⟩) (show w.heap.size<Z.heap.size by omega)).trans x4⟩
 have U:¬ bkS c v b:=qBv z h.st (by decide) (by decide);have nr:¬ bkS c v rb:=qBv z h.rg (by decide) (by decide);have D:¬ bkS c v w.heap.size:=yTw z;go_enter Tryz.func40,Tryz.ntmps40
 go_wp2_with (go_at_call 67;go_must (refine (qLk a0 _).mono ?_);rintro e w1 ⟨rfl,rfl⟩)
 rw [<- HZ.out];clear x0 V P S x4
 go_region_held3 (fun l=>l.cell? ⟨b,4,none⟩=some (.pointer (some ⟨c,0,none⟩))/\l.cell? ⟨rb,q,none⟩=some (U8 x)/\l.cell? ⟨b,5,none⟩=some (.slice (some ⟨rb,0,none⟩) 8 8)/\l.cell? ⟨w.heap.size,0,none⟩=some (I4 12)/\l.cell? ⟨w.heap.size,1,none⟩=some (I4 d)/\l.cell? ⟨w.heap.size,2,none⟩=some (I4 q)/\l.cell? ⟨w.heap.size,3,none⟩=some (I4 o)/\l.cell? ⟨w.heap.size,4,none⟩=some (I4 n))
  (first|with_reducible exact Y|with_reducible exact g|exact I.out Z (Below.refl _ _))
  (first
   | (go_at_call 66;go_must (refine (qKe ⟨12,d,q,o,n⟩ Z.drew A.out.st A.out.c5 A.out.rg h.wr.1 s HY).mono ?_);rintro e i ⟨rfl,E⟩;go_must (have F:Bw Z i:=qAg E;have g:=I.out i F;have G:Bw w i:=J.trans (F.mono J.size);have a5:=F.size;have O:=z.below G;clear E))
   | (go_at_call 14;go_must (refine (qXs y x Q i O (by omega) T).mono ?_);rintro e u ⟨rfl,v5,N,f,L⟩;go_must (have Y:u.cell? ⟨b,4,none⟩=some (.pointer (some ⟨c,0,none⟩))/\u.cell? ⟨rb,q,none⟩=some (U8 x)/\u.cell? ⟨b,5,none⟩=some (.slice (some ⟨rb,0,none⟩) 8 8)/\u.cell? ⟨w.heap.size,0,none⟩=some (I4 12)/\u.cell? ⟨w.heap.size,1,none⟩=some (I4 d)/\u.cell? ⟨w.heap.size,2,none⟩=some (I4 q)/\u.cell? ⟨w.heap.size,3,none⟩=some (I4 o)/\u.cell? ⟨w.heap.size,4,none⟩=some (I4 n):=⟨(f.cellE (show b<i.heap.size by omega) U).trans g.1,(f.cellE (show rb<i.heap.size by omega) nr).trans g.2.1,(f.cellE (show b<i.heap.size by omega) U).trans g.2.2.1,(f.cellE (show w.heap.size<i.heap.size by omega) D).trans g.2.2.2.1,(f.cellE (show w.heap.size<i.heap.size by omega) D).trans g.2.2.2.2.1,(f.cellE (show w.heap.size<i.heap.size by omega) D).trans g.2.2.2.2.2.1,(f.cellE (show w.heap.size<i.heap.size by omega) D).trans g.2.2.2.2.2.2.1,(f.cellE (show w.heap.size<i.heap.size by omega) D).trans g.2.2.2.2.2.2.2⟩)))
 go_wp2;refine bodyPost_end (results_none rfl _ _ _) rfl ⟨rfl,v5,N,(Chg.of_below G).trans f (fun k _ hk=>hk),?_⟩
 rcases L with e|⟨k,e,hk⟩
 ·exact .inl e
 ·exact .inr ⟨k,e,by omega⟩
section
variable {b sb:Nat} {vm vc:Value} {ev:Int×Int} {M:Mc}
theorem yPk (d a bb imm:Int)(w:World)(h:Ma w b sb vm vc ev M)(hd:0<=d/\d<=63)(X:0<=a/\a<=7)(hi:1<=imm/\imm<=255)(O:0<=M.turn M.pc/\M.turn M.pc<=255){p:Int}(z:Hid ((if qCz ⟨20,d,a,bb,imm⟩ M=true then (M.pc:Int)-d else (M.pc:Int)+1)=p)) :
  Cl 60 #[.pointer (some ⟨b,0,none⟩),qAl 20 d a bb imm] w fun e r=>e=.returned (I4 p)/\w.grownBy r (some b)/\Ma r b sb vm vc ev { M with turn:=qCg ⟨20,d,a,bb,imm⟩ M }:=by
 obtain ⟨Z,J,P,aa,A,x0,U,x2,x3,x4⟩:=qOi h 20 d a bb imm;obtain ⟨k,rfl⟩:=Int.eq_ofNat_of_zero_le X.1
 have Q:k<8:=by omega
 have a6:(k:Int)<8:=by omega
 have a5:(M.pc:Int)<64:=by have:=h.pc;omega
 have V:(M.pc:Int)<=100:=by omega
 obtain ⟨a2,a9⟩:=hd;have a8:=h.hp.lt;have R:=A.out.hp.lt
 have N:w.heap.size≠b:=by omega
 have B:=A.out.last.1;have c3:=A.out.reg Q;have c4:=A.out.turn;obtain ⟨x,F⟩:∃ x,Hid (M.regs.getD k 0=x):=⟨_,rfl⟩;obtain ⟨t,K⟩:∃ t,Hid (M.turn M.pc=t):=⟨_,rfl⟩;rw [F.out] at c3;rw [K.out] at c4 O;obtain ⟨a3,a7⟩:=O
 have hx:0<=x/\x<=18446744073709551615:=by rw [<- F.out];exact h.wr.2 k Q
 have f0:=A.out.hp.frozen (13+M.pc)
 have I:Hid (qCz ⟨20,d,k,bb,imm⟩ M=(decide (0<x)&&decide (t<imm))):=by
  show _=_
  unfold qCz;rw [if_neg (by simp),if_pos rfl]
  show decide (0<M.regs.getD k 0/\M.turn M.pc<imm)=_
  simp only [F.out,K.out,Bool.decide_and]
 have G:Hid (qCg ⟨20,d,k,bb,imm⟩ M=fun u:Int=>if u=M.pc then (if qCz ⟨20,d,k,bb,imm⟩ M=true then t+1 else 0) else M.turn u):=by
  show _=_
  unfold qCg;rw [if_pos rfl,K.out]
 have s:Hid (∀ v:Int,Ma (Z.setCell ⟨b,13+M.pc,none⟩ (I4 v)) b sb vm vc ev { M with turn:=fun u:Int=>if u=M.pc then v else M.turn u }):=fun v=>A.out.setT v
 have l:Hid (∀ v:Int,w.grownBy (Z.setCell ⟨b,13+M.pc,none⟩ (I4 v)) (some b)):=fun v=>qCd (qBz P _) (qAc Z b (13+M.pc) _)
 have L:Hid (IntKind.i64.wrap (t+1)=t+1):=by show _=_;rw [IntKind.wrap_i64];omega
 have c:Hid (∀ v:Int,(Z.setCell ⟨b,13+M.pc,none⟩ (I4 v)).cell? ⟨b,77,none⟩=some (I4 M.pc)):=fun v=>(s.out v).last.1
 have y:Hid (∀ v:Int,(Z.setCell ⟨b,13+M.pc,none⟩ (I4 v)).cell? ⟨w.heap.size,1,none⟩=some (I4 d)):=fun v=>(qAj (qAc Z b (13+M.pc) (I4 v)) (by omega) N).trans U
 by_cases hx0:0<x
 ·have E:¬ x=0:=by omega
  have a0:(x==0)=false:=by simpa using E
  have a4:(x != 0)=true:=by simpa using E
  by_cases hti:t<imm
  ·have i:Hid (qCz ⟨20,d,k,bb,imm⟩ M=true):=by show _=_;rw [I.out,decide_eq_true hx0,decide_eq_true hti];rfl
   rw [i.out,if_pos rfl] at z;rw [G.out,i.out,<- z.out];go_enter Tryz.func60,Tryz.ntmps60;go_wp2;rw [<- J.out];go_region;go_wp2;refine wp_region_held_drew (S:=fun r=>r.cell? ⟨b,77,none⟩=some (I4 M.pc)) (by kernel_rfl) B (fun hHeld=>?_);refine qBb [0,1,2,3,4,5,6,7,10,11] ?_
   repeat (refine tkO (v:=?_) rfl ?_ ?_;rotate_left;(intro wy hSw;(try dsimp only at hSw);go_simp;(first|done|with_reducible rfl));try simp only [Act.put,p1q,p2q,p3q,p4q,p5q,p6q])
   refine qAs ?_;refine qAr 8 (by kernel_rfl) rfl (by rfl) (fun KK hK=>?_);go_simp;refine hK.out _ _ B (fun hHeld=>?_);clear hK KK
   try simp only [Act.put,p1q,p2q,p3q,p4q,p5q,p6q]
   refine qBb [9,12] ?_
   repeat (refine tkO (v:=?_) rfl ?_ ?_;rotate_left;(intro wy hSw;(try dsimp only at hSw);go_simp;(first|done|with_reducible rfl));try simp only [Act.put,p1q,p2q,p3q,p4q,p5q,p6q])
   refine qAs ?_;refine qAr 13 (by kernel_rfl) rfl (by rfl) (fun KK hK=>?_);go_simp;rw [L.out];refine hK.out _ _ (c.out (t+1)) (fun hHeld=>?_);clear hK KK
   try simp only [Act.put,p1q,p2q,p3q,p4q,p5q,p6q]
   refine wpAnyH_done (by kernel_rfl) ?_ _;have D:=c.out (t+1);have T:=y.out (t+1);have f:=qAa (s.out (t+1));have g:=qAa (l.out (t+1));obtain ⟨Y,n⟩:∃ Y,Hid (Z.setCell ⟨b,13+M.pc,none⟩ (I4 (t+1))=Y):=⟨_,rfl⟩;rw [n.out] at D T f g
   try rw [n.out]
   clear s l c y;go_wp2;go_region;go_wp2;go_ret;exact ⟨rfl,qCb (qCb (qCb g.out)),f.out.drew.drew.drew⟩
  ·have a1:¬ t<imm:=hti
   have i:Hid (qCz ⟨20,d,k,bb,imm⟩ M=false):=by show _=_;rw [I.out,decide_eq_false hti,Bool.and_false]
   rw [i.out,if_neg (by simp)] at z;rw [G.out,i.out,<- z.out];have o:=c.out 0;go_enter Tryz.func60,Tryz.ntmps60;go_wp2;rw [<- J.out];go_region;go_wp2
   go_region_held3 (fun r=>r.cell? ⟨b,77,none⟩=some (I4 M.pc))
    (first|with_reducible exact B|exact o|exact B)
    (fail)
   have D:=c.out 0;have f:=qAa (s.out 0);have g:=qAa (l.out 0);obtain ⟨Y,n⟩:∃ Y,Hid (Z.setCell ⟨b,13+M.pc,none⟩ (I4 0)=Y):=⟨_,rfl⟩;rw [n.out] at D f g
   try rw [n.out]
   clear s l c y o;go_wp2;go_ret;exact ⟨rfl,qCb (qCb g.out),f.out.drew.drew⟩
 ·obtain rfl:x=0:=by omega
  have i:Hid (qCz ⟨20,d,k,bb,imm⟩ M=false):=by show _=_;rw [I.out,decide_eq_false hx0,Bool.false_and]
  rw [i.out,if_neg (by simp)] at z;rw [G.out,i.out,<- z.out];have o:=c.out 0;go_enter Tryz.func60,Tryz.ntmps60;go_wp2;rw [<- J.out];go_region;go_wp2
  go_region_held3 (fun r=>r.cell? ⟨b,77,none⟩=some (I4 M.pc))
   (first|with_reducible exact B|exact o|exact B)
   (fail)
  have D:=c.out 0;have f:=qAa (s.out 0);have g:=qAa (l.out 0);obtain ⟨Y,n⟩:∃ Y,Hid (Z.setCell ⟨b,13+M.pc,none⟩ (I4 0)=Y):=⟨_,rfl⟩;rw [n.out] at D f g
  try rw [n.out]
  clear s l c y o;go_wp2;go_ret;exact ⟨rfl,qCb (qCb g.out),f.out.drew.drew⟩
theorem yKx (d a f c:Int)(w:World)(h:Ma w b sb vm vc ev M)(n:0<=d/\d<=63) :
  Cl 36 #[.pointer (some ⟨b,0,none⟩),qAl 15 d a f c] w fun e k=>e=.returned (I4 ((M.pc:Int)+1+d))/\Bw w k:=by
 obtain ⟨Z,o,g,z,i,G,E,A,B,F⟩:=qOi h 15 d a f c
 have s:(M.pc:Int)<64:=by have:=h.pc;omega
 have l:(M.pc:Int)<=100:=by omega
 obtain ⟨r,y⟩:=n;have D:=i.out.last.1;have u:=h.hp.lt;go_enter Tryz.func36,Tryz.ntmps36;go_wp2;rw [<- o.out];go_region;go_wp2;go_ret;exact ⟨rfl,qAn g⟩
theorem yJk (d a bb imm:Int)(w:World)(h:Ma w b sb vm vc ev M)(r:0<=d/\d<=63)(o:0<=a/\a<=7)(hi:1<=imm/\imm<=255)(n:0<=M.turn M.pc/\M.turn M.pc<=255){p:Int}(k:Hid ((if qCz ⟨20,d,a,bb,imm⟩ M=true then (M.pc:Int)-d else (M.pc:Int)+1)=p)) :
  Cl 36 #[.pointer (some ⟨b,0,none⟩),qAl 20 d a bb imm] w fun e f=>e=.returned (I4 p)/\w.grownBy f (some b)/\Ma f b sb vm vc ev { M with turn:=qCg ⟨20,d,a,bb,imm⟩ M }:=by
 obtain ⟨Z,s,g,y,l,F,D,z,A,E⟩:=qOi h 20 d a bb imm;have u:=h.hp.lt;go_enter Tryz.func36,Tryz.ntmps36
 go_wp2_with (go_at_call 60;rw [<- s.out];go_must (refine (yPk d a bb imm Z l.out r o hi n k).mono ?_);rintro e B ⟨rfl,i,c⟩)
 go_ret;exact ⟨rfl,qCd (qBz g _) i,c⟩
theorem qVg (op d a i g:Int)(w:World)(h:Ma w b sb vm vc ev M)(a5:(op==15)=false)(a2:(op==20)=false)(ha:0<=a/\a<=7)(l:i=8∨(0<=i/\i<=7)){r:Bool}(S:Hid (qCo op (qBj M.regs a) (qCk ⟨op,d,a,i,g⟩ M.regs)=r))(X:r=true->0<=d/\d<=63){p:Int}(G:Hid ((if r=true then (M.pc:Int)+1+d else (M.pc:Int)+1)=p)) :
  Cl 36 #[.pointer (some ⟨b,0,none⟩),qAl op d a i g] w fun e f=>e=.returned (I4 p)/\Bw w f:=by
 obtain ⟨Z,Y,B,a8,F,P,N,J,K,O⟩:=qOi h op d a i g;obtain ⟨k,rfl⟩:=Int.eq_ofNat_of_zero_le ha.1
 have hk:k<8:=by omega
 have a4:(k:Int)<8:=by omega
 have a3:(M.pc:Int)<64:=by have:=h.pc;omega
 have a0:(M.pc:Int)<=100:=by omega
 obtain ⟨x,L⟩:∃ x,Hid (M.regs.getD k 0=x):=⟨_,rfl⟩;obtain ⟨y,I⟩:∃ y,Hid (qCk ⟨op,d,k,i,g⟩ M.regs=y):=⟨_,rfl⟩
 have V:0<=x/\x<=18446744073709551615:=by rw [<- L.out];exact h.wr.2 k hk
 have Q:0<=y/\y<=18446744073709551615:=by rw [<- I.out];exact qIu h.wr l
 have U:Hid (r=qCo op x y):=by
  show _=_
  rw [<- S.out,<- L.out,<- I.out]
  rfl
 obtain ⟨c,R⟩:∃ c,Hid (c=qFj op):=⟨_,rfl⟩;have a6:=h.hp.lt;have E:=F.out.hp.lt
 have A:Hid (∀ o:World,Bw Z o->o.cell? ⟨b,5+k,none⟩=some (U8 x)/\o.cell? ⟨b,77,none⟩=some (I4 M.pc)/\o.cell? ⟨w.heap.size,0,none⟩=some (I4 op)/\o.cell? ⟨w.heap.size,1,none⟩=some (I4 d)/\o.cell? ⟨w.heap.size,2,none⟩=some (I4 k)/\o.cell? ⟨w.heap.size,3,none⟩=some (I4 i)/\o.cell? ⟨w.heap.size,4,none⟩=some (I4 g)):=fun o l=>by
  have T:=(F.out.below l E).reg hk;rw [L.out] at T;exact ⟨T,(F.out.below l E).last.1,(l.cell (p:=⟨w.heap.size,0,none⟩) (show w.heap.size<Z.heap.size by omega)).trans P,(l.cell (p:=⟨w.heap.size,1,none⟩) (show w.heap.size<Z.heap.size by omega)).trans N,(l.cell (p:=⟨w.heap.size,2,none⟩) (show w.heap.size<Z.heap.size by omega)).trans J,(l.cell (p:=⟨w.heap.size,3,none⟩) (show w.heap.size<Z.heap.size by omega)).trans K,(l.cell (p:=⟨w.heap.size,4,none⟩) (show w.heap.size<Z.heap.size by omega)).trans O⟩
 clear S
 cases r with
 | true =>
  obtain ⟨a1,a7⟩:=X rfl;rw [if_pos rfl] at G;rw [<- G.out];go_enter Tryz.func36,Tryz.ntmps36;go_wp2;rw [<- Y.out];clear P N J K O
  go_region_held3 (fun f=>f.cell? ⟨b,5+k,none⟩=some (U8 x)/\f.cell? ⟨b,77,none⟩=some (I4 M.pc)/\f.cell? ⟨w.heap.size,0,none⟩=some (I4 op)/\f.cell? ⟨w.heap.size,1,none⟩=some (I4 d)/\f.cell? ⟨w.heap.size,2,none⟩=some (I4 k)/\f.cell? ⟨w.heap.size,3,none⟩=some (I4 i)/\f.cell? ⟨w.heap.size,4,none⟩=some (I4 g))
   (first|with_reducible exact s|exact A.out Z (Below.refl _ _))
   (first
    | (go_at_call 56;go_must (refine (qHv ⟨op,d,k,i,g⟩ Z.drew F.out.drew l I).mono ?_);rintro e z ⟨rfl,n⟩;go_must (have u:Bw Z z:=qAg n;have s:=A.out z u;have D:Bw w z:=B.trans (u.mono B.size);clear n))
    | (go_at_call 61;go_must (refine (qIr U R _ V Q).mono ?_);rintro e w5 ⟨rfl,rfl⟩))
  obtain ⟨s0,s1,s2,s3,s4,s5,s6⟩:=s;go_wp2;go_region;go_wp2;go_ret;exact ⟨rfl,qAn D⟩
 | false =>
  rw [if_neg (by simp)] at G;rw [<- G.out];clear X;go_enter Tryz.func36,Tryz.ntmps36;go_wp2;rw [<- Y.out];clear P N J K O
  go_region_held3 (fun f=>f.cell? ⟨b,5+k,none⟩=some (U8 x)/\f.cell? ⟨b,77,none⟩=some (I4 M.pc)/\f.cell? ⟨w.heap.size,0,none⟩=some (I4 op)/\f.cell? ⟨w.heap.size,1,none⟩=some (I4 d)/\f.cell? ⟨w.heap.size,2,none⟩=some (I4 k)/\f.cell? ⟨w.heap.size,3,none⟩=some (I4 i)/\f.cell? ⟨w.heap.size,4,none⟩=some (I4 g))
   (first|with_reducible exact s|exact A.out Z (Below.refl _ _))
   (first
    | (go_at_call 56;go_must (refine (qHv ⟨op,d,k,i,g⟩ Z.drew F.out.drew l I).mono ?_);rintro e z ⟨rfl,n⟩;go_must (have u:Bw Z z:=qAg n;have s:=A.out z u;have D:Bw w z:=B.trans (u.mono B.size);clear n))
    | (go_at_call 61;go_must (refine (qIr U R _ V Q).mono ?_);rintro e w5 ⟨rfl,rfl⟩))
  obtain ⟨s0,s1,s2,s3,s4,s5,s6⟩:=s;go_wp2;go_ret;exact ⟨rfl,D⟩
end
abbrev qDf (im io ik iv:Int):List Value:=[.int .i64 im,.int .i64 io,.int .u64 ik,.int .u64 iv]
abbrev yAf (im io ik iv:Int):Value:=.agg #[.int .i64 im,.int .i64 io,.int .u64 ik,.int .u64 iv]
theorem yVv {w:World}{n:Nat}{b a d c:Int}(h:Hp w n 78 (qDf b a d c)):(loadVar 78 ⟨n,0,none⟩).run Tryz.prog w=.ok (yAf b a d c) w:=by
 refine run_loadVar_mid w n 0 78 (qDf b a d c) _ ?_ Tryz.underlying78 rfl (by kernel_rfl);intro j x f;rw [Nat.zero_add];exact h.cell f
theorem yAh {i:Func}{p:Tmp}{d:World}{n:Nat}{a:Array Value}{c b g f:Int}{Q:Ending->World->Prop}(l:i.results=#[.cell p 78])(o:a.getD p undef=.pointer (some ⟨n,0,none⟩))(r:Hp d n 78 (qDf c b g f))(k:Q (.returned (yAf c b g f)) d):bodyPost Tryz.prog i Q .ret ⟨a,[]⟩ d:=by
 refine bodyPost_ret (v:=yAf c b g f) ?_ rfl k;rw [qAw l,o];simp only [asAddr,Sem.run_pure,Result.andThen];rw [yVv r]
theorem xBz (h:Int)(b:0<=h/\h<=4)(w:World):Cl 91 #[I4 h] w fun e a=>e=.returned (.tuple #[I4 h,.bool true])/\w=a:=by
 obtain rfl|rfl|rfl|rfl|rfl:h=0∨h=1∨h=2∨h=3∨h=4:=by omega
 all_goals go_enter Tryz.func91,Tryz.ntmps91
 all_goals go_wp2
 all_goals go_ret2
 all_goals exact ⟨rfl,rfl⟩
section
variable {b sb:Nat} {vc:Value} {ev:Int×Int} {M:Mc}
theorem yLt (a:Int)(hi:0<=a/\a<=4){mb mo mcap nm j:Nat}(w:World)(h:Ma w b sb (.slice (some ⟨mb,mo,none⟩) nm mcap) vc ev M)(hj:j<nm)(Z:mb<w.heap.size)(a4:nm<=mcap){g:Int}(B:w.cell? ⟨mb,mo+j,none⟩=some (I4 g)){y z q:Int}(H1:Hid (qBj M.regs 1=(j:Int)))(H2:Hid (qBj M.regs 2=y))(H3:Hid (qBj M.regs 3=z))(D:Hid ((if a=2∨a=4 then z else 0)=q)) :
  Cl 55 #[.pointer (some ⟨b,0,none⟩),I4 a] w fun e r=>e=.returned (yAf g a y q)/\Bw w r:=by
 have l:=h.hp.lt
 have a8:(j:Int)<nm:=by omega
 obtain ⟨V,HV,G,F,L,a7⟩:∃ V,Hid (V=w.alloc (.cells #[I4 0,I4 0,U8 0,U8 0] 78))/\Bw w V/\V.heap.size=w.heap.size+1/\Hid (Hp V w.heap.size 78 (qDf 0 0 0 0))/\Hid (Ma V b sb (.slice (some ⟨mb,mo,none⟩) nm mcap) vc ev M) :=
  ⟨_,rfl,by go_grown,by simp,Hp.new w _ _,h.below ((Below.refl _ _).alloc (Nat.le_refl _) _) l⟩
 have I:Hid (∀ i:World,Bw w i->i.cell? ⟨b,2,none⟩=some (.slice (some ⟨mb,mo,none⟩) nm mcap)/\i.cell? ⟨b,6,none⟩=some (U8 j)/\i.cell? ⟨b,7,none⟩=some (U8 y)/\i.cell? ⟨mb,mo+j,none⟩=some (I4 g)):=fun i o=>by
  have X:=(h.below o l).reg (show 1<8 by omega);have Q:=(h.below o l).reg (show 2<8 by omega);rw [show M.regs.getD 1 0=(j:Int) from H1.out] at X;rw [show M.regs.getD 2 0=y from H2.out] at Q;exact ⟨(h.below o l).low.2.2.1,X,Q,(o.cell (p:=⟨mb,mo+j,none⟩) Z).trans B⟩
 have R:Hid (∀ i:World,Bw w i->i.cell? ⟨b,8,none⟩=some (U8 z)):=fun i o=>by
  have r3:=(h.below o l).reg (show 3<8 by omega);rw [show M.regs.getD 3 0=z from H3.out] at r3;exact r3
 go_enter Tryz.func55,Tryz.ntmps55
 go_wp2_with (go_at_call 91;rw [<- HV.out];go_must (refine (xBz a hi _).mono ?_);rintro e w1 ⟨rfl,rfl⟩)
 refine wp_region_held_drew (S:=fun r=>r.cell? ⟨b,2,none⟩=some (.slice (some ⟨mb,mo,none⟩) nm mcap)/\r.cell? ⟨b,6,none⟩=some (U8 j)/\r.cell? ⟨b,7,none⟩=some (U8 y)/\r.cell? ⟨mb,mo+j,none⟩=some (I4 g)) (by kernel_rfl) (I.out _ (qAn G)) (fun hHeld=>?_);refine qBb [0,1,2,3,4,5,6,7,8,9,10,11,12,13,14,15,16,17] ?_
 repeat (refine tkO (v:=?_) rfl ?_ ?_;rotate_left;(intro wy hSw;(try dsimp only at hSw);go_simp;(first|done|with_reducible rfl));try simp only [Act.put,p1q,p2q,p3q,p4q,p5q,p6q])
 refine qAs ?_;refine qAr 18 (by kernel_rfl) rfl (by rfl) (fun KK hK=>?_);go_simp;obtain ⟨Y,HY,A,O,f,a5⟩:∃ Y,Hid (Y=V.alloc (.cells #[I4 0,I4 0,U8 0,U8 0] 78))/\Bw w Y/\Hid (Hp Y w.heap.size 78 (qDf 0 0 0 0))/\Hid (Hp Y (w.heap.size+1) 78 (qDf 0 0 0 0))/\Y.heap.size=w.heap.size+2 :=
  ⟨_,rfl,G.alloc (by omega) _,L.out.alloc _,by have:=Hp.new V (qDf 0 0 0 0) 78;rw [F] at this;exact this,by simp [F]⟩
 rw [<- HY.out];refine hK.out _ _ (I.out _ (qAn A)) (fun hHeld=>?_);clear hK KK
 try simp only [Act.put,p1q,p2q,p3q,p4q,p5q,p6q]
 obtain ⟨⟨a0,a1,a2,P⟩,q0,q1,q2,N⟩:=hq4 f.out;refine qAr 19 (by kernel_rfl) rfl (by rfl) (fun KK hK=>?_);go_simp;obtain ⟨U,HU,k,E,n,a6⟩:∃ U,Hid (U=(((Y.setCell ⟨w.heap.size+1,0,none⟩ (I4 g)).setCell ⟨w.heap.size+1,1,none⟩ (I4 a)).setCell ⟨w.heap.size+1,2,none⟩ (U8 y)).setCell ⟨w.heap.size+1,3,none⟩ (U8 0))/\Bw w U/\Hid (Hp U w.heap.size 78 (qDf 0 0 0 0))/\Hid (Hp U (w.heap.size+1) 78 (qDf g a y 0))/\w.heap.size+2<=U.heap.size :=
  ⟨_,rfl,A.trans (qAi (qAd (w.heap.size+1) (qDf g a y 0) Y 0) (by omega) A.size),by have:=O.out.fars (show w.heap.size≠w.heap.size+1 by omega) (qDf g a y 0) 0;exact this,by have:=f.out.sets (qDf g a y 0) 0;rw [qBo (qDf g a y 0) (qDf 0 0 0 0) rfl] at this;exact this,by have:=(qAd (w.heap.size+1) (qDf g a y 0) Y 0).size;show w.heap.size+2<=(Y.setCells (w.heap.size+1) 0 (qDf g a y 0)).heap.size;omega⟩
 rw [<- HU.out];refine hK.out _ _ (I.out _ (qAn k)) (fun hHeld=>?_);clear hK KK
 try simp only [Act.put,p1q,p2q,p3q,p4q,p5q,p6q]
 refine wpAnyH_done (by kernel_rfl) ?_ _;clear a0 a1 a2 P q0 q1 q2 N hHeld;have z3:=R.out U k
 have J:w.heap.size≠w.heap.size+1:=by omega
 by_cases h24:a=2∨a=4
 ·rw [if_pos h24] at D;have d:Hid (Hp (U.setCell ⟨w.heap.size+1,3,none⟩ (U8 z)) (w.heap.size+1) 78 (qDf g a y z)):=n.out.set 3 _;have c:Hid (Hp (U.setCell ⟨w.heap.size+1,3,none⟩ (U8 z)) w.heap.size 78 (qDf 0 0 0 0)):=E.out.far J;have s:Hid (Bw w (U.setCell ⟨w.heap.size+1,3,none⟩ (U8 z))):=k.trans (qAi (qAc U (w.heap.size+1) 3 _) (by omega) k.size);have P:=n.out.cell (j:=3) rfl;have N:=n.out.frozen 3;obtain ⟨T,HT⟩:∃ T,Hid (U.setCell ⟨w.heap.size+1,3,none⟩ (U8 z)=T):=⟨_,rfl⟩;rw [HT.out] at d c s;obtain ⟨⟨i0,i1,i2,i3⟩,-⟩:=hq4 d.out;obtain ⟨⟨o0,o1,o2,o3⟩,p0,p1,p2,p3⟩:=hq4 c.out
  have K:Hid (Hp (T.setCells w.heap.size 0 (qDf g a y z)) w.heap.size 78 (qDf g a y z)):=by have:=c.out.sets (qDf g a y z) 0;rw [qBo (qDf g a y z) (qDf 0 0 0 0) rfl] at this;exact this
  have u:Hid (Bw w (T.setCells w.heap.size 0 (qDf g a y z))):=s.out.trans (qAi (qAd w.heap.size (qDf g a y z) T 0) (Nat.le_refl _) s.out.size)
  rcases h24 with rfl|rfl
  all_goals go_wp2_with (rw [HT.out])
  all_goals exact yAh rfl rfl K.out.drew ⟨by rw [D.out],qAn u.out⟩
 ·have c2:(a==2)=false:=by simp;omega
  have c4:(a==4)=false:=by simp;omega
  rw [if_neg h24] at D;have d:=n;have c:=E;obtain ⟨⟨i0,i1,i2,i3⟩,-⟩:=hq4 d.out;obtain ⟨⟨o0,o1,o2,o3⟩,p0,p1,p2,p3⟩:=hq4 c.out
  have K:Hid (Hp (U.setCells w.heap.size 0 (qDf g a y 0)) w.heap.size 78 (qDf g a y 0)):=by have:=c.out.sets (qDf g a y 0) 0;rw [qBo (qDf g a y 0) (qDf 0 0 0 0) rfl] at this;exact this
  have u:Hid (Bw w (U.setCells w.heap.size 0 (qDf g a y 0))):=k.trans (qAi (qAd w.heap.size (qDf g a y 0) U 0) (Nat.le_refl _) k.size);go_wp2;exact yAh rfl rfl K.out.drew ⟨by rw [D.out],qAn u.out⟩
end
section
variable {b sb:Nat} {vm vc:Value} {ev:Int×Int} {M:Mc}
theorem yDv {w:World}(h:Ma w b sb vm vc ev M):∃ V,Hid (w.alloc (.cells #[I4 0,I4 0,I4 0,I4 0,U8 0,U8 0,U8 0] 80)=V)/\Hid (Ma V b sb vm vc ev M)/\Hid (Hp V w.heap.size 80 (qAh 0 0 0 0 0 0 0))/\Bw w V/\V.heap.size=w.heap.size+1 :=
 ⟨_,rfl,h.below ((Below.refl _ _).alloc (Nat.le_refl _) _) h.hp.lt,Hp.new w _ _,(Below.refl _ _).alloc (Nat.le_refl _) _,by simp⟩
theorem yHt {a:World}{i:Nat}(h:Ma a b sb vm vc ev M)(n:Hp a i 80 (qAh 0 0 0 0 0 0 0))(k d f c l g v:Int):∃ Y,Hid (a.alloc (.cells #[I4 k,I4 d,I4 f,I4 c,U8 l,U8 g,U8 v] 80)=Y)/\Hid (Ma Y b sb vm vc ev M)/\Hid (Hp Y a.heap.size 80 (qAh k d f c l g v))/\Hid (Hp Y i 80 (qAh 0 0 0 0 0 0 0))/\Bw a Y/\Y.heap.size=a.heap.size+1 :=
 ⟨_,rfl,h.below ((Below.refl _ _).alloc (Nat.le_refl _) _) h.hp.lt,Hp.new a _ _,n.alloc _,(Below.refl _ _).alloc (Nat.le_refl _) _,by simp⟩
theorem yJj (w:World)(h:Ma w b sb vm vc ev M)(I:M.pc+1<64){x:Int}(F:Hid (qBj M.regs 1=x)) :
  Cl 34 #[.pointer (some ⟨b,0,none⟩),I4 6] w fun e s=>e=.returned (qEp 3 M.pc 0 0 0 0 x)/\Chg w s (fun k=>k=b)/\Ma s b sb vm vc ev { M with regs:=M.regs.set 0 0,pc:=M.pc+1 }:=by
 have N:=h.hp.lt;obtain ⟨V,D,i,l,r,K⟩:=yDv h;have G:=h.reg (show 1<8 by omega);rw [show M.regs.getD 1 0=x from F.out] at G
 have J:w.heap.size≠b:=by omega
 go_enter Tryz.func34,Tryz.ntmps34
 go_wp2_with (first
  | (go_at_call 32;rw [D.out];go_must (refine (qJn 3 x V i.out).mono ?_);rintro e X ⟨rfl,d⟩;go_must (obtain ⟨Y,E,u,o,n,B,L⟩:=yHt (i.out.below d i.out.hp.lt) (l.out.below d l.out.lt) 3 M.pc 0 0 0 0 x;have O:=d.size))
  | (go_at_call 30;rw [E.out];go_must (refine (qQv 0 Y u.out (by decide) I).mono ?_);rintro e z ⟨rfl,g,f⟩;go_must (have y:=qAa f;have c:=qAa (o.out.grown g (fun e=>by injection e with e;omega));have a:=qAa (n.out.grown g (fun e=>by injection e with e;omega));obtain ⟨⟨R,a1,a2,U,P,a5,a6⟩,-⟩:=hq7 c.out;obtain ⟨⟨T,o1,o2,o3,o4,o5,o6⟩,q0,q1,q2,Q,q4,q5,Z⟩:=hq7 a.out;clear f)))
 have A:=a.out.sets (qAh 3 M.pc 0 0 0 0 x) 0;rw [qBo (qAh 3 M.pc 0 0 0 0 x) (qAh 0 0 0 0 0 0 0) rfl] at A;refine qDx rfl rfl A ⟨rfl,?_,?_⟩
 ·exact (((Chg.of_below (S:=fun k=>k=b) r).trans (Chg.of_below (S:=fun k=>k=b) (d.mono (by omega))) (fun _ _ e=>e)).trans (Chg.of_below (S:=fun k=>k=b) B) (fun _ _ e=>e) |>.trans (Chg.of_grown (S:=fun k=>k=b) g rfl) (fun _ _ e=>e)).trans (Chg.of_grown (qAd w.heap.size (qAh 3 M.pc 0 0 0 0 x) z 0) (S:=fun k=>k=w.heap.size) rfl) (fun k hk e=>by omega)
 ·exact y.out.grown (qAd w.heap.size (qAh 3 M.pc 0 0 0 0 x) z 0) (fun e=>by injection e with e;omega)
end
section
variable {b sb:Nat} {vm vc:Value} {ev:Int×Int} {M:Mc}
theorem yIn (w:World)(h:Ma w b sb vm vc ev M)(hp:M.pc+1<64){ws cs N:List Int}(U:Sc w sb ws cs)(g:b≠sb){x n:Int}(HX:Hid (qBj M.regs 1=x))(hx:0<=x/\x<=15)(K:Hid (upW (cs.getD x.toNat 0) 1=n))(HU:Hid (cs.set x.toNat n=N)) :
  Cl 34 #[.pointer (some ⟨b,0,none⟩),I4 5] w fun e o=>e=.returned (qEp 1 M.pc 0 0 0 0 n)/\Chg w o (fun k=>k=b∨k=sb)/\Ma o b sb vm vc ev { M with regs:=M.regs.set 0 n,pc:=M.pc+1 }/\Sc o sb ws N:=by
 have an:=h.hp.lt;have R:=U.lt
 have ak:IntKind.i64.wrap x=x:=by rw [IntKind.wrap_i64];omega
 have u:Hid (inB x=true):=decide_eq_true (by omega)
 have hn:0<=n/\n<=18446744073709551615:=by rw [<- K.out];exact yDc _ _
 have ac:Hid ((if inB x then qKa (cs.getD x.toNat 0) 1 else 0)=n):=by show _=_;rw [u.out];exact K.out
 have a8:Hid ((if inB x then yAe cs x.toNat else cs)=N):=by
  show _=_
  rw [u.out,<- HU.out]
  show cs.set x.toNat (qKa (cs.getD x.toNat 0) 1)=_
  rw [show qKa (cs.getD x.toNat 0) 1=n from K.out]
 have a7:Hid ((if inB x then 0 else 35:Int)=0):=by show _=_;rw [u.out];rfl
 obtain ⟨V,HV,i,O,E,ah⟩:=yDv h
 have r:V.cell? ⟨b,4,none⟩=some (.pointer (some ⟨sb,0,none⟩))/\V.cell? ⟨b,6,none⟩=some (U8 x):=by
  have c6:=i.out.reg (show 1<8 by omega);rw [show M.regs.getD 1 0=x from HX.out] at c6;exact ⟨i.out.low.2.2.2.2,c6⟩
 have ad:=qAa (U.below E R)
 have al:w.heap.size≠b:=by omega
 have B:=i.out.hp.lt;go_enter Tryz.func34,Tryz.ntmps34;go_wp2;rw [HV.out]
 go_region_held3 (fun o=>o.cell? ⟨b,4,none⟩=some (.pointer (some ⟨sb,0,none⟩))/\o.cell? ⟨b,6,none⟩=some (U8 x))
  (first|with_reducible exact aa|exact r)
  (first|(go_at_call 54;go_must (refine (yYg ac a8 a7 V.drew ad.out.drew).mono ?_);rintro e y ⟨rfl,s,A,ai⟩;go_must (have d:V.grownBy y (some sb):=qHc A;have J:=qAa s;have z:=qAa (i.out.grown d (fun e=>g (by injection e)));have F:=qAa (O.out.grown d (fun e=>by injection e with e;omega));have aa:y.cell? ⟨b,4,none⟩=some (.pointer (some ⟨sb,0,none⟩))/\y.cell? ⟨b,6,none⟩=some (U8 x):=⟨(qAj d B g).trans r.1,(qAj d B g).trans r.2⟩;clear A s)))
 have ag:=d.size
 go_wp2_with (first
  | (go_at_call 32;go_must (refine (qJn 1 n y z.out).mono ?_);rintro e w4 ⟨rfl,f⟩;go_must (obtain ⟨Y,HY,P,a9,ae,G,am⟩:=yHt (z.out.below f z.out.hp.lt) (F.out.below f F.out.lt) 1 M.pc 0 0 0 0 n;have aj:=f.size))
  | (go_at_call 30;rw [HY.out];go_must (refine (qQv n Y P.out hn hp).mono ?_);rintro e w6 ⟨rfl,l,D⟩;go_must (have Q:=qAa D;have c:=qAa (a9.out.grown l (fun e=>by injection e with e;omega));have a:=qAa (ae.out.grown l (fun e=>by injection e with e;omega));obtain ⟨⟨a0,a1,a2,a3,a4,a5,a6⟩,-⟩:=hq7 c.out;obtain ⟨⟨o0,o1,o2,o3,o4,o5,o6⟩,q0,q1,q2,q3,q4,q5,q6⟩:=hq7 a.out;clear D)))
 have hO:=a.out.sets (qAh 1 M.pc 0 0 0 0 n) 0;rw [qBo (qAh 1 M.pc 0 0 0 0 n) (qAh 0 0 0 0 0 0 0) rfl] at hO;have L:=qAd w.heap.size (qAh 1 M.pc 0 0 0 0 n) w6 0;have T:Chg w y (fun k=>k=b∨k=sb):=(Chg.of_below E).trans (Chg.of_grown (S:=fun k=>k=b∨k=sb) d (.inr rfl)) (fun _ _ e=>e);have af:Chg w w4 (fun k=>k=b∨k=sb):=T.trans (Chg.of_below (S:=fun _=>False) f) (fun _ _ e=>e.elim);have X:Chg w Y (fun k=>k=b∨k=sb):=af.trans (Chg.of_below (S:=fun _=>False) G) (fun _ _ e=>e.elim);have ab:Chg w w6 (fun k=>k=b∨k=sb):=X.trans (Chg.of_grown (S:=fun k=>k=b) l rfl) (fun _ _ e=>.inl e);refine qDx rfl rfl hO ⟨rfl,ab.trans (Chg.of_grown L (S:=fun k=>k=w.heap.size) rfl) (fun k hk e=>by omega),Q.out.grown L (fun e=>by injection e with e;omega),?_⟩;have I:=J.out.below f J.out.lt;have Z:=(I.below G I.lt).grown l (show some sb≠some b from fun e=>g (Option.some.inj e).symm);exact Z.grown L (show some sb≠some w.heap.size from fun e=>by have:=Option.some.inj e;omega)
end
section
variable {b sb:Nat} {vm vc:Value} {ev:Int×Int} {M:Mc}
theorem yQf (c:Int)(hi:0<=c/\c<=4){mb mo mcap nm j:Nat}(w:World)(h:Ma w b sb (.slice (some ⟨mb,mo,none⟩) nm mcap) vc ev M)(hj:j<nm)(aa:mb<w.heap.size)(Z:nm<=mcap){g:Int}(u:w.cell? ⟨mb,mo+j,none⟩=some (I4 g)){y z q:Int}(H1:Hid (qBj M.regs 1=(j:Int)))(H2:Hid (qBj M.regs 2=y))(H3:Hid (qBj M.regs 3=z))(HQ:Hid ((if c=2∨c=4 then z else 0)=q)) :
  Cl 34 #[.pointer (some ⟨b,0,none⟩),I4 c] w fun e w'=>e=.returned (qEp 2 M.pc g c y q 0)/\Chg w w' (fun k=>k=b)/\Ma w' b sb (.slice (some ⟨mb,mo,none⟩) nm mcap) vc ev { M with mode:=1 }:=by
 have ah:=h.hp.lt
 have c5:(c==5)=false:=by simp;omega
 have c6:(c==6)=false:=by simp;omega
 obtain ⟨V,HV,r,A,I,ae⟩:=yDv h
 have R:w.heap.size≠b:=by omega
 go_enter Tryz.func34,Tryz.ntmps34
 go_wp2_with (first
  | (go_at_call 32;rw [HV.out];go_must (refine (qJn 2 0 V r.out).mono ?_);rintro e f ⟨rfl,n⟩;go_must (obtain ⟨Y,HY,B,a7,a9,Q,ag⟩:=yHt (r.out.below n r.out.hp.lt) (A.out.below n A.out.lt) 2 M.pc 0 0 0 0 0;have af:=n.size;have E:Bw w f:=I.trans (n.mono (by omega));have D:Bw w Y:=E.trans (Q.mono (by omega))))
  | (go_at_call 55;rw [HY.out];go_must (refine (yLt c hi Y B.out hj (by omega) Z ((D.cell (p:=⟨mb,mo+j,none⟩) aa).trans u) H1 H2 H3 HQ).mono ?_);rintro e o ⟨rfl,l⟩;go_must (have F:=qAa (B.out.below l (by omega));have d:=qAa (a7.out.below l (by omega));have J:=qAa (a9.out.below l (by omega));have ad:=l.size;have d2:=d.out.cell (j:=2) rfl;have d3:=d.out.cell (j:=3) rfl;have d4:=d.out.cell (j:=4) rfl;have d5:=d.out.cell (j:=5) rfl;have e2:=d.out.frozen 2;have e3:=d.out.frozen 3;have e4:=d.out.frozen 4;have e5:=d.out.frozen 5;obtain ⟨T,HT,s,ab,ac,P⟩:∃ T,Hid ((((o.setCell ⟨f.heap.size,2,none⟩ (I4 g)).setCell ⟨f.heap.size,3,none⟩ (I4 c)).setCell ⟨f.heap.size,4,none⟩ (U8 y)).setCell ⟨f.heap.size,5,none⟩ (U8 q)=T)/\Hid (Ma T b sb (.slice (some ⟨mb,mo,none⟩) nm mcap) vc ev M)/\Hid (Hp T f.heap.size 80 (qAh 2 M.pc g c y q 0))/\Hid (Hp T w.heap.size 80 (qAh 0 0 0 0 0 0 0))/\o.grownBy T (some f.heap.size):=⟨_,rfl,F.out.grown (qAd f.heap.size (qDf g c y q) o 2) (fun e=>by injection e with e;omega),by have:=d.out.sets (qDf g c y q) 2;exact this,J.out.grown (qAd f.heap.size (qDf g c y q) o 2) (fun e=>by injection e with e;omega),qAd f.heap.size (qDf g c y q) o 2⟩;have t9:=s.out.last.2.2;have u9:=s.out.hp.frozen 79;obtain ⟨U,HU,G,i,a,L⟩:∃ U,Hid (T.setCell ⟨b,79,none⟩ (I4 1)=U)/\Hid (Ma U b sb (.slice (some ⟨mb,mo,none⟩) nm mcap) vc ev { M with mode:=1 })/\Hid (Hp U f.heap.size 80 (qAh 2 M.pc g c y q 0))/\Hid (Hp U w.heap.size 80 (qAh 0 0 0 0 0 0 0))/\T.grownBy U (some b):=⟨_,rfl,s.out.setM 1,ab.out.far (by omega),ac.out.far R,qAc T b 79 _⟩;obtain ⟨⟨a0,a1,a2,a3,a4,a5,a6⟩,-⟩:=hq7 i.out;obtain ⟨⟨o0,o1,o2,o3,o4,o5,o6⟩,q0,q1,q2,q3,q4,q5,q6⟩:=hq7 a.out;skip))
  | rw [HT.out]
  | rw [HU.out])
 have O:=a.out.sets (qAh 2 M.pc g c y q 0) 0;rw [qBo (qAh 2 M.pc g c y q 0) (qAh 0 0 0 0 0 0 0) rfl] at O;have N:=qAd w.heap.size (qAh 2 M.pc g c y q 0) U 0;have X:Chg w o (fun k=>k=b):=(Chg.of_below (S:=fun k=>k=b) D).trans (Chg.of_below (S:=fun _=>False) l) (fun _ _ e=>e.elim);have K:Chg w T (fun k=>k=b):=X.trans (Chg.of_grown (S:=fun k=>k=f.heap.size) P rfl) (fun k hk e=>by have:=E.size;omega);have a8:Chg w U (fun k=>k=b):=K.trans (Chg.of_grown (S:=fun k=>k=b) L rfl) (fun _ _ e=>e);refine qDx rfl rfl O ⟨rfl,a8.trans (Chg.of_grown N (S:=fun k=>k=w.heap.size) rfl) (fun k hk e=>by omega),G.out.grown N (fun e=>by injection e with e;omega)⟩
end
theorem yQt {h E:Int}{f:Bool}{v:Int}{o:Bool}{k u r:Int}(b:Hid (qJk h E f v=r))(w:World):Cl 31 #[I4 h,qNw E f v o k u] w fun e a=>e=.returned (U8 r)/\Bw w a:=by
 rw [<- b.out];exact yQm h E f v o k u w
theorem yGf {h E:Int}{f:Bool}{v:Int}(a:0<=v/\v<=18446744073709551615):0<=qJk h E f v/\qJk h E f v<=18446744073709551615:=by
 unfold qJk
 repeat' split
 all_goals omega
section
variable {b sb:Nat} {vm vc:Value} {ev:Int×Int} {M:Mc}
theorem qVe (E:Int)(f:Bool)(v:Int)(o:Bool)(k u:Int)(w:World)(h:Ma w b sb vm vc ev M)(hm:M.mode≠1) :
  Cl 17 #[.pointer (some ⟨b,0,none⟩),qNw E f v o k u] w fun e c=>e=.returned (I4 2)/\Bw w c:=by
 have g:=h.hp.lt;have i:=h.last.2.2
 have a:¬ (M.mode:Int)=1:=by omega
 have d:((M.mode:Int)==1)=false:=by simpa using a
 go_enter Tryz.func17,Tryz.ntmps17;go_wp2;go_ret;exact ⟨rfl,by go_grown⟩
theorem yXc (w:World)(h:Ma w b sb vm vc ev M)(hm:M.mode≠2) :
  Cl 42 #[.pointer (some ⟨b,0,none⟩)] w fun e c=>e=.returned (.tuple #[U8 0,.bool false])/\Bw w c:=by
 have f:=h.hp.lt;have g:=h.last.2.2
 have a:¬ (M.mode:Int)=2:=by omega
 have d:((M.mode:Int)==2)=false:=by simpa using a
 go_enter Tryz.func42,Tryz.ntmps42;go_wp2;go_ret2;exact ⟨rfl,Below.refl _ _⟩
theorem yQn {cb co ccap:Nat}{xs:List In}(w:World)(h:Ma w b sb vm (.slice (some ⟨cb,co,none⟩) xs.length ccap) ev M)(hm:M.mode=2)(d:SeesI w (.slice (some ⟨cb,co,none⟩) xs.length ccap) xs)(g:M.pc<xs.length)(k:0<=(nth xs M.pc).a/\(nth xs M.pc).a<=7){n:Int}(l:Hid (qBj M.regs (nth xs M.pc).a=n)) :
  Cl 42 #[.pointer (some ⟨b,0,none⟩)] w fun e i=>e=.returned (.tuple #[U8 n,.bool true])/\Bw w i:=by
 have r:=h.hp.lt;have f:=h.last.2.2;rw [hm] at f;have o:=qAa d;clear d;go_enter Tryz.func42,Tryz.ntmps42
 go_wp2_with (go_at_call 33;go_must (refine (qOu w h o.out g k l).mono ?_);rintro e s ⟨rfl,c⟩)
 go_ret2;exact ⟨rfl,c⟩
theorem yFt {cb co ccap:Nat}{xs:List In}(E:Int)(f:Bool)(v:Int)(o:Bool)(k u:Int)(w:World)(h:Ma w b sb vm (.slice (some ⟨cb,co,none⟩) xs.length ccap) ev M)(hm:M.mode=1)(hx:SeesI w (.slice (some ⟨cb,co,none⟩) xs.length ccap) xs)(hp:M.pc<xs.length)(X:M.pc+1<64)(J:cb≠b)(hv:0<=v/\v<=18446744073709551615){n:Int}(hn:Hid (qJk (nth xs M.pc).imm E f v=n)) :
  Cl 17 #[.pointer (some ⟨b,0,none⟩),qNw E f v o k u] w fun e g=>e=.returned (I4 0)/\w.grownBy g (some b)/\Ma g b sb vm (.slice (some ⟨cb,co,none⟩) xs.length ccap) ev { M with regs:=M.regs.set 0 n,mode:=0,pc:=M.pc+1 }:=by
 have a1:=h.hp.lt
 have a6:(M.pc:Int)<xs.length:=by omega
 have a3:(M.pc:Int)<=100:=by omega
 obtain ⟨N,a2,a5,a4⟩:=qIl hx hp;obtain ⟨⟨op,d,a,bb,F⟩,HI⟩:∃ i,Hid (nth xs M.pc=i):=⟨_,rfl⟩;rw [HI.out] at N hn;have P:Hid (qJk F E f v=n):=hn
 have a0:0<=n/\n<=18446744073709551615:=by rw [<- P.out];exact yGf hv
 obtain ⟨_,_,_,_,R⟩:=N;simp only at R;have c9:=h.last.2.2;rw [hm] at c9
 have s:w.heap.size≠b:=by omega
 obtain ⟨Z,HZ,D,z,O,y⟩:∃ Z,Hid ((w.setCell ⟨b,79,none⟩ (I4 0)).alloc (.cells #[I4 E,.bool f,U8 v,.bool o,U8 k,U8 u] 45)=Z)/\Hid (Ma Z b sb vm (.slice (some ⟨cb,co,none⟩) xs.length ccap) ev { M with mode:=0 })/\Hid (Hp Z w.heap.size 45 [I4 E,.bool f,U8 v,.bool o,U8 k,U8 u])/\w.grownBy Z (some b)/\w.heap.size<Z.heap.size:=by
  have hsz:(w.setCell ⟨b,79,none⟩ (I4 0)).heap.size=w.heap.size:=by simp [World.setCell]
  have hB:=(Below.refl (w.setCell ⟨b,79,none⟩ (I4 0)).heap.size (w.setCell ⟨b,79,none⟩ (I4 0))).alloc (Nat.le_refl _) (.cells #[I4 E,.bool f,U8 v,.bool o,U8 k,U8 u] 45);have hN:=Hp.new (w.setCell ⟨b,79,none⟩ (I4 0)) [I4 E,.bool f,U8 v,.bool o,U8 k,U8 u] 45;rw [hsz] at hN;exact ⟨_,rfl,(h.setM 0).below hB (by rw [hsz];exact a1),hN,qCd (qAc w b 79 _) (qBz hB _),by simp [hsz]⟩
 have f9:=h.hp.frozen 79
 have T:cb<Z.heap.size:=by omega
 have L:Z.cell? ⟨cb,co+M.pc*5+4,none⟩=some (I4 F):=(qAj O a2 J).trans R
 have I:Hid (∀ r:World,Bw Z r->r.cell? ⟨b,3,none⟩=some (.slice (some ⟨cb,co,none⟩) xs.length ccap)/\r.cell? ⟨cb,co+M.pc*5+4,none⟩=some (I4 F)/\r.cell? ⟨w.heap.size,0,none⟩=some (I4 E)/\r.cell? ⟨w.heap.size,1,none⟩=some (.bool f)/\r.cell? ⟨w.heap.size,2,none⟩=some (U8 v)/\r.cell? ⟨w.heap.size,3,none⟩=some (.bool o)/\r.cell? ⟨w.heap.size,4,none⟩=some (U8 k)/\r.cell? ⟨w.heap.size,5,none⟩=some (U8 u)):=fun r A=>⟨(D.out.below A D.out.hp.lt).low.2.2.2.1,(A.cell (p:=⟨cb,co+M.pc*5+4,none⟩) T).trans L,(z.out.below A y).cell rfl,(z.out.below A y).cell rfl,(z.out.below A y).cell rfl,(z.out.below A y).cell rfl,(z.out.below A y).cell rfl,(z.out.below A y).cell rfl⟩
 have z7:=D.out.last.1;clear R L hx;go_enter Tryz.func17,Tryz.ntmps17;go_wp2;rw [HZ.out];refine wp_region_held_drew (S:=fun g=>g.cell? ⟨b,3,none⟩=some (.slice (some ⟨cb,co,none⟩) xs.length ccap)/\g.cell? ⟨cb,co+M.pc*5+4,none⟩=some (I4 F)/\g.cell? ⟨w.heap.size,0,none⟩=some (I4 E)/\g.cell? ⟨w.heap.size,1,none⟩=some (.bool f)/\g.cell? ⟨w.heap.size,2,none⟩=some (U8 v)/\g.cell? ⟨w.heap.size,3,none⟩=some (.bool o)/\g.cell? ⟨w.heap.size,4,none⟩=some (U8 k)/\g.cell? ⟨w.heap.size,5,none⟩=some (U8 u)) (by kernel_rfl) (I.out _ (qAn (Below.refl _ _))) (fun hHeld=>?_);refine qBb [0,1,2,3,4,5,6,7,12] ?_
 repeat (refine tkO (v:=?_) rfl ?_ ?_;rotate_left;(intro wy hSw;(try dsimp only at hSw);go_simp;(first|done|with_reducible rfl));try simp only [Act.put,p1q,p2q,p3q,p4q,p5q,p6q])
 refine qAs ?_;refine qAr 8 (by kernel_rfl) rfl (by rfl) (fun KK hK=>?_);go_simp;refine hK.out _ _ (I.out _ (qAn (Below.refl _ _))) (fun hHeld=>?_);clear hK KK
 try simp only [Act.put,p1q,p2q,p3q,p4q,p5q,p6q]
 refine qBb [9,10,11] ?_
 repeat (refine tkO (v:=?_) rfl ?_ ?_;rotate_left;(intro wy hSw;(try dsimp only at hSw);go_simp;(first|done|with_reducible rfl));try simp only [Act.put,p1q,p2q,p3q,p4q,p5q,p6q])
 refine qAs ?_;refine qAr 13 (by kernel_rfl) rfl (by rfl) (fun KK hK=>?_);go_simp
 go_at_call 31
 refine (yQt P _).mono ?_;rintro e Q ⟨rfl,U⟩;have G:Bw Z Q:=qAg U;go_simp;refine hK.out _ _ (I.out Q G) (fun hHeld=>?_);clear hK KK
 try simp only [Act.put,p1q,p2q,p3q,p4q,p5q,p6q]
 have V:=qAa (D.out.below G D.out.hp.lt);have a7:=G.size;refine qAr 14 (by kernel_rfl) rfl (by rfl) (fun KK hK=>?_);go_simp
 go_at_call 30
 refine (qQv n _ V.out a0 X).mono ?_;rintro e B ⟨rfl,c,K⟩;go_simp;have l:=I.out Q G;have Y:B.cell? ⟨b,3,none⟩=some (.slice (some ⟨cb,co,none⟩) xs.length ccap)/\B.cell? ⟨cb,co+M.pc*5+4,none⟩=some (I4 F)/\B.cell? ⟨w.heap.size,0,none⟩=some (I4 E)/\B.cell? ⟨w.heap.size,1,none⟩=some (.bool f)/\B.cell? ⟨w.heap.size,2,none⟩=some (U8 v)/\B.cell? ⟨w.heap.size,3,none⟩=some (.bool o)/\B.cell? ⟨w.heap.size,4,none⟩=some (U8 k)/\B.cell? ⟨w.heap.size,5,none⟩=some (U8 u):=⟨K.low.2.2.2.1,(qAj c (by omega) J).trans l.2.1,(qAj c (by omega) s).trans l.2.2.1,(qAj c (by omega) s).trans l.2.2.2.1,(qAj c (by omega) s).trans l.2.2.2.2.1,(qAj c (by omega) s).trans l.2.2.2.2.2.1,(qAj c (by omega) s).trans l.2.2.2.2.2.2.1,(qAj c (by omega) s).trans l.2.2.2.2.2.2.2⟩;refine hK.out _ _ Y (fun hHeld=>?_);clear hK KK
 try simp only [Act.put,p1q,p2q,p3q,p4q,p5q,p6q]
 refine wpAnyH_done (by kernel_rfl) ?_ _;go_wp2;go_ret;exact ⟨rfl,qCd (qCd O (qBz G _)) c,K⟩
end
theorem qPw {i:In}(c:i.right=true)(f:i.op<=20):(0<=i.a/\i.a<=7)/\(i.b=8∨(0<=i.b/\i.b<=7)):=by
 obtain ⟨op,d,a,b,g⟩:=i;have h0:=qDm c;unfold In.right at c;simp only at c f h0 ⊢
 by_cases c1:op=0∨op=11
 ·unfold qAq at c;rw [if_pos c1] at c;simp [qCr,qAu] at c;omega
 by_cases c2:1<=op/\op<=10
 ·rw [qIc c2] at c;simp [qCr,qAu] at c;omega
 by_cases c3:op=12
 ·subst c3;rw [qMt] at c;simp [qCr,qAu] at c;omega
 by_cases c4:op=13
 ·subst c4;rw [qOl] at c;simp at c;omega
 by_cases c5:op=14
 ·subst c5;rw [qJo] at c;simp at c;omega
 by_cases c6:op=15
 ·subst c6;rw [qOr] at c;simp at c;omega
 by_cases c7:16<=op/\op<=19
 ·rw [qIy c7] at c;simp [qCr,qAu] at c;omega
 ·obtain rfl:op=20:=by omega
  rw [qKv] at c;simp [qAu] at c;omega
theorem qXg {i:In}(c:i.right=true)(f:i.op=14):0<=i.imm/\i.imm<=3:=by
 obtain ⟨op,d,a,b,g⟩:=i;unfold In.right at c;simp only at c f ⊢;subst f;rw [qJo] at c;simp at c;omega
theorem yQs {op a b:Int}(h:op<16∨19<op):qCo op a b=false:=by
 unfold qCo;rw [if_neg (by omega),if_neg (by omega),if_neg (by omega),if_neg (by omega)]
section
variable {b sb:Nat} {vm vc:Value} {ev:Int×Int} {M:Mc}
theorem Sc.chg {w a:World}{ws cs:List Int}{S:Nat->Prop}(h:Sc w sb ws cs)(c:Chg w a S)(b:¬ S sb):Sc a sb ws cs:=⟨h.hp.chg c b,h.lw,h.lc⟩
theorem Ma.chg {w a:World}{S:Nat->Prop}(h:Ma w b sb vm vc ev M)(d:Chg w a S)(c:¬ S b):Ma a b sb vm vc ev M:=⟨h.hp.chg d c,h.wr,h.pc⟩
theorem Ma.same {w:World}{M':Mc}(h:Ma w b sb vm vc ev M)(d:M'.regs=M.regs)(g:M'.turn=M.turn)(c:M'.pc=M.pc)(f:M'.steps=M.steps)(a:M'.mode=M.mode):Ma w b sb vm vc ev M':=by
 obtain ⟨r,t,p,s,m,x,y⟩:=M';simp only at d g c f a;subst d;subst g;subst c;subst f;subst a;exact ⟨h.hp,h.wr,h.pc⟩
theorem xAx (i:In)(s:i.right=true)(I:i.op<=20)(w:World)(h:Ma w b sb vm vc ev M)(z:Sc w sb M.ws M.cs)(y:b≠sb)(E:W16 M.ws)(K:(0<=ev.1/\ev.1<=18446744073709551615)/\0<=ev.2/\ev.2<=18446744073709551615)(G:i.op=11∨i.op=12->0<=qCk i M.regs/\qCk i M.regs<=15) :
  Cl 35 #[.pointer (some ⟨b,0,none⟩),qAl i.op i.d i.a i.b i.imm] w fun e f=>e=.returned (.tuple #[])/\Chg w f (fun k=>k=b∨k=sb)/\Ma f b sb vm vc ev { M with regs:=(qBy ev i M).1,ws:=(qBy ev i M).2 }/\Sc f sb (qBy ev i M).2 M.cs:=by
 have h0:=qDm s;obtain ⟨r,n⟩:=qPw s I
 have u:∀ {f:World} {R:List Int},w.grownBy f (some b)->Ma f b sb vm vc ev { M with regs:=R }->qBy ev i M=(R,M.ws)->Chg w f (fun k=>k=b∨k=sb)/\Ma f b sb vm vc ev { M with regs:=(qBy ev i M).1,ws:=(qBy ev i M).2 }/\Sc f sb (qBy ev i M).2 M.cs:=fun {f R} g hm e=>by
  rw [e];exact ⟨Chg.of_grown g (.inl rfl),hm.same rfl rfl rfl rfl rfl,z.grown g (fun e=>y (Option.some.inj e).symm)⟩
 by_cases c0:i.op=0
 ·have l:=qCy s (.inl (by omega));obtain ⟨op,d,a,o,c⟩:=i;simp only at c0 r n l;subst c0;refine (yYp d a o c w h l n rfl).mono ?_;rintro e f ⟨rfl,g,hm⟩;exact ⟨rfl,u g hm rfl⟩
 by_cases c1:1<=i.op/\i.op<=10
 ·have l:=qCy s (.inl (by omega));obtain ⟨op,d,a,o,c⟩:=i;simp only at c0 c1 r n l;refine (yPn op d a o c w h c1 l r n rfl rfl rfl (qVh op (h.wr.2 _ (by omega)) (qIu h.wr n))).mono ?_;rintro e f ⟨rfl,g,hm⟩;exact ⟨rfl,u g hm (by unfold qBy;rw [if_neg c0,if_pos c1];rfl)⟩
 by_cases c2:i.op=11
 ·have l:=qCy s (.inl (by omega));have B:=G (.inl c2);obtain ⟨op,d,a,o,c⟩:=i;simp only at c0 c1 c2 r n l;subst c2;refine (yUv d a o c w h l n rfl B z rfl (E.2 _ (by omega))).mono ?_;rintro e f ⟨rfl,g,hm⟩;exact ⟨rfl,u g hm rfl⟩
 by_cases c3:i.op=12
 ·have B:=G (.inr c3);obtain ⟨op,d,a,o,c⟩:=i;simp only at c3 r n;subst c3;refine (yMa d a o c w h r n rfl rfl B z y rfl).mono ?_;rintro e f ⟨rfl,g,F⟩;exact ⟨rfl,Chg.of_grown g (.inr rfl),(h.grown g (fun e=>y (Option.some.inj e))).same rfl rfl rfl rfl rfl,F⟩
 by_cases c4:i.op=13
 ·have l:=qCy s (.inr (.inl c4));obtain ⟨op,d,a,o,c⟩:=i;simp only at c4 r n l;subst c4;refine (yRj d a o c w h l rfl (by split<;>omega)).mono ?_;rintro e f ⟨rfl,g,hm⟩;exact ⟨rfl,u g hm rfl⟩
 by_cases c5:i.op=14
 ·have l:=qCy s (.inr (.inr c5));have hi:=qXg s c5;obtain ⟨op,d,a,o,c⟩:=i;simp only at c5 r n l hi;subst c5;refine (yXz d a o c w h l hi).mono ?_;rintro e f ⟨rfl,g,hm⟩;exact ⟨rfl,u g hm rfl⟩
 ·have J:qBy ev i M=(M.regs,M.ws):=by
   unfold qBy;rw [if_neg c0,if_neg c1,if_neg c2,if_neg c3,if_neg c4,if_neg c5]
  rw [J]
  have D:15<=i.op/\i.op<=20:=by omega
  obtain ⟨op,d,a,o,c⟩:=i;simp only at D r n;refine (yTb op d a o c w h D r n).mono ?_;rintro e f ⟨rfl,A⟩;exact ⟨rfl,Chg.of_below A,h.below A h.hp.lt,z.below A z.lt⟩
def qEv (i:In) (M:Mc):Int:=if (i.leads&&qCz i M)=true then (M.pc:Int)+i.far else (M.pc:Int)+1
theorem yLx (i:In)(F:i.right=true)(K:i.op<=20)(w:World)(h:Ma w b sb vm vc ev M)(P:i.op=20->0<=M.turn M.pc/\M.turn M.pc<=255){p:Int}(I:Hid (qEv i M=p)) :
  Cl 36 #[.pointer (some ⟨b,0,none⟩),qAl i.op i.d i.a i.b i.imm] w fun e z=>e=.returned (I4 p)/\w.grownBy z (some b)/\Ma z b sb vm vc ev { M with turn:=qCg i M }:=by
 obtain ⟨s,y⟩:=qPw F K;have h0:=qDm F;have c:Hid ((if (i.leads&&qCz i M)=true then (M.pc:Int)+i.far else (M.pc:Int)+1)=p):=I;clear I
 rcases qBf i with g|g|g|g
 ·rw [F] at g;cases g.1
 ·obtain ⟨_,u,D,B,E,N,n,o⟩:=g;rw [B,E,Bool.true_and] at c
  have G:qCg i M=M.turn:=by unfold qCg;rw [if_neg (by omega)]
  rw [G]
  by_cases c15:i.op=15
  ·have A:qCz i M=true:=by unfold qCz;rw [if_pos c15]
   rw [A,if_pos rfl] at c;obtain ⟨op,d,a,l,f⟩:=i;simp only at c15 s y n o c;subst c15;refine (yKx d a l f w h ⟨n,o⟩).mono ?_;rintro e z ⟨rfl,k⟩;exact ⟨by rw [<- c.out];congr 2;omega,qBz k _,h.below k h.hp.lt⟩
  ·have A:qCz i M=qCo i.op (qBj M.regs i.a) (qCk i M.regs):=by unfold qCz;rw [if_neg c15,if_neg (by omega)]
   rw [A] at c;obtain ⟨op,d,a,l,f⟩:=i;simp only at c15 u D s y n o c;refine (qVg op d a l f w h (by simp;omega) (by simp;omega) s y (r:=qCo op (qBj M.regs a) (qCk ⟨op,d,a,l,f⟩ M.regs)) rfl (fun _=>⟨n,o⟩) (p:=p) (by show _=_;rw [<- c.out];split<;>omega)).mono ?_;rintro e z ⟨rfl,k⟩;exact ⟨rfl,qBz k _,h.below k h.hp.lt⟩
 ·obtain ⟨_,u,D,B,E,N,n,o,J⟩:=g;rw [D,B,Bool.true_and] at c;have L:=P u;obtain ⟨op,d,a,l,f⟩:=i;simp only at u s y N n o J c;subst u;refine (yJk d a l f w h ⟨by omega,n⟩ s ⟨o,J⟩ L (p:=p) (by show _=_;rw [<- c.out];split<;>omega)).mono ?_;rintro e z ⟨rfl,A,hm⟩;exact ⟨rfl,A,hm⟩
 ·obtain ⟨_,u,D,B,E⟩:=g;rw [B,Bool.false_and,if_neg (by simp)] at c
  have G:qCg i M=M.turn:=by unfold qCg;rw [if_neg (by omega)]
  rw [G];obtain ⟨op,d,a,l,f⟩:=i;simp only at u s y K h0;have O:qCo op (qBj M.regs a) (qCk ⟨op,d,a,l,f⟩ M.regs)=false:=yQs (by omega);refine (qVg op d a l f w h (by simp;omega) (by simp;omega) s y (r:=false) O (fun h=>by cases h) (p:=p) (by show _=_;rw [<- c.out];rfl)).mono ?_;rintro e z ⟨rfl,k⟩;exact ⟨rfl,qBz k _,h.below k h.hp.lt⟩
end
theorem yPv {h E:Int}{f:Bool}{v:Int}{o:Bool}{k u n:Int}(b:Hid (qJk h E f v=n))(w:World):Cl 47 #[I4 h,qNw E f v o k u] w fun e a=>e=.returned (U8 n)/\Bw w a:=by
 rw [<- b.out];exact yHc h E f v o k u w
theorem qXu {w:World}{cb co ccap p:Nat}{xs:List In}(h:SeesI w (.slice (some ⟨cb,co,none⟩) xs.length ccap) xs)(d:p<xs.length):At w cb (co+p*5) (nth xs p)/\cb<w.heap.size/\xs.length<=ccap:=by
 obtain ⟨a,cap,n,o,_,_,c⟩:=h;injection n with g r l;subst g;subst l;obtain ⟨b,off,e,k,f⟩:=c (fun e=>by rw [e] at d;simp at d);injection e with e;injection e with e i;subst e;subst i;exact ⟨f p d,k,o⟩
theorem yFe {b rb tb:Nat}{cs:List Value}{M:Mc}(E:Int)(f:Bool)(v:Int)(o:Bool)(k u:Int)(w:World)(h:Rdm w b rb tb cs M)(T:cs[9]? = some (I4 1)){cb co ccap:Nat}{xs:List In}(a1:cs[1]? = some (.slice (some ⟨cb,co,none⟩) xs.length ccap))(hx:SeesI w (.slice (some ⟨cb,co,none⟩) xs.length ccap) xs)(hp:M.pc<xs.length)(a3:cb≠rb/\cb≠b){n:Int}(hn:Hid (qJk (nth xs M.pc).imm E f v=n)) :
  Cl 21 #[.pointer (some ⟨b,0,none⟩),qNw E f v o k u] w fun e l=>e=.returned (I4 0)/\Chg w l (fun x=>x=b∨x=rb)/\Hp l rb 26 (qBx (M.regs.set 0 n))/\Hp l b 73 ((cs.set 9 (I4 0)).set 7 (I4 ((M.pc+1:Nat):Int))):=by
 have a5:=h.st.lt;have ad:=h.rg.lt;have z:b≠rb:=qCw h.st h.rg (by decide)
 have ac:(M.pc:Int)<xs.length:=by omega
 have V:(M.pc:Int)<=100:=by have:=h.pc;omega
 obtain ⟨R,a7,ab⟩:=qXu hx hp;obtain ⟨⟨op,d,a,bb,B⟩,HI⟩:∃ i,Hid (nth xs M.pc=i):=⟨_,rfl⟩;rw [HI.out] at R hn;have a9:Hid (qJk B E f v=n):=hn;obtain ⟨_,_,_,_,U⟩:=R;simp only at U;obtain ⟨Z,HZ,L,J,ae,z0,z1,z2,z3,X,z5⟩:∃ Z,Hid (Z=w.alloc (.cells #[I4 E,.bool f,U8 v,.bool o,U8 k,U8 u] 45))/\Hid (Rdm Z b rb tb cs M)/\Bw w Z/\Z.heap.size=w.heap.size+1/\Z.cell? ⟨w.heap.size,0,none⟩=some (I4 E)/\Z.cell? ⟨w.heap.size,1,none⟩=some (.bool f)/\Z.cell? ⟨w.heap.size,2,none⟩=some (U8 v)/\Z.cell? ⟨w.heap.size,3,none⟩=some (.bool o)/\Z.cell? ⟨w.heap.size,4,none⟩=some (U8 k)/\Z.cell? ⟨w.heap.size,5,none⟩=some (U8 u) :=
  ⟨_,rfl,h.below ((Below.refl _ _).alloc (Nat.le_refl _) _),by go_grown,by simp,by go_cell,by go_cell,by go_cell,by go_cell,by go_cell,by go_cell⟩
 have c9:=h.st.cell T
 have s:w.heap.size≠rb:=by omega
 have P:Hid (∀ c:World,Bw Z c->c.cell? ⟨b,5,none⟩=some (.slice (some ⟨rb,0,none⟩) 8 8)/\c.cell? ⟨b,1,none⟩=some (.slice (some ⟨cb,co,none⟩) xs.length ccap)/\c.cell? ⟨b,7,none⟩=some (I4 M.pc)/\c.cell? ⟨cb,co+M.pc*5+4,none⟩=some (I4 B)/\c.cell? ⟨w.heap.size,0,none⟩=some (I4 E)/\c.cell? ⟨w.heap.size,1,none⟩=some (.bool f)/\c.cell? ⟨w.heap.size,2,none⟩=some (U8 v)/\c.cell? ⟨w.heap.size,3,none⟩=some (.bool o)/\c.cell? ⟨w.heap.size,4,none⟩=some (U8 k)/\c.cell? ⟨w.heap.size,5,none⟩=some (U8 u)):=fun c g=>⟨(L.out.below g).st.cell h.c5,(L.out.below g).st.cell a1,(L.out.below g).st.cell h.c7,(g.cell (p:=⟨cb,co+M.pc*5+4,none⟩) (show cb<Z.heap.size by omega)).trans ((J.cell (p:=⟨cb,co+M.pc*5+4,none⟩) a7).trans U),(g.cell (p:=⟨w.heap.size,0,none⟩) (show w.heap.size<Z.heap.size by omega)).trans z0,(g.cell (p:=⟨w.heap.size,1,none⟩) (show w.heap.size<Z.heap.size by omega)).trans z1,(g.cell (p:=⟨w.heap.size,2,none⟩) (show w.heap.size<Z.heap.size by omega)).trans z2,(g.cell (p:=⟨w.heap.size,3,none⟩) (show w.heap.size<Z.heap.size by omega)).trans z3,(g.cell (p:=⟨w.heap.size,4,none⟩) (show w.heap.size<Z.heap.size by omega)).trans X,(g.cell (p:=⟨w.heap.size,5,none⟩) (show w.heap.size<Z.heap.size by omega)).trans z5⟩
 have a2:Hid (∀ (c:World) (y:Int),(c.cell? ⟨b,5,none⟩=some (.slice (some ⟨rb,0,none⟩) 8 8)/\c.cell? ⟨b,1,none⟩=some (.slice (some ⟨cb,co,none⟩) xs.length ccap)/\c.cell? ⟨b,7,none⟩=some (I4 M.pc)/\c.cell? ⟨cb,co+M.pc*5+4,none⟩=some (I4 B)/\c.cell? ⟨w.heap.size,0,none⟩=some (I4 E)/\c.cell? ⟨w.heap.size,1,none⟩=some (.bool f)/\c.cell? ⟨w.heap.size,2,none⟩=some (U8 v)/\c.cell? ⟨w.heap.size,3,none⟩=some (.bool o)/\c.cell? ⟨w.heap.size,4,none⟩=some (U8 k)/\c.cell? ⟨w.heap.size,5,none⟩=some (U8 u))->b<c.heap.size->cb<c.heap.size->w.heap.size<c.heap.size->(c.setCell ⟨rb,0,none⟩ (U8 y)).cell? ⟨b,5,none⟩=some (.slice (some ⟨rb,0,none⟩) 8 8)/\(c.setCell ⟨rb,0,none⟩ (U8 y)).cell? ⟨b,1,none⟩=some (.slice (some ⟨cb,co,none⟩) xs.length ccap)/\(c.setCell ⟨rb,0,none⟩ (U8 y)).cell? ⟨b,7,none⟩=some (I4 M.pc)/\(c.setCell ⟨rb,0,none⟩ (U8 y)).cell? ⟨cb,co+M.pc*5+4,none⟩=some (I4 B)/\(c.setCell ⟨rb,0,none⟩ (U8 y)).cell? ⟨w.heap.size,0,none⟩=some (I4 E)/\(c.setCell ⟨rb,0,none⟩ (U8 y)).cell? ⟨w.heap.size,1,none⟩=some (.bool f)/\(c.setCell ⟨rb,0,none⟩ (U8 y)).cell? ⟨w.heap.size,2,none⟩=some (U8 v)/\(c.setCell ⟨rb,0,none⟩ (U8 y)).cell? ⟨w.heap.size,3,none⟩=some (.bool o)/\(c.setCell ⟨rb,0,none⟩ (U8 y)).cell? ⟨w.heap.size,4,none⟩=some (U8 k)/\(c.setCell ⟨rb,0,none⟩ (U8 y)).cell? ⟨w.heap.size,5,none⟩=some (U8 u)):=fun c y r g hc D=>⟨(qAm (qAc c rb 0 _) g z).trans r.1,(qAm (qAc c rb 0 _) g z).trans r.2.1,(qAm (qAc c rb 0 _) g z).trans r.2.2.1,(qAm (qAc c rb 0 _) hc a3.1).trans r.2.2.2.1,(qAm (qAc c rb 0 _) D s).trans r.2.2.2.2.1,(qAm (qAc c rb 0 _) D s).trans r.2.2.2.2.2.1,(qAm (qAc c rb 0 _) D s).trans r.2.2.2.2.2.2.1,(qAm (qAc c rb 0 _) D s).trans r.2.2.2.2.2.2.2.1,(qAm (qAc c rb 0 _) D s).trans r.2.2.2.2.2.2.2.2.1,(qAm (qAc c rb 0 _) D s).trans r.2.2.2.2.2.2.2.2.2⟩
 go_enter Tryz.func21,Tryz.ntmps21;go_wp2;rw [<- HZ.out];clear z0 z1 z2 z3 X z5 U c9
 go_region_held3 (fun l=>l.cell? ⟨b,5,none⟩=some (.slice (some ⟨rb,0,none⟩) 8 8)/\l.cell? ⟨b,1,none⟩=some (.slice (some ⟨cb,co,none⟩) xs.length ccap)/\l.cell? ⟨b,7,none⟩=some (I4 M.pc)/\l.cell? ⟨cb,co+M.pc*5+4,none⟩=some (I4 B)/\l.cell? ⟨w.heap.size,0,none⟩=some (I4 E)/\l.cell? ⟨w.heap.size,1,none⟩=some (.bool f)/\l.cell? ⟨w.heap.size,2,none⟩=some (U8 v)/\l.cell? ⟨w.heap.size,3,none⟩=some (.bool o)/\l.cell? ⟨w.heap.size,4,none⟩=some (U8 k)/\l.cell? ⟨w.heap.size,5,none⟩=some (U8 u))
  (first|with_reducible exact I|with_reducible exact O|exact P.out Z (Below.refl _ _))
  (first
   | (go_at_call 47;go_must (refine (yPv a9 Z.drew).mono ?_);rintro e G ⟨rfl,K⟩;go_must (have N:Bw Z G:=qAg K;have I:=P.out G N;have A:Bw w G:=J.trans (N.mono J.size);have af:=N.size;have O:=a2.out G n I (by omega) (by omega) (by omega);have y0:=((h.rg.below A h.rg.lt).cell (qDu (show 0<M.regs.length by rw [h.wr.1];omega)));have f0:=(h.rg.below A h.rg.lt).frozen 0;clear K)))
 obtain ⟨Y,HY,a8,F,a6⟩:∃ Y,Hid (Y=G.setCell ⟨rb,0,none⟩ (U8 n))/\Hid (Hp Y rb 26 (qBx (M.regs.set 0 n)))/\Hid (Hp Y b 73 cs)/\Chg w Y (fun x=>x=b∨x=rb) :=
  ⟨_,rfl,(qFx h A n).2,(h.st.below A a5).far z,Chg.of_grown (qFx h A n).1 (.inr rfl)⟩
 have y9:=F.out.cell T;have f9:=F.out.frozen 9;rw [<- HY.out];have Q:=qAa (F.out.set 9 (I4 0));have aa:=qAa (a8.out.far (b':=b) (i:=9) (v:=I4 0) (Ne.symm z));have a4:Chg w (Y.setCell ⟨b,9,none⟩ (I4 0)) (fun x=>x=b∨x=rb):=a6.trans (Chg.of_grown (qAc Y b 9 _) (S:=fun x=>x=b) rfl) (fun _ _ e=>.inl e)
 have a0:(cs.set 9 (I4 0))[7]? = some (I4 M.pc):=by rw [List.getElem?_set_ne (by omega)];exact h.c7
 clear I O y0 f0
 go_wp2_with (go_at_call 41;go_must (refine (qPi _ Q.out a0 V).mono ?_);rintro e w6 ⟨rfl,rfl⟩)
 go_ret;exact ⟨rfl,a4.trans (Chg.of_grown (qAc _ b 7 _) (S:=fun x=>x=b) rfl) (fun _ _ e=>.inl e),aa.out.far (Ne.symm z),Q.out.set 7 _⟩
theorem yTt {b rb tb m:Nat}{cs:List Value}{M:Mc}(w:World)(h:Rdm w b rb tb cs M)(a:cs[9]? = some (I4 m))(hm:m≠2) :
  Cl 43 #[.pointer (some ⟨b,0,none⟩)] w fun e c=>e=.returned (.tuple #[U8 0,.bool false])/\Bw w c:=by
 have g:=h.st.cell a;have f:=h.st.lt
 have d:((m:Int) != 2)=true:=by simp;omega
 go_enter Tryz.func43,Tryz.ntmps43;go_wp2;go_ret2;exact ⟨rfl,by go_grown⟩
theorem yOx {b rb tb:Nat}{cs:List Value}{M:Mc}(w:World)(h:Rdm w b rb tb cs M)(l:cs[9]? = some (I4 2)){cb co ccap:Nat}{xs:List In}(g:cs[1]? = some (.slice (some ⟨cb,co,none⟩) xs.length ccap))(k:SeesI w (.slice (some ⟨cb,co,none⟩) xs.length ccap) xs)(D:M.pc<xs.length)(c:0<=(nth xs M.pc).a/\(nth xs M.pc).a<=7){n:Int}(o:Hid (qBj M.regs (nth xs M.pc).a=n)) :
  Cl 43 #[.pointer (some ⟨b,0,none⟩)] w fun e y=>e=.returned (.tuple #[U8 n,.bool true])/\Bw w y:=by
 have G:=h.st.lt;have L:=h.rg.lt
 have F:(M.pc:Int)<xs.length:=by omega
 have A:(M.pc:Int)<=100:=by have:=h.pc;omega
 obtain ⟨f,J,E⟩:=qXu k D;obtain ⟨⟨op,d,a,O,I⟩,u⟩:∃ i,Hid (nth xs M.pc=i):=⟨_,rfl⟩;rw [u.out] at f o c;simp only at c;obtain ⟨q,rfl⟩:=Int.eq_ofNat_of_zero_le c.1
 have r:q<8:=by omega
 have K:(q:Int)<8:=by omega
 have s:Hid (M.regs.getD q 0=n):=o.out;obtain ⟨_,_,z,_,_⟩:=f;simp only at z;have P:=h.st.cell l;have R:=h.st.cell h.c5;have Q:=h.st.cell h.c7;have N:=h.st.cell g;have B:=(h.cells r).2.2.2.1;rw [s.out] at B;clear k c;go_enter Tryz.func43,Tryz.ntmps43;go_wp2;go_region;go_wp2;go_ret2;exact ⟨rfl,qAn (Below.refl _ _)⟩
theorem yLf {b rb tb:Nat}{cs:List Value}{M:Mc}(op d a s k o r l g n v:Int)(w:World)(h:Rdm w b rb tb cs M){x:Int}(X:Hid (qBj M.regs 1=x)) :
  Cl 37 #[.pointer (some ⟨b,0,none⟩),qAl op d a s 6,qEp k o r l g n v] w fun e E=>e=.returned (qEp 3 o r l g n x)/\Chg w E (fun x=>x=b∨x=rb)/\Hp E rb 26 (qBx (M.regs.set 0 0))/\Hp E b 73 (cs.set 7 (I4 ((M.pc+1:Nat):Int))):=by
 have ac:=h.st.lt;have ad:=h.rg.lt
 have a7:b<w.heap.size+1:=by omega
 have a9:b<w.heap.size+1+1:=by omega
 have a8:rb<w.heap.size+1:=by omega
 have Z:rb<w.heap.size+1+1:=by omega
 have z:b≠rb:=qCw h.st h.rg (by decide);have c5:=(h.cells (show 1<8 by omega)).1;have U:=(h.cells (show 1<8 by omega)).2.2.2.1;have K:Hid (M.regs.getD 1 0=x):=X.out;rw [K.out] at U;have c0:=(h.cells (show 0<8 by omega)).2.2.2.1;have aa:=h.rg.frozen 0
 have F:(M.pc:Int)<=100:=by have:=h.pc;omega
 go_enter Tryz.func37,Tryz.ntmps37
 obtain ⟨Y,T,y,R,J,G,N,ab⟩:∃ Y,Hid (Y=(((w.setCell ⟨rb,0,none⟩ (U8 0)).alloc (qBr op d a s 6)).alloc (.cells #[I4 3,I4 o,I4 r,I4 l,U8 g,U8 n,U8 x] 80)).alloc (.cells #[I4 0,I4 0,I4 0,I4 0,U8 0,U8 0,U8 0] 80))/\Hid (Hp Y b 73 cs)/\Hid (Hp Y rb 26 (qBx (M.regs.set 0 0)))/\Hid (Hp Y (w.heap.size+1) 80 (qAh 3 o r l g n x))/\Hid (Hp Y (w.heap.size+1+1) 80 (qAh 0 0 0 0 0 0 0))/\Chg w Y (fun x=>x=b∨x=rb)/\w.heap.size+3<=Y.heap.size:=by
  have Q:=qFx h (Below.refl _ _) (k:=0) 0
  have hsz:(w.setCell ⟨rb,0,none⟩ (U8 0)).heap.size=w.heap.size:=by simp [World.setCell]
  refine ⟨_,rfl,(((h.st.far z).alloc _).alloc _).alloc _,((Q.2.alloc _).alloc _).alloc _,?_,?_,?_,?_⟩
  ·have:=(Hp.new ((w.setCell ⟨rb,0,none⟩ (U8 0)).alloc (qBr op d a s 6)) (qAh 3 o r l g n x) 80).alloc (.cells #[I4 0,I4 0,I4 0,I4 0,U8 0,U8 0,U8 0] 80);rw [World.size_alloc,hsz] at this;exact this
  ·have:=Hp.new (((w.setCell ⟨rb,0,none⟩ (U8 0)).alloc (qBr op d a s 6)).alloc (.cells #[I4 3,I4 o,I4 r,I4 l,U8 g,U8 n,U8 x] 80)) (qAh 0 0 0 0 0 0 0) 80;rw [World.size_alloc,World.size_alloc,hsz] at this;exact this
  ·exact (Chg.of_grown Q.1 (.inr rfl)).trans (Chg.of_below (S:=fun _=>False) (by go_grown)) (fun _ _ e=>e.elim)
  ·simp [hsz]
 have B:=qAa (y.out.set 7 (I4 ((M.pc+1:Nat):Int)))
 have O:w.heap.size+1≠b:=by omega
 have D:w.heap.size+1+1≠b:=by omega
 have L:w.heap.size+1+1≠rb:=by omega
 have f:=qAa (J.out.far (b':=b) (i:=7) (v:=I4 ((M.pc+1:Nat):Int)) O);have u:=qAa (R.out.far (b':=b) (i:=7) (v:=I4 ((M.pc+1:Nat):Int)) (Ne.symm z));have A:=qAa (N.trans (Chg.of_grown (qAc Y b 7 (I4 ((M.pc+1:Nat):Int))) (S:=fun x=>x=b) rfl) (fun _ _ e=>.inl e));have c:=qAa (G.out.far (b':=b) (i:=7) (v:=I4 ((M.pc+1:Nat):Int)) D)
 go_wp2_with (go_at_call 41;rw [<- T.out];go_must (refine (qPi _ y.out h.c7 F).mono ?_);rintro e w6 ⟨rfl,rfl⟩;go_must (obtain ⟨V,I⟩:∃ V,Hid (V=Y.setCell ⟨b,7,none⟩ (I4 ((M.pc+1:Nat):Int))):=⟨_,rfl⟩;rw [<- I.out] at B f c u A;obtain ⟨⟨a0,a1,a2,a3,a4,a5,a6⟩,-⟩:=hq7 f.out;obtain ⟨⟨o0,o1,o2,o3,o4,o5,o6⟩,q0,q1,q2,q3,q4,q5,q6⟩:=hq7 c.out;rw [<- I.out]))
 have P:=c.out.sets (qAh 3 o r l g n x) 0;rw [qBo (qAh 3 o r l g n x) (qAh 0 0 0 0 0 0 0) rfl] at P;refine qDx rfl rfl P ⟨rfl,?_,u.out.fars (Ne.symm L) (qAh 3 o r l g n x) 0,B.out.fars (Ne.symm D) (qAh 3 o r l g n x) 0⟩;exact A.out.trans (Chg.of_grown (qAd (w.heap.size+1+1) (qAh 3 o r l g n x) V 0) (S:=fun x=>x=w.heap.size+1+1) rfl) (fun k hk e=>by omega)
section
variable {b sb:Nat} {vm:Value} {ev:Int×Int} {M:Mc}
theorem Chg.drewE {w a:World}{S:Nat->Prop}(h:Chg w a S):Chg w a.drew S:=⟨h.os,h.tape,h.output,h.size,h.block⟩
theorem yJb {s:Value}(w:World)(h:Ma w b sb vm s ev M)(hm:M.mode=1) :
  Cl 18 #[.pointer (some ⟨b,0,none⟩)] w fun e n=>e=.returned (qEp 5 M.pc 0 0 0 0 0)/\Bw w n:=by
 have y:=h.hp.lt;have l:=h.last.2.2;rw [hm] at l;obtain ⟨V,k,i,d,f,u⟩:=yDv h;go_enter Tryz.func18,Tryz.ntmps18
 go_wp2_with (go_at_call 32;rw [k.out];go_must (refine (qJn 5 0 V i.out).mono ?_);rintro e o ⟨rfl,c⟩;go_must (have a:=qAa (d.out.below c d.out.lt);obtain ⟨⟨A,E,G,F,D,J,I⟩,q0,K,N,z,O,L,B⟩:=hq7 a.out;  skip))
 have g:=a.out.sets (qAh 5 M.pc 0 0 0 0 0) 0;rw [qBo (qAh 5 M.pc 0 0 0 0 0) (qAh 0 0 0 0 0 0 0) rfl] at g;have r:=qAd w.heap.size (qAh 5 M.pc 0 0 0 0 0) o 0;exact qDx rfl rfl g ⟨rfl,(f.trans (c.mono (by omega))).trans (qAi r (Nat.le_refl _) (f.trans (c.mono (by omega))).size)⟩
theorem yLr {cb co ccap:Nat}{xs:List In}(w:World)(h:Ma w b sb vm (.slice (some ⟨cb,co,none⟩) xs.length ccap) ev M)(u:SeesI w (.slice (some ⟨cb,co,none⟩) xs.length ccap) xs)(G:M.pc<xs.length)(hm:M.mode=2)(D:0<=(nth xs M.pc).a/\(nth xs M.pc).a<=7){n:Int}(I:Hid (qBj M.regs (nth xs M.pc).a=n)) :
  Cl 18 #[.pointer (some ⟨b,0,none⟩)] w fun e B=>e=.returned (qEp 6 M.pc 0 0 0 0 n)/\Bw w B:=by
 have K:=h.hp.lt;have A:=h.last.2.2;rw [hm] at A;obtain ⟨V,z,f,g,i,J⟩:=yDv h;have s:=qAa (u.below i);clear u;go_enter Tryz.func18,Tryz.ntmps18
 go_wp2_with (first
  | (go_at_call 33;rw [z.out];go_must (refine (qOu V f.out s.out G D I).mono ?_);rintro e r ⟨rfl,d⟩;go_must (have o:=qAa (f.out.below d f.out.hp.lt);have L:=d.size))
  | (go_at_call 32;go_must (refine (qJn 6 n r o.out).mono ?_);rintro e E ⟨rfl,l⟩;go_must (have c:=qAa ((g.out.below d g.out.lt).below l (by omega));obtain ⟨⟨O,R,T,S,Q,X,o6⟩,q0,Y,q2,N,U,Z,P⟩:=hq7 c.out;  skip)))
 have y:=c.out.sets (qAh 6 M.pc 0 0 0 0 n) 0;rw [qBo (qAh 6 M.pc 0 0 0 0 n) (qAh 0 0 0 0 0 0 0) rfl] at y;have F:=qAd w.heap.size (qAh 6 M.pc 0 0 0 0 n) E 0;have k:=(i.trans (d.mono (by omega))).trans (l.mono (show w.heap.size<=r.heap.size by omega));exact qDx rfl rfl y ⟨rfl,k.trans (qAi F (Nat.le_refl _) k.size)⟩
end
end Go.Proofs.YtmdhljoicnommaaGreat
