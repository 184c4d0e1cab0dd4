/-
  E11Doc
  E11Goes
  E11Lays
  E11LaysA
  E11LTurn
  E11LAsk
  E11LCall
  E11LMap
-/
import Derived.Test.YtmdhljoicnommaaGreatMS29
import Derived.Test.YtmdhljoicnommaaGreatMS22
import Derived.Test.YtmdhljoicnommaaGreatMS33
import Derived.Test.YtmdhljoicnommaaGreatMS31
namespace Go.Proofs.YtmdhljoicnommaaGreat
set_option maxHeartbeats 12800000
open Go.RowKit
set_option linter.unusedVariables false
set_option linter.unusedSimpArgs false
set_option maxRecDepth 100000
abbrev sdC (vm vc:Value) (ea eb:Int) (bb rb tb:Nat) (p n m:Nat):List Value:=[vm,vc,.int .u64 ea,.int .u64 eb,.pointer (some ⟨bb,0,none⟩),.slice (some ⟨rb,0,none⟩) 8 8,.slice (some ⟨tb,0,none⟩) 64 64,.int .i64 p,.int .i64 n,.int .i64 m]
theorem don_any {b p:Nat}{cs:List Value}(w:World)(h:Hp w b 73 cs)(a:cs[7]? = some (I4 p))(g:(p:Int)<=100) :
  Cl 41 #[.pointer (some ⟨b,0,none⟩)] w fun e c=>e=.returned (.tuple #[])/\c=w.setCell ⟨b,7,none⟩ (I4 ((p+1:Nat):Int)):=by
 have f:=h.cell a;have i:=h.frozen 7;have d:=h.lt;go_enter Tryz.func41,Tryz.ntmps41;go_wp2;exact bodyPost_end (results_none rfl _ _ _) rfl ⟨rfl,by simp⟩
theorem dsource_any {b rb:Nat}{cs:List Value}{R:List Int}(i:In)(w:World)(h:Hp w b 73 cs)(B:cs[5]? = some (.slice (some ⟨rb,0,none⟩) 8 8))(u:Hp w rb 26 (nums R))(Q:R.length=8)(D:i.b=8∨(0<=i.b/\i.b<=7)){n:Int}(r:Hid (srcV i R=n)) :
  Cl 66 #[.pointer (some ⟨b,0,none⟩),instV i.op i.d i.a i.b i.imm] w fun e E=>e=.returned (U8 n)/\Bw w E:=by
 obtain ⟨op,d,a,f,c⟩:=i;simp only at D ⊢;have o:=h.cell B;have z:=h.lt;have s:=u.lt
 by_cases h8:f=8
 ·subst h8
  have l:Hid (IntKind.u64.wrap c=n):=by
   show _=_
   rw [<- r.out,IntKind.wrap_u64]
   rfl
  go_enter Tryz.func66,Tryz.ntmps66;go_wp2;go_ret;exact ⟨by rw [<- l.out];first|rfl|(simp;done),by go_grown⟩
 ·have G:(f==8)=false:=by simpa using h8
  obtain ⟨k,rfl⟩:=Int.eq_ofNat_of_zero_le (show 0<=f by omega)
  have J:k<8:=by omega
  have F:(k:Int)<8:=by omega
  have l:Hid (R.getD k 0=n):=by
   show _=_
   rw [<- r.out];unfold srcV;rw [if_neg h8]
   rfl
  have g:=u.cell (qBy (show k<R.length by omega));rw [l.out] at g
  obtain ⟨Z,A,y,N,P,O,L,M,I,K⟩:∃ Z,Hid (Z=w.alloc (instO op d a k c))/\Bw w Z/\Z.cell? ⟨w.heap.size,0,none⟩=some (I4 op)/\Z.cell? ⟨w.heap.size,1,none⟩=some (I4 d)/\Z.cell? ⟨w.heap.size,2,none⟩=some (I4 a)/\Z.cell? ⟨w.heap.size,3,none⟩=some (I4 k)/\Z.cell? ⟨w.heap.size,4,none⟩=some (I4 c)/\Z.cell? ⟨b,5,none⟩=some (.slice (some ⟨rb,0,none⟩) 8 8)/\Z.cell? ⟨rb,k,none⟩=some (U8 n):=by
   refine ⟨_,rfl,by go_grown,by go_cell,by go_cell,by go_cell,by go_cell,by go_cell,?_,?_⟩
   ·rw [((Below.refl w.heap.size w).alloc (Nat.le_refl _) _).cell (p:=⟨b,5,none⟩) z];exact o
   ·rw [((Below.refl w.heap.size w).alloc (Nat.le_refl _) _).cell (p:=⟨rb,k,none⟩) s];exact g
  clear o g;go_enter Tryz.func66,Tryz.ntmps66;go_wp2;rw [<- A.out];go_region;go_wp2;go_ret;exact ⟨rfl,qAj y⟩
structure Rdm (w:World) (b rb tb:Nat) (cs:List Value) (M:Mc):Prop where
 st:Hp w b 73 cs
 c5:cs[5]? = some (.slice (some ⟨rb,0,none⟩) 8 8)
 c6:cs[6]? = some (.slice (some ⟨tb,0,none⟩) 64 64)
 c7:cs[7]? = some (.int .i64 M.pc)
 rg:Hp w rb 26 (nums M.regs)
 tn:Hp w tb 2 (tnC M.turn)
 wr:WR M.regs
 pc:M.pc<64
theorem Rdm.below {w c:World}{b rb tb:Nat}{cs:List Value}{M:Mc}(h:Rdm w b rb tb cs M)(a:Bw w c):Rdm c b rb tb cs M :=
 ⟨h.st.below a h.st.lt,h.c5,h.c6,h.c7,h.rg.below a h.rg.lt,h.tn.below a h.tn.lt,h.wr,h.pc⟩
theorem Rdm.cells {w:World}{b rb tb:Nat}{cs:List Value}{M:Mc}(h:Rdm w b rb tb cs M){k:Nat}(a:k<8):w.cell? ⟨b,5,none⟩=some (.slice (some ⟨rb,0,none⟩) 8 8)/\w.cell? ⟨b,6,none⟩=some (.slice (some ⟨tb,0,none⟩) 64 64)/\w.cell? ⟨b,7,none⟩=some (I4 M.pc)/\w.cell? ⟨rb,k,none⟩=some (U8 (M.regs.getD k 0))/\w.cell? ⟨tb,M.pc,none⟩=some (I4 (M.turn M.pc)) :=
 ⟨h.st.cell h.c5,h.st.cell h.c6,h.st.cell h.c7,h.rg.cell (qBy (by rw [h.wr.1];exact a)),h.tn.cell (tnC_at _ h.pc)⟩
theorem boxI {w:World}{b rb tb:Nat}{cs:List Value}{M:Mc}(h:Rdm w b rb tb cs M)(op d a f c:Int):∃ Z,Hid (Z=w.alloc (instO op d a f c))/\Bw w Z/\Z.heap.size=w.heap.size+1/\Hid (Rdm Z b rb tb cs M)/\(Z.cell? ⟨w.heap.size,0,none⟩=some (I4 op)/\Z.cell? ⟨w.heap.size,1,none⟩=some (I4 d)/\Z.cell? ⟨w.heap.size,2,none⟩=some (I4 a)/\Z.cell? ⟨w.heap.size,3,none⟩=some (I4 f)/\Z.cell? ⟨w.heap.size,4,none⟩=some (I4 c)) :=
 ⟨_,rfl,by go_grown,by simp,h.below ((Below.refl _ _).alloc (Nat.le_refl _) _),by go_cell,by go_cell,by go_cell,by go_cell,by go_cell⟩
theorem dgoes_jump {b rb tb:Nat}{cs:List Value}{M:Mc}(d a g c:Int)(w:World)(h:Rdm w b rb tb cs M) :
  Cl 39 #[.pointer (some ⟨b,0,none⟩),instV 15 d a g c] w fun e f=>e=.returned (.bool true)/\Bw w f:=by
 go_enter Tryz.func39,Tryz.ntmps39;go_wp2;go_ret;exact ⟨rfl,by go_grown⟩
theorem dgoes_cond {b rb tb:Nat}{cs:List Value}{M:Mc}(op d a g f:Int)(w:World)(h:Rdm w b rb tb cs M)(ho:16<=op/\op<=19)(R:0<=a/\a<=7)(l:g=8∨(0<=g/\g<=7)){r:Bool}(S:Hid (holdL op (regV M.regs a) (srcV ⟨op,d,a,g,f⟩ M.regs)=r)) :
  Cl 39 #[.pointer (some ⟨b,0,none⟩),instV op d a g f] w fun e n=>e=.returned (.bool r)/\Bw w n:=by
 obtain ⟨Z,T,z,Y,s,N,P,O,K,L⟩:=boxI h op d a g f;obtain ⟨k,rfl⟩:=Int.eq_ofNat_of_zero_le R.1
 have I:k<8:=by omega
 have a0:(k:Int)<8:=by omega
 obtain ⟨x,F⟩:∃ x,Hid (M.regs.getD k 0=x):=⟨_,rfl⟩;obtain ⟨y,E⟩:∃ y,Hid (srcV ⟨op,d,k,g,f⟩ M.regs=y):=⟨_,rfl⟩
 have V:0<=x/\x<=18446744073709551615:=by rw [<- F.out];exact h.wr.2 k I
 have Q:0<=y/\y<=18446744073709551615:=by rw [<- E.out];exact srcV_in h.wr l
 have U:Hid (r=holdL op x y):=by
  show _=_
  rw [<- S.out,<- F.out,<- E.out]
  rfl
 obtain ⟨c,X⟩:∃ c,Hid (c=isCond op):=⟨_,rfl⟩
 have a4:(op==15)=false:=by simp;omega
 have a2:(op==20)=false:=by simp;omega
 have a3:=h.st.lt;have a1:=h.rg.lt
 have A:Hid (∀ i,Bw Z i->i.cell? ⟨b,5,none⟩=some (.slice (some ⟨rb,0,none⟩) 8 8)/\i.cell? ⟨rb,k,none⟩=some (U8 x)/\i.cell? ⟨w.heap.size,0,none⟩=some (I4 op)/\i.cell? ⟨w.heap.size,1,none⟩=some (I4 d)/\i.cell? ⟨w.heap.size,2,none⟩=some (I4 k)/\i.cell? ⟨w.heap.size,3,none⟩=some (I4 g)/\i.cell? ⟨w.heap.size,4,none⟩=some (I4 f)):=fun i l=>by
  have D:=(s.out.below l).cells I;rw [F.out] at D;exact ⟨D.1,D.2.2.2.1,(l.cell (p:=⟨w.heap.size,0,none⟩) (show w.heap.size<Z.heap.size by omega)).trans N,(l.cell (p:=⟨w.heap.size,1,none⟩) (show w.heap.size<Z.heap.size by omega)).trans P,(l.cell (p:=⟨w.heap.size,2,none⟩) (show w.heap.size<Z.heap.size by omega)).trans O,(l.cell (p:=⟨w.heap.size,3,none⟩) (show w.heap.size<Z.heap.size by omega)).trans K,(l.cell (p:=⟨w.heap.size,4,none⟩) (show w.heap.size<Z.heap.size by omega)).trans L⟩
 go_enter Tryz.func39,Tryz.ntmps39;go_wp2;rw [<- T.out];clear N P O K L
 go_region_held3 (fun n=>n.cell? ⟨b,5,none⟩=some (.slice (some ⟨rb,0,none⟩) 8 8)/\n.cell? ⟨rb,k,none⟩=some (U8 x)/\n.cell? ⟨w.heap.size,0,none⟩=some (I4 op)/\n.cell? ⟨w.heap.size,1,none⟩=some (I4 d)/\n.cell? ⟨w.heap.size,2,none⟩=some (I4 k)/\n.cell? ⟨w.heap.size,3,none⟩=some (I4 g)/\n.cell? ⟨w.heap.size,4,none⟩=some (I4 f))
  (first|with_reducible exact J|exact A.out Z (Below.refl _ _))
  (first
   | (go_at_call 66;go_must (refine (dsource_any ⟨op,d,k,g,f⟩ Z.drew s.out.st s.out.c5 s.out.rg h.wr.1 l E).mono ?_);rintro e B ⟨rfl,o⟩;go_must (have u:Bw Z B:=qAf o;have J:=A.out B u;have G:Bw w B:=z.trans (u.mono z.size);clear o))
   | (go_at_call 65;go_must (refine (rholds_as U X _ V Q).mono ?_);rintro e w5 ⟨rfl,rfl⟩))
 go_wp2;go_ret;exact ⟨rfl,G⟩
theorem qAi {w a:World}{tb x j:Nat}(h:w.grownBy a (some tb))(c:x<w.heap.size)(b:x≠tb):a.cell? ⟨x,j,none⟩=w.cell? ⟨x,j,none⟩:=World.cell?_of_block (h.block x c (fun e=>b (by injection e)))
theorem dgoes_loop {b rb tb:Nat}{cs:List Value}{M:Mc}(d a g c:Int)(w:World)(h:Rdm w b rb tb cs M)(O:0<=a/\a<=7)(hi:1<=c/\c<=255)(I:0<=M.turn M.pc/\M.turn M.pc<=255) :
  Cl 39 #[.pointer (some ⟨b,0,none⟩),instV 20 d a g c] w fun e f=>e=.returned (.bool (goesE ⟨20,d,a,g,c⟩ M))/\w.grownBy f (some tb)/\Hp f tb 2 (tnC (turnE ⟨20,d,a,g,c⟩ M)):=by
 obtain ⟨Z,E,J,Q,l,x0,x1,x2,x3,x4⟩:=boxI h 20 d a g c;obtain ⟨k,rfl⟩:=Int.eq_ofNat_of_zero_le O.1
 have K:k<8:=by omega
 have T:(k:Int)<8:=by omega
 have V:(M.pc:Int)<64:=by have:=h.pc;omega
 obtain ⟨c0,o,n,N,P⟩:=l.out.cells K;obtain ⟨x,G⟩:∃ x,Hid (M.regs.getD k 0=x):=⟨_,rfl⟩;obtain ⟨t,B⟩:∃ t,Hid (M.turn M.pc=t):=⟨_,rfl⟩;rw [G.out] at N;rw [B.out] at P I;obtain ⟨a0,R⟩:=I
 have hx:0<=x/\x<=18446744073709551615:=by rw [<- G.out];exact h.wr.2 k K
 have y:b≠tb:=qBi h.st h.tn (by decide);have X:rb≠tb:=qBi h.rg h.tn (by decide);have a1:=l.out.tn.lt
 have U:w.heap.size≠tb:=by have:=h.tn.lt;omega
 have f0:=l.out.tn.frozen M.pc
 have D:Hid (goesE ⟨20,d,k,g,c⟩ M=(decide (0<x)&&decide (t<c))):=by
  show _=_
  unfold goesE;rw [if_neg (by simp),if_pos rfl]
  show decide (0<M.regs.getD k 0/\M.turn M.pc<c)=_
  simp only [G.out,B.out,Bool.decide_and]
 have A:Hid (turnE ⟨20,d,k,g,c⟩ M=fun u:Int=>if u=M.pc then (if goesE ⟨20,d,k,g,c⟩ M=true then t+1 else 0) else M.turn u):=by
  show _=_
  unfold turnE;rw [if_pos rfl,B.out]
 have F:Hid (∀ v:Int,Hp (Z.setCell ⟨tb,M.pc,none⟩ (I4 v)) tb 2 (tnC (fun u:Int=>if u=M.pc then v else M.turn u))):=fun v=>by
  have:=l.out.tn.set M.pc (I4 v);rw [tnC_set _ h.pc] at this;exact this
 have r:Hid (∀ v:Int,w.grownBy (Z.setCell ⟨tb,M.pc,none⟩ (I4 v)) (some tb)):=fun v=>qBb (qAu J _) (qAb Z tb M.pc _)
 have L:Hid (IntKind.i64.wrap (t+1)=t+1):=by show _=_;rw [IntKind.wrap_i64];omega
 have z:=l.out.st.lt
 have s:Hid (∀ v:Int,(Z.setCell ⟨tb,M.pc,none⟩ (I4 v)).cell? ⟨b,6,none⟩=some (.slice (some ⟨tb,0,none⟩) 64 64)/\(Z.setCell ⟨tb,M.pc,none⟩ (I4 v)).cell? ⟨b,7,none⟩=some (I4 M.pc)):=fun v =>
  ⟨(qAi (qAb Z tb M.pc (I4 v)) z y).trans o,(qAi (qAb Z tb M.pc (I4 v)) z y).trans n⟩
 by_cases hx0:0<x
 ·by_cases hti:t<c
  ·have i:Hid (goesE ⟨20,d,k,g,c⟩ M=true):=by show _=_;rw [D.out,decide_eq_true hx0,decide_eq_true hti];rfl
   rw [A.out,i.out];go_enter Tryz.func39,Tryz.ntmps39;go_wp2;rw [<- E.out];go_region;go_wp2;refine wp_region_held_drew (S:=fun f=>f.cell? ⟨b,6,none⟩=some (.slice (some ⟨tb,0,none⟩) 64 64)/\f.cell? ⟨b,7,none⟩=some (I4 M.pc)) (by kernel_rfl) ⟨o,n⟩ (fun hHeld=>?_);refine tkGo [0,1,2,3,4,5,6,7,8] ?_
   repeat (refine tkO (v:=?_) rfl ?_ ?_;rotate_left;(intro wy hSw;(try dsimp only at hSw);go_simp;(first|done|with_reducible rfl));try simp only [Act.put,p1q,p2q,p3q,p4q,p5q,p6q])
   refine tkEnd ?_;refine runO 9 (by kernel_rfl) rfl (by rfl) (fun KK hK=>?_);go_simp;refine hK.out _ _ ⟨o,n⟩ (fun hHeld=>?_);clear hK KK
   try simp only [Act.put,p1q,p2q,p3q,p4q,p5q,p6q]
   refine tkGo [10,11] ?_
   repeat (refine tkO (v:=?_) rfl ?_ ?_;rotate_left;(intro wy hSw;(try dsimp only at hSw);go_simp;(first|done|with_reducible rfl));try simp only [Act.put,p1q,p2q,p3q,p4q,p5q,p6q])
   refine tkEnd ?_;refine runO 12 (by kernel_rfl) rfl (by rfl) (fun KK hK=>?_);go_simp;rw [L.out];refine hK.out _ _ (s.out (t+1)) (fun hHeld=>?_);clear hK KK
   try simp only [Act.put,p1q,p2q,p3q,p4q,p5q,p6q]
   refine wpAnyH_done (by kernel_rfl) ?_ _;go_wp2;go_ret;exact ⟨rfl,qAy (qAy (r.out _)),by have:=(F.out (t+1)).drew.drew;exact this⟩
  ·have Y:¬ t<c:=hti
   have i:Hid (goesE ⟨20,d,k,g,c⟩ M=false):=by show _=_;rw [D.out,decide_eq_false hti,Bool.and_false]
   rw [A.out,i.out];go_enter Tryz.func39,Tryz.ntmps39;go_wp2;rw [<- E.out];go_region;go_wp2;refine wp_region_held_drew (S:=fun f=>f.cell? ⟨b,6,none⟩=some (.slice (some ⟨tb,0,none⟩) 64 64)/\f.cell? ⟨b,7,none⟩=some (I4 M.pc)) (by kernel_rfl) ⟨o,n⟩ (fun hHeld=>?_);refine tkGo [0,1,2,3,4,5,6,7,8] ?_
   repeat (refine tkO (v:=?_) rfl ?_ ?_;rotate_left;(intro wy hSw;(try dsimp only at hSw);go_simp;(first|done|with_reducible rfl));try simp only [Act.put,p1q,p2q,p3q,p4q,p5q,p6q])
   refine tkEnd ?_;refine runO 9 (by kernel_rfl) rfl (by rfl) (fun KK hK=>?_);go_simp;refine hK.out _ _ (s.out 0) (fun hHeld=>?_);clear hK KK
   try simp only [Act.put,p1q,p2q,p3q,p4q,p5q,p6q]
   refine wpAnyH_done (by kernel_rfl) ?_ _;go_wp2;go_ret;exact ⟨rfl,qAy (qAy (r.out _)),by have:=(F.out 0).drew.drew;exact this⟩
 ·obtain rfl:x=0:=by omega
  have i:Hid (goesE ⟨20,d,k,g,c⟩ M=false):=by show _=_;rw [D.out,decide_eq_false hx0,Bool.false_and]
  rw [A.out,i.out];go_enter Tryz.func39,Tryz.ntmps39;go_wp2;rw [<- E.out];go_region;go_wp2;refine wp_region_held_drew (S:=fun f=>f.cell? ⟨b,6,none⟩=some (.slice (some ⟨tb,0,none⟩) 64 64)/\f.cell? ⟨b,7,none⟩=some (I4 M.pc)) (by kernel_rfl) ⟨o,n⟩ (fun hHeld=>?_);refine tkGo [0,1,2,3,4,5,6,7,8] ?_
  repeat (refine tkO (v:=?_) rfl ?_ ?_;rotate_left;(intro wy hSw;(try dsimp only at hSw);go_simp;(first|done|with_reducible rfl));try simp only [Act.put,p1q,p2q,p3q,p4q,p5q,p6q])
  refine tkEnd ?_;refine runO 9 (by kernel_rfl) rfl (by rfl) (fun KK hK=>?_);go_simp;refine hK.out _ _ (s.out 0) (fun hHeld=>?_);clear hK KK
  try simp only [Act.put,p1q,p2q,p3q,p4q,p5q,p6q]
  refine wpAnyH_done (by kernel_rfl) ?_ _;go_wp2;go_ret;exact ⟨rfl,qAy (qAy (r.out _)),by have:=(F.out 0).drew.drew;exact this⟩
theorem qCo {w a:World}{b rb tb:Nat}{cs:List Value}{M:Mc}(h:Rdm w b rb tb cs M)(c:Bw w a){k:Nat}(v:Int) :
  w.grownBy (a.setCell ⟨rb,k,none⟩ (U8 v)) (some rb)/\Hp (a.setCell ⟨rb,k,none⟩ (U8 v)) rb 26 (nums (M.regs.set k v)):=by
 refine ⟨qBb (qAu c _) (qAb a rb k _),?_⟩;have:=(h.rg.below c h.rg.lt).set k (U8 v);rw [nums_setI] at this;exact this
abbrev KeepI (w w':World) (b rb:Nat) (op d a bb imm:Int):Prop:=w'.cell? ⟨b,5,none⟩=some (.slice (some ⟨rb,0,none⟩) 8 8)/\w'.cell? ⟨w.heap.size,0,none⟩=some (.int .i64 op)/\w'.cell? ⟨w.heap.size,1,none⟩=some (.int .i64 d)/\w'.cell? ⟨w.heap.size,2,none⟩=some (.int .i64 a)/\w'.cell? ⟨w.heap.size,3,none⟩=some (.int .i64 bb)/\w'.cell? ⟨w.heap.size,4,none⟩=some (.int .i64 imm)
theorem dlays_set {b rb tb:Nat}{cs:List Value}{M:Mc}(d a g f:Int)(w:World)(h:Rdm w b rb tb cs M)(Q:0<=d/\d<=7)(i:g=8∨(0<=g/\g<=7)){y:Int}(T:Hid (srcV ⟨0,d,a,g,f⟩ M.regs=y)) :
  Cl 40 #[.pointer (some ⟨b,0,none⟩),instV 0 d a g f] w fun e n=>e=.returned (.tuple #[])/\w.grownBy n (some rb)/\Hp n rb 26 (nums (M.regs.set d.toNat y)):=by
 obtain ⟨Z,R,D,U,A,L,O,N,J,K⟩:=boxI h 0 d a g f;obtain ⟨k,rfl⟩:=Int.eq_ofNat_of_zero_le Q.1
 have l:k<8:=by omega
 have V:(k:Int)<8:=by omega
 have Y:=h.st.lt;have P:b≠rb:=qBi h.st h.rg (by decide)
 have o:w.heap.size≠rb:=by have:=h.rg.lt;omega
 have E:Hid (∀ c,Bw Z c->KeepI w c b rb 0 k a g f):=fun c i=>by
  have S:=(A.out.below i).cells l;exact ⟨S.1,(i.cell (p:=⟨w.heap.size,0,none⟩) (show w.heap.size<Z.heap.size by omega)).trans L,(i.cell (p:=⟨w.heap.size,1,none⟩) (show w.heap.size<Z.heap.size by omega)).trans O,(i.cell (p:=⟨w.heap.size,2,none⟩) (show w.heap.size<Z.heap.size by omega)).trans N,(i.cell (p:=⟨w.heap.size,3,none⟩) (show w.heap.size<Z.heap.size by omega)).trans J,(i.cell (p:=⟨w.heap.size,4,none⟩) (show w.heap.size<Z.heap.size by omega)).trans K⟩
 have I:Hid (∀ c (v:Int),KeepI w c b rb 0 k a g f->b<c.heap.size->w.heap.size<c.heap.size->KeepI w (c.setCell ⟨rb,k,none⟩ (U8 v)) b rb 0 k a g f):=fun c v l i z =>
  ⟨(qAi (qAb c rb k _) i P).trans l.1,(qAi (qAb c rb k _) z o).trans l.2.1,(qAi (qAb c rb k _) z o).trans l.2.2.1,(qAi (qAb c rb k _) z o).trans l.2.2.2.1,(qAi (qAb c rb k _) z o).trans l.2.2.2.2.1,(qAi (qAb c rb k _) z o).trans l.2.2.2.2.2⟩
 go_enter Tryz.func40,Tryz.ntmps40;go_wp2;rw [<- R.out];clear L O N J K
 go_region_held3 (fun n=>n.cell? ⟨b,5,none⟩=some (.slice (some ⟨rb,0,none⟩) 8 8)/\n.cell? ⟨w.heap.size,0,none⟩=some (I4 0)/\n.cell? ⟨w.heap.size,1,none⟩=some (I4 k)/\n.cell? ⟨w.heap.size,2,none⟩=some (I4 a)/\n.cell? ⟨w.heap.size,3,none⟩=some (I4 g)/\n.cell? ⟨w.heap.size,4,none⟩=some (I4 f))
  (first|with_reducible exact F|with_reducible exact G|exact E.out Z (Below.refl _ _))
  (first
   | (go_at_call 66;go_must (refine (dsource_any ⟨0,k,a,g,f⟩ Z.drew A.out.st A.out.c5 A.out.rg h.wr.1 i T).mono ?_);rintro e B ⟨rfl,u⟩;go_must (have s:Bw Z B:=qAf u;have F:=E.out B s;have r:Bw w B:=D.trans (s.mono D.size);have X:=s.size;have G:=I.out B y F (by omega) (by omega);have y0:=((h.rg.below r h.rg.lt).cell (qBy (show k<M.regs.length by rw [h.wr.1];exact l)));have f0:=(h.rg.below r h.rg.lt).frozen k;clear u)))
 go_wp2;exact bodyPost_end (results_none rfl _ _ _) rfl ⟨rfl,(qCo h r y).1,(qCo h r y).2⟩
theorem three_as {op:Int}{r:Bool}(h:Hid (threeB op=r))(w:World):Cl 67 #[I4 op] w fun e a=>e=.returned (.bool r)/\w=a:=by
 rw [<- h.out];exact qBe op w
theorem dlays_three {b rb tb:Nat}{cs:List Value}{M:Mc}(op d a o i:Int)(w:World)(h:Rdm w b rb tb cs M)(ho:1<=op/\op<=10)(hd:0<=d/\d<=7)(ha:0<=a/\a<=7)(l:o=8∨(0<=o/\o<=7)){x y n:Int}(U:Hid (M.regs.getD a.toNat 0=x))(S:Hid (srcV ⟨op,d,a,o,i⟩ M.regs=y))(HN:Hid (n=doL op x y)) :
  Cl 40 #[.pointer (some ⟨b,0,none⟩),instV op d a o i] w fun e g=>e=.returned (.tuple #[])/\w.grownBy g (some rb)/\Hp g rb 26 (nums (M.regs.set d.toNat n)):=by
 have hy:0<=y/\y<=18446744073709551615:=by rw [<- S.out];exact srcV_in h.wr l
 have hx:0<=x/\x<=18446744073709551615:=by rw [<- U.out];exact h.wr.2 _ (by omega)
 obtain ⟨Z,HZ,I,a0,A,T,X,V,P,Q⟩:=boxI h op d a o i;obtain ⟨k,rfl⟩:=Int.eq_ofNat_of_zero_le hd.1
 have s:k<8:=by omega
 have a1:(k:Int)<8:=by omega
 obtain ⟨q,rfl⟩:=Int.eq_ofNat_of_zero_le ha.1
 have hq:q<8:=by omega
 have a4:(q:Int)<8:=by omega
 have L:Hid (M.regs.getD q 0=x):=U.out
 have h0:(op==0)=false:=by simp;omega
 have R:Hid (threeB op=true):=by show _=_;unfold threeB;simp;omega
 obtain ⟨c,HC⟩:∃ c,Hid (c=isOp op):=⟨_,rfl⟩;have a3:=h.st.lt;have Y:b≠rb:=qBi h.st h.rg (by decide)
 have r:w.heap.size≠rb:=by have:=h.rg.lt;omega
 have F:Hid (∀ f:World,Bw Z f->f.cell? ⟨rb,q,none⟩=some (U8 x)/\f.cell? ⟨b,5,none⟩=some (.slice (some ⟨rb,0,none⟩) 8 8)/\f.cell? ⟨w.heap.size,0,none⟩=some (I4 op)/\f.cell? ⟨w.heap.size,1,none⟩=some (I4 k)/\f.cell? ⟨w.heap.size,2,none⟩=some (I4 q)/\f.cell? ⟨w.heap.size,3,none⟩=some (I4 o)/\f.cell? ⟨w.heap.size,4,none⟩=some (I4 i)):=fun f l=>by
  have hc:=(A.out.below l).cells (show 0<8 by omega);exact ⟨by have:=((A.out.below l).cells hq).2.2.2.1;rw [L.out] at this;exact this,hc.1,(l.cell (p:=⟨w.heap.size,0,none⟩) (show w.heap.size<Z.heap.size by omega)).trans T,(l.cell (p:=⟨w.heap.size,1,none⟩) (show w.heap.size<Z.heap.size by omega)).trans X,(l.cell (p:=⟨w.heap.size,2,none⟩) (show w.heap.size<Z.heap.size by omega)).trans V,(l.cell (p:=⟨w.heap.size,3,none⟩) (show w.heap.size<Z.heap.size by omega)).trans P,(l.cell (p:=⟨w.heap.size,4,none⟩) (show w.heap.size<Z.heap.size by omega)).trans Q⟩
 have O:Hid (∀ f:World,Bw Z f->f.cell? ⟨b,5,none⟩=some (.slice (some ⟨rb,0,none⟩) 8 8)/\f.cell? ⟨w.heap.size,0,none⟩=some (I4 op)/\f.cell? ⟨w.heap.size,1,none⟩=some (I4 k)/\f.cell? ⟨w.heap.size,2,none⟩=some (I4 q)/\f.cell? ⟨w.heap.size,3,none⟩=some (I4 o)/\f.cell? ⟨w.heap.size,4,none⟩=some (I4 i)):=fun f l=>(F.out f l).2
 have N:Hid (∀ (f:World) (v:Int),(f.cell? ⟨b,5,none⟩=some (.slice (some ⟨rb,0,none⟩) 8 8)/\f.cell? ⟨w.heap.size,0,none⟩=some (I4 op)/\f.cell? ⟨w.heap.size,1,none⟩=some (I4 k)/\f.cell? ⟨w.heap.size,2,none⟩=some (I4 q)/\f.cell? ⟨w.heap.size,3,none⟩=some (I4 o)/\f.cell? ⟨w.heap.size,4,none⟩=some (I4 i))->b<f.heap.size->w.heap.size<f.heap.size->(f.setCell ⟨rb,k,none⟩ (U8 v)).cell? ⟨b,5,none⟩=some (.slice (some ⟨rb,0,none⟩) 8 8)/\(f.setCell ⟨rb,k,none⟩ (U8 v)).cell? ⟨w.heap.size,0,none⟩=some (I4 op)/\(f.setCell ⟨rb,k,none⟩ (U8 v)).cell? ⟨w.heap.size,1,none⟩=some (I4 k)/\(f.setCell ⟨rb,k,none⟩ (U8 v)).cell? ⟨w.heap.size,2,none⟩=some (I4 q)/\(f.setCell ⟨rb,k,none⟩ (U8 v)).cell? ⟨w.heap.size,3,none⟩=some (I4 o)/\(f.setCell ⟨rb,k,none⟩ (U8 v)).cell? ⟨w.heap.size,4,none⟩=some (I4 i)):=fun f v s l G =>
  ⟨(qAi (qAb f rb k _) l Y).trans s.1,(qAi (qAb f rb k _) G r).trans s.2.1,(qAi (qAb f rb k _) G r).trans s.2.2.1,(qAi (qAb f rb k _) G r).trans s.2.2.2.1,(qAi (qAb f rb k _) G r).trans s.2.2.2.2.1,(qAi (qAb f rb k _) G r).trans s.2.2.2.2.2⟩
 go_enter Tryz.func40,Tryz.ntmps40
 go_wp2_with (go_at_call 67;go_must (refine (three_as R _).mono ?_);rintro e w1 ⟨rfl,rfl⟩)
 rw [<- HZ.out];clear T X V P Q
 go_region_held3 (fun g=>g.cell? ⟨rb,q,none⟩=some (U8 x)/\g.cell? ⟨b,5,none⟩=some (.slice (some ⟨rb,0,none⟩) 8 8)/\g.cell? ⟨w.heap.size,0,none⟩=some (I4 op)/\g.cell? ⟨w.heap.size,1,none⟩=some (I4 k)/\g.cell? ⟨w.heap.size,2,none⟩=some (I4 q)/\g.cell? ⟨w.heap.size,3,none⟩=some (I4 o)/\g.cell? ⟨w.heap.size,4,none⟩=some (I4 i))
  (first|with_reducible exact J|exact F.out Z (Below.refl _ _))
  (first
   | (go_at_call 66;go_must (refine (dsource_any ⟨op,k,q,o,i⟩ Z.drew A.out.st A.out.c5 A.out.rg h.wr.1 l S).mono ?_);rintro e B ⟨rfl,D⟩;go_must (have u:Bw Z B:=qAf D;have J:=F.out B u;have z:Bw w B:=I.trans (u.mono I.size);have a2:=u.size;clear D))
   | (go_at_call 68;go_must (refine (rdo_as HN HC _ hx hy).mono ?_);rintro e w5 ⟨rfl,rfl⟩))
 have E:=O.out B u;have K:=N.out B n E (by omega) (by omega);have y0:=((h.rg.below z h.rg.lt).cell (qBy (show k<M.regs.length by rw [h.wr.1];exact s)));have f0:=(h.rg.below z h.rg.lt).frozen k;clear J;go_wp2
 go_region_held3 (fun g=>g.cell? ⟨b,5,none⟩=some (.slice (some ⟨rb,0,none⟩) 8 8)/\g.cell? ⟨w.heap.size,0,none⟩=some (I4 op)/\g.cell? ⟨w.heap.size,1,none⟩=some (I4 k)/\g.cell? ⟨w.heap.size,2,none⟩=some (I4 q)/\g.cell? ⟨w.heap.size,3,none⟩=some (I4 o)/\g.cell? ⟨w.heap.size,4,none⟩=some (I4 i))
  (first|with_reducible exact E|exact K|exact E)
  (fail)
 go_wp2;exact bodyPost_end (results_none rfl _ _ _) rfl ⟨rfl,qAy (qCo h z n).1,(qCo h z n).2.drew⟩
theorem dlays_map {b rb tb:Nat}{cs:List Value}{M:Mc}(d a n c:Int)(w:World)(h:Rdm w b rb tb cs M)(I:0<=d/\d<=7)(hi:0<=c/\c<=3) :
  Cl 40 #[.pointer (some ⟨b,0,none⟩),instV 14 d a n c] w fun e f=>e=.returned (.tuple #[])/\w.grownBy f (some rb)/\Hp f rb 26 (nums (M.regs.set d.toNat c)):=by
 obtain ⟨Z,J,s,N,r,D,F,E,z,A⟩:=boxI h 14 d a n c;obtain ⟨k,rfl⟩:=Int.eq_ofNat_of_zero_le I.1
 have i:k<8:=by omega
 have O:(k:Int)<8:=by omega
 have P:=h.st.lt;have u:=r.out.st.lt;have G:b≠rb:=qBi h.st h.rg (by decide)
 have g:w.heap.size≠rb:=by have:=h.rg.lt;omega
 have l:Z.cell? ⟨b,5,none⟩=some (.slice (some ⟨rb,0,none⟩) 8 8)/\Z.cell? ⟨w.heap.size,0,none⟩=some (I4 14)/\Z.cell? ⟨w.heap.size,1,none⟩=some (I4 k)/\Z.cell? ⟨w.heap.size,2,none⟩=some (I4 a)/\Z.cell? ⟨w.heap.size,3,none⟩=some (I4 n)/\Z.cell? ⟨w.heap.size,4,none⟩=some (I4 c):=by
  have K:=r.out.cells (show 0<8 by omega);exact ⟨K.1,D,F,E,z,A⟩
 have y:(Z.setCell ⟨rb,k,none⟩ (U8 c)).cell? ⟨b,5,none⟩=some (.slice (some ⟨rb,0,none⟩) 8 8)/\(Z.setCell ⟨rb,k,none⟩ (U8 c)).cell? ⟨w.heap.size,0,none⟩=some (I4 14)/\(Z.setCell ⟨rb,k,none⟩ (U8 c)).cell? ⟨w.heap.size,1,none⟩=some (I4 k)/\(Z.setCell ⟨rb,k,none⟩ (U8 c)).cell? ⟨w.heap.size,2,none⟩=some (I4 a)/\(Z.setCell ⟨rb,k,none⟩ (U8 c)).cell? ⟨w.heap.size,3,none⟩=some (I4 n)/\(Z.setCell ⟨rb,k,none⟩ (U8 c)).cell? ⟨w.heap.size,4,none⟩=some (I4 c):=by
  have L:b<Z.heap.size:=u
  have o:w.heap.size<Z.heap.size:=by omega
  have i:=l;exact ⟨(qAi (qAb Z rb k _) L G).trans i.1,(qAi (qAb Z rb k _) o g).trans i.2.1,(qAi (qAb Z rb k _) o g).trans i.2.2.1,(qAi (qAb Z rb k _) o g).trans i.2.2.2.1,(qAi (qAb Z rb k _) o g).trans i.2.2.2.2.1,(qAi (qAb Z rb k _) o g).trans i.2.2.2.2.2⟩
 have S:=(r.out.rg.cell (qBy (show k<M.regs.length by rw [h.wr.1];exact i)));have R:=r.out.rg.frozen k
 have Q:IntKind.u64.wrap c=c:=by rw [IntKind.wrap_u64];omega
 have B:Hid (threeB 14=false):=by show _=_;unfold threeB;simp
 go_enter Tryz.func40,Tryz.ntmps40
 go_wp2_with (go_at_call 67;go_must (refine (three_as B _).mono ?_);rintro e T ⟨rfl,rfl⟩)
 rw [<- J.out];clear D F E z A
 go_region_held3 (fun f=>f.cell? ⟨b,5,none⟩=some (.slice (some ⟨rb,0,none⟩) 8 8)/\f.cell? ⟨w.heap.size,0,none⟩=some (I4 14)/\f.cell? ⟨w.heap.size,1,none⟩=some (I4 k)/\f.cell? ⟨w.heap.size,2,none⟩=some (I4 a)/\f.cell? ⟨w.heap.size,3,none⟩=some (I4 n)/\f.cell? ⟨w.heap.size,4,none⟩=some (I4 c))
  (first|with_reducible exact l|exact y|exact l)
  (fail)
 go_wp2;exact bodyPost_end (results_none rfl _ _ _) rfl ⟨rfl,qAy (qCo h s c).1,(qCo h s c).2.drew⟩
theorem dlays_fieldA {b rb tb:Nat}{cs:List Value}{M:Mc}(d a o:Int)(w:World)(h:Rdm w b rb tb cs M)(K:0<=d/\d<=7){c:Int}(A:cs[2]? = some (U8 c)) :
  Cl 40 #[.pointer (some ⟨b,0,none⟩),instV 13 d a o 0] w fun e f=>e=.returned (.tuple #[])/\w.grownBy f (some rb)/\Hp f rb 26 (nums (M.regs.set d.toNat c)):=by
 obtain ⟨Z,L,s,O,l,F,J,G,B,D⟩:=boxI h 13 d a o 0;obtain ⟨k,rfl⟩:=Int.eq_ofNat_of_zero_le K.1
 have g:k<8:=by omega
 have P:(k:Int)<8:=by omega
 have Q:=h.st.lt;have y:=l.out.st.lt;have u:b≠rb:=qBi h.st h.rg (by decide)
 have i:w.heap.size≠rb:=by have:=h.rg.lt;omega
 have n:Z.cell? ⟨b,2,none⟩=some (U8 c)/\Z.cell? ⟨b,5,none⟩=some (.slice (some ⟨rb,0,none⟩) 8 8)/\Z.cell? ⟨w.heap.size,0,none⟩=some (I4 13)/\Z.cell? ⟨w.heap.size,1,none⟩=some (I4 k)/\Z.cell? ⟨w.heap.size,2,none⟩=some (I4 a)/\Z.cell? ⟨w.heap.size,3,none⟩=some (I4 o)/\Z.cell? ⟨w.heap.size,4,none⟩=some (I4 0):=by
  have N:=l.out.cells (show 0<8 by omega);exact ⟨l.out.st.cell A,N.1,F,J,G,B,D⟩
 have z:(Z.setCell ⟨rb,k,none⟩ (U8 c)).cell? ⟨b,2,none⟩=some (U8 c)/\(Z.setCell ⟨rb,k,none⟩ (U8 c)).cell? ⟨b,5,none⟩=some (.slice (some ⟨rb,0,none⟩) 8 8)/\(Z.setCell ⟨rb,k,none⟩ (U8 c)).cell? ⟨w.heap.size,0,none⟩=some (I4 13)/\(Z.setCell ⟨rb,k,none⟩ (U8 c)).cell? ⟨w.heap.size,1,none⟩=some (I4 k)/\(Z.setCell ⟨rb,k,none⟩ (U8 c)).cell? ⟨w.heap.size,2,none⟩=some (I4 a)/\(Z.setCell ⟨rb,k,none⟩ (U8 c)).cell? ⟨w.heap.size,3,none⟩=some (I4 o)/\(Z.setCell ⟨rb,k,none⟩ (U8 c)).cell? ⟨w.heap.size,4,none⟩=some (I4 0):=by
  have I:b<Z.heap.size:=y
  have r:w.heap.size<Z.heap.size:=by omega
  have g:=n;exact ⟨(qAi (qAb Z rb k _) I u).trans g.1,(qAi (qAb Z rb k _) I u).trans g.2.1,(qAi (qAb Z rb k _) r i).trans g.2.2.1,(qAi (qAb Z rb k _) r i).trans g.2.2.2.1,(qAi (qAb Z rb k _) r i).trans g.2.2.2.2.1,(qAi (qAb Z rb k _) r i).trans g.2.2.2.2.2.1,(qAi (qAb Z rb k _) r i).trans g.2.2.2.2.2.2⟩
 have S:=(l.out.rg.cell (qBy (show k<M.regs.length by rw [h.wr.1];exact g)));have R:=l.out.rg.frozen k
 have E:Hid (threeB 13=false):=by show _=_;unfold threeB;simp
 go_enter Tryz.func40,Tryz.ntmps40
 go_wp2_with (go_at_call 67;go_must (refine (three_as E _).mono ?_);rintro e T ⟨rfl,rfl⟩)
 rw [<- L.out];clear F J G B D
 go_region_held3 (fun f=>f.cell? ⟨b,2,none⟩=some (U8 c)/\f.cell? ⟨b,5,none⟩=some (.slice (some ⟨rb,0,none⟩) 8 8)/\f.cell? ⟨w.heap.size,0,none⟩=some (I4 13)/\f.cell? ⟨w.heap.size,1,none⟩=some (I4 k)/\f.cell? ⟨w.heap.size,2,none⟩=some (I4 a)/\f.cell? ⟨w.heap.size,3,none⟩=some (I4 o)/\f.cell? ⟨w.heap.size,4,none⟩=some (I4 0))
  (first|with_reducible exact n|exact z|exact n)
  (fail)
 go_wp2;exact bodyPost_end (results_none rfl _ _ _) rfl ⟨rfl,qAy (qCo h s c).1,(qCo h s c).2.drew⟩
theorem dlays_fieldB {b rb tb:Nat}{cs:List Value}{M:Mc}(d a r f:Int)(w:World)(h:Rdm w b rb tb cs M)(L:0<=d/\d<=7){c:Int}(B:cs[3]? = some (U8 c))(hi:f≠0) :
  Cl 40 #[.pointer (some ⟨b,0,none⟩),instV 13 d a r f] w fun e g=>e=.returned (.tuple #[])/\w.grownBy g (some rb)/\Hp g rb 26 (nums (M.regs.set d.toNat c)):=by
 obtain ⟨Z,N,u,P,n,G,K,I,D,E⟩:=boxI h 13 d a r f;obtain ⟨k,rfl⟩:=Int.eq_ofNat_of_zero_le L.1
 have i:k<8:=by omega
 have Q:(k:Int)<8:=by omega
 have R:=h.st.lt;have z:=n.out.st.lt;have y:b≠rb:=qBi h.st h.rg (by decide)
 have l:w.heap.size≠rb:=by have:=h.rg.lt;omega
 have o:Z.cell? ⟨b,3,none⟩=some (U8 c)/\Z.cell? ⟨b,5,none⟩=some (.slice (some ⟨rb,0,none⟩) 8 8)/\Z.cell? ⟨w.heap.size,0,none⟩=some (I4 13)/\Z.cell? ⟨w.heap.size,1,none⟩=some (I4 k)/\Z.cell? ⟨w.heap.size,2,none⟩=some (I4 a)/\Z.cell? ⟨w.heap.size,3,none⟩=some (I4 r)/\Z.cell? ⟨w.heap.size,4,none⟩=some (I4 f):=by
  have O:=n.out.cells (show 0<8 by omega);exact ⟨n.out.st.cell B,O.1,G,K,I,D,E⟩
 have A:(Z.setCell ⟨rb,k,none⟩ (U8 c)).cell? ⟨b,3,none⟩=some (U8 c)/\(Z.setCell ⟨rb,k,none⟩ (U8 c)).cell? ⟨b,5,none⟩=some (.slice (some ⟨rb,0,none⟩) 8 8)/\(Z.setCell ⟨rb,k,none⟩ (U8 c)).cell? ⟨w.heap.size,0,none⟩=some (I4 13)/\(Z.setCell ⟨rb,k,none⟩ (U8 c)).cell? ⟨w.heap.size,1,none⟩=some (I4 k)/\(Z.setCell ⟨rb,k,none⟩ (U8 c)).cell? ⟨w.heap.size,2,none⟩=some (I4 a)/\(Z.setCell ⟨rb,k,none⟩ (U8 c)).cell? ⟨w.heap.size,3,none⟩=some (I4 r)/\(Z.setCell ⟨rb,k,none⟩ (U8 c)).cell? ⟨w.heap.size,4,none⟩=some (I4 f):=by
  have J:b<Z.heap.size:=z
  have s:w.heap.size<Z.heap.size:=by omega
  have i:=o;exact ⟨(qAi (qAb Z rb k _) J y).trans i.1,(qAi (qAb Z rb k _) J y).trans i.2.1,(qAi (qAb Z rb k _) s l).trans i.2.2.1,(qAi (qAb Z rb k _) s l).trans i.2.2.2.1,(qAi (qAb Z rb k _) s l).trans i.2.2.2.2.1,(qAi (qAb Z rb k _) s l).trans i.2.2.2.2.2.1,(qAi (qAb Z rb k _) s l).trans i.2.2.2.2.2.2⟩
 have U:=(n.out.rg.cell (qBy (show k<M.regs.length by rw [h.wr.1];exact i)));have T:=n.out.rg.frozen k
 have S:(f==0)=false:=by simpa using hi
 have F:Hid (threeB 13=false):=by show _=_;unfold threeB;simp
 go_enter Tryz.func40,Tryz.ntmps40
 go_wp2_with (go_at_call 67;go_must (refine (three_as F _).mono ?_);rintro e V ⟨rfl,rfl⟩)
 rw [<- N.out];clear G K I D E
 go_region_held3 (fun g=>g.cell? ⟨b,3,none⟩=some (U8 c)/\g.cell? ⟨b,5,none⟩=some (.slice (some ⟨rb,0,none⟩) 8 8)/\g.cell? ⟨w.heap.size,0,none⟩=some (I4 13)/\g.cell? ⟨w.heap.size,1,none⟩=some (I4 k)/\g.cell? ⟨w.heap.size,2,none⟩=some (I4 a)/\g.cell? ⟨w.heap.size,3,none⟩=some (I4 r)/\g.cell? ⟨w.heap.size,4,none⟩=some (I4 f))
  (first|with_reducible exact o|exact A|exact o)
  (fail)
 go_wp2;exact bodyPost_end (results_none rfl _ _ _) rfl ⟨rfl,qAy (qCo h u c).1,(qCo h u c).2.drew⟩
theorem dlays_load {b rb tb:Nat}{cs:List Value}{M:Mc}(d a l i:Int)(w:World)(h:Rdm w b rb tb cs M)(hd:0<=d/\d<=7)(o:l=8∨(0<=l/\l<=7)){y n:Int}(HY:Hid (srcV ⟨11,d,a,l,i⟩ M.regs=y))(hy:0<=y/\y<=15){B c:Nat}{v:Value}{Y:List Ak}(U:cs[4]? = some (.pointer (some ⟨c,0,none⟩)))(V:Bk w B c v Y)(HN:Hid (wordA Y y=n)) :
  Cl 40 #[.pointer (some ⟨b,0,none⟩),instV 11 d a l i] w fun e g=>e=.returned (.tuple #[])/\w.grownBy g (some rb)/\Hp g rb 26 (nums (M.regs.set d.toNat n)):=by
 have a5:IntKind.i64.wrap y=y:=by rw [IntKind.wrap_i64];omega
 have O:Hid (inB y=true):=decide_eq_true (by omega);obtain ⟨Z,HZ,I,a1,A,X,x1,x2,R,T⟩:=boxI h 11 d a l i;obtain ⟨k,rfl⟩:=Int.eq_ofNat_of_zero_le hd.1
 have u:k<8:=by omega
 have a2:(k:Int)<8:=by omega
 have S:Hid (threeB 11=false):=by show _=_;unfold threeB;simp
 have a4:=h.st.lt;have a0:b≠rb:=qBi h.st h.rg (by decide)
 have r:w.heap.size≠rb:=by have:=h.rg.lt;omega
 have F:Hid (∀ f:World,Bw Z f->f.cell? ⟨b,4,none⟩=some (.pointer (some ⟨c,0,none⟩))/\f.cell? ⟨b,5,none⟩=some (.slice (some ⟨rb,0,none⟩) 8 8)/\f.cell? ⟨w.heap.size,0,none⟩=some (I4 11)/\f.cell? ⟨w.heap.size,1,none⟩=some (I4 k)/\f.cell? ⟨w.heap.size,2,none⟩=some (I4 a)/\f.cell? ⟨w.heap.size,3,none⟩=some (I4 l)/\f.cell? ⟨w.heap.size,4,none⟩=some (I4 i)):=fun f o=>by
  have hc:=(A.out.below o).cells (show 0<8 by omega);exact ⟨(A.out.below o).st.cell U,hc.1,(o.cell (p:=⟨w.heap.size,0,none⟩) (show w.heap.size<Z.heap.size by omega)).trans X,(o.cell (p:=⟨w.heap.size,1,none⟩) (show w.heap.size<Z.heap.size by omega)).trans x1,(o.cell (p:=⟨w.heap.size,2,none⟩) (show w.heap.size<Z.heap.size by omega)).trans x2,(o.cell (p:=⟨w.heap.size,3,none⟩) (show w.heap.size<Z.heap.size by omega)).trans R,(o.cell (p:=⟨w.heap.size,4,none⟩) (show w.heap.size<Z.heap.size by omega)).trans T⟩
 have Q:Hid (∀ f:World,Bw Z f->f.cell? ⟨b,5,none⟩=some (.slice (some ⟨rb,0,none⟩) 8 8)/\f.cell? ⟨w.heap.size,0,none⟩=some (I4 11)/\f.cell? ⟨w.heap.size,1,none⟩=some (I4 k)/\f.cell? ⟨w.heap.size,2,none⟩=some (I4 a)/\f.cell? ⟨w.heap.size,3,none⟩=some (I4 l)/\f.cell? ⟨w.heap.size,4,none⟩=some (I4 i)):=fun f o=>(F.out f o).2
 have P:Hid (∀ (f:World) (v:Int),(f.cell? ⟨b,5,none⟩=some (.slice (some ⟨rb,0,none⟩) 8 8)/\f.cell? ⟨w.heap.size,0,none⟩=some (I4 11)/\f.cell? ⟨w.heap.size,1,none⟩=some (I4 k)/\f.cell? ⟨w.heap.size,2,none⟩=some (I4 a)/\f.cell? ⟨w.heap.size,3,none⟩=some (I4 l)/\f.cell? ⟨w.heap.size,4,none⟩=some (I4 i))->b<f.heap.size->w.heap.size<f.heap.size->(f.setCell ⟨rb,k,none⟩ (U8 v)).cell? ⟨b,5,none⟩=some (.slice (some ⟨rb,0,none⟩) 8 8)/\(f.setCell ⟨rb,k,none⟩ (U8 v)).cell? ⟨w.heap.size,0,none⟩=some (I4 11)/\(f.setCell ⟨rb,k,none⟩ (U8 v)).cell? ⟨w.heap.size,1,none⟩=some (I4 k)/\(f.setCell ⟨rb,k,none⟩ (U8 v)).cell? ⟨w.heap.size,2,none⟩=some (I4 a)/\(f.setCell ⟨rb,k,none⟩ (U8 v)).cell? ⟨w.heap.size,3,none⟩=some (I4 l)/\(f.setCell ⟨rb,k,none⟩ (U8 v)).cell? ⟨w.heap.size,4,none⟩=some (I4 i)):=fun f v u o G =>
  ⟨(qAi (qAb f rb k _) o a0).trans u.1,(qAi (qAb f rb k _) G r).trans u.2.1,(qAi (qAb f rb k _) G r).trans u.2.2.1,(qAi (qAb f rb k _) G r).trans u.2.2.2.1,(qAi (qAb f rb k _) G r).trans u.2.2.2.2.1,(qAi (qAb f rb k _) G r).trans u.2.2.2.2.2⟩
 go_enter Tryz.func40,Tryz.ntmps40
 go_wp2_with (go_at_call 67;go_must (refine (three_as S _).mono ?_);rintro e w1 ⟨rfl,rfl⟩)
 rw [<- HZ.out];clear X x1 x2 R T
 go_region_held3 (fun g=>g.cell? ⟨b,4,none⟩=some (.pointer (some ⟨c,0,none⟩))/\g.cell? ⟨b,5,none⟩=some (.slice (some ⟨rb,0,none⟩) 8 8)/\g.cell? ⟨w.heap.size,0,none⟩=some (I4 11)/\g.cell? ⟨w.heap.size,1,none⟩=some (I4 k)/\g.cell? ⟨w.heap.size,2,none⟩=some (I4 a)/\g.cell? ⟨w.heap.size,3,none⟩=some (I4 l)/\g.cell? ⟨w.heap.size,4,none⟩=some (I4 i))
  (first|with_reducible exact J|exact F.out Z (Below.refl _ _))
  (first
   | (go_at_call 66;go_must (refine (dsource_any ⟨11,k,a,l,i⟩ Z.drew A.out.st A.out.c5 A.out.rg h.wr.1 o HY).mono ?_);rintro e K ⟨rfl,D⟩;go_must (have z:Bw Z K:=qAf D;have J:=F.out K z;have s:Bw w K:=I.trans (z.mono I.size);have a3:=z.size;have L:=V.below s;clear D))
   | (go_at_call 69;go_must (refine (bword_in y O _ L HN).mono ?_);rintro e w5 ⟨rfl,rfl⟩))
 have E:=Q.out _ z;have N:=P.out _ n E (by omega) (by omega);have y0:=((h.rg.below s h.rg.lt).cell (qBy (show k<M.regs.length by rw [h.wr.1];exact u)));have f0:=(h.rg.below s h.rg.lt).frozen k;clear J;go_wp2
 go_region_held3 (fun g=>g.cell? ⟨b,5,none⟩=some (.slice (some ⟨rb,0,none⟩) 8 8)/\g.cell? ⟨w.heap.size,0,none⟩=some (I4 11)/\g.cell? ⟨w.heap.size,1,none⟩=some (I4 k)/\g.cell? ⟨w.heap.size,2,none⟩=some (I4 a)/\g.cell? ⟨w.heap.size,3,none⟩=some (I4 l)/\g.cell? ⟨w.heap.size,4,none⟩=some (I4 i))
  (first|with_reducible exact E|exact N|exact E)
  (fail)
 go_wp2;exact bodyPost_end (results_none rfl _ _ _) rfl ⟨rfl,qAy (qCo h s n).1,(qCo h s n).2.drew⟩
section
variable {b sb:Nat} {vm vc:Value} {ev:Int×Int} {M:Mc}
theorem mturn_any (d a bb imm:Int)(w:World)(h:Ma w b sb vm vc ev M)(T:0<=d/\d<=63)(U:0<=a/\a<=7)(hi:1<=imm/\imm<=255)(L:0<=M.turn M.pc/\M.turn M.pc<=255){p:Int}(B:Hid ((if goesE ⟨20,d,a,bb,imm⟩ M=true then (M.pc:Int)-d else (M.pc:Int)+1)=p)) :
  Cl 60 #[.pointer (some ⟨b,0,none⟩),instV 20 d a bb imm] w fun e r=>e=.returned (I4 p)/\w.grownBy r (some b)/\Ma r b sb vm vc ev { M with turn:=turnE ⟨20,d,a,bb,imm⟩ M }:=by
 obtain ⟨Z,J,O,a1,z,x0,x1,x2,x3,x4⟩:=boxL h 20 d a bb imm;obtain ⟨k,rfl⟩:=Int.eq_ofNat_of_zero_le U.1
 have P:k<8:=by omega
 have a3:(k:Int)<8:=by omega
 have a4:(M.pc:Int)<64:=by have:=h.pc;omega
 have a0:(M.pc:Int)<=100:=by omega
 obtain ⟨a6,ab⟩:=T;have a9:=h.hp.lt;have X:=z.out.hp.lt
 have N:w.heap.size≠b:=by omega
 have A:=z.out.last.1;have R:=z.out.reg P;have c4:=z.out.turn;obtain ⟨x,K⟩:∃ x,Hid (M.regs.getD k 0=x):=⟨_,rfl⟩;obtain ⟨t,G⟩:∃ t,Hid (M.turn M.pc=t):=⟨_,rfl⟩;rw [K.out] at R;rw [G.out] at c4 L;obtain ⟨a8,a2⟩:=L
 have hx:0<=x/\x<=18446744073709551615:=by rw [<- K.out];exact h.wr.2 k P
 have f0:=z.out.hp.frozen (13+M.pc)
 have I:Hid (goesE ⟨20,d,k,bb,imm⟩ M=(decide (0<x)&&decide (t<imm))):=by
  show _=_
  unfold goesE;rw [if_neg (by simp),if_pos rfl]
  show decide (0<M.regs.getD k 0/\M.turn M.pc<imm)=_
  simp only [K.out,G.out,Bool.decide_and]
 have F:Hid (turnE ⟨20,d,k,bb,imm⟩ M=fun u:Int=>if u=M.pc then (if goesE ⟨20,d,k,bb,imm⟩ M=true then t+1 else 0) else M.turn u):=by
  show _=_
  unfold turnE;rw [if_pos rfl,G.out]
 have s:Hid (∀ v:Int,Ma (Z.setCell ⟨b,13+M.pc,none⟩ (I4 v)) b sb vm vc ev { M with turn:=fun u:Int=>if u=M.pc then v else M.turn u }):=fun v=>z.out.setT v
 have l:Hid (∀ v:Int,w.grownBy (Z.setCell ⟨b,13+M.pc,none⟩ (I4 v)) (some b)):=fun v=>qBb (qAu O _) (qAb Z b (13+M.pc) _)
 have Q:Hid (IntKind.i64.wrap (t+1)=t+1):=by show _=_;rw [IntKind.wrap_i64];omega
 have c:Hid (∀ v:Int,(Z.setCell ⟨b,13+M.pc,none⟩ (I4 v)).cell? ⟨b,77,none⟩=some (I4 M.pc)):=fun v=>(s.out v).last.1
 have y:Hid (∀ v:Int,(Z.setCell ⟨b,13+M.pc,none⟩ (I4 v)).cell? ⟨w.heap.size,1,none⟩=some (I4 d)):=fun v=>(qAh (qAb Z b (13+M.pc) (I4 v)) (by omega) N).trans x1
 by_cases hx0:0<x
 ·have D:¬ x=0:=by omega
  have a5:(x==0)=false:=by simpa using D
  have aa:(x != 0)=true:=by simpa using D
  by_cases hti:t<imm
  ·have g:Hid (goesE ⟨20,d,k,bb,imm⟩ M=true):=by show _=_;rw [I.out,decide_eq_true hx0,decide_eq_true hti];rfl
   rw [g.out,if_pos rfl] at B;rw [F.out,g.out,<- B.out];go_enter Tryz.func60,Tryz.ntmps60;go_wp2;rw [<- J.out];go_region;go_wp2;refine wp_region_held_drew (S:=fun r=>r.cell? ⟨b,77,none⟩=some (I4 M.pc)) (by kernel_rfl) A (fun hHeld=>?_);refine tkGo [0,1,2,3,4,5,6,7,10,11] ?_
   repeat (refine tkO (v:=?_) rfl ?_ ?_;rotate_left;(intro wy hSw;(try dsimp only at hSw);go_simp;(first|done|with_reducible rfl));try simp only [Act.put,p1q,p2q,p3q,p4q,p5q,p6q])
   refine tkEnd ?_;refine runO 8 (by kernel_rfl) rfl (by rfl) (fun KK hK=>?_);go_simp;refine hK.out _ _ A (fun hHeld=>?_);clear hK KK
   try simp only [Act.put,p1q,p2q,p3q,p4q,p5q,p6q]
   refine tkGo [9,12] ?_
   repeat (refine tkO (v:=?_) rfl ?_ ?_;rotate_left;(intro wy hSw;(try dsimp only at hSw);go_simp;(first|done|with_reducible rfl));try simp only [Act.put,p1q,p2q,p3q,p4q,p5q,p6q])
   refine tkEnd ?_;refine runO 13 (by kernel_rfl) rfl (by rfl) (fun KK hK=>?_);go_simp;rw [Q.out];refine hK.out _ _ (c.out (t+1)) (fun hHeld=>?_);clear hK KK
   try simp only [Act.put,p1q,p2q,p3q,p4q,p5q,p6q]
   refine wpAnyH_done (by kernel_rfl) ?_ _;have E:=c.out (t+1);have V:=y.out (t+1);have f:=keepJ (s.out (t+1));have i:=keepJ (l.out (t+1));obtain ⟨Y,o⟩:∃ Y,Hid (Z.setCell ⟨b,13+M.pc,none⟩ (I4 (t+1))=Y):=⟨_,rfl⟩;rw [o.out] at E V f i
   try rw [o.out]
   clear s l c y;go_wp2;go_region;go_wp2;go_ret;exact ⟨rfl,qAy (qAy (qAy i.out)),f.out.drew.drew.drew⟩
  ·have a7:¬ t<imm:=hti
   have g:Hid (goesE ⟨20,d,k,bb,imm⟩ M=false):=by show _=_;rw [I.out,decide_eq_false hti,Bool.and_false]
   rw [g.out,if_neg (by simp)] at B;rw [F.out,g.out,<- B.out];have n:=c.out 0;go_enter Tryz.func60,Tryz.ntmps60;go_wp2;rw [<- J.out];go_region;go_wp2
   go_region_held3 (fun r=>r.cell? ⟨b,77,none⟩=some (I4 M.pc))
    (first|with_reducible exact A|exact n|exact A)
    (fail)
   have E:=c.out 0;have f:=keepJ (s.out 0);have i:=keepJ (l.out 0);obtain ⟨Y,o⟩:∃ Y,Hid (Z.setCell ⟨b,13+M.pc,none⟩ (I4 0)=Y):=⟨_,rfl⟩;rw [o.out] at E f i
   try rw [o.out]
   clear s l c y n;go_wp2;go_ret;exact ⟨rfl,qAy (qAy i.out),f.out.drew.drew⟩
 ·obtain rfl:x=0:=by omega
  have g:Hid (goesE ⟨20,d,k,bb,imm⟩ M=false):=by show _=_;rw [I.out,decide_eq_false hx0,Bool.false_and]
  rw [g.out,if_neg (by simp)] at B;rw [F.out,g.out,<- B.out];have n:=c.out 0;go_enter Tryz.func60,Tryz.ntmps60;go_wp2;rw [<- J.out];go_region;go_wp2
  go_region_held3 (fun r=>r.cell? ⟨b,77,none⟩=some (I4 M.pc))
   (first|with_reducible exact A|exact n|exact A)
   (fail)
  have E:=c.out 0;have f:=keepJ (s.out 0);have i:=keepJ (l.out 0);obtain ⟨Y,o⟩:∃ Y,Hid (Z.setCell ⟨b,13+M.pc,none⟩ (I4 0)=Y):=⟨_,rfl⟩;rw [o.out] at E f i
  try rw [o.out]
  clear s l c y n;go_wp2;go_ret;exact ⟨rfl,qAy (qAy i.out),f.out.drew.drew⟩
theorem mnext_jump (d a f c:Int)(w:World)(h:Ma w b sb vm vc ev M)(k:0<=d/\d<=63) :
  Cl 36 #[.pointer (some ⟨b,0,none⟩),instV 15 d a f c] w fun e o=>e=.returned (I4 ((M.pc:Int)+1+d))/\Bw w o:=by
 obtain ⟨Z,l,g,r,i,E,G,F,B,D⟩:=boxL h 15 d a f c
 have s:(M.pc:Int)<64:=by have:=h.pc;omega
 have n:(M.pc:Int)<=100:=by omega
 obtain ⟨u,z⟩:=k;have A:=i.out.last.1;have y:=h.hp.lt;go_enter Tryz.func36,Tryz.ntmps36;go_wp2;rw [<- l.out];go_region;go_wp2;go_ret;exact ⟨rfl,qAj g⟩
theorem mnext_loop (d a bb imm:Int)(w:World)(h:Ma w b sb vm vc ev M)(l:0<=d/\d<=63)(o:0<=a/\a<=7)(hi:1<=imm/\imm<=255)(n:0<=M.turn M.pc/\M.turn M.pc<=255){p:Int}(r:Hid ((if goesE ⟨20,d,a,bb,imm⟩ M=true then (M.pc:Int)-d else (M.pc:Int)+1)=p)) :
  Cl 36 #[.pointer (some ⟨b,0,none⟩),instV 20 d a bb imm] w fun e i=>e=.returned (I4 p)/\w.grownBy i (some b)/\Ma i b sb vm vc ev { M with turn:=turnE ⟨20,d,a,bb,imm⟩ M }:=by
 obtain ⟨Z,s,f,u,k,D,F,E,A,B⟩:=boxL h 20 d a bb imm;have y:=h.hp.lt;go_enter Tryz.func36,Tryz.ntmps36
 go_wp2_with (go_at_call 60;rw [<- s.out];go_must (refine (mturn_any d a bb imm Z k.out l o hi n r).mono ?_);rintro e z ⟨rfl,g,c⟩)
 go_ret;exact ⟨rfl,qBb (qAu f _) g,c⟩
theorem mnext_cond (op d a i g:Int)(w:World)(h:Ma w b sb vm vc ev M)(a8:(op==15)=false)(a5:(op==20)=false)(ha:0<=a/\a<=7)(n:i=8∨(0<=i/\i<=7)){r:Bool}(S:Hid (holdL op (regV M.regs a) (srcV ⟨op,d,a,i,g⟩ M.regs)=r))(R:r=true->0<=d/\d<=63){p:Int}(G:Hid ((if r=true then (M.pc:Int)+1+d else (M.pc:Int)+1)=p)) :
  Cl 36 #[.pointer (some ⟨b,0,none⟩),instV op d a i g] w fun e f=>e=.returned (I4 p)/\Bw w f:=by
 obtain ⟨Z,U,A,a1,D,L,P,O,J,K⟩:=boxL h op d a i g;obtain ⟨k,rfl⟩:=Int.eq_ofNat_of_zero_le ha.1
 have T:k<8:=by omega
 have a2:(k:Int)<8:=by omega
 have a3:(M.pc:Int)<64:=by have:=h.pc;omega
 have a0:(M.pc:Int)<=100:=by omega
 obtain ⟨x,N⟩:∃ x,Hid (M.regs.getD k 0=x):=⟨_,rfl⟩;obtain ⟨y,I⟩:∃ y,Hid (srcV ⟨op,d,k,i,g⟩ M.regs=y):=⟨_,rfl⟩
 have Y:0<=x/\x<=18446744073709551615:=by rw [<- N.out];exact h.wr.2 k T
 have Q:0<=y/\y<=18446744073709551615:=by rw [<- I.out];exact srcV_in h.wr n
 have X:Hid (r=holdL op x y):=by
  show _=_
  rw [<- S.out,<- N.out,<- I.out]
  rfl
 obtain ⟨c,HC⟩:∃ c,Hid (c=isCond op):=⟨_,rfl⟩;have a6:=h.hp.lt;have F:=D.out.hp.lt
 have B:Hid (∀ o:World,Bw Z o->o.cell? ⟨b,5+k,none⟩=some (U8 x)/\o.cell? ⟨b,77,none⟩=some (I4 M.pc)/\o.cell? ⟨w.heap.size,0,none⟩=some (I4 op)/\o.cell? ⟨w.heap.size,1,none⟩=some (I4 d)/\o.cell? ⟨w.heap.size,2,none⟩=some (I4 k)/\o.cell? ⟨w.heap.size,3,none⟩=some (I4 i)/\o.cell? ⟨w.heap.size,4,none⟩=some (I4 g)):=fun o n=>by
  have V:=(D.out.below n F).reg T;rw [N.out] at V;exact ⟨V,(D.out.below n F).last.1,(n.cell (p:=⟨w.heap.size,0,none⟩) (show w.heap.size<Z.heap.size by omega)).trans L,(n.cell (p:=⟨w.heap.size,1,none⟩) (show w.heap.size<Z.heap.size by omega)).trans P,(n.cell (p:=⟨w.heap.size,2,none⟩) (show w.heap.size<Z.heap.size by omega)).trans O,(n.cell (p:=⟨w.heap.size,3,none⟩) (show w.heap.size<Z.heap.size by omega)).trans J,(n.cell (p:=⟨w.heap.size,4,none⟩) (show w.heap.size<Z.heap.size by omega)).trans K⟩
 clear S
 cases r with
 | true =>
  obtain ⟨a4,a7⟩:=R rfl;rw [if_pos rfl] at G;rw [<- G.out];go_enter Tryz.func36,Tryz.ntmps36;go_wp2;rw [<- U.out];clear L P O J K
  go_region_held3 (fun f=>f.cell? ⟨b,5+k,none⟩=some (U8 x)/\f.cell? ⟨b,77,none⟩=some (I4 M.pc)/\f.cell? ⟨w.heap.size,0,none⟩=some (I4 op)/\f.cell? ⟨w.heap.size,1,none⟩=some (I4 d)/\f.cell? ⟨w.heap.size,2,none⟩=some (I4 k)/\f.cell? ⟨w.heap.size,3,none⟩=some (I4 i)/\f.cell? ⟨w.heap.size,4,none⟩=some (I4 g))
   (first|with_reducible exact u|exact B.out Z (Below.refl _ _))
   (first
    | (go_at_call 56;go_must (refine (qDe ⟨op,d,k,i,g⟩ Z.drew D.out.drew n I).mono ?_);rintro e z ⟨rfl,l⟩;go_must (have s:Bw Z z:=qAf l;have u:=B.out z s;have E:Bw w z:=A.trans (s.mono A.size);clear l))
    | (go_at_call 61;go_must (refine (holds_as X HC _ Y Q).mono ?_);rintro e w5 ⟨rfl,rfl⟩))
  obtain ⟨s0,s1,s2,s3,s4,s5,s6⟩:=u;go_wp2;go_region;go_wp2;go_ret;exact ⟨rfl,qAj E⟩
 | false =>
  rw [if_neg (by simp)] at G;rw [<- G.out];clear R;go_enter Tryz.func36,Tryz.ntmps36;go_wp2;rw [<- U.out];clear L P O J K
  go_region_held3 (fun f=>f.cell? ⟨b,5+k,none⟩=some (U8 x)/\f.cell? ⟨b,77,none⟩=some (I4 M.pc)/\f.cell? ⟨w.heap.size,0,none⟩=some (I4 op)/\f.cell? ⟨w.heap.size,1,none⟩=some (I4 d)/\f.cell? ⟨w.heap.size,2,none⟩=some (I4 k)/\f.cell? ⟨w.heap.size,3,none⟩=some (I4 i)/\f.cell? ⟨w.heap.size,4,none⟩=some (I4 g))
   (first|with_reducible exact u|exact B.out Z (Below.refl _ _))
   (first
    | (go_at_call 56;go_must (refine (qDe ⟨op,d,k,i,g⟩ Z.drew D.out.drew n I).mono ?_);rintro e z ⟨rfl,l⟩;go_must (have s:Bw Z z:=qAf l;have u:=B.out z s;have E:Bw w z:=A.trans (s.mono A.size);clear l))
    | (go_at_call 61;go_must (refine (holds_as X HC _ Y Q).mono ?_);rintro e w5 ⟨rfl,rfl⟩))
  obtain ⟨s0,s1,s2,s3,s4,s5,s6⟩:=u;go_wp2;go_ret;exact ⟨rfl,E⟩
end
abbrev itemC (im io ik iv:Int):List Value:=[.int .i64 im,.int .i64 io,.int .u64 ik,.int .u64 iv]
abbrev itemV (im io ik iv:Int):Value:=.agg #[.int .i64 im,.int .i64 io,.int .u64 ik,.int .u64 iv]
theorem run_boxM {w:World}{n:Nat}{a c b d:Int}(h:Hp w n 78 (itemC a c b d)):(loadVar 78 ⟨n,0,none⟩).run Tryz.prog w=.ok (itemV a c b d) w:=by
 refine run_loadVar_mid w n 0 78 (itemC a c b d) _ ?_ Tryz.underlying78 rfl (by kernel_rfl);intro j x f;rw [Nat.zero_add];exact h.cell f
theorem item_ret {i:Func}{p:Tmp}{d:World}{n:Nat}{a:Array Value}{b f c g:Int}{Q:Ending->World->Prop}(o:i.results=#[.cell p 78])(l:a.getD p undef=.pointer (some ⟨n,0,none⟩))(r:Hp d n 78 (itemC b f c g))(k:Q (.returned (itemV b f c g)) d):bodyPost Tryz.prog i Q .ret ⟨a,[]⟩ d:=by
 refine bodyPost_ret (v:=itemV b f c g) ?_ rfl k;rw [qAm o,l];simp only [asAddr,Sem.run_pure,Result.andThen];rw [run_boxM r]
theorem lasks5 (h:Int)(b:0<=h/\h<=4)(w:World):Cl 91 #[I4 h] w fun e a=>e=.returned (.tuple #[I4 h,.bool true])/\w=a:=by
 obtain rfl|rfl|rfl|rfl|rfl:h=0∨h=1∨h=2∨h=3∨h=4:=by omega
 all_goals go_enter Tryz.func91,Tryz.ntmps91
 all_goals go_wp2
 all_goals go_ret2
 all_goals exact ⟨rfl,rfl⟩
section
variable {b sb:Nat} {vc:Value} {ev:Int×Int} {M:Mc}
theorem masks_any (a:Int)(hi:0<=a/\a<=4){mb mo mcap nm j:Nat}(w:World)(h:Ma w b sb (.slice (some ⟨mb,mo,none⟩) nm mcap) vc ev M)(hj:j<nm)(N:mb<w.heap.size)(a5:nm<=mcap){g:Int}(D:w.cell? ⟨mb,mo+j,none⟩=some (I4 g)){y z q:Int}(H1:Hid (regV M.regs 1=(j:Int)))(H2:Hid (regV M.regs 2=y))(H3:Hid (regV M.regs 3=z))(B:Hid ((if a=2∨a=4 then z else 0)=q)) :
  Cl 55 #[.pointer (some ⟨b,0,none⟩),I4 a] w fun e r=>e=.returned (itemV g a y q)/\Bw w r:=by
 have l:=h.hp.lt
 have a8:(j:Int)<nm:=by omega
 obtain ⟨V,HV,F,G,a4,a9⟩:∃ V,Hid (V=w.alloc (.cells #[I4 0,I4 0,U8 0,U8 0] 78))/\Bw w V/\V.heap.size=w.heap.size+1/\Hid (Hp V w.heap.size 78 (itemC 0 0 0 0))/\Hid (Ma V b sb (.slice (some ⟨mb,mo,none⟩) nm mcap) vc ev M) :=
  ⟨_,rfl,by go_grown,by simp,Hp.new w _ _,h.below ((Below.refl _ _).alloc (Nat.le_refl _) _) l⟩
 have K:Hid (∀ i:World,Bw w i->i.cell? ⟨b,2,none⟩=some (.slice (some ⟨mb,mo,none⟩) nm mcap)/\i.cell? ⟨b,6,none⟩=some (U8 j)/\i.cell? ⟨b,7,none⟩=some (U8 y)/\i.cell? ⟨mb,mo+j,none⟩=some (I4 g)):=fun i o=>by
  have Q:=(h.below o l).reg (show 1<8 by omega);have O:=(h.below o l).reg (show 2<8 by omega);rw [show M.regs.getD 1 0=(j:Int) from H1.out] at Q;rw [show M.regs.getD 2 0=y from H2.out] at O;exact ⟨(h.below o l).low.2.2.1,Q,O,(o.cell (p:=⟨mb,mo+j,none⟩) N).trans D⟩
 have R:Hid (∀ i:World,Bw w i->i.cell? ⟨b,8,none⟩=some (U8 z)):=fun i o=>by
  have X:=(h.below o l).reg (show 3<8 by omega);rw [show M.regs.getD 3 0=z from H3.out] at X;exact X
 go_enter Tryz.func55,Tryz.ntmps55
 go_wp2_with (go_at_call 91;rw [<- HV.out];go_must (refine (lasks5 a hi _).mono ?_);rintro e w1 ⟨rfl,rfl⟩)
 refine wp_region_held_drew (S:=fun r=>r.cell? ⟨b,2,none⟩=some (.slice (some ⟨mb,mo,none⟩) nm mcap)/\r.cell? ⟨b,6,none⟩=some (U8 j)/\r.cell? ⟨b,7,none⟩=some (U8 y)/\r.cell? ⟨mb,mo+j,none⟩=some (I4 g)) (by kernel_rfl) (K.out _ (qAj F)) (fun hHeld=>?_);refine tkGo [0,1,2,3,4,5,6,7,8,9,10,11,12,13,14,15,16,17] ?_
 repeat (refine tkO (v:=?_) rfl ?_ ?_;rotate_left;(intro wy hSw;(try dsimp only at hSw);go_simp;(first|done|with_reducible rfl));try simp only [Act.put,p1q,p2q,p3q,p4q,p5q,p6q])
 refine tkEnd ?_;refine runO 18 (by kernel_rfl) rfl (by rfl) (fun KK hK=>?_);go_simp;obtain ⟨Y,HY,u,L,f,a6⟩:∃ Y,Hid (Y=V.alloc (.cells #[I4 0,I4 0,U8 0,U8 0] 78))/\Bw w Y/\Hid (Hp Y w.heap.size 78 (itemC 0 0 0 0))/\Hid (Hp Y (w.heap.size+1) 78 (itemC 0 0 0 0))/\Y.heap.size=w.heap.size+2 :=
  ⟨_,rfl,F.alloc (by omega) _,a4.out.alloc _,by have:=Hp.new V (itemC 0 0 0 0) 78;rw [G] at this;exact this,by simp [G]⟩
 rw [<- HY.out];refine hK.out _ _ (K.out _ (qAj u)) (fun hHeld=>?_);clear hK KK
 try simp only [Act.put,p1q,p2q,p3q,p4q,p5q,p6q]
 obtain ⟨⟨a0,a1,a2,Z⟩,q0,q1,q2,q3⟩:=hq4 f.out;refine runO 19 (by kernel_rfl) rfl (by rfl) (fun KK hK=>?_);go_simp;obtain ⟨U,HU,k,E,n,a7⟩:∃ U,Hid (U=(((Y.setCell ⟨w.heap.size+1,0,none⟩ (I4 g)).setCell ⟨w.heap.size+1,1,none⟩ (I4 a)).setCell ⟨w.heap.size+1,2,none⟩ (U8 y)).setCell ⟨w.heap.size+1,3,none⟩ (U8 0))/\Bw w U/\Hid (Hp U w.heap.size 78 (itemC 0 0 0 0))/\Hid (Hp U (w.heap.size+1) 78 (itemC g a y 0))/\w.heap.size+2<=U.heap.size :=
  ⟨_,rfl,u.trans (qAg (qAd (w.heap.size+1) (itemC g a y 0) Y 0) (by omega) u.size),by have:=L.out.fars (show w.heap.size≠w.heap.size+1 by omega) (itemC g a y 0) 0;exact this,by have:=f.out.sets (itemC g a y 0) 0;rw [qAr (itemC g a y 0) (itemC 0 0 0 0) rfl] at this;exact this,by have:=(qAd (w.heap.size+1) (itemC g a y 0) Y 0).size;show w.heap.size+2<=(Y.setCells (w.heap.size+1) 0 (itemC g a y 0)).heap.size;omega⟩
 rw [<- HU.out];refine hK.out _ _ (K.out _ (qAj k)) (fun hHeld=>?_);clear hK KK
 try simp only [Act.put,p1q,p2q,p3q,p4q,p5q,p6q]
 refine wpAnyH_done (by kernel_rfl) ?_ _;clear a0 a1 a2 Z q0 q1 q2 q3 hHeld;have z3:=R.out U k
 have J:w.heap.size≠w.heap.size+1:=by omega
 by_cases h24:a=2∨a=4
 ·rw [if_pos h24] at B;have d:Hid (Hp (U.setCell ⟨w.heap.size+1,3,none⟩ (U8 z)) (w.heap.size+1) 78 (itemC g a y z)):=n.out.set 3 _;have c:Hid (Hp (U.setCell ⟨w.heap.size+1,3,none⟩ (U8 z)) w.heap.size 78 (itemC 0 0 0 0)):=E.out.far J;have A:Hid (Bw w (U.setCell ⟨w.heap.size+1,3,none⟩ (U8 z))):=k.trans (qAg (qAb U (w.heap.size+1) 3 _) (by omega) k.size);have Z:=n.out.cell (j:=3) rfl;have q3:=n.out.frozen 3;obtain ⟨T,P⟩:∃ T,Hid (U.setCell ⟨w.heap.size+1,3,none⟩ (U8 z)=T):=⟨_,rfl⟩;rw [P.out] at d c A;obtain ⟨⟨i0,i1,i2,i3⟩,-⟩:=hq4 d.out;have o0:=c.out.cell (j:=0) rfl;have p0:=c.out.frozen 0;have o1:=c.out.cell (j:=1) rfl;have p1:=c.out.frozen 1;have o2:=c.out.cell (j:=2) rfl;have p2:=c.out.frozen 2;have o3:=c.out.cell (j:=3) rfl;have p3:=c.out.frozen 3
  have I:Hid (Hp (T.setCells w.heap.size 0 (itemC g a y z)) w.heap.size 78 (itemC g a y z)):=by have:=c.out.sets (itemC g a y z) 0;rw [qAr (itemC g a y z) (itemC 0 0 0 0) rfl] at this;exact this
  have s:Hid (Bw w (T.setCells w.heap.size 0 (itemC g a y z))):=A.out.trans (qAg (qAd w.heap.size (itemC g a y z) T 0) (Nat.le_refl _) A.out.size)
  rcases h24 with rfl|rfl
  all_goals go_wp2_with (rw [P.out])
  all_goals exact item_ret rfl rfl I.out.drew ⟨by rw [B.out],qAj s.out⟩
 ·have c2:(a==2)=false:=by simp;omega
  have c4:(a==4)=false:=by simp;omega
  rw [if_neg h24] at B;have d:=n;have c:=E;obtain ⟨⟨i0,i1,i2,i3⟩,-⟩:=hq4 d.out;have o0:=c.out.cell (j:=0) rfl;have p0:=c.out.frozen 0;have o1:=c.out.cell (j:=1) rfl;have p1:=c.out.frozen 1;have o2:=c.out.cell (j:=2) rfl;have p2:=c.out.frozen 2;have o3:=c.out.cell (j:=3) rfl;have p3:=c.out.frozen 3
  have I:Hid (Hp (U.setCells w.heap.size 0 (itemC g a y 0)) w.heap.size 78 (itemC g a y 0)):=by have:=c.out.sets (itemC g a y 0) 0;rw [qAr (itemC g a y 0) (itemC 0 0 0 0) rfl] at this;exact this
  have s:Hid (Bw w (U.setCells w.heap.size 0 (itemC g a y 0))):=k.trans (qAg (qAd w.heap.size (itemC g a y 0) U 0) (Nat.le_refl _) k.size);go_wp2;exact item_ret rfl rfl I.out.drew ⟨by rw [B.out],qAj s.out⟩
end
section
variable {b sb:Nat} {vm vc:Value} {ev:Int×Int} {M:Mc}
theorem boxO {w:World}(h:Ma w b sb vm vc ev M):∃ V,Hid (w.alloc (.cells #[I4 0,I4 0,I4 0,I4 0,U8 0,U8 0,U8 0] 80)=V)/\Hid (Ma V b sb vm vc ev M)/\Hid (Hp V w.heap.size 80 (actC 0 0 0 0 0 0 0))/\Bw w V/\V.heap.size=w.heap.size+1 :=
 ⟨_,rfl,h.below ((Below.refl _ _).alloc (Nat.le_refl _) _) h.hp.lt,Hp.new w _ _,(Below.refl _ _).alloc (Nat.le_refl _) _,by simp⟩
theorem boxA {a:World}{g:Nat}(h:Ma a b sb vm vc ev M)(n:Hp a g 80 (actC 0 0 0 0 0 0 0))(k f c i d l v:Int):∃ Y,Hid (a.alloc (.cells #[I4 k,I4 f,I4 c,I4 i,U8 d,U8 l,U8 v] 80)=Y)/\Hid (Ma Y b sb vm vc ev M)/\Hid (Hp Y a.heap.size 80 (actC k f c i d l v))/\Hid (Hp Y g 80 (actC 0 0 0 0 0 0 0))/\Bw a Y/\Y.heap.size=a.heap.size+1 :=
 ⟨_,rfl,h.below ((Below.refl _ _).alloc (Nat.le_refl _) _) h.hp.lt,Hp.new a _ _,n.alloc _,(Below.refl _ _).alloc (Nat.le_refl _) _,by simp⟩
theorem mcall_note (w:World)(h:Ma w b sb vm vc ev M)(F:M.pc+1<64){x:Int}(E:Hid (regV M.regs 1=x)) :
  Cl 34 #[.pointer (some ⟨b,0,none⟩),I4 6] w fun e B=>e=.returned (actV 3 M.pc 0 0 0 0 x)/\Chg w B (fun k=>k=b)/\Ma B b sb vm vc ev { M with regs:=M.regs.set 0 0,pc:=M.pc+1 }:=by
 have L:=h.hp.lt;obtain ⟨V,I,i,l,A,N⟩:=boxO h;have G:=h.reg (show 1<8 by omega);rw [show M.regs.getD 1 0=x from E.out] at G
 have O:w.heap.size≠b:=by omega
 go_enter Tryz.func34,Tryz.ntmps34
 go_wp2_with (first
  | (go_at_call 32;rw [I.out];go_must (refine (mtold_any 3 x V i.out).mono ?_);rintro e P ⟨rfl,d⟩;go_must (obtain ⟨Y,D,y,r,n,u,J⟩:=boxA (i.out.below d i.out.hp.lt) (l.out.below d l.out.lt) 3 M.pc 0 0 0 0 x;have K:=d.size))
  | (go_at_call 30;rw [D.out];go_must (refine (mtakes_any 0 Y y.out (by decide) F).mono ?_);rintro e o ⟨rfl,g,f⟩;go_must (have s:=keepJ f;have c:=keepJ (r.out.grown g (fun e=>by injection e with e;omega));have a:=keepJ (n.out.grown g (fun e=>by injection e with e;omega));obtain ⟨⟨a0,a1,X,a3,Q,Z,a6⟩,-⟩:=hq7 c.out;obtain ⟨⟨o0,T,o2,o3,U,R,o6⟩,q0,q1,q2,q3,q4,q5,q6⟩:=hq7 a.out;clear f)))
 have z:=a.out.sets (actC 3 M.pc 0 0 0 0 x) 0;rw [qAr (actC 3 M.pc 0 0 0 0 x) (actC 0 0 0 0 0 0 0) rfl] at z;refine qBv rfl rfl z ⟨rfl,?_,?_⟩
 ·exact (((Chg.of_below (S:=fun k=>k=b) A).trans (Chg.of_below (S:=fun k=>k=b) (d.mono (by omega))) (fun _ _ e=>e)).trans (Chg.of_below (S:=fun k=>k=b) u) (fun _ _ e=>e) |>.trans (Chg.of_grown (S:=fun k=>k=b) g rfl) (fun _ _ e=>e)).trans (Chg.of_grown (qAd w.heap.size (actC 3 M.pc 0 0 0 0 x) o 0) (S:=fun k=>k=w.heap.size) rfl) (fun k hk e=>by omega)
 ·exact s.out.grown (qAd w.heap.size (actC 3 M.pc 0 0 0 0 x) o 0) (fun e=>by injection e with e;omega)
end
section
variable {b sb:Nat} {vm vc:Value} {ev:Int×Int} {M:Mc}
theorem mcall_map (c:Int)(hi:0<=c/\c<=4){mb mo mcap nm j:Nat}(w:World)(h:Ma w b sb (.slice (some ⟨mb,mo,none⟩) nm mcap) vc ev M)(hj:j<nm)(aa:mb<w.heap.size)(a9:nm<=mcap){g:Int}(u:w.cell? ⟨mb,mo+j,none⟩=some (I4 g)){y z q:Int}(H1:Hid (regV M.regs 1=(j:Int)))(H2:Hid (regV M.regs 2=y))(H3:Hid (regV M.regs 3=z))(HQ:Hid ((if c=2∨c=4 then z else 0)=q)) :
  Cl 34 #[.pointer (some ⟨b,0,none⟩),I4 c] w fun e w'=>e=.returned (actV 2 M.pc g c y q 0)/\Chg w w' (fun k=>k=b)/\Ma w' b sb (.slice (some ⟨mb,mo,none⟩) nm mcap) vc ev { M with mode:=1 }:=by
 have ac:=h.hp.lt
 have c5:(c==5)=false:=by simp;omega
 have c6:(c==6)=false:=by simp;omega
 obtain ⟨V,HV,r,E,a8,af⟩:=boxO h
 have Q:w.heap.size≠b:=by omega
 go_enter Tryz.func34,Tryz.ntmps34
 go_wp2_with (first
  | (go_at_call 32;rw [HV.out];go_must (refine (mtold_any 2 0 V r.out).mono ?_);rintro e f ⟨rfl,n⟩;go_must (obtain ⟨Y,HY,A,Z,F,ab,ag⟩:=boxA (r.out.below n r.out.hp.lt) (E.out.below n E.out.lt) 2 M.pc 0 0 0 0 0;have ae:=n.size;have D:Bw w f:=a8.trans (n.mono (by omega));have B:Bw w Y:=D.trans (ab.mono (by omega))))
  | (go_at_call 55;rw [HY.out];go_must (refine (masks_any c hi Y A.out hj (by omega) a9 ((B.cell (p:=⟨mb,mo+j,none⟩) aa).trans u) H1 H2 H3 HQ).mono ?_);rintro e o ⟨rfl,l⟩;go_must (have P:=keepJ (A.out.below l (by omega));have d:=keepJ (Z.out.below l (by omega));have a7:=keepJ (F.out.below l (by omega));have ad:=l.size;have d2:=d.out.cell (j:=2) rfl;have d3:=d.out.cell (j:=3) rfl;have d4:=d.out.cell (j:=4) rfl;have d5:=d.out.cell (j:=5) rfl;have e2:=d.out.frozen 2;have e3:=d.out.frozen 3;have e4:=d.out.frozen 4;have e5:=d.out.frozen 5;obtain ⟨T,HT,s,X,J,G⟩:∃ T,Hid ((((o.setCell ⟨f.heap.size,2,none⟩ (I4 g)).setCell ⟨f.heap.size,3,none⟩ (I4 c)).setCell ⟨f.heap.size,4,none⟩ (U8 y)).setCell ⟨f.heap.size,5,none⟩ (U8 q)=T)/\Hid (Ma T b sb (.slice (some ⟨mb,mo,none⟩) nm mcap) vc ev M)/\Hid (Hp T f.heap.size 80 (actC 2 M.pc g c y q 0))/\Hid (Hp T w.heap.size 80 (actC 0 0 0 0 0 0 0))/\o.grownBy T (some f.heap.size):=⟨_,rfl,P.out.grown (qAd f.heap.size (itemC g c y q) o 2) (fun e=>by injection e with e;omega),by have:=d.out.sets (itemC g c y q) 2;exact this,a7.out.grown (qAd f.heap.size (itemC g c y q) o 2) (fun e=>by injection e with e;omega),qAd f.heap.size (itemC g c y q) o 2⟩;have t9:=s.out.last.2.2;have u9:=s.out.hp.frozen 79;obtain ⟨U,HU,R,i,a,K⟩:∃ U,Hid (T.setCell ⟨b,79,none⟩ (I4 1)=U)/\Hid (Ma U b sb (.slice (some ⟨mb,mo,none⟩) nm mcap) vc ev { M with mode:=1 })/\Hid (Hp U f.heap.size 80 (actC 2 M.pc g c y q 0))/\Hid (Hp U w.heap.size 80 (actC 0 0 0 0 0 0 0))/\T.grownBy U (some b):=⟨_,rfl,s.out.setM 1,X.out.far (by omega),J.out.far Q,qAb T b 79 _⟩;obtain ⟨⟨a0,a1,a2,a3,a4,a5,a6⟩,-⟩:=hq7 i.out;obtain ⟨⟨o0,o1,o2,o3,o4,o5,o6⟩,q0,q1,q2,q3,q4,q5,q6⟩:=hq7 a.out;skip))
  | rw [HT.out]
  | rw [HU.out])
 have hO:=a.out.sets (actC 2 M.pc g c y q 0) 0;rw [qAr (actC 2 M.pc g c y q 0) (actC 0 0 0 0 0 0 0) rfl] at hO;have I:=qAd w.heap.size (actC 2 M.pc g c y q 0) U 0;have N:Chg w o (fun k=>k=b):=(Chg.of_below (S:=fun k=>k=b) B).trans (Chg.of_below (S:=fun _=>False) l) (fun _ _ e=>e.elim);have L:Chg w T (fun k=>k=b):=N.trans (Chg.of_grown (S:=fun k=>k=f.heap.size) G rfl) (fun k hk e=>by have:=D.size;omega);have O:Chg w U (fun k=>k=b):=L.trans (Chg.of_grown (S:=fun k=>k=b) K rfl) (fun _ _ e=>e);refine qBv rfl rfl hO ⟨rfl,O.trans (Chg.of_grown I (S:=fun k=>k=w.heap.size) rfl) (fun k hk e=>by omega),R.out.grown I (fun e=>by injection e with e;omega)⟩
end
end Go.Proofs.YtmdhljoicnommaaGreat
