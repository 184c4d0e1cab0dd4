/-
  E11Act
  E11LSmall
  E11LDo
  E11LNext
-/
import Derived.Test.YtmdhljoicnommaaGreatME27
import Derived.Test.YtmdhljoicnommaaGreatME28
import Derived.Test.YtmdhljoicnommaaGreatME21
namespace Go.Proofs.YtmdhljoicnommaaGreat
set_option maxHeartbeats 12800000
open Go.RowKit
set_option linter.unusedVariables false
set_option linter.unusedSimpArgs false
set_option maxRecDepth 100000
abbrev qAh (k pc im io ik iv v:Int):List Value:=[.int .i64 k,.int .i64 pc,.int .i64 im,.int .i64 io,.int .u64 ik,.int .u64 iv,.int .u64 v]
abbrev qEp (k pc im io ik iv v:Int):Value:=.agg #[.int .i64 k,.int .i64 pc,.int .i64 im,.int .i64 io,.int .u64 ik,.int .u64 iv,.int .u64 v]
theorem yUz {w:World}{n:Nat}{k b c a f d v:Int}(h:Hp w n 80 (qAh k b c a f d v)):(loadVar 80 ⟨n,0,none⟩).run Tryz.prog w=.ok (qEp k b c a f d v) w:=by
 refine run_loadVar_mid w n 0 80 (qAh k b c a f d v) _ ?_ Tryz.underlying80 rfl (by kernel_rfl);intro j x g;rw [Nat.zero_add];exact h.cell g
theorem qDx {l:Func}{p:Tmp}{f:World}{n:Nat}{a:Array Value}{k c d b i g v:Int}{Q:Ending->World->Prop}(r:l.results=#[.cell p 80])(s:a.getD p undef=.pointer (some ⟨n,0,none⟩))(u:Hp f n 80 (qAh k c d b i g v))(o:Q (.returned (qEp k c d b i g v)) f):bodyPost Tryz.prog l Q .ret ⟨a,[]⟩ f:=by
 refine bodyPost_ret (v:=qEp k c d b i g v) ?_ rfl o;rw [qAw r,s];simp only [asAddr,Sem.run_pure,Result.andThen];rw [yUz u]
theorem qAj {w a:World}{tb x j:Nat}(h:w.grownBy a (some tb))(c:x<w.heap.size)(b:x≠tb):a.cell? ⟨x,j,none⟩=w.cell? ⟨x,j,none⟩:=World.cell?_of_block (h.block x c (fun e=>b (by injection e)))
theorem Chg.cellL {w a:World}{S:Nat->Prop}(h:Chg w a S){x j:Nat}(c:x<w.heap.size)(b:¬ S x):a.cell? ⟨x,j,none⟩=w.cell? ⟨x,j,none⟩:=World.cell?_of_block (h.block x c b)
section
variable {b sb:Nat} {vm vc:Value} {ev:Int×Int} {M:Mc}
theorem qOi {w:World}(h:Ma w b sb vm vc ev M)(op d a f c:Int):∃ Z,Hid (Z=w.alloc (qBr op d a f c))/\Bw w Z/\Z.heap.size=w.heap.size+1/\Hid (Ma Z b sb vm vc ev M)/\(Z.cell? ⟨w.heap.size,0,none⟩=some (I4 op)/\Z.cell? ⟨w.heap.size,1,none⟩=some (I4 d)/\Z.cell? ⟨w.heap.size,2,none⟩=some (I4 a)/\Z.cell? ⟨w.heap.size,3,none⟩=some (I4 f)/\Z.cell? ⟨w.heap.size,4,none⟩=some (I4 c)) :=
 ⟨_,rfl,by go_grown,by simp,h.below ((Below.refl _ _).alloc (Nat.le_refl _) _) h.hp.lt,by go_cell,by go_cell,by go_cell,by go_cell,by go_cell⟩
theorem qNt {w a:World}(h:Ma w b sb vm vc ev M)(c:Bw w a){k:Nat}(d:k<8){v:Int}(f:0<=v/\v<=18446744073709551615):w.grownBy (a.setCell ⟨b,5+k,none⟩ (U8 v)) (some b)/\Ma (a.setCell ⟨b,5+k,none⟩ (U8 v)) b sb vm vc ev { M with regs:=M.regs.set k v } :=
 ⟨qCd (qBz c _) (qAc a b (5+k) _),(h.below c h.hp.lt).setR d f⟩
theorem xAu (w:World)(h:Ma w b sb vm vc ev M):Cl 45 #[.pointer (some ⟨b,0,none⟩)] w fun e a=>e=.returned (I4 M.pc)/\a=w:=by
 have c:=h.last.1;have d:=h.hp.lt;go_enter Tryz.func45,Tryz.ntmps45;go_wp2;go_ret;exact ⟨rfl,rfl⟩
theorem yIe (w:World)(h:Ma w b sb vm vc ev M):Cl 46 #[.pointer (some ⟨b,0,none⟩)] w fun e a=>e=.returned (I4 M.steps)/\a=w:=by
 have c:=h.last.2.1;have d:=h.hp.lt;go_enter Tryz.func46,Tryz.ntmps46;go_wp2;go_ret;exact ⟨rfl,rfl⟩
theorem qJn (k v:Int)(w:World)(h:Ma w b sb vm vc ev M):Cl 32 #[.pointer (some ⟨b,0,none⟩),I4 k,U8 v] w fun e a=>e=.returned (qEp k M.pc 0 0 0 0 v)/\Bw w a:=by
 have c:=h.last.1;have f:=h.hp.lt;go_enter Tryz.func32,Tryz.ntmps32;go_wp2;have d:=Hp.new w (qAh k M.pc 0 0 0 0 v) 80;refine qDx rfl rfl d ⟨rfl,by go_grown⟩
theorem yKd (k:Int)(w:World)(h:Ma w b sb vm vc ev M){v:Int}(a:Hid ((if k=0 then ev.1 else ev.2)=v)):Cl 58 #[.pointer (some ⟨b,0,none⟩),I4 k] w fun e d=>e=.returned (U8 v)/\d=w:=by
 have c:=h.low.1;have f:=h.low.2.1
 by_cases hk:k=0
 ·rw [if_pos hk] at a;rw [a.out] at c;subst hk;go_enter Tryz.func58,Tryz.ntmps58;go_wp2;go_ret;exact ⟨rfl,rfl⟩
 ·rw [if_neg hk] at a;rw [a.out] at f
  have g:(k==0)=false:=by simpa using hk
  go_enter Tryz.func58,Tryz.ntmps58;go_wp2;go_ret;exact ⟨rfl,rfl⟩
theorem qHv (i:In)(w:World)(h:Ma w b sb vm vc ev M)(u:i.b=8∨(0<=i.b/\i.b<=7)){n:Int}(s:Hid (qCk i M.regs=n)) :
  Cl 56 #[.pointer (some ⟨b,0,none⟩),qAl i.op i.d i.a i.b i.imm] w fun e y=>e=.returned (U8 n)/\Bw w y:=by
 obtain ⟨op,d,a,l,c⟩:=i;simp only at u ⊢;have r:=h.hp.lt
 by_cases h8:l=8
 ·subst h8
  have f:Hid (IntKind.u64.wrap c=n):=by
   show _=_
   rw [<- s.out,IntKind.wrap_u64]
   rfl
  go_enter Tryz.func56,Tryz.ntmps56;go_wp2;go_ret;exact ⟨by rw [<- f.out];first|rfl|(simp;done),by go_grown⟩
 ·have D:(l==8)=false:=by simpa using h8
  obtain ⟨k,rfl⟩:=Int.eq_ofNat_of_zero_le (show 0<=l by omega)
  have A:k<8:=by omega
  have B:(k:Int)<8:=by omega
  have f:Hid (M.regs.getD k 0=n):=by
   show _=_
   rw [<- s.out];unfold qCk;rw [if_neg h8]
   rfl
  have g:=h.reg A;rw [f.out] at g
  obtain ⟨Z,z,o,K,I,E,G,J,F⟩:∃ Z,Hid (Z=w.alloc (qBr op d a k c))/\Bw w Z/\Z.cell? ⟨w.heap.size,0,none⟩=some (I4 op)/\Z.cell? ⟨w.heap.size,1,none⟩=some (I4 d)/\Z.cell? ⟨w.heap.size,2,none⟩=some (I4 a)/\Z.cell? ⟨w.heap.size,3,none⟩=some (I4 k)/\Z.cell? ⟨w.heap.size,4,none⟩=some (I4 c)/\Z.cell? ⟨b,5+k,none⟩=some (U8 n):=by
   refine ⟨_,rfl,by go_grown,by go_cell,by go_cell,by go_cell,by go_cell,by go_cell,?_⟩;rw [((Below.refl w.heap.size w).alloc (Nat.le_refl _) _).cell (p:=⟨b,5+k,none⟩) r];exact g
  clear g;go_enter Tryz.func56,Tryz.ntmps56;go_wp2;rw [<- z.out];go_region;go_wp2;go_ret;exact ⟨rfl,qAn o⟩
end
section
variable {b sb:Nat} {vm vc:Value} {ev:Int×Int} {M:Mc}
theorem yYp (d a g f:Int)(w:World)(h:Ma w b sb vm vc ev M)(S:0<=d/\d<=7)(l:g=8∨(0<=g/\g<=7)){y:Int}(K:Hid (qCk ⟨0,d,a,g,f⟩ M.regs=y)) :
  Cl 35 #[.pointer (some ⟨b,0,none⟩),qAl 0 d a g f] w fun e o=>e=.returned (.tuple #[])/\w.grownBy o (some b)/\Ma o b sb vm vc ev { M with regs:=M.regs.set d.toNat y }:=by
 have I:0<=y/\y<=18446744073709551615:=by rw [<- K.out];exact qIu h.wr l
 obtain ⟨Z,T,E,X,R,Q,N,G,J,P⟩:=qOi h 0 d a g f;obtain ⟨k,rfl⟩:=Int.eq_ofNat_of_zero_le S.1
 have i:k<8:=by omega
 have U:(k:Int)<8:=by omega
 have F:=h.hp.lt
 have n:w.heap.size≠b:=by omega
 have D:Hid (∀ c:World,Bw Z c->c.cell? ⟨w.heap.size,0,none⟩=some (I4 0)/\c.cell? ⟨w.heap.size,1,none⟩=some (I4 k)/\c.cell? ⟨w.heap.size,2,none⟩=some (I4 a)/\c.cell? ⟨w.heap.size,3,none⟩=some (I4 g)/\c.cell? ⟨w.heap.size,4,none⟩=some (I4 f)):=fun c l=>⟨(l.cell (p:=⟨w.heap.size,0,none⟩) (show w.heap.size<Z.heap.size by omega)).trans Q,(l.cell (p:=⟨w.heap.size,1,none⟩) (show w.heap.size<Z.heap.size by omega)).trans N,(l.cell (p:=⟨w.heap.size,2,none⟩) (show w.heap.size<Z.heap.size by omega)).trans G,(l.cell (p:=⟨w.heap.size,3,none⟩) (show w.heap.size<Z.heap.size by omega)).trans J,(l.cell (p:=⟨w.heap.size,4,none⟩) (show w.heap.size<Z.heap.size by omega)).trans P⟩
 have O:Hid (∀ (c:World) (v:Int),(c.cell? ⟨w.heap.size,0,none⟩=some (I4 0)/\c.cell? ⟨w.heap.size,1,none⟩=some (I4 k)/\c.cell? ⟨w.heap.size,2,none⟩=some (I4 a)/\c.cell? ⟨w.heap.size,3,none⟩=some (I4 g)/\c.cell? ⟨w.heap.size,4,none⟩=some (I4 f))->w.heap.size<c.heap.size->(c.setCell ⟨b,5+k,none⟩ (U8 v)).cell? ⟨w.heap.size,0,none⟩=some (I4 0)/\(c.setCell ⟨b,5+k,none⟩ (U8 v)).cell? ⟨w.heap.size,1,none⟩=some (I4 k)/\(c.setCell ⟨b,5+k,none⟩ (U8 v)).cell? ⟨w.heap.size,2,none⟩=some (I4 a)/\(c.setCell ⟨b,5+k,none⟩ (U8 v)).cell? ⟨w.heap.size,3,none⟩=some (I4 g)/\(c.setCell ⟨b,5+k,none⟩ (U8 v)).cell? ⟨w.heap.size,4,none⟩=some (I4 f)):=fun c v i s=>⟨(qAj (qAc c b (5+k) _) s n).trans i.1,(qAj (qAc c b (5+k) _) s n).trans i.2.1,(qAj (qAc c b (5+k) _) s n).trans i.2.2.1,(qAj (qAc c b (5+k) _) s n).trans i.2.2.2.1,(qAj (qAc c b (5+k) _) s n).trans i.2.2.2.2⟩
 go_enter Tryz.func35,Tryz.ntmps35;go_wp2;rw [<- T.out];clear Q N G J P
 go_region_held3 (fun o=>o.cell? ⟨w.heap.size,0,none⟩=some (I4 0)/\o.cell? ⟨w.heap.size,1,none⟩=some (I4 k)/\o.cell? ⟨w.heap.size,2,none⟩=some (I4 a)/\o.cell? ⟨w.heap.size,3,none⟩=some (I4 g)/\o.cell? ⟨w.heap.size,4,none⟩=some (I4 f))
  (first|with_reducible exact B|with_reducible exact L|exact D.out Z (Below.refl _ _))
  (first
   | (go_at_call 56;go_must (refine (qHv ⟨0,k,a,g,f⟩ Z.drew R.out.drew l K).mono ?_);rintro e A ⟨rfl,u⟩;go_must (have z:Bw Z A:=qAg u;have B:=D.out A z;have r:Bw w A:=E.trans (z.mono E.size);have V:=z.size;have L:=O.out A y B (by omega);have y0:=((h.below r F).reg i);have Y:=(h.below r F).hp.frozen (5+k);clear u)))
 go_wp2;exact bodyPost_end (results_none rfl _ _ _) rfl ⟨rfl,(qNt h r i I).1,(qNt h r i I).2⟩
theorem yPn (op d a i f:Int)(w:World)(h:Ma w b sb vm vc ev M)(ho:1<=op/\op<=10)(hd:0<=d/\d<=7)(ha:0<=a/\a<=7)(l:i=8∨(0<=i/\i<=7)){x y n:Int}(O:Hid (M.regs.getD a.toNat 0=x))(N:Hid (qCk ⟨op,d,a,i,f⟩ M.regs=y))(HN:Hid (n=doL op x y))(X:0<=n/\n<=18446744073709551615) :
  Cl 35 #[.pointer (some ⟨b,0,none⟩),qAl op d a i f] w fun e g=>e=.returned (.tuple #[])/\w.grownBy g (some b)/\Ma g b sb vm vc ev { M with regs:=M.regs.set d.toNat n }:=by
 have Y:0<=y/\y<=18446744073709551615:=by rw [<- N.out];exact qIu h.wr l
 have hx:0<=x/\x<=18446744073709551615:=by rw [<- O.out];exact h.wr.2 _ (by omega)
 obtain ⟨Z,HZ,G,a8,J,V,Q,K,L,U⟩:=qOi h op d a i f;obtain ⟨k,rfl⟩:=Int.eq_ofNat_of_zero_le hd.1
 have o:k<8:=by omega
 have a2:(k:Int)<8:=by omega
 obtain ⟨q,rfl⟩:=Int.eq_ofNat_of_zero_le ha.1
 have hq:q<8:=by omega
 have a3:(q:Int)<8:=by omega
 have S:Hid (M.regs.getD q 0=x):=O.out
 have h0:(op==0)=false:=by simp;omega
 have a6:(op==11)=false:=by simp;omega
 have a1:(op==12)=false:=by simp;omega
 have a5:(op==13)=false:=by simp;omega
 have a4:(op==14)=false:=by simp;omega
 have HC:Hid (true=qFf op):=by show _=_;unfold qFf;simp;omega
 have a0:b<Z.heap.size:=J.out.hp.lt;have I:=h.hp.lt
 have r:w.heap.size≠b:=by omega
 have B:Hid (∀ c:World,Bw Z c->c.cell? ⟨b,5+q,none⟩=some (U8 x)/\c.cell? ⟨w.heap.size,0,none⟩=some (I4 op)/\c.cell? ⟨w.heap.size,1,none⟩=some (I4 k)/\c.cell? ⟨w.heap.size,2,none⟩=some (I4 q)/\c.cell? ⟨w.heap.size,3,none⟩=some (I4 i)/\c.cell? ⟨w.heap.size,4,none⟩=some (I4 f)):=fun c l=>⟨by have:=(J.out.below l (by omega)).reg hq;rw [S.out] at this;exact this,(l.cell (p:=⟨w.heap.size,0,none⟩) (show w.heap.size<Z.heap.size by omega)).trans V,(l.cell (p:=⟨w.heap.size,1,none⟩) (show w.heap.size<Z.heap.size by omega)).trans Q,(l.cell (p:=⟨w.heap.size,2,none⟩) (show w.heap.size<Z.heap.size by omega)).trans K,(l.cell (p:=⟨w.heap.size,3,none⟩) (show w.heap.size<Z.heap.size by omega)).trans L,(l.cell (p:=⟨w.heap.size,4,none⟩) (show w.heap.size<Z.heap.size by omega)).trans U⟩
 have R:Hid (∀ c:World,Bw Z c->c.cell? ⟨w.heap.size,0,none⟩=some (I4 op)/\c.cell? ⟨w.heap.size,1,none⟩=some (I4 k)/\c.cell? ⟨w.heap.size,2,none⟩=some (I4 q)/\c.cell? ⟨w.heap.size,3,none⟩=some (I4 i)/\c.cell? ⟨w.heap.size,4,none⟩=some (I4 f)):=fun c l=>(B.out c l).2
 have T:Hid (∀ (c:World) (v:Int),(c.cell? ⟨w.heap.size,0,none⟩=some (I4 op)/\c.cell? ⟨w.heap.size,1,none⟩=some (I4 k)/\c.cell? ⟨w.heap.size,2,none⟩=some (I4 q)/\c.cell? ⟨w.heap.size,3,none⟩=some (I4 i)/\c.cell? ⟨w.heap.size,4,none⟩=some (I4 f))->w.heap.size<c.heap.size->(c.setCell ⟨b,5+k,none⟩ (U8 v)).cell? ⟨w.heap.size,0,none⟩=some (I4 op)/\(c.setCell ⟨b,5+k,none⟩ (U8 v)).cell? ⟨w.heap.size,1,none⟩=some (I4 k)/\(c.setCell ⟨b,5+k,none⟩ (U8 v)).cell? ⟨w.heap.size,2,none⟩=some (I4 q)/\(c.setCell ⟨b,5+k,none⟩ (U8 v)).cell? ⟨w.heap.size,3,none⟩=some (I4 i)/\(c.setCell ⟨b,5+k,none⟩ (U8 v)).cell? ⟨w.heap.size,4,none⟩=some (I4 f)):=fun c v o D=>⟨(qAj (qAc c b (5+k) _) D r).trans o.1,(qAj (qAc c b (5+k) _) D r).trans o.2.1,(qAj (qAc c b (5+k) _) D r).trans o.2.2.1,(qAj (qAc c b (5+k) _) D r).trans o.2.2.2.1,(qAj (qAc c b (5+k) _) D r).trans o.2.2.2.2⟩
 go_enter Tryz.func35,Tryz.ntmps35;go_wp2;rw [<- HZ.out];clear V Q K L U
 go_region_held3 (fun g=>g.cell? ⟨b,5+q,none⟩=some (U8 x)/\g.cell? ⟨w.heap.size,0,none⟩=some (I4 op)/\g.cell? ⟨w.heap.size,1,none⟩=some (I4 k)/\g.cell? ⟨w.heap.size,2,none⟩=some (I4 q)/\g.cell? ⟨w.heap.size,3,none⟩=some (I4 i)/\g.cell? ⟨w.heap.size,4,none⟩=some (I4 f))
  (first|with_reducible exact F|exact B.out Z (Below.refl _ _))
  (first
   | (go_at_call 56;go_must (refine (qHv ⟨op,k,q,i,f⟩ Z.drew J.out.drew l N).mono ?_);rintro e z ⟨rfl,E⟩;go_must (have u:Bw Z z:=qAg E;have F:=B.out z u;have s:Bw w z:=G.trans (u.mono G.size);have a7:=u.size;clear E))
   | (go_at_call 59;go_must (refine (qIp HN HC _ hx Y).mono ?_);rintro e w5 ⟨rfl,rfl⟩))
 have A:=R.out z u;have P:=T.out z n A (by omega);have y0:=((h.below s I).reg o);have f0:=(h.below s I).hp.frozen (5+k);clear F;go_wp2
 go_region_held3 (fun g=>g.cell? ⟨w.heap.size,0,none⟩=some (I4 op)/\g.cell? ⟨w.heap.size,1,none⟩=some (I4 k)/\g.cell? ⟨w.heap.size,2,none⟩=some (I4 q)/\g.cell? ⟨w.heap.size,3,none⟩=some (I4 i)/\g.cell? ⟨w.heap.size,4,none⟩=some (I4 f))
  (first|with_reducible exact A|exact P|exact A)
  (fail)
 go_wp2;exact bodyPost_end (results_none rfl _ _ _) rfl ⟨rfl,qCb (qNt h s o X).1,(qNt h s o X).2.drew⟩
theorem yTb (op d a g c:Int)(w:World)(h:Ma w b sb vm vc ev M)(ho:15<=op/\op<=20)(T:0<=a/\a<=7)(f:g=8∨(0<=g/\g<=7)) :
  Cl 35 #[.pointer (some ⟨b,0,none⟩),qAl op d a g c] w fun e i=>e=.returned (.tuple #[])/\Bw w i:=by
 obtain ⟨x,F⟩:∃ x,Hid (M.regs.getD a.toNat 0=x):=⟨_,rfl⟩;obtain ⟨y,D⟩:∃ y,Hid (qCk ⟨op,d,a,g,c⟩ M.regs=y):=⟨_,rfl⟩;obtain ⟨n,R⟩:∃ n,Hid (n=doL op x y):=⟨_,rfl⟩
 have N:0<=y/\y<=18446744073709551615:=by rw [<- D.out];exact qIu h.wr f
 have S:0<=x/\x<=18446744073709551615:=by rw [<- F.out];exact h.wr.2 _ (by omega)
 obtain ⟨Z,U,s,a4,z,L,G,A,E,K⟩:=qOi h op d a g c;obtain ⟨q,rfl⟩:=Int.eq_ofNat_of_zero_le T.1
 have P:q<8:=by omega
 have a0:(q:Int)<8:=by omega
 have I:Hid (M.regs.getD q 0=x):=F.out
 have h0:(op==0)=false:=by simp;omega
 have a5:(op==11)=false:=by simp;omega
 have V:(op==12)=false:=by simp;omega
 have a2:(op==13)=false:=by simp;omega
 have a1:(op==14)=false:=by simp;omega
 have Q:Hid (false=qFf op):=by show _=_;unfold qFf;simp;omega
 have O:b<Z.heap.size:=z.out.hp.lt;have Y:=h.hp.lt
 have X:w.heap.size≠b:=by omega
 have r:Hid (∀ k:World,Bw Z k->k.cell? ⟨b,5+q,none⟩=some (U8 x)/\k.cell? ⟨w.heap.size,0,none⟩=some (I4 op)/\k.cell? ⟨w.heap.size,1,none⟩=some (I4 d)/\k.cell? ⟨w.heap.size,2,none⟩=some (I4 q)/\k.cell? ⟨w.heap.size,3,none⟩=some (I4 g)/\k.cell? ⟨w.heap.size,4,none⟩=some (I4 c)):=fun k f=>⟨by have:=(z.out.below f (by omega)).reg P;rw [I.out] at this;exact this,(f.cell (p:=⟨w.heap.size,0,none⟩) (show w.heap.size<Z.heap.size by omega)).trans L,(f.cell (p:=⟨w.heap.size,1,none⟩) (show w.heap.size<Z.heap.size by omega)).trans G,(f.cell (p:=⟨w.heap.size,2,none⟩) (show w.heap.size<Z.heap.size by omega)).trans A,(f.cell (p:=⟨w.heap.size,3,none⟩) (show w.heap.size<Z.heap.size by omega)).trans E,(f.cell (p:=⟨w.heap.size,4,none⟩) (show w.heap.size<Z.heap.size by omega)).trans K⟩
 go_enter Tryz.func35,Tryz.ntmps35;go_wp2;rw [<- U.out];clear L G A E K
 go_region_held3 (fun i=>i.cell? ⟨b,5+q,none⟩=some (U8 x)/\i.cell? ⟨w.heap.size,0,none⟩=some (I4 op)/\i.cell? ⟨w.heap.size,1,none⟩=some (I4 d)/\i.cell? ⟨w.heap.size,2,none⟩=some (I4 q)/\i.cell? ⟨w.heap.size,3,none⟩=some (I4 g)/\i.cell? ⟨w.heap.size,4,none⟩=some (I4 c))
  (first|with_reducible exact J|exact r.out Z (Below.refl _ _))
  (first
   | (go_at_call 56;go_must (refine (qHv ⟨op,d,q,g,c⟩ Z.drew z.out.drew f D).mono ?_);rintro e u ⟨rfl,l⟩;go_must (have o:Bw Z u:=qAg l;have J:=r.out u o;have B:Bw w u:=s.trans (o.mono s.size);have a3:=o.size;clear l))
   | (go_at_call 59;go_must (refine (qIp R Q _ S N).mono ?_);rintro e w5 ⟨rfl,rfl⟩))
 go_wp2;exact bodyPost_end (results_none rfl _ _ _) rfl ⟨rfl,B⟩
theorem yUv (d a g f:Int)(w:World)(h:Ma w b sb vm vc ev M)(hd:0<=d/\d<=7)(i:g=8∨(0<=g/\g<=7)){y n:Int}(HY:Hid (qCk ⟨11,d,a,g,f⟩ M.regs=y))(hy:0<=y/\y<=15){ws cs:List Int}(L:Sc w sb ws cs)(HN:Hid (ws.getD y.toNat 0=n))(J:0<=n/\n<=18446744073709551615) :
  Cl 35 #[.pointer (some ⟨b,0,none⟩),qAl 11 d a g f] w fun e r=>e=.returned (.tuple #[])/\w.grownBy r (some b)/\Ma r b sb vm vc ev { M with regs:=M.regs.set d.toNat n }:=by
 have a2:IntKind.i64.wrap y=y:=by rw [IntKind.wrap_i64];omega
 have E:Hid (inB y=true):=decide_eq_true (by omega)
 have U:Hid ((if inB y then ws.getD y.toNat 0 else 0)=n):=by show _=_;rw [E.out];exact HN.out
 have V:Hid ((if inB y then 0 else 35:Int)=0):=by show _=_;rw [E.out];rfl
 obtain ⟨Z,HZ,F,a5,I,Y,Q,K,N,X⟩:=qOi h 11 d a g f;obtain ⟨k,rfl⟩:=Int.eq_ofNat_of_zero_le hd.1
 have l:k<8:=by omega
 have a3:(k:Int)<8:=by omega
 have a1:b<Z.heap.size:=I.out.hp.lt;have G:=h.hp.lt
 have s:w.heap.size≠b:=by omega
 have A:Hid (∀ c:World,Bw Z c->c.cell? ⟨b,4,none⟩=some (.pointer (some ⟨sb,0,none⟩))/\c.cell? ⟨w.heap.size,0,none⟩=some (I4 11)/\c.cell? ⟨w.heap.size,1,none⟩=some (I4 k)/\c.cell? ⟨w.heap.size,2,none⟩=some (I4 a)/\c.cell? ⟨w.heap.size,3,none⟩=some (I4 g)/\c.cell? ⟨w.heap.size,4,none⟩=some (I4 f)):=fun c i=>⟨(I.out.below i (by omega)).low.2.2.2.2,(i.cell (p:=⟨w.heap.size,0,none⟩) (show w.heap.size<Z.heap.size by omega)).trans Y,(i.cell (p:=⟨w.heap.size,1,none⟩) (show w.heap.size<Z.heap.size by omega)).trans Q,(i.cell (p:=⟨w.heap.size,2,none⟩) (show w.heap.size<Z.heap.size by omega)).trans K,(i.cell (p:=⟨w.heap.size,3,none⟩) (show w.heap.size<Z.heap.size by omega)).trans N,(i.cell (p:=⟨w.heap.size,4,none⟩) (show w.heap.size<Z.heap.size by omega)).trans X⟩
 have R:Hid (∀ c:World,Bw Z c->c.cell? ⟨w.heap.size,0,none⟩=some (I4 11)/\c.cell? ⟨w.heap.size,1,none⟩=some (I4 k)/\c.cell? ⟨w.heap.size,2,none⟩=some (I4 a)/\c.cell? ⟨w.heap.size,3,none⟩=some (I4 g)/\c.cell? ⟨w.heap.size,4,none⟩=some (I4 f)):=fun c i=>(A.out c i).2
 have S:Hid (∀ (c:World) (v:Int),(c.cell? ⟨w.heap.size,0,none⟩=some (I4 11)/\c.cell? ⟨w.heap.size,1,none⟩=some (I4 k)/\c.cell? ⟨w.heap.size,2,none⟩=some (I4 a)/\c.cell? ⟨w.heap.size,3,none⟩=some (I4 g)/\c.cell? ⟨w.heap.size,4,none⟩=some (I4 f))->w.heap.size<c.heap.size->(c.setCell ⟨b,5+k,none⟩ (U8 v)).cell? ⟨w.heap.size,0,none⟩=some (I4 11)/\(c.setCell ⟨b,5+k,none⟩ (U8 v)).cell? ⟨w.heap.size,1,none⟩=some (I4 k)/\(c.setCell ⟨b,5+k,none⟩ (U8 v)).cell? ⟨w.heap.size,2,none⟩=some (I4 a)/\(c.setCell ⟨b,5+k,none⟩ (U8 v)).cell? ⟨w.heap.size,3,none⟩=some (I4 g)/\(c.setCell ⟨b,5+k,none⟩ (U8 v)).cell? ⟨w.heap.size,4,none⟩=some (I4 f)):=fun c v l B=>⟨(qAj (qAc c b (5+k) _) B s).trans l.1,(qAj (qAc c b (5+k) _) B s).trans l.2.1,(qAj (qAc c b (5+k) _) B s).trans l.2.2.1,(qAj (qAc c b (5+k) _) B s).trans l.2.2.2.1,(qAj (qAc c b (5+k) _) B s).trans l.2.2.2.2⟩
 go_enter Tryz.func35,Tryz.ntmps35;go_wp2;rw [<- HZ.out];clear Y Q K N X
 go_region_held3 (fun r=>r.cell? ⟨b,4,none⟩=some (.pointer (some ⟨sb,0,none⟩))/\r.cell? ⟨w.heap.size,0,none⟩=some (I4 11)/\r.cell? ⟨w.heap.size,1,none⟩=some (I4 k)/\r.cell? ⟨w.heap.size,2,none⟩=some (I4 a)/\r.cell? ⟨w.heap.size,3,none⟩=some (I4 g)/\r.cell? ⟨w.heap.size,4,none⟩=some (I4 f))
  (first|with_reducible exact T|with_reducible exact P|exact A.out Z (Below.refl _ _))
  (first
   | (go_at_call 56;go_must (refine (qHv ⟨11,k,a,g,f⟩ Z.drew I.out.drew i HY).mono ?_);rintro e z ⟨rfl,D⟩;go_must (have u:Bw Z z:=qAg D;have T:=A.out z u;have o:Bw w z:=F.trans (u.mono F.size);have a4:=u.size;have a0:=L.below o L.lt;have O:=(qNt h o l J).2.low.2.2.2.2;have P:=And.intro O (S.out z n (R.out z u) (by omega));have y0:=((h.below o G).reg l);have f0:=(h.below o G).hp.frozen (5+k);clear D))
   | (go_at_call 57;go_must (refine (yYb U V _ a0).mono ?_);rintro e w5 ⟨rfl,rfl⟩))
 go_wp2;exact bodyPost_end (results_none rfl _ _ _) rfl ⟨rfl,(qNt h o l J).1,(qNt h o l J).2⟩
theorem yMa (d a i g:Int)(w:World)(h:Ma w b sb vm vc ev M)(ha:0<=a/\a<=7)(l:i=8∨(0<=i/\i<=7)){x y:Int}(HX:Hid (M.regs.getD a.toNat 0=x))(HY:Hid (qCk ⟨12,d,a,i,g⟩ M.regs=y))(hy:0<=y/\y<=15){ws cs J:List Int}(I:Sc w sb ws cs)(E:b≠sb)(HU:Hid (ws.set y.toNat x=J)) :
  Cl 35 #[.pointer (some ⟨b,0,none⟩),qAl 12 d a i g] w fun e k=>e=.returned (.tuple #[])/\w.grownBy k (some sb)/\Sc k sb J cs:=by
 have a0:IntKind.i64.wrap y=y:=by rw [IntKind.wrap_i64];omega
 have B:Hid (inB y=true):=decide_eq_true (by omega)
 have V:Hid ((if inB y then ws.set y.toNat x else ws)=J):=by show _=_;rw [B.out];exact HU.out
 have R:Hid ((if inB y then 0 else 35:Int)=0):=by show _=_;rw [B.out];rfl
 obtain ⟨Z,HZ,G,a5,A,T,N,K,L,S⟩:=qOi h 12 d a i g;obtain ⟨q,rfl⟩:=Int.eq_ofNat_of_zero_le ha.1
 have Y:q<8:=by omega
 have a3:(q:Int)<8:=by omega
 have O:Hid (M.regs.getD q 0=x):=HX.out;have X:b<Z.heap.size:=A.out.hp.lt;have a7:=I.lt
 have o:w.heap.size≠sb:=by omega
 have a2:=h.hp.lt
 have a1:w.heap.size≠b:=by omega
 have F:Hid (∀ n:World,Bw Z n->n.cell? ⟨b,4,none⟩=some (.pointer (some ⟨sb,0,none⟩))/\n.cell? ⟨b,5+q,none⟩=some (U8 x)/\n.cell? ⟨w.heap.size,0,none⟩=some (I4 12)/\n.cell? ⟨w.heap.size,1,none⟩=some (I4 d)/\n.cell? ⟨w.heap.size,2,none⟩=some (I4 q)/\n.cell? ⟨w.heap.size,3,none⟩=some (I4 i)/\n.cell? ⟨w.heap.size,4,none⟩=some (I4 g)):=fun n l=>⟨(A.out.below l (by omega)).low.2.2.2.2,by have:=(A.out.below l (by omega)).reg Y;rw [O.out] at this;exact this,(l.cell (p:=⟨w.heap.size,0,none⟩) (show w.heap.size<Z.heap.size by omega)).trans T,(l.cell (p:=⟨w.heap.size,1,none⟩) (show w.heap.size<Z.heap.size by omega)).trans N,(l.cell (p:=⟨w.heap.size,2,none⟩) (show w.heap.size<Z.heap.size by omega)).trans K,(l.cell (p:=⟨w.heap.size,3,none⟩) (show w.heap.size<Z.heap.size by omega)).trans L,(l.cell (p:=⟨w.heap.size,4,none⟩) (show w.heap.size<Z.heap.size by omega)).trans S⟩
 go_enter Tryz.func35,Tryz.ntmps35;go_wp2;rw [<- HZ.out];clear T N K L S
 go_region_held3 (fun k=>k.cell? ⟨b,4,none⟩=some (.pointer (some ⟨sb,0,none⟩))/\k.cell? ⟨b,5+q,none⟩=some (U8 x)/\k.cell? ⟨w.heap.size,0,none⟩=some (I4 12)/\k.cell? ⟨w.heap.size,1,none⟩=some (I4 d)/\k.cell? ⟨w.heap.size,2,none⟩=some (I4 q)/\k.cell? ⟨w.heap.size,3,none⟩=some (I4 i)/\k.cell? ⟨w.heap.size,4,none⟩=some (I4 g))
  (first|with_reducible exact Q|with_reducible exact f|exact F.out Z (Below.refl _ _))
  (first
   | (go_at_call 56;go_must (refine (qHv ⟨12,d,q,i,g⟩ Z.drew A.out.drew l HY).mono ?_);rintro e z ⟨rfl,s⟩;go_must (have u:Bw Z z:=qAg s;have f:=F.out z u;have D:Bw w z:=G.trans (u.mono G.size);have a4:=u.size;have U:=I.below D I.lt;clear s))
   | (go_at_call 12;go_must (refine (yXg V R z U).mono ?_);rintro e r ⟨rfl,P,c,a6⟩;go_must (have Q:r.cell? ⟨b,4,none⟩=some (.pointer (some ⟨sb,0,none⟩))/\r.cell? ⟨b,5+q,none⟩=some (U8 x)/\r.cell? ⟨w.heap.size,0,none⟩=some (I4 12)/\r.cell? ⟨w.heap.size,1,none⟩=some (I4 d)/\r.cell? ⟨w.heap.size,2,none⟩=some (I4 q)/\r.cell? ⟨w.heap.size,3,none⟩=some (I4 i)/\r.cell? ⟨w.heap.size,4,none⟩=some (I4 g):=⟨(qAj c (by omega) E).trans f.1,(qAj c (by omega) E).trans f.2.1,(qAj c (by omega) o).trans f.2.2.1,(qAj c (by omega) o).trans f.2.2.2.1,(qAj c (by omega) o).trans f.2.2.2.2.1,(qAj c (by omega) o).trans f.2.2.2.2.2.1,(qAj c (by omega) o).trans f.2.2.2.2.2.2⟩)))
 go_wp2;exact bodyPost_end (results_none rfl _ _ _) rfl ⟨rfl,qCd (qBz D _) c,P⟩
theorem yRj (d a o f:Int)(w:World)(h:Ma w b sb vm vc ev M)(N:0<=d/\d<=7){n:Int}(L:Hid ((if f=0 then ev.1 else ev.2)=n))(K:0<=n/\n<=18446744073709551615) :
  Cl 35 #[.pointer (some ⟨b,0,none⟩),qAl 13 d a o f] w fun e l=>e=.returned (.tuple #[])/\w.grownBy l (some b)/\Ma l b sb vm vc ev { M with regs:=M.regs.set d.toNat n }:=by
 obtain ⟨Z,O,z,R,A,J,E,B,D,I⟩:=qOi h 13 d a o f;obtain ⟨k,rfl⟩:=Int.eq_ofNat_of_zero_le N.1
 have g:k<8:=by omega
 have P:(k:Int)<8:=by omega
 have Q:=h.hp.lt
 have i:w.heap.size≠b:=by omega
 have G:Hid (∀ c:World,Bw Z c->c.cell? ⟨w.heap.size,0,none⟩=some (I4 13)/\c.cell? ⟨w.heap.size,1,none⟩=some (I4 k)/\c.cell? ⟨w.heap.size,2,none⟩=some (I4 a)/\c.cell? ⟨w.heap.size,3,none⟩=some (I4 o)/\c.cell? ⟨w.heap.size,4,none⟩=some (I4 f)):=fun c r=>⟨(r.cell (p:=⟨w.heap.size,0,none⟩) (show w.heap.size<Z.heap.size by omega)).trans J,(r.cell (p:=⟨w.heap.size,1,none⟩) (show w.heap.size<Z.heap.size by omega)).trans E,(r.cell (p:=⟨w.heap.size,2,none⟩) (show w.heap.size<Z.heap.size by omega)).trans B,(r.cell (p:=⟨w.heap.size,3,none⟩) (show w.heap.size<Z.heap.size by omega)).trans D,(r.cell (p:=⟨w.heap.size,4,none⟩) (show w.heap.size<Z.heap.size by omega)).trans I⟩
 have F:Hid (∀ (c:World) (v:Int),(c.cell? ⟨w.heap.size,0,none⟩=some (I4 13)/\c.cell? ⟨w.heap.size,1,none⟩=some (I4 k)/\c.cell? ⟨w.heap.size,2,none⟩=some (I4 a)/\c.cell? ⟨w.heap.size,3,none⟩=some (I4 o)/\c.cell? ⟨w.heap.size,4,none⟩=some (I4 f))->w.heap.size<c.heap.size->(c.setCell ⟨b,5+k,none⟩ (U8 v)).cell? ⟨w.heap.size,0,none⟩=some (I4 13)/\(c.setCell ⟨b,5+k,none⟩ (U8 v)).cell? ⟨w.heap.size,1,none⟩=some (I4 k)/\(c.setCell ⟨b,5+k,none⟩ (U8 v)).cell? ⟨w.heap.size,2,none⟩=some (I4 a)/\(c.setCell ⟨b,5+k,none⟩ (U8 v)).cell? ⟨w.heap.size,3,none⟩=some (I4 o)/\(c.setCell ⟨b,5+k,none⟩ (U8 v)).cell? ⟨w.heap.size,4,none⟩=some (I4 f)):=fun c v g u=>⟨(qAj (qAc c b (5+k) _) u i).trans g.1,(qAj (qAc c b (5+k) _) u i).trans g.2.1,(qAj (qAc c b (5+k) _) u i).trans g.2.2.1,(qAj (qAc c b (5+k) _) u i).trans g.2.2.2.1,(qAj (qAc c b (5+k) _) u i).trans g.2.2.2.2⟩
 have s:=G.out Z (Below.refl _ _);have y:=F.out Z n s (by omega);have U:=A.out.reg g;have T:=A.out.hp.frozen (5+k);go_enter Tryz.func35,Tryz.ntmps35;go_wp2;rw [<- O.out];clear J E B D I
 go_region_held3 (fun l=>l.cell? ⟨w.heap.size,0,none⟩=some (I4 13)/\l.cell? ⟨w.heap.size,1,none⟩=some (I4 k)/\l.cell? ⟨w.heap.size,2,none⟩=some (I4 a)/\l.cell? ⟨w.heap.size,3,none⟩=some (I4 o)/\l.cell? ⟨w.heap.size,4,none⟩=some (I4 f))
  (first|with_reducible exact s|with_reducible exact y|exact s|exact y)
  (first|(go_at_call 58;go_must (refine (yKd f _ A.out.drew L).mono ?_);rintro e S ⟨rfl,rfl⟩))
 go_wp2;exact bodyPost_end (results_none rfl _ _ _) rfl ⟨rfl,qCb (qNt h z g K).1,(qNt h z g K).2.drew⟩
theorem yXz (d a l imm:Int)(w:World)(h:Ma w b sb vm vc ev M)(J:0<=d/\d<=7)(hi:0<=imm/\imm<=3) :
  Cl 35 #[.pointer (some ⟨b,0,none⟩),qAl 14 d a l imm] w fun e i=>e=.returned (.tuple #[])/\w.grownBy i (some b)/\Ma i b sb vm vc ev { M with regs:=M.regs.set d.toNat imm }:=by
 have I:0<=imm/\imm<=18446744073709551615:=by omega
 have L:IntKind.u64.wrap imm=imm:=by rw [IntKind.wrap_u64];omega
 obtain ⟨Z,K,s,P,z,G,B,u,y,F⟩:=qOi h 14 d a l imm;obtain ⟨k,rfl⟩:=Int.eq_ofNat_of_zero_le J.1
 have f:k<8:=by omega
 have N:(k:Int)<8:=by omega
 have O:=h.hp.lt
 have g:w.heap.size≠b:=by omega
 have E:Hid (∀ c:World,Bw Z c->c.cell? ⟨w.heap.size,0,none⟩=some (I4 14)/\c.cell? ⟨w.heap.size,1,none⟩=some (I4 k)/\c.cell? ⟨w.heap.size,2,none⟩=some (I4 a)/\c.cell? ⟨w.heap.size,3,none⟩=some (I4 l)/\c.cell? ⟨w.heap.size,4,none⟩=some (I4 imm)):=fun c n=>⟨(n.cell (p:=⟨w.heap.size,0,none⟩) (show w.heap.size<Z.heap.size by omega)).trans G,(n.cell (p:=⟨w.heap.size,1,none⟩) (show w.heap.size<Z.heap.size by omega)).trans B,(n.cell (p:=⟨w.heap.size,2,none⟩) (show w.heap.size<Z.heap.size by omega)).trans u,(n.cell (p:=⟨w.heap.size,3,none⟩) (show w.heap.size<Z.heap.size by omega)).trans y,(n.cell (p:=⟨w.heap.size,4,none⟩) (show w.heap.size<Z.heap.size by omega)).trans F⟩
 have D:Hid (∀ (c:World) (v:Int),(c.cell? ⟨w.heap.size,0,none⟩=some (I4 14)/\c.cell? ⟨w.heap.size,1,none⟩=some (I4 k)/\c.cell? ⟨w.heap.size,2,none⟩=some (I4 a)/\c.cell? ⟨w.heap.size,3,none⟩=some (I4 l)/\c.cell? ⟨w.heap.size,4,none⟩=some (I4 imm))->w.heap.size<c.heap.size->(c.setCell ⟨b,5+k,none⟩ (U8 v)).cell? ⟨w.heap.size,0,none⟩=some (I4 14)/\(c.setCell ⟨b,5+k,none⟩ (U8 v)).cell? ⟨w.heap.size,1,none⟩=some (I4 k)/\(c.setCell ⟨b,5+k,none⟩ (U8 v)).cell? ⟨w.heap.size,2,none⟩=some (I4 a)/\(c.setCell ⟨b,5+k,none⟩ (U8 v)).cell? ⟨w.heap.size,3,none⟩=some (I4 l)/\(c.setCell ⟨b,5+k,none⟩ (U8 v)).cell? ⟨w.heap.size,4,none⟩=some (I4 imm)):=fun c v f r=>⟨(qAj (qAc c b (5+k) _) r g).trans f.1,(qAj (qAc c b (5+k) _) r g).trans f.2.1,(qAj (qAc c b (5+k) _) r g).trans f.2.2.1,(qAj (qAc c b (5+k) _) r g).trans f.2.2.2.1,(qAj (qAc c b (5+k) _) r g).trans f.2.2.2.2⟩
 have o:=E.out Z (Below.refl _ _);have A:=D.out Z imm o (by omega);have R:=z.out.reg f;have Q:=z.out.hp.frozen (5+k);go_enter Tryz.func35,Tryz.ntmps35;go_wp2;rw [<- K.out];clear G B u y F
 go_region_held3 (fun i=>i.cell? ⟨w.heap.size,0,none⟩=some (I4 14)/\i.cell? ⟨w.heap.size,1,none⟩=some (I4 k)/\i.cell? ⟨w.heap.size,2,none⟩=some (I4 a)/\i.cell? ⟨w.heap.size,3,none⟩=some (I4 l)/\i.cell? ⟨w.heap.size,4,none⟩=some (I4 imm))
  (first|with_reducible exact o|exact A|exact o)
  (fail)
 go_wp2;exact bodyPost_end (results_none rfl _ _ _) rfl ⟨rfl,qCb (qNt h s f I).1,(qNt h s f I).2.drew⟩
end
theorem qIl {w:World}{cb co ccap p:Nat}{xs:List In}(h:SeesI w (.slice (some ⟨cb,co,none⟩) xs.length ccap) xs)(d:p<xs.length):At w cb (co+p*5) (nth xs p)/\cb<w.heap.size/\xs.length<=ccap/\ccap<=9223372036854775807:=by
 obtain ⟨a,cap,n,o,hm,_,c⟩:=h;injection n with g r l;subst g;subst l;obtain ⟨b,off,e,k,f⟩:=c (fun e=>by rw [e] at d;simp at d);injection e with e;injection e with e i;subst e;subst i;exact ⟨f p d,k,o,by unfold maxLen at hm;omega⟩
section
variable {b sb:Nat} {vm vc:Value} {ev:Int×Int} {M:Mc}
theorem qOu {cb co ccap:Nat}{xs:List In}(w:World)(h:Ma w b sb vm (.slice (some ⟨cb,co,none⟩) xs.length ccap) ev M)(g:SeesI w (.slice (some ⟨cb,co,none⟩) xs.length ccap) xs)(A:M.pc<xs.length)(c:0<=(nth xs M.pc).a/\(nth xs M.pc).a<=7){n:Int}(k:Hid (qBj M.regs (nth xs M.pc).a=n)) :
  Cl 33 #[.pointer (some ⟨b,0,none⟩)] w fun e s=>e=.returned (U8 n)/\Bw w s:=by
 have E:(M.pc:Int)<xs.length:=by omega
 have y:(M.pc:Int)<=100:=by have:=h.pc;omega
 obtain ⟨f,G,D,B⟩:=qIl g A;obtain ⟨⟨op,d,a,J,F⟩,r⟩:∃ i,Hid (nth xs M.pc=i):=⟨_,rfl⟩;rw [r.out] at f k c;simp only at c;obtain ⟨q,rfl⟩:=Int.eq_ofNat_of_zero_le c.1
 have l:q<8:=by omega
 have I:(q:Int)<8:=by omega
 have o:Hid (M.regs.getD q 0=n):=k.out;obtain ⟨_,_,u,_,_⟩:=f;simp only at u;have K:=h.last.1;have L:=h.low.2.2.2.1;have z:=h.reg l;rw [o.out] at z;clear g c;go_enter Tryz.func33,Tryz.ntmps33;go_wp2;go_region;go_wp2;go_ret;exact ⟨rfl,qAn (Below.refl _ _)⟩
theorem qQv (n:Int)(w:World)(h:Ma w b sb vm vc ev M)(o:0<=n/\n<=18446744073709551615)(i:M.pc+1<64) :
  Cl 30 #[.pointer (some ⟨b,0,none⟩),U8 n] w fun e d=>e=.returned (.tuple #[])/\w.grownBy d (some b)/\Ma d b sb vm vc ev { M with regs:=M.regs.set 0 n,pc:=M.pc+1 }:=by
 have r:=h.hp.lt
 have g:(M.pc:Int)<=100:=by omega
 have u:=h.reg (show 0<8 by omega);have y:=h.hp.frozen 5;have a:Hid (Ma (w.setCell ⟨b,5,none⟩ (U8 n)) b sb vm vc ev { M with regs:=M.regs.set 0 n }):=h.setR (k:=0) (by omega) o;have z:=a.out.last.1;have s:=a.out.hp.frozen 77;have c:Hid (Ma ((w.setCell ⟨b,5,none⟩ (U8 n)).setCell ⟨b,77,none⟩ (I4 ((M.pc+1:Nat):Int))) b sb vm vc ev { M with regs:=M.regs.set 0 n,pc:=M.pc+1 }):=a.out.setP i;have f:Hid (w.grownBy ((w.setCell ⟨b,5,none⟩ (U8 n)).setCell ⟨b,77,none⟩ (I4 ((M.pc+1:Nat):Int))) (some b)):=qCd (qAc w b 5 _) (qAc _ b 77 _)
 have l:((M.pc+1:Nat):Int)=(M.pc:Int)+1:=by omega
 rw [l] at c f;go_enter Tryz.func30,Tryz.ntmps30;go_wp2;exact bodyPost_end (results_none rfl _ _ _) rfl ⟨rfl,f.out,c.out⟩
end
end Go.Proofs.YtmdhljoicnommaaGreat
