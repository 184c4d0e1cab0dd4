/-
  E11Act
  E11LSmall
  E11LDo
  E11LNext
-/
import Derived.Test.YtmdhljoicnommaaGreatMS27
import Derived.Test.YtmdhljoicnommaaGreatMS28
import Derived.Test.YtmdhljoicnommaaGreatMS21
namespace Go.Proofs.YtmdhljoicnommaaGreat
set_option maxHeartbeats 12800000
open Go.RowKit
set_option linter.unusedVariables false
set_option linter.unusedSimpArgs false
set_option maxRecDepth 100000
abbrev actC (k pc im io ik iv v:Int):List Value:=[.int .i64 k,.int .i64 pc,.int .i64 im,.int .i64 io,.int .u64 ik,.int .u64 iv,.int .u64 v]
abbrev actV (k pc im io ik iv v:Int):Value:=.agg #[.int .i64 k,.int .i64 pc,.int .i64 im,.int .i64 io,.int .u64 ik,.int .u64 iv,.int .u64 v]
theorem run_boxA {w:World}{n:Nat}{k c a d b f v:Int}(h:Hp w n 80 (actC k c a d b f v)):(loadVar 80 ⟨n,0,none⟩).run Tryz.prog w=.ok (actV k c a d b f v) w:=by
 refine run_loadVar_mid w n 0 80 (actC k c a d b f v) _ ?_ Tryz.underlying80 rfl (by kernel_rfl);intro j x g;rw [Nat.zero_add];exact h.cell g
theorem qBv {l:Func}{p:Tmp}{c:World}{n:Nat}{a:Array Value}{k f b g d i v:Int}{Q:Ending->World->Prop}(s:l.results=#[.cell p 80])(r:a.getD p undef=.pointer (some ⟨n,0,none⟩))(u:Hp c n 80 (actC k f b g d i v))(o:Q (.returned (actV k f b g d i v)) c):bodyPost Tryz.prog l Q .ret ⟨a,[]⟩ c:=by
 refine bodyPost_ret (v:=actV k f b g d i v) ?_ rfl o;rw [qAm s,r];simp only [asAddr,Sem.run_pure,Result.andThen];rw [run_boxA u]
theorem qAh {w a:World}{tb x j:Nat}(h:w.grownBy a (some tb))(c:x<w.heap.size)(b:x≠tb):a.cell? ⟨x,j,none⟩=w.cell? ⟨x,j,none⟩:=World.cell?_of_block (h.block x c (fun e=>b (by injection e)))
theorem Chg.cellL {w a:World}{S:Nat->Prop}(h:Chg w a S){x j:Nat}(b:x<w.heap.size)(c:¬ S x):a.cell? ⟨x,j,none⟩=w.cell? ⟨x,j,none⟩:=World.cell?_of_block (h.block x b c)
section
variable {b sb:Nat} {vm vc:Value} {ev:Int×Int} {M:Mc}
theorem boxL {w:World}(h:Ma w b sb vm vc ev M)(op d a f c:Int):∃ Z,Hid (Z=w.alloc (instO op d a f c))/\Bw w Z/\Z.heap.size=w.heap.size+1/\Hid (Ma Z b sb vm vc ev M)/\(Z.cell? ⟨w.heap.size,0,none⟩=some (I4 op)/\Z.cell? ⟨w.heap.size,1,none⟩=some (I4 d)/\Z.cell? ⟨w.heap.size,2,none⟩=some (I4 a)/\Z.cell? ⟨w.heap.size,3,none⟩=some (I4 f)/\Z.cell? ⟨w.heap.size,4,none⟩=some (I4 c)) :=
 ⟨_,rfl,by go_grown,by simp,h.below ((Below.refl _ _).alloc (Nat.le_refl _) _) h.hp.lt,by go_cell,by go_cell,by go_cell,by go_cell,by go_cell⟩
theorem putL {w a:World}(h:Ma w b sb vm vc ev M)(c:Bw w a){k:Nat}(f:k<8){v:Int}(d:0<=v/\v<=18446744073709551615):w.grownBy (a.setCell ⟨b,5+k,none⟩ (U8 v)) (some b)/\Ma (a.setCell ⟨b,5+k,none⟩ (U8 v)) b sb vm vc ev { M with regs:=M.regs.set k v } :=
 ⟨qBb (qAu c _) (qAb a b (5+k) _),(h.below c h.hp.lt).setR f d⟩
theorem mtold_any (k v:Int)(w:World)(h:Ma w b sb vm vc ev M):Cl 32 #[.pointer (some ⟨b,0,none⟩),I4 k,U8 v] w fun e d=>e=.returned (actV k M.pc 0 0 0 0 v)/\Bw w d:=by
 have c:=h.last.1;have f:=h.hp.lt;go_enter Tryz.func32,Tryz.ntmps32;go_wp2;have a:=Hp.new w (actC k M.pc 0 0 0 0 v) 80;refine qBv rfl rfl a ⟨rfl,by go_grown⟩
theorem mfield_any (k:Int)(w:World)(h:Ma w b sb vm vc ev M){v:Int}(a:Hid ((if k=0 then ev.1 else ev.2)=v)):Cl 58 #[.pointer (some ⟨b,0,none⟩),I4 k] w fun e d=>e=.returned (U8 v)/\d=w:=by
 have c:=h.low.1;have f:=h.low.2.1
 by_cases hk:k=0
 ·rw [if_pos hk] at a;rw [a.out] at c;subst hk;go_enter Tryz.func58,Tryz.ntmps58;go_wp2;go_ret;exact ⟨rfl,rfl⟩
 ·rw [if_neg hk] at a;rw [a.out] at f
  have g:(k==0)=false:=by simpa using hk
  go_enter Tryz.func58,Tryz.ntmps58;go_wp2;go_ret;exact ⟨rfl,rfl⟩
theorem qDe (i:In)(w:World)(h:Ma w b sb vm vc ev M)(z:i.b=8∨(0<=i.b/\i.b<=7)){n:Int}(o:Hid (srcV i M.regs=n)) :
  Cl 56 #[.pointer (some ⟨b,0,none⟩),instV i.op i.d i.a i.b i.imm] w fun e A=>e=.returned (U8 n)/\Bw w A:=by
 obtain ⟨op,d,a,f,c⟩:=i;simp only at z ⊢;have s:=h.hp.lt
 by_cases h8:f=8
 ·subst h8
  have l:Hid (IntKind.u64.wrap c=n):=by
   show _=_
   rw [<- o.out,IntKind.wrap_u64]
   rfl
  go_enter Tryz.func56,Tryz.ntmps56;go_wp2;go_ret;exact ⟨by rw [<- l.out];first|rfl|(simp;done),by go_grown⟩
 ·have D:(f==8)=false:=by simpa using h8
  obtain ⟨k,rfl⟩:=Int.eq_ofNat_of_zero_le (show 0<=f by omega)
  have u:k<8:=by omega
  have B:(k:Int)<8:=by omega
  have l:Hid (M.regs.getD k 0=n):=by
   show _=_
   rw [<- o.out];unfold srcV;rw [if_neg h8]
   rfl
  have g:=h.reg u;rw [l.out] at g
  obtain ⟨Z,y,r,I,K,J,F,G,E⟩:∃ Z,Hid (Z=w.alloc (instO op d a k c))/\Bw w Z/\Z.cell? ⟨w.heap.size,0,none⟩=some (I4 op)/\Z.cell? ⟨w.heap.size,1,none⟩=some (I4 d)/\Z.cell? ⟨w.heap.size,2,none⟩=some (I4 a)/\Z.cell? ⟨w.heap.size,3,none⟩=some (I4 k)/\Z.cell? ⟨w.heap.size,4,none⟩=some (I4 c)/\Z.cell? ⟨b,5+k,none⟩=some (U8 n):=by
   refine ⟨_,rfl,by go_grown,by go_cell,by go_cell,by go_cell,by go_cell,by go_cell,?_⟩;rw [((Below.refl w.heap.size w).alloc (Nat.le_refl _) _).cell (p:=⟨b,5+k,none⟩) s];exact g
  clear g;go_enter Tryz.func56,Tryz.ntmps56;go_wp2;rw [<- y.out];go_region;go_wp2;go_ret;exact ⟨rfl,qAj r⟩
end
section
variable {b sb:Nat} {vm vc:Value} {ev:Int×Int} {M:Mc}
theorem mdo_set (d a g f:Int)(w:World)(h:Ma w b sb vm vc ev M)(S:0<=d/\d<=7)(n:g=8∨(0<=g/\g<=7)){y:Int}(N:Hid (srcV ⟨0,d,a,g,f⟩ M.regs=y)) :
  Cl 35 #[.pointer (some ⟨b,0,none⟩),instV 0 d a g f] w fun e o=>e=.returned (.tuple #[])/\w.grownBy o (some b)/\Ma o b sb vm vc ev { M with regs:=M.regs.set d.toNat y }:=by
 have G:0<=y/\y<=18446744073709551615:=by rw [<- N.out];exact srcV_in h.wr n
 obtain ⟨Z,T,B,U,R,O,Q,P,K,L⟩:=boxL h 0 d a g f;obtain ⟨k,rfl⟩:=Int.eq_ofNat_of_zero_le S.1
 have i:k<8:=by omega
 have V:(k:Int)<8:=by omega
 have F:=h.hp.lt
 have l:w.heap.size≠b:=by omega
 have D:Hid (∀ c:World,Bw Z c->c.cell? ⟨w.heap.size,0,none⟩=some (I4 0)/\c.cell? ⟨w.heap.size,1,none⟩=some (I4 k)/\c.cell? ⟨w.heap.size,2,none⟩=some (I4 a)/\c.cell? ⟨w.heap.size,3,none⟩=some (I4 g)/\c.cell? ⟨w.heap.size,4,none⟩=some (I4 f)):=fun c n=>⟨(n.cell (p:=⟨w.heap.size,0,none⟩) (show w.heap.size<Z.heap.size by omega)).trans O,(n.cell (p:=⟨w.heap.size,1,none⟩) (show w.heap.size<Z.heap.size by omega)).trans Q,(n.cell (p:=⟨w.heap.size,2,none⟩) (show w.heap.size<Z.heap.size by omega)).trans P,(n.cell (p:=⟨w.heap.size,3,none⟩) (show w.heap.size<Z.heap.size by omega)).trans K,(n.cell (p:=⟨w.heap.size,4,none⟩) (show w.heap.size<Z.heap.size by omega)).trans L⟩
 have J:Hid (∀ (c:World) (v:Int),(c.cell? ⟨w.heap.size,0,none⟩=some (I4 0)/\c.cell? ⟨w.heap.size,1,none⟩=some (I4 k)/\c.cell? ⟨w.heap.size,2,none⟩=some (I4 a)/\c.cell? ⟨w.heap.size,3,none⟩=some (I4 g)/\c.cell? ⟨w.heap.size,4,none⟩=some (I4 f))->w.heap.size<c.heap.size->(c.setCell ⟨b,5+k,none⟩ (U8 v)).cell? ⟨w.heap.size,0,none⟩=some (I4 0)/\(c.setCell ⟨b,5+k,none⟩ (U8 v)).cell? ⟨w.heap.size,1,none⟩=some (I4 k)/\(c.setCell ⟨b,5+k,none⟩ (U8 v)).cell? ⟨w.heap.size,2,none⟩=some (I4 a)/\(c.setCell ⟨b,5+k,none⟩ (U8 v)).cell? ⟨w.heap.size,3,none⟩=some (I4 g)/\(c.setCell ⟨b,5+k,none⟩ (U8 v)).cell? ⟨w.heap.size,4,none⟩=some (I4 f)):=fun c v i z=>⟨(qAh (qAb c b (5+k) _) z l).trans i.1,(qAh (qAb c b (5+k) _) z l).trans i.2.1,(qAh (qAb c b (5+k) _) z l).trans i.2.2.1,(qAh (qAb c b (5+k) _) z l).trans i.2.2.2.1,(qAh (qAb c b (5+k) _) z l).trans i.2.2.2.2⟩
 go_enter Tryz.func35,Tryz.ntmps35;go_wp2;rw [<- T.out];clear O Q P K L
 go_region_held3 (fun o=>o.cell? ⟨w.heap.size,0,none⟩=some (I4 0)/\o.cell? ⟨w.heap.size,1,none⟩=some (I4 k)/\o.cell? ⟨w.heap.size,2,none⟩=some (I4 a)/\o.cell? ⟨w.heap.size,3,none⟩=some (I4 g)/\o.cell? ⟨w.heap.size,4,none⟩=some (I4 f))
  (first|with_reducible exact E|with_reducible exact I|exact D.out Z (Below.refl _ _))
  (first
   | (go_at_call 56;go_must (refine (qDe ⟨0,k,a,g,f⟩ Z.drew R.out.drew n N).mono ?_);rintro e A ⟨rfl,u⟩;go_must (have s:Bw Z A:=qAf u;have E:=D.out A s;have r:Bw w A:=B.trans (s.mono B.size);have X:=s.size;have I:=J.out A y E (by omega);have y0:=((h.below r F).reg i);have Y:=(h.below r F).hp.frozen (5+k);clear u)))
 go_wp2;exact bodyPost_end (results_none rfl _ _ _) rfl ⟨rfl,(putL h r i G).1,(putL h r i G).2⟩
theorem mdo_three (op d a i f:Int)(w:World)(h:Ma w b sb vm vc ev M)(ho:1<=op/\op<=10)(hd:0<=d/\d<=7)(ha:0<=a/\a<=7)(l:i=8∨(0<=i/\i<=7)){x y n:Int}(U:Hid (M.regs.getD a.toNat 0=x))(S:Hid (srcV ⟨op,d,a,i,f⟩ M.regs=y))(HN:Hid (n=doL op x y))(L:0<=n/\n<=18446744073709551615) :
  Cl 35 #[.pointer (some ⟨b,0,none⟩),instV op d a i f] w fun e g=>e=.returned (.tuple #[])/\w.grownBy g (some b)/\Ma g b sb vm vc ev { M with regs:=M.regs.set d.toNat n }:=by
 have Y:0<=y/\y<=18446744073709551615:=by rw [<- S.out];exact srcV_in h.wr l
 have hx:0<=x/\x<=18446744073709551615:=by rw [<- U.out];exact h.wr.2 _ (by omega)
 obtain ⟨Z,HZ,F,a1,J,T,X,V,Q,R⟩:=boxL h op d a i f;obtain ⟨k,rfl⟩:=Int.eq_ofNat_of_zero_le hd.1
 have o:k<8:=by omega
 have a4:(k:Int)<8:=by omega
 obtain ⟨q,rfl⟩:=Int.eq_ofNat_of_zero_le ha.1
 have hq:q<8:=by omega
 have a8:(q:Int)<8:=by omega
 have N:Hid (M.regs.getD q 0=x):=U.out
 have h0:(op==0)=false:=by simp;omega
 have a7:(op==11)=false:=by simp;omega
 have a3:(op==12)=false:=by simp;omega
 have a2:(op==13)=false:=by simp;omega
 have a5:(op==14)=false:=by simp;omega
 have HC:Hid (true=isOp op):=by show _=_;unfold isOp;simp;omega
 have a0:b<Z.heap.size:=J.out.hp.lt;have I:=h.hp.lt
 have r:w.heap.size≠b:=by omega
 have D:Hid (∀ c:World,Bw Z c->c.cell? ⟨b,5+q,none⟩=some (U8 x)/\c.cell? ⟨w.heap.size,0,none⟩=some (I4 op)/\c.cell? ⟨w.heap.size,1,none⟩=some (I4 k)/\c.cell? ⟨w.heap.size,2,none⟩=some (I4 q)/\c.cell? ⟨w.heap.size,3,none⟩=some (I4 i)/\c.cell? ⟨w.heap.size,4,none⟩=some (I4 f)):=fun c l=>⟨by have:=(J.out.below l (by omega)).reg hq;rw [N.out] at this;exact this,(l.cell (p:=⟨w.heap.size,0,none⟩) (show w.heap.size<Z.heap.size by omega)).trans T,(l.cell (p:=⟨w.heap.size,1,none⟩) (show w.heap.size<Z.heap.size by omega)).trans X,(l.cell (p:=⟨w.heap.size,2,none⟩) (show w.heap.size<Z.heap.size by omega)).trans V,(l.cell (p:=⟨w.heap.size,3,none⟩) (show w.heap.size<Z.heap.size by omega)).trans Q,(l.cell (p:=⟨w.heap.size,4,none⟩) (show w.heap.size<Z.heap.size by omega)).trans R⟩
 have P:Hid (∀ c:World,Bw Z c->c.cell? ⟨w.heap.size,0,none⟩=some (I4 op)/\c.cell? ⟨w.heap.size,1,none⟩=some (I4 k)/\c.cell? ⟨w.heap.size,2,none⟩=some (I4 q)/\c.cell? ⟨w.heap.size,3,none⟩=some (I4 i)/\c.cell? ⟨w.heap.size,4,none⟩=some (I4 f)):=fun c l=>(D.out c l).2
 have O:Hid (∀ (c:World) (v:Int),(c.cell? ⟨w.heap.size,0,none⟩=some (I4 op)/\c.cell? ⟨w.heap.size,1,none⟩=some (I4 k)/\c.cell? ⟨w.heap.size,2,none⟩=some (I4 q)/\c.cell? ⟨w.heap.size,3,none⟩=some (I4 i)/\c.cell? ⟨w.heap.size,4,none⟩=some (I4 f))->w.heap.size<c.heap.size->(c.setCell ⟨b,5+k,none⟩ (U8 v)).cell? ⟨w.heap.size,0,none⟩=some (I4 op)/\(c.setCell ⟨b,5+k,none⟩ (U8 v)).cell? ⟨w.heap.size,1,none⟩=some (I4 k)/\(c.setCell ⟨b,5+k,none⟩ (U8 v)).cell? ⟨w.heap.size,2,none⟩=some (I4 q)/\(c.setCell ⟨b,5+k,none⟩ (U8 v)).cell? ⟨w.heap.size,3,none⟩=some (I4 i)/\(c.setCell ⟨b,5+k,none⟩ (U8 v)).cell? ⟨w.heap.size,4,none⟩=some (I4 f)):=fun c v o E=>⟨(qAh (qAb c b (5+k) _) E r).trans o.1,(qAh (qAb c b (5+k) _) E r).trans o.2.1,(qAh (qAb c b (5+k) _) E r).trans o.2.2.1,(qAh (qAb c b (5+k) _) E r).trans o.2.2.2.1,(qAh (qAb c b (5+k) _) E r).trans o.2.2.2.2⟩
 go_enter Tryz.func35,Tryz.ntmps35;go_wp2;rw [<- HZ.out];clear T X V Q R
 go_region_held3 (fun g=>g.cell? ⟨b,5+q,none⟩=some (U8 x)/\g.cell? ⟨w.heap.size,0,none⟩=some (I4 op)/\g.cell? ⟨w.heap.size,1,none⟩=some (I4 k)/\g.cell? ⟨w.heap.size,2,none⟩=some (I4 q)/\g.cell? ⟨w.heap.size,3,none⟩=some (I4 i)/\g.cell? ⟨w.heap.size,4,none⟩=some (I4 f))
  (first|with_reducible exact G|exact D.out Z (Below.refl _ _))
  (first
   | (go_at_call 56;go_must (refine (qDe ⟨op,k,q,i,f⟩ Z.drew J.out.drew l S).mono ?_);rintro e z ⟨rfl,A⟩;go_must (have s:Bw Z z:=qAf A;have G:=D.out z s;have u:Bw w z:=F.trans (s.mono F.size);have a6:=s.size;clear A))
   | (go_at_call 59;go_must (refine (do_as HN HC _ hx Y).mono ?_);rintro e w5 ⟨rfl,rfl⟩))
 have B:=P.out z s;have K:=O.out z n B (by omega);have y0:=((h.below u I).reg o);have f0:=(h.below u I).hp.frozen (5+k);clear G;go_wp2
 go_region_held3 (fun g=>g.cell? ⟨w.heap.size,0,none⟩=some (I4 op)/\g.cell? ⟨w.heap.size,1,none⟩=some (I4 k)/\g.cell? ⟨w.heap.size,2,none⟩=some (I4 q)/\g.cell? ⟨w.heap.size,3,none⟩=some (I4 i)/\g.cell? ⟨w.heap.size,4,none⟩=some (I4 f))
  (first|with_reducible exact B|exact K|exact B)
  (fail)
 go_wp2;exact bodyPost_end (results_none rfl _ _ _) rfl ⟨rfl,qAy (putL h u o L).1,(putL h u o L).2.drew⟩
theorem mdo_none (op d a f c:Int)(w:World)(h:Ma w b sb vm vc ev M)(ho:15<=op/\op<=20)(P:0<=a/\a<=7)(g:f=8∨(0<=f/\f<=7)) :
  Cl 35 #[.pointer (some ⟨b,0,none⟩),instV op d a f c] w fun e k=>e=.returned (.tuple #[])/\Bw w k:=by
 obtain ⟨x,J⟩:∃ x,Hid (M.regs.getD a.toNat 0=x):=⟨_,rfl⟩;obtain ⟨y,E⟩:∃ y,Hid (srcV ⟨op,d,a,f,c⟩ M.regs=y):=⟨_,rfl⟩;obtain ⟨n,T⟩:∃ n,Hid (n=doL op x y):=⟨_,rfl⟩
 have N:0<=y/\y<=18446744073709551615:=by rw [<- E.out];exact srcV_in h.wr g
 have S:0<=x/\x<=18446744073709551615:=by rw [<- J.out];exact h.wr.2 _ (by omega)
 obtain ⟨Z,Q,r,V,u,I,L,K,F,G⟩:=boxL h op d a f c;obtain ⟨q,rfl⟩:=Int.eq_ofNat_of_zero_le P.1
 have O:q<8:=by omega
 have a5:(q:Int)<8:=by omega
 have A:Hid (M.regs.getD q 0=x):=J.out
 have h0:(op==0)=false:=by simp;omega
 have a4:(op==11)=false:=by simp;omega
 have Y:(op==12)=false:=by simp;omega
 have X:(op==13)=false:=by simp;omega
 have a0:(op==14)=false:=by simp;omega
 have U:Hid (false=isOp op):=by show _=_;unfold isOp;simp;omega
 have R:b<Z.heap.size:=u.out.hp.lt;have a3:=h.hp.lt
 have a2:w.heap.size≠b:=by omega
 have s:Hid (∀ i:World,Bw Z i->i.cell? ⟨b,5+q,none⟩=some (U8 x)/\i.cell? ⟨w.heap.size,0,none⟩=some (I4 op)/\i.cell? ⟨w.heap.size,1,none⟩=some (I4 d)/\i.cell? ⟨w.heap.size,2,none⟩=some (I4 q)/\i.cell? ⟨w.heap.size,3,none⟩=some (I4 f)/\i.cell? ⟨w.heap.size,4,none⟩=some (I4 c)):=fun i g=>⟨by have:=(u.out.below g (by omega)).reg O;rw [A.out] at this;exact this,(g.cell (p:=⟨w.heap.size,0,none⟩) (show w.heap.size<Z.heap.size by omega)).trans I,(g.cell (p:=⟨w.heap.size,1,none⟩) (show w.heap.size<Z.heap.size by omega)).trans L,(g.cell (p:=⟨w.heap.size,2,none⟩) (show w.heap.size<Z.heap.size by omega)).trans K,(g.cell (p:=⟨w.heap.size,3,none⟩) (show w.heap.size<Z.heap.size by omega)).trans F,(g.cell (p:=⟨w.heap.size,4,none⟩) (show w.heap.size<Z.heap.size by omega)).trans G⟩
 go_enter Tryz.func35,Tryz.ntmps35;go_wp2;rw [<- Q.out];clear I L K F G
 go_region_held3 (fun k=>k.cell? ⟨b,5+q,none⟩=some (U8 x)/\k.cell? ⟨w.heap.size,0,none⟩=some (I4 op)/\k.cell? ⟨w.heap.size,1,none⟩=some (I4 d)/\k.cell? ⟨w.heap.size,2,none⟩=some (I4 q)/\k.cell? ⟨w.heap.size,3,none⟩=some (I4 f)/\k.cell? ⟨w.heap.size,4,none⟩=some (I4 c))
  (first|with_reducible exact D|exact s.out Z (Below.refl _ _))
  (first
   | (go_at_call 56;go_must (refine (qDe ⟨op,d,q,f,c⟩ Z.drew u.out.drew g E).mono ?_);rintro e z ⟨rfl,o⟩;go_must (have l:Bw Z z:=qAf o;have D:=s.out z l;have B:Bw w z:=r.trans (l.mono r.size);have a1:=l.size;clear o))
   | (go_at_call 59;go_must (refine (do_as T U _ S N).mono ?_);rintro e w5 ⟨rfl,rfl⟩))
 go_wp2;exact bodyPost_end (results_none rfl _ _ _) rfl ⟨rfl,B⟩
theorem mdo_load (d a g f:Int)(w:World)(h:Ma w b sb vm vc ev M)(hd:0<=d/\d<=7)(l:g=8∨(0<=g/\g<=7)){y n:Int}(HY:Hid (srcV ⟨11,d,a,g,f⟩ M.regs=y))(hy:0<=y/\y<=15){ws cs:List Int}(Y:Sc w sb ws cs)(HN:Hid (ws.getD y.toNat 0=n))(J:0<=n/\n<=18446744073709551615) :
  Cl 35 #[.pointer (some ⟨b,0,none⟩),instV 11 d a g f] w fun e r=>e=.returned (.tuple #[])/\w.grownBy r (some b)/\Ma r b sb vm vc ev { M with regs:=M.regs.set d.toNat n }:=by
 have a4:IntKind.i64.wrap y=y:=by rw [IntKind.wrap_i64];omega
 have E:Hid (inB y=true):=decide_eq_true (by omega)
 have N:Hid ((if inB y then ws.getD y.toNat 0 else 0)=n):=by show _=_;rw [E.out];exact HN.out
 have P:Hid ((if inB y then 0 else 35:Int)=0):=by show _=_;rw [E.out];rfl
 obtain ⟨Z,HZ,F,a1,I,V,x1,X,T,U⟩:=boxL h 11 d a g f;obtain ⟨k,rfl⟩:=Int.eq_ofNat_of_zero_le hd.1
 have i:k<8:=by omega
 have a2:(k:Int)<8:=by omega
 have a0:b<Z.heap.size:=I.out.hp.lt;have G:=h.hp.lt
 have s:w.heap.size≠b:=by omega
 have B:Hid (∀ c:World,Bw Z c->c.cell? ⟨b,4,none⟩=some (.pointer (some ⟨sb,0,none⟩))/\c.cell? ⟨w.heap.size,0,none⟩=some (I4 11)/\c.cell? ⟨w.heap.size,1,none⟩=some (I4 k)/\c.cell? ⟨w.heap.size,2,none⟩=some (I4 a)/\c.cell? ⟨w.heap.size,3,none⟩=some (I4 g)/\c.cell? ⟨w.heap.size,4,none⟩=some (I4 f)):=fun c l=>⟨(I.out.below l (by omega)).low.2.2.2.2,(l.cell (p:=⟨w.heap.size,0,none⟩) (show w.heap.size<Z.heap.size by omega)).trans V,(l.cell (p:=⟨w.heap.size,1,none⟩) (show w.heap.size<Z.heap.size by omega)).trans x1,(l.cell (p:=⟨w.heap.size,2,none⟩) (show w.heap.size<Z.heap.size by omega)).trans X,(l.cell (p:=⟨w.heap.size,3,none⟩) (show w.heap.size<Z.heap.size by omega)).trans T,(l.cell (p:=⟨w.heap.size,4,none⟩) (show w.heap.size<Z.heap.size by omega)).trans U⟩
 have S:Hid (∀ c:World,Bw Z c->c.cell? ⟨w.heap.size,0,none⟩=some (I4 11)/\c.cell? ⟨w.heap.size,1,none⟩=some (I4 k)/\c.cell? ⟨w.heap.size,2,none⟩=some (I4 a)/\c.cell? ⟨w.heap.size,3,none⟩=some (I4 g)/\c.cell? ⟨w.heap.size,4,none⟩=some (I4 f)):=fun c l=>(B.out c l).2
 have Q:Hid (∀ (c:World) (v:Int),(c.cell? ⟨w.heap.size,0,none⟩=some (I4 11)/\c.cell? ⟨w.heap.size,1,none⟩=some (I4 k)/\c.cell? ⟨w.heap.size,2,none⟩=some (I4 a)/\c.cell? ⟨w.heap.size,3,none⟩=some (I4 g)/\c.cell? ⟨w.heap.size,4,none⟩=some (I4 f))->w.heap.size<c.heap.size->(c.setCell ⟨b,5+k,none⟩ (U8 v)).cell? ⟨w.heap.size,0,none⟩=some (I4 11)/\(c.setCell ⟨b,5+k,none⟩ (U8 v)).cell? ⟨w.heap.size,1,none⟩=some (I4 k)/\(c.setCell ⟨b,5+k,none⟩ (U8 v)).cell? ⟨w.heap.size,2,none⟩=some (I4 a)/\(c.setCell ⟨b,5+k,none⟩ (U8 v)).cell? ⟨w.heap.size,3,none⟩=some (I4 g)/\(c.setCell ⟨b,5+k,none⟩ (U8 v)).cell? ⟨w.heap.size,4,none⟩=some (I4 f)):=fun c v i D=>⟨(qAh (qAb c b (5+k) _) D s).trans i.1,(qAh (qAb c b (5+k) _) D s).trans i.2.1,(qAh (qAb c b (5+k) _) D s).trans i.2.2.1,(qAh (qAb c b (5+k) _) D s).trans i.2.2.2.1,(qAh (qAb c b (5+k) _) D s).trans i.2.2.2.2⟩
 go_enter Tryz.func35,Tryz.ntmps35;go_wp2;rw [<- HZ.out];clear V x1 X T U
 go_region_held3 (fun r=>r.cell? ⟨b,4,none⟩=some (.pointer (some ⟨sb,0,none⟩))/\r.cell? ⟨w.heap.size,0,none⟩=some (I4 11)/\r.cell? ⟨w.heap.size,1,none⟩=some (I4 k)/\r.cell? ⟨w.heap.size,2,none⟩=some (I4 a)/\r.cell? ⟨w.heap.size,3,none⟩=some (I4 g)/\r.cell? ⟨w.heap.size,4,none⟩=some (I4 f))
  (first|with_reducible exact R|with_reducible exact L|exact B.out Z (Below.refl _ _))
  (first
   | (go_at_call 56;go_must (refine (qDe ⟨11,k,a,g,f⟩ Z.drew I.out.drew l HY).mono ?_);rintro e z ⟨rfl,A⟩;go_must (have u:Bw Z z:=qAf A;have R:=B.out z u;have o:Bw w z:=F.trans (u.mono F.size);have a3:=u.size;have K:=Y.below o Y.lt;have O:=(putL h o i J).2.low.2.2.2.2;have L:=And.intro O (Q.out z n (S.out z u) (by omega));have y0:=((h.below o G).reg i);have f0:=(h.below o G).hp.frozen (5+k);clear A))
   | (go_at_call 57;go_must (refine (load_as N P _ K).mono ?_);rintro e w5 ⟨rfl,rfl⟩))
 go_wp2;exact bodyPost_end (results_none rfl _ _ _) rfl ⟨rfl,(putL h o i J).1,(putL h o i J).2⟩
theorem mdo_store (d a i g:Int)(w:World)(h:Ma w b sb vm vc ev M)(ha:0<=a/\a<=7)(n:i=8∨(0<=i/\i<=7)){x y:Int}(HX:Hid (M.regs.getD a.toNat 0=x))(HY:Hid (srcV ⟨12,d,a,i,g⟩ M.regs=y))(hy:0<=y/\y<=15){ws cs I:List Int}(J:Sc w sb ws cs)(B:b≠sb)(X:Hid (ws.set y.toNat x=I)) :
  Cl 35 #[.pointer (some ⟨b,0,none⟩),instV 12 d a i g] w fun e k=>e=.returned (.tuple #[])/\w.grownBy k (some sb)/\Sc k sb I cs:=by
 have a7:IntKind.i64.wrap y=y:=by rw [IntKind.wrap_i64];omega
 have D:Hid (inB y=true):=decide_eq_true (by omega)
 have S:Hid ((if inB y then ws.set y.toNat x else ws)=I):=by show _=_;rw [D.out];exact X.out
 have N:Hid ((if inB y then 0 else 35:Int)=0):=by show _=_;rw [D.out];rfl
 obtain ⟨Z,HZ,F,a1,z,R,V,T,P,Q⟩:=boxL h 12 d a i g;obtain ⟨q,rfl⟩:=Int.eq_ofNat_of_zero_le ha.1
 have Y:q<8:=by omega
 have a8:(q:Int)<8:=by omega
 have L:Hid (M.regs.getD q 0=x):=HX.out;have a0:b<Z.heap.size:=z.out.hp.lt;have a5:=J.lt
 have o:w.heap.size≠sb:=by omega
 have a6:=h.hp.lt
 have a4:w.heap.size≠b:=by omega
 have G:Hid (∀ l:World,Bw Z l->l.cell? ⟨b,4,none⟩=some (.pointer (some ⟨sb,0,none⟩))/\l.cell? ⟨b,5+q,none⟩=some (U8 x)/\l.cell? ⟨w.heap.size,0,none⟩=some (I4 12)/\l.cell? ⟨w.heap.size,1,none⟩=some (I4 d)/\l.cell? ⟨w.heap.size,2,none⟩=some (I4 q)/\l.cell? ⟨w.heap.size,3,none⟩=some (I4 i)/\l.cell? ⟨w.heap.size,4,none⟩=some (I4 g)):=fun l n=>⟨(z.out.below n (by omega)).low.2.2.2.2,by have:=(z.out.below n (by omega)).reg Y;rw [L.out] at this;exact this,(n.cell (p:=⟨w.heap.size,0,none⟩) (show w.heap.size<Z.heap.size by omega)).trans R,(n.cell (p:=⟨w.heap.size,1,none⟩) (show w.heap.size<Z.heap.size by omega)).trans V,(n.cell (p:=⟨w.heap.size,2,none⟩) (show w.heap.size<Z.heap.size by omega)).trans T,(n.cell (p:=⟨w.heap.size,3,none⟩) (show w.heap.size<Z.heap.size by omega)).trans P,(n.cell (p:=⟨w.heap.size,4,none⟩) (show w.heap.size<Z.heap.size by omega)).trans Q⟩
 go_enter Tryz.func35,Tryz.ntmps35;go_wp2;rw [<- HZ.out];clear R V T P Q
 go_region_held3 (fun k=>k.cell? ⟨b,4,none⟩=some (.pointer (some ⟨sb,0,none⟩))/\k.cell? ⟨b,5+q,none⟩=some (U8 x)/\k.cell? ⟨w.heap.size,0,none⟩=some (I4 12)/\k.cell? ⟨w.heap.size,1,none⟩=some (I4 d)/\k.cell? ⟨w.heap.size,2,none⟩=some (I4 q)/\k.cell? ⟨w.heap.size,3,none⟩=some (I4 i)/\k.cell? ⟨w.heap.size,4,none⟩=some (I4 g))
  (first|with_reducible exact O|with_reducible exact c|exact G.out Z (Below.refl _ _))
  (first
   | (go_at_call 56;go_must (refine (qDe ⟨12,d,q,i,g⟩ Z.drew z.out.drew n HY).mono ?_);rintro e A ⟨rfl,u⟩;go_must (have s:Bw Z A:=qAf u;have c:=G.out A s;have E:Bw w A:=F.trans (s.mono F.size);have a3:=s.size;have K:=J.below E J.lt;clear u))
   | (go_at_call 12;go_must (refine (store_as S N A K).mono ?_);rintro e r ⟨rfl,U,f,a2⟩;go_must (have O:r.cell? ⟨b,4,none⟩=some (.pointer (some ⟨sb,0,none⟩))/\r.cell? ⟨b,5+q,none⟩=some (U8 x)/\r.cell? ⟨w.heap.size,0,none⟩=some (I4 12)/\r.cell? ⟨w.heap.size,1,none⟩=some (I4 d)/\r.cell? ⟨w.heap.size,2,none⟩=some (I4 q)/\r.cell? ⟨w.heap.size,3,none⟩=some (I4 i)/\r.cell? ⟨w.heap.size,4,none⟩=some (I4 g):=⟨(qAh f (by omega) B).trans c.1,(qAh f (by omega) B).trans c.2.1,(qAh f (by omega) o).trans c.2.2.1,(qAh f (by omega) o).trans c.2.2.2.1,(qAh f (by omega) o).trans c.2.2.2.2.1,(qAh f (by omega) o).trans c.2.2.2.2.2.1,(qAh f (by omega) o).trans c.2.2.2.2.2.2⟩)))
 go_wp2;exact bodyPost_end (results_none rfl _ _ _) rfl ⟨rfl,qBb (qAu E _) f,U⟩
theorem mdo_field (d a o f:Int)(w:World)(h:Ma w b sb vm vc ev M)(L:0<=d/\d<=7){n:Int}(O:Hid ((if f=0 then ev.1 else ev.2)=n))(B:0<=n/\n<=18446744073709551615) :
  Cl 35 #[.pointer (some ⟨b,0,none⟩),instV 13 d a o f] w fun e l=>e=.returned (.tuple #[])/\w.grownBy l (some b)/\Ma l b sb vm vc ev { M with regs:=M.regs.set d.toNat n }:=by
 obtain ⟨Z,N,z,P,A,I,K,J,F,G⟩:=boxL h 13 d a o f;obtain ⟨k,rfl⟩:=Int.eq_ofNat_of_zero_le L.1
 have g:k<8:=by omega
 have Q:(k:Int)<8:=by omega
 have R:=h.hp.lt
 have i:w.heap.size≠b:=by omega
 have E:Hid (∀ c:World,Bw Z c->c.cell? ⟨w.heap.size,0,none⟩=some (I4 13)/\c.cell? ⟨w.heap.size,1,none⟩=some (I4 k)/\c.cell? ⟨w.heap.size,2,none⟩=some (I4 a)/\c.cell? ⟨w.heap.size,3,none⟩=some (I4 o)/\c.cell? ⟨w.heap.size,4,none⟩=some (I4 f)):=fun c s=>⟨(s.cell (p:=⟨w.heap.size,0,none⟩) (show w.heap.size<Z.heap.size by omega)).trans I,(s.cell (p:=⟨w.heap.size,1,none⟩) (show w.heap.size<Z.heap.size by omega)).trans K,(s.cell (p:=⟨w.heap.size,2,none⟩) (show w.heap.size<Z.heap.size by omega)).trans J,(s.cell (p:=⟨w.heap.size,3,none⟩) (show w.heap.size<Z.heap.size by omega)).trans F,(s.cell (p:=⟨w.heap.size,4,none⟩) (show w.heap.size<Z.heap.size by omega)).trans G⟩
 have D:Hid (∀ (c:World) (v:Int),(c.cell? ⟨w.heap.size,0,none⟩=some (I4 13)/\c.cell? ⟨w.heap.size,1,none⟩=some (I4 k)/\c.cell? ⟨w.heap.size,2,none⟩=some (I4 a)/\c.cell? ⟨w.heap.size,3,none⟩=some (I4 o)/\c.cell? ⟨w.heap.size,4,none⟩=some (I4 f))->w.heap.size<c.heap.size->(c.setCell ⟨b,5+k,none⟩ (U8 v)).cell? ⟨w.heap.size,0,none⟩=some (I4 13)/\(c.setCell ⟨b,5+k,none⟩ (U8 v)).cell? ⟨w.heap.size,1,none⟩=some (I4 k)/\(c.setCell ⟨b,5+k,none⟩ (U8 v)).cell? ⟨w.heap.size,2,none⟩=some (I4 a)/\(c.setCell ⟨b,5+k,none⟩ (U8 v)).cell? ⟨w.heap.size,3,none⟩=some (I4 o)/\(c.setCell ⟨b,5+k,none⟩ (U8 v)).cell? ⟨w.heap.size,4,none⟩=some (I4 f)):=fun c v g u=>⟨(qAh (qAb c b (5+k) _) u i).trans g.1,(qAh (qAb c b (5+k) _) u i).trans g.2.1,(qAh (qAb c b (5+k) _) u i).trans g.2.2.1,(qAh (qAb c b (5+k) _) u i).trans g.2.2.2.1,(qAh (qAb c b (5+k) _) u i).trans g.2.2.2.2⟩
 have r:=E.out Z (Below.refl _ _);have y:=D.out Z n r (by omega);have U:=A.out.reg g;have T:=A.out.hp.frozen (5+k);go_enter Tryz.func35,Tryz.ntmps35;go_wp2;rw [<- N.out];clear I K J F G
 go_region_held3 (fun l=>l.cell? ⟨w.heap.size,0,none⟩=some (I4 13)/\l.cell? ⟨w.heap.size,1,none⟩=some (I4 k)/\l.cell? ⟨w.heap.size,2,none⟩=some (I4 a)/\l.cell? ⟨w.heap.size,3,none⟩=some (I4 o)/\l.cell? ⟨w.heap.size,4,none⟩=some (I4 f))
  (first|with_reducible exact r|with_reducible exact y|exact r|exact y)
  (first|(go_at_call 58;go_must (refine (mfield_any f _ A.out.drew O).mono ?_);rintro e S ⟨rfl,rfl⟩))
 go_wp2;exact bodyPost_end (results_none rfl _ _ _) rfl ⟨rfl,qAy (putL h z g B).1,(putL h z g B).2.drew⟩
theorem mdo_map (d a l imm:Int)(w:World)(h:Ma w b sb vm vc ev M)(J:0<=d/\d<=7)(hi:0<=imm/\imm<=3) :
  Cl 35 #[.pointer (some ⟨b,0,none⟩),instV 14 d a l imm] w fun e i=>e=.returned (.tuple #[])/\w.grownBy i (some b)/\Ma i b sb vm vc ev { M with regs:=M.regs.set d.toNat imm }:=by
 have y:0<=imm/\imm<=18446744073709551615:=by omega
 have P:IntKind.u64.wrap imm=imm:=by rw [IntKind.wrap_u64];omega
 obtain ⟨Z,K,s,L,u,F,I,G,D,E⟩:=boxL h 14 d a l imm;obtain ⟨k,rfl⟩:=Int.eq_ofNat_of_zero_le J.1
 have f:k<8:=by omega
 have N:(k:Int)<8:=by omega
 have O:=h.hp.lt
 have g:w.heap.size≠b:=by omega
 have A:Hid (∀ c:World,Bw Z c->c.cell? ⟨w.heap.size,0,none⟩=some (I4 14)/\c.cell? ⟨w.heap.size,1,none⟩=some (I4 k)/\c.cell? ⟨w.heap.size,2,none⟩=some (I4 a)/\c.cell? ⟨w.heap.size,3,none⟩=some (I4 l)/\c.cell? ⟨w.heap.size,4,none⟩=some (I4 imm)):=fun c o=>⟨(o.cell (p:=⟨w.heap.size,0,none⟩) (show w.heap.size<Z.heap.size by omega)).trans F,(o.cell (p:=⟨w.heap.size,1,none⟩) (show w.heap.size<Z.heap.size by omega)).trans I,(o.cell (p:=⟨w.heap.size,2,none⟩) (show w.heap.size<Z.heap.size by omega)).trans G,(o.cell (p:=⟨w.heap.size,3,none⟩) (show w.heap.size<Z.heap.size by omega)).trans D,(o.cell (p:=⟨w.heap.size,4,none⟩) (show w.heap.size<Z.heap.size by omega)).trans E⟩
 have B:Hid (∀ (c:World) (v:Int),(c.cell? ⟨w.heap.size,0,none⟩=some (I4 14)/\c.cell? ⟨w.heap.size,1,none⟩=some (I4 k)/\c.cell? ⟨w.heap.size,2,none⟩=some (I4 a)/\c.cell? ⟨w.heap.size,3,none⟩=some (I4 l)/\c.cell? ⟨w.heap.size,4,none⟩=some (I4 imm))->w.heap.size<c.heap.size->(c.setCell ⟨b,5+k,none⟩ (U8 v)).cell? ⟨w.heap.size,0,none⟩=some (I4 14)/\(c.setCell ⟨b,5+k,none⟩ (U8 v)).cell? ⟨w.heap.size,1,none⟩=some (I4 k)/\(c.setCell ⟨b,5+k,none⟩ (U8 v)).cell? ⟨w.heap.size,2,none⟩=some (I4 a)/\(c.setCell ⟨b,5+k,none⟩ (U8 v)).cell? ⟨w.heap.size,3,none⟩=some (I4 l)/\(c.setCell ⟨b,5+k,none⟩ (U8 v)).cell? ⟨w.heap.size,4,none⟩=some (I4 imm)):=fun c v f r=>⟨(qAh (qAb c b (5+k) _) r g).trans f.1,(qAh (qAb c b (5+k) _) r g).trans f.2.1,(qAh (qAb c b (5+k) _) r g).trans f.2.2.1,(qAh (qAb c b (5+k) _) r g).trans f.2.2.2.1,(qAh (qAb c b (5+k) _) r g).trans f.2.2.2.2⟩
 have n:=A.out Z (Below.refl _ _);have z:=B.out Z imm n (by omega);have R:=u.out.reg f;have Q:=u.out.hp.frozen (5+k);go_enter Tryz.func35,Tryz.ntmps35;go_wp2;rw [<- K.out];clear F I G D E
 go_region_held3 (fun i=>i.cell? ⟨w.heap.size,0,none⟩=some (I4 14)/\i.cell? ⟨w.heap.size,1,none⟩=some (I4 k)/\i.cell? ⟨w.heap.size,2,none⟩=some (I4 a)/\i.cell? ⟨w.heap.size,3,none⟩=some (I4 l)/\i.cell? ⟨w.heap.size,4,none⟩=some (I4 imm))
  (first|with_reducible exact n|exact z|exact n)
  (fail)
 go_wp2;exact bodyPost_end (results_none rfl _ _ _) rfl ⟨rfl,qAy (putL h s f y).1,(putL h s f y).2.drew⟩
end
theorem codeL {w:World}{g k c p:Nat}{xs:List In}(h:SeesI w (.slice (some ⟨g,k,none⟩) xs.length c) xs)(f:p<xs.length):At w g (k+p*5) (nth xs p)/\g<w.heap.size/\xs.length<=c/\c<=9223372036854775807:=by
 obtain ⟨a,cap,u,s,hm,_,d⟩:=h;injection u with o y r;subst o;subst r;obtain ⟨b,off,e,l,i⟩:=d (fun e=>by rw [e] at f;simp at f);injection e with e;injection e with e n;subst e;subst n;exact ⟨i p f,l,s,by unfold maxLen at hm;omega⟩
section
variable {b sb:Nat} {vm vc:Value} {ev:Int×Int} {M:Mc}
theorem mresult_any {r o c:Nat}{xs:List In}(w:World)(h:Ma w b sb vm (.slice (some ⟨r,o,none⟩) xs.length c) ev M)(l:SeesI w (.slice (some ⟨r,o,none⟩) xs.length c) xs)(A:M.pc<xs.length)(f:0<=(nth xs M.pc).a/\(nth xs M.pc).a<=7){n:Int}(k:Hid (regV M.regs (nth xs M.pc).a=n)) :
  Cl 33 #[.pointer (some ⟨b,0,none⟩)] w fun e D=>e=.returned (U8 n)/\Bw w D:=by
 have I:(M.pc:Int)<xs.length:=by omega
 have B:(M.pc:Int)<=100:=by have:=h.pc;omega
 obtain ⟨g,G,K,F⟩:=codeL l A;obtain ⟨⟨op,d,a,O,J⟩,E⟩:∃ i,Hid (nth xs M.pc=i):=⟨_,rfl⟩;rw [E.out] at g k f;simp only at f;obtain ⟨q,rfl⟩:=Int.eq_ofNat_of_zero_le f.1
 have u:q<8:=by omega
 have L:(q:Int)<8:=by omega
 have z:Hid (M.regs.getD q 0=n):=k.out;obtain ⟨_,_,y,_,_⟩:=g;simp only at y;have P:=h.last.1;have N:=h.low.2.2.2.1;have s:=h.reg u;rw [z.out] at s;clear l f;go_enter Tryz.func33,Tryz.ntmps33;go_wp2;go_region;go_wp2;go_ret;exact ⟨rfl,qAj (Below.refl _ _)⟩
theorem mtakes_any (n:Int)(w:World)(h:Ma w b sb vm vc ev M)(l:0<=n/\n<=18446744073709551615)(g:M.pc+1<64) :
  Cl 30 #[.pointer (some ⟨b,0,none⟩),U8 n] w fun e f=>e=.returned (.tuple #[])/\w.grownBy f (some b)/\Ma f b sb vm vc ev { M with regs:=M.regs.set 0 n,pc:=M.pc+1 }:=by
 have r:=h.hp.lt
 have o:(M.pc:Int)<=100:=by omega
 have s:=h.reg (show 0<8 by omega);have u:=h.hp.frozen 5;have a:Hid (Ma (w.setCell ⟨b,5,none⟩ (U8 n)) b sb vm vc ev { M with regs:=M.regs.set 0 n }):=h.setR (k:=0) (by omega) l;have y:=a.out.last.1;have z:=a.out.hp.frozen 77;have c:Hid (Ma ((w.setCell ⟨b,5,none⟩ (U8 n)).setCell ⟨b,77,none⟩ (I4 ((M.pc+1:Nat):Int))) b sb vm vc ev { M with regs:=M.regs.set 0 n,pc:=M.pc+1 }):=a.out.setP g;have d:Hid (w.grownBy ((w.setCell ⟨b,5,none⟩ (U8 n)).setCell ⟨b,77,none⟩ (I4 ((M.pc+1:Nat):Int))) (some b)):=qBb (qAb w b 5 _) (qAb _ b 77 _)
 have i:((M.pc+1:Nat):Int)=(M.pc:Int)+1:=by omega
 rw [i] at c d;go_enter Tryz.func30,Tryz.ntmps30;go_wp2;exact bodyPost_end (results_none rfl _ _ _) rfl ⟨rfl,d.out,c.out⟩
end
end Go.Proofs.YtmdhljoicnommaaGreat
