/-
  S6LWays
  S6LRaise
  S6LDoA
  S6LDoB
  S6LDo
-/
import Derived.Test.YtmdhljoicnommaaGreatME15
import Derived.Test.YtmdhljoicnommaaGreatME5
namespace Go.Proofs.YtmdhljoicnommaaGreat
set_option maxHeartbeats 12800000
open Go.RowKit
set_option linter.unusedVariables false
set_option maxRecDepth 20000
abbrev qHh (p:Int×Int):Value:=.agg #[.int .u64 p.1,.int .u64 p.2]
theorem qPm:∀ (f x:Nat),x<f->x<18446744073709551616->x<2 ^ Lib.bitLen x/\(x≠0->2 ^ (Lib.bitLen x-1)<=x/\0<Lib.bitLen x)/\(x=0->Lib.bitLen x=0)
 | 0,x,h,_=>absurd h (by omega)
 | f+1,x,h,hx=>by
  by_cases h0:x=0
  ·subst h0;exact ⟨by decide,fun h=>absurd rfl h,fun _=>by decide⟩
  ·obtain ⟨c,b,a⟩:=qPm f (x / 2) (by omega) (by omega);have e:=Lib.bitLen_half x h0 (by omega);refine ⟨?_,fun _=>⟨?_,by omega⟩,fun h=>absurd h h0⟩
   ·rw [e,Nat.add_comm,Nat.pow_succ];omega
   ·rw [e,Nat.add_sub_cancel_left]
    by_cases hz:x / 2=0
    ·rw [a hz];omega
    ·obtain ⟨d,g⟩:=b hz
     have:Lib.bitLen (x / 2)=Lib.bitLen (x / 2)-1+1:=by omega
     rw [this,Nat.pow_succ];omega
theorem yRf {x:Nat}(b:x<18446744073709551616):Lib.bitLen x<=64:=by
 obtain ⟨d,c,a⟩:=qPm (x+1) x (by omega) b
 by_cases h0:x=0
 ·rw [a h0];omega
 ·obtain ⟨f,g⟩:=c h0
  rcases Nat.lt_or_ge 64 (Lib.bitLen x) with h|h
  ·have:2 ^ 64<=2 ^ (Lib.bitLen x-1):=Nat.pow_le_pow_right (by decide) (by omega)
   have e:(2:Nat) ^ 64=18446744073709551616:=by decide
   omega
  ·exact h
theorem yMq {n:Int}(h0:0<=n)(h:n<=18446744073709551615):qCq n=2 ^ Lib.bitLen n.toNat-1:=by
 obtain ⟨m,rfl⟩:=Int.eq_ofNat_of_zero_le h0;rw [Int.toNat_natCast];obtain ⟨c,b,a⟩:=qPm (m+1) m (by omega) (by omega)
 refine yGw h0 h (by rw [qDd];exact_mod_cast c) fun d=>?_
 rw [qDd]
 by_cases hz:m=0
 ·have:=a hz;omega
 ·exact_mod_cast (b hz).1
theorem qYx (a b:Int)(w:World)(u:0<=a/\a<=18446744073709551615)(s:0<=b/\b<=18446744073709551615) :
  Cl 170 #[U8 a,U8 b] w fun e g=>e=.returned (U8 (qCq (max a b)))/\w=g:=by
 obtain ⟨m,c⟩:∃ m,Hid (m=max a b):=⟨_,rfl⟩
 have hm:0<=m/\m<=18446744073709551615:=by have:=c.out;omega
 obtain ⟨k,d⟩:∃ k,Hid (k=Lib.bitLen m.toNat):=⟨_,rfl⟩
 have i:k<=64:=by rw [d.out];exact yRf (by omega)
 have o:(k:Int)<=64:=by omega
 have l:Hid (qCq m=2 ^ k-1):=by rw [d.out];exact yMq hm.1 hm.2
 have n:=qDo k;have r:=qUj i
 have f:qCq (max a b)=2 ^ k-1:=by rw [<- c.out];exact l.out
 rw [f];go_enter Tryz.func170,Tryz.ntmps170
 go_wp2_with (go_at_call 174;go_must (rw [<- c.out];refine (Tryz.bits_Len64 m _ hm.1 hm.2).mono ?_);rintro e g ⟨rfl,rfl⟩;go_must (rw [<- d.out]))
 go_ret;refine ⟨qQl ?_,rfl⟩
 simp [IntKind.wrap_u64]
 omega
theorem yKk {w b:World}{c d:Obj}(a:Below (((w.alloc c).alloc d).alloc (spO 0 0)).heap.size (((w.alloc c).alloc d).alloc (spO 0 0)) b):Bx b (w.heap.size+1+1) 0 0/\Bw w b/\w.heap.size+1+1<b.heap.size:=by
 refine ⟨Bx.below ⟨⟨by go_cell,by go_cell⟩,by go_simp,by go_simp⟩ a (by simp),qCf (qCf (qCf a)),Nat.lt_of_lt_of_le (by simp) a.size⟩
theorem yVu (a A b B:Int)(w:World)(z:0<=a/\a<=A/\A<=18446744073709551615)(r:0<=b/\b<=B/\B<=18446744073709551615) :
  Cl 165 #[.agg #[U8 a,U8 A],.agg #[U8 b,U8 B]] w fun e l=>e=.returned (qHh (if 18446744073709551615<A+B then (0,18446744073709551615) else (a+b,A+B)))/\Bw w l:=by
 by_cases h:18446744073709551615<A+B
 ·rw [if_pos h]
  have d:(A+B) / 18446744073709551616=1:=by omega
  have f:Hid (∀ w,(callFunc 172 #[U8 A,U8 B,U8 0]).run Tryz.prog w=.ok (.value (.tuple #[U8 ((A+B)%18446744073709551616),U8 1])) w):=fun w=>by rw [qYa A B (by omega) (by omega),d]
  go_enter Tryz.func165,Tryz.ntmps165
  go_wp2_with (first|simp only [f.out]|(go_at_call 133;go_must (refine (qDy _).mono ?_);rintro e E ⟨rfl,c⟩;go_must (obtain ⟨⟨⟨k,n⟩,s,D⟩,i,u⟩:=yKk c;have g:Hid _:=qAp (x:=U8 0) (y:=U8 18446744073709551615) k n;clear c)))
  refine bodyPost_ret (v:=qHh (0,18446744073709551615)) ?_ rfl ⟨rfl,qAb (qAb i (by omega)) (by omega)⟩;rw [qAw rfl]
  simp [asAddr,Result.andThen]
  rw [qAe g.out.1 g.out.2]
 ·rw [if_neg h]
  have d:(A+B) / 18446744073709551616=0:=by omega
  have o:(A+B)%18446744073709551616=A+B:=by omega
  have f:Hid (∀ w,(callFunc 172 #[U8 A,U8 B,U8 0]).run Tryz.prog w=.ok (.value (.tuple #[U8 (A+B),U8 0])) w):=fun w=>by rw [qYa A B (by omega) (by omega),d,o]
  go_enter Tryz.func165,Tryz.ntmps165
  go_wp2_with (first|simp only [f.out])
  refine bodyPost_ret (v:=qHh (a+b,A+B)) ?_ rfl ⟨rfl,by go_grown⟩;rw [qAw rfl]
  simp [asAddr,Result.andThen]
  rw [qAe (a:=a+b) (A:=A+B)]
  all_goals go_cell
theorem yOc (a A b B:Int)(w:World)(r:0<=a/\a<=A/\A<=18446744073709551615)(l:0<=b/\b<=B/\B<=18446744073709551615) :
  Cl 166 #[.agg #[U8 a,U8 A],.agg #[U8 b,U8 B]] w fun e i=>e=.returned (qHh (if a<B then (0,18446744073709551615) else (a-B,A-b)))/\Bw w i:=by
 by_cases h:a<B
 ·rw [if_pos h];go_enter Tryz.func166,Tryz.ntmps166
  go_wp2_with ((go_at_call 133;go_must (refine (qDy _).mono ?_);rintro e u ⟨rfl,c⟩;go_must (obtain ⟨⟨⟨g,k⟩,n,s⟩,f,o⟩:=yKk c;have d:Hid _:=qAp (x:=U8 0) (y:=U8 18446744073709551615) g k;clear c)))
  refine bodyPost_ret (v:=qHh (0,18446744073709551615)) ?_ rfl ⟨rfl,qAb (qAb f (by omega)) (by omega)⟩;rw [qAw rfl]
  simp [asAddr,Result.andThen]
  rw [qAe d.out.1 d.out.2]
 ·rw [if_neg h];go_enter Tryz.func166,Tryz.ntmps166;go_wp2;refine bodyPost_ret (v:=qHh (a-B,A-b)) ?_ rfl ⟨rfl,by go_grown⟩;rw [qAw rfl]
  simp [asAddr,Result.andThen]
  rw [qAe (a:=a-B) (A:=A-b)]
  all_goals go_cell
theorem yOp (a A b B:Int)(w:World)(n:0<=a/\a<=A/\A<=18446744073709551615)(g:0<=b/\b<=B/\B<=18446744073709551615) :
  Cl 167 #[.agg #[U8 a,U8 A],.agg #[U8 b,U8 B]] w fun e c=>e=.returned (qHh (if 18446744073709551615<A*B then (0,18446744073709551615) else (a*b,A*B)))/\Bw w c:=by
 obtain ⟨X,rfl⟩:=Int.eq_ofNat_of_zero_le (show 0<=A by omega);obtain ⟨Y,rfl⟩:=Int.eq_ofNat_of_zero_le (show 0<=B by omega)
 have f:((X*Y:Nat):Int)=(X:Int)*Y:=by simp
 by_cases h:18446744073709551615<(X:Int)*Y
 ·rw [if_pos h];obtain ⟨q,r⟩:∃ q:Nat,Hid (X*Y / 18446744073709551616=q):=⟨_,rfl⟩
  have I:0<q:=by have:=r.out;omega
  have G:((q:Int)==0)=false:=by simp;omega
  have i:Hid (∀ w,Cl 173 #[U8 X,U8 Y] w fun e c=>e=.returned (.tuple #[U8 (q:Int),U8 ((X*Y%18446744073709551616:Nat):Int)])/\c=w):=fun w=>by rw [<- r.out];exact Tryz.bits_Mul64 X Y (by omega) (by omega) w
  clear f h;go_enter Tryz.func167,Tryz.ntmps167
  go_wp2_with (first|(go_at_call 173;go_must (refine (i.out _).mono ?_);rintro e c ⟨rfl,rfl⟩)|(go_at_call 133;go_must (refine (qDy _).mono ?_);rintro e J ⟨rfl,d⟩;go_must (obtain ⟨⟨⟨E,D⟩,L,N⟩,z,M⟩:=yKk d;have u:Hid _:=qAp (x:=U8 0) (y:=U8 18446744073709551615) E D;clear d)))
  refine bodyPost_ret (v:=qHh (0,18446744073709551615)) ?_ rfl ⟨rfl,qAb (qAb z (by omega)) (by omega)⟩;rw [qAw rfl]
  simp [asAddr,Result.andThen]
  rw [qAe u.out.1 u.out.2]
 ·rw [if_neg h];have F:a*b<=(X:Int)*Y:=Int.mul_le_mul n.2.1 g.2.1 g.1 (by omega);have g0:0<=a*b:=Int.mul_nonneg n.1 g.1
  have s:X*Y / 18446744073709551616=0:=by omega
  have l:((X*Y%18446744073709551616:Nat):Int)=(X:Int)*Y:=by omega
  obtain ⟨P,k⟩:∃ P,Hid (P=(X:Int)*Y):=⟨_,rfl⟩;have K:IntKind.u64.wrap (a*b)=a*b:=qGl g0 (by omega)
  have i:Hid (∀ w,Cl 173 #[U8 X,U8 Y] w fun e c=>e=.returned (.tuple #[U8 0,U8 P])/\c=w):=fun w=>by
   have o:=Tryz.bits_Mul64 X Y (by omega) (by omega) w;rw [s,l,<- k.out] at o;exact o
  rw [<- k.out];clear s l f h F;go_enter Tryz.func167,Tryz.ntmps167
  go_wp2_with (go_at_call 173;go_must (refine (i.out _).mono ?_);rintro e c ⟨rfl,rfl⟩)
  refine bodyPost_ret (v:=qHh (a*b,P)) ?_ rfl ⟨rfl,by go_grown⟩;rw [qAw rfl]
  simp [asAddr,Result.andThen]
  rw [qAe (a:=a*b) (A:=P)]
  all_goals go_cell
theorem yUg (a A b B:Int)(w:World)(l:0<=a/\a<=A/\A<=18446744073709551615)(k:0<=b/\b<=B/\B<=18446744073709551615) :
  Cl 168 #[.agg #[U8 a,U8 A],.agg #[U8 b,U8 B]] w fun e d=>e=.returned (qHh (if b=0 then (0,A) else (a / B,A / b)))/\Bw w d:=by
 by_cases h:b=0
 ·rw [if_pos h];subst h;go_enter Tryz.func168,Tryz.ntmps168;go_wp2;refine bodyPost_ret (v:=qHh (0,A)) ?_ rfl ⟨rfl,by go_grown⟩;rw [qAw rfl]
  simp [asAddr,Result.andThen]
  rw [qAe (a:=0) (A:=A)]
  all_goals go_cell
 ·rw [if_neg h]
  have i:(b==0)=false:=by simpa using h
  have g:b≠0:=h
  have c:B≠0:=by omega
  have f:(B==0)=false:=by simpa using c
  go_enter Tryz.func168,Tryz.ntmps168;go_wp2;go_region;go_wp2;refine bodyPost_ret (v:=qHh (a / B,A / b)) ?_ rfl ⟨rfl,by go_grown⟩;rw [qAw rfl]
  simp [asAddr,Result.andThen]
  rw [qAe (a:=a / B) (A:=A / b)]
  all_goals go_cell
theorem yNw (a A b B:Int)(w:World)(k:0<=a/\a<=A/\A<=18446744073709551615)(g:0<=b/\b<=B/\B<=18446744073709551615) :
  Cl 169 #[.agg #[U8 a,U8 A],.agg #[U8 b,U8 B]] w fun e d=>e=.returned (qHh (if b=0 then (0,A) else if A<b then (a,A) else (0,min A (B-1))))/\Bw w d:=by
 by_cases h:b=0
 ·rw [if_pos h];subst h;go_enter Tryz.func169,Tryz.ntmps169;go_wp2;refine bodyPost_ret (v:=qHh (0,A)) ?_ rfl ⟨rfl,by go_grown⟩;rw [qAw rfl]
  simp [asAddr,Result.andThen]
  rw [qAe (a:=0) (A:=A)]
  all_goals go_cell
 ·rw [if_neg h]
  have f:(b==0)=false:=by simpa using h
  by_cases h2:A<b
  ·rw [if_pos h2];go_enter Tryz.func169,Tryz.ntmps169;go_wp2;refine bodyPost_ret (v:=qHh (a,A)) ?_ rfl ⟨rfl,by go_grown⟩;rw [qAw rfl]
   simp [asAddr,Result.andThen]
   rw [qAe (a:=a) (A:=A)]
   all_goals go_cell
  ·rw [if_neg h2];have i:IntKind.u64.wrap (B-1)=B-1:=qGl (by omega) (by omega);obtain ⟨m,c⟩:∃ m,Hid (min A (B-1)=m):=⟨_,rfl⟩;rw [c.out];go_enter Tryz.func169,Tryz.ntmps169;go_wp2;rw [c.out];refine bodyPost_ret (v:=qHh (0,m)) ?_ rfl ⟨rfl,by go_grown⟩;rw [qAw rfl]
   simp [asAddr,Result.andThen]
   rw [qAe (a:=0) (A:=m)]
   all_goals go_cell
theorem qJf (w:World)(t:TypeId)(x X:Int)(k:Nat)(a:k=w.heap.size):SeesS (w.alloc (.cells #[U8 x,U8 X] t)) (.slice (some ⟨k,0,none⟩) 1 1) [(x,X)]:=by
 subst a;exact SeesS.lit w t [(x,X)] _ 1 rfl rfl (by simp)
theorem qJm {r:Bool}{x X:Int}(h:Hid (r=(x==X)))(v:Value)(w:World)(c:SeesS w v [(x,X)]):Cl 153 #[v] w fun e b=>e=.returned (.bool r)/\Bw w b:=by
 have a:=qPh v [(x,X)] w c (by simp);rw [show [(x,X)].all qPx=r by rw [h.out];simp [qPx]] at a;exact a
theorem qYf {A P:Int}(hA:0<=A)(a:0<P)(h:A*P<=18446744073709551615):IntKind.u64.wrap (A*P)=A*P/\(IntKind.u64.wrap (A*P) / P != A)=false:=by
 have h0:0<=A*P:=Int.mul_nonneg hA (by omega);have e:=qGl h0 h;refine ⟨e,?_⟩;rw [e,Int.mul_ediv_cancel _ (by omega)]
 simp
theorem yHv {A P:Int}(hA:0<=A)(a:0<P)(h:¬ A*P<=18446744073709551615):(IntKind.u64.wrap (A*P) / P != A)=true:=by
 have h0:IntKind.u64.wrap (A*P)<A*P:=by rw [IntKind.wrap_u64];omega
 have b:IntKind.u64.wrap (A*P) / P<A:=Int.ediv_lt_of_lt_mul a h0
 simp
 omega
theorem yCa {w b:World}{d f c:Obj}(a:Below ((((w.alloc d).alloc f).alloc (spO 0 0)).alloc c).heap.size ((((w.alloc d).alloc f).alloc (spO 0 0)).alloc c) b):Bx b (w.heap.size+1+1) 0 0/\Bw w b/\w.heap.size+1+1<b.heap.size:=by
 refine ⟨Bx.below ⟨⟨by go_cell,by go_cell⟩,by go_simp,by go_simp⟩ a (by simp),qCf (qCf (qCf (qCf a))),Nat.lt_of_lt_of_le (by simp) a.size⟩
theorem yRe {w g:World}{f c b:Obj}{a A:Int}(d:Below ((((w.alloc (spO a A)).alloc f).alloc c).alloc b).heap.size ((((w.alloc (spO a A)).alloc f).alloc c).alloc b) g):Bx g w.heap.size a A:=by
 refine Bx.below ⟨⟨by go_cell,by go_cell⟩,by go_simp,by go_simp⟩ d (by simp;omega)
theorem yCi (a A b B:Int)(w:World)(r:(b==B)=false) :
  Cl 171 #[.agg #[U8 a,U8 A],.agg #[U8 b,U8 B]] w fun e u=>e=.returned (qHh (0,18446744073709551615))/\Bw w u:=by
 have s:Hid (false=(b==B)):=r.symm;go_enter Tryz.func171,Tryz.ntmps171
 go_wp2_with (first
  | (go_at_call 153;go_must (refine (qJm s _ _ (qJf _ _ b B _ (by simp))).mono ?_);rintro e E ⟨rfl,f⟩;go_must (obtain ⟨l,d,i⟩:=yCa f;have n:Hid (Bx E (w.heap.size+1+1) 0 0):=l;clear f l))
  | (go_at_call 133;go_must (refine (qDy _).mono ?_);rintro e z ⟨rfl,c⟩;go_must (obtain ⟨⟨o,D⟩,G,I⟩:=n.out.below c i;have g:Bw w z:=d.trans (c.mono d.size);have F:=Nat.lt_of_lt_of_le i c.size;have k:Hid _:=qAp (x:=U8 0) (y:=U8 18446744073709551615) o D;clear c d i)))
 refine bodyPost_ret (v:=qHh (0,18446744073709551615)) ?_ rfl ⟨rfl,qAb (qAb g (by omega)) (by omega)⟩;rw [qAw rfl]
 simp [asAddr,Result.andThen]
 rw [qAe k.out.1 k.out.2]
theorem yDz (a A b:Int)(w:World)(I:0<=a/\a<=A/\A<=18446744073709551615)(U:0<=b/\b<=18446744073709551615) :
  Cl 171 #[.agg #[U8 a,U8 A],.agg #[U8 b,U8 b]] w fun e N=>e=.returned (qHh (if A*2 ^ min b.toNat 64<=18446744073709551615 then (a*2 ^ min b.toNat 64,A*2 ^ min b.toNat 64) else (0,18446744073709551615)))/\Bw w N:=by
 have z:Hid (true=(b==b)):=by show _=_;simp
 have i:=qDo (min b.toNat 64)
 by_cases h:A*2 ^ min b.toNat 64<=18446744073709551615
 ·rw [if_pos h];obtain ⟨F,o⟩:=qYf (show 0<=A by omega) i h;have G:a*2 ^ min b.toNat 64<=A*2 ^ min b.toNat 64:=Int.mul_le_mul_of_nonneg_right I.2.1 (by omega);obtain ⟨E,_⟩:=qYf I.1 i (Int.le_trans G h);obtain ⟨x,B⟩:∃ x,Hid (a*2 ^ min b.toNat 64=x):=⟨_,rfl⟩;obtain ⟨X,n⟩:∃ x,Hid (A*2 ^ min b.toNat 64=x):=⟨_,rfl⟩;have R:IntKind.u64.wrap (a*2 ^ min b.toNat 64)=x:=E.trans B.out;have L:IntKind.u64.wrap (A*2 ^ min b.toNat 64)=X:=F.trans n.out
  have T:(X / 2 ^ min b.toNat 64 != A)=false:=by rw [<- L];exact o
  rw [B.out,n.out];clear F E o G h i;go_enter Tryz.func171,Tryz.ntmps171
  go_wp2_with (first
   | (go_at_call 153;go_must (refine (qJm z _ _ (qJf _ _ b b _ (by simp))).mono ?_);rintro e D ⟨rfl,c⟩;go_must (obtain ⟨k,d,l⟩:=yCa c;obtain ⟨⟨d0,J⟩,g0,K⟩:=yRe c;obtain ⟨⟨s,r⟩,O,Q⟩:=k;have g:Hid _:=qAp (x:=U8 x) (y:=U8 X) s r;clear c)))
  refine bodyPost_ret (v:=qHh (x,X)) ?_ rfl ⟨rfl,qAb (qAb d (by omega)) (by omega)⟩;rw [qAw rfl]
  simp [asAddr,Result.andThen]
  rw [qAe g.out.1 g.out.2]
 ·rw [if_neg h];have o:=yHv (show 0<=A by omega) i h;clear h i;go_enter Tryz.func171,Tryz.ntmps171
  go_wp2_with (first
   | (go_at_call 153;go_must (refine (qJm z _ _ (qJf _ _ b b _ (by simp))).mono ?_);rintro e D ⟨rfl,c⟩;go_must (obtain ⟨k,d,l⟩:=yCa c;obtain ⟨⟨d0,J⟩,g0,K⟩:=yRe c;have M:Hid (Bx D (w.heap.size+1+1) 0 0):=k;clear c k))
   | (go_at_call 133;go_must (refine (qDy _).mono ?_);rintro e P ⟨rfl,f⟩;go_must (obtain ⟨⟨s,r⟩,O,Q⟩:=M.out.below f l;have u:Bw w P:=d.trans (f.mono d.size);have S:=Nat.lt_of_lt_of_le l f.size;have g:Hid _:=qAp (x:=U8 0) (y:=U8 18446744073709551615) s r;clear f d l d0 J g0 K)))
  refine bodyPost_ret (v:=qHh (0,18446744073709551615)) ?_ rfl ⟨rfl,qAb (qAb u (by omega)) (by omega)⟩;rw [qAw rfl]
  simp [asAddr,Result.andThen]
  rw [qAe g.out.1 g.out.2]
theorem yFc (a A b B:Int)(w:World)(d:0<=a/\a<=A/\A<=18446744073709551615)(i:0<=b/\b<=B/\B<=18446744073709551615) :
  Cl 171 #[.agg #[U8 a,U8 A],.agg #[U8 b,U8 B]] w fun e c=>e=.returned (qHh (if b=B/\A*2 ^ min b.toNat 64<=18446744073709551615 then (a*2 ^ min b.toNat 64,A*2 ^ min b.toNat 64) else (0,18446744073709551615)))/\Bw w c:=by
 by_cases h:b=B
 ·subst h;have f:=yDz a A b w d (by omega)

  simp only [true_and];exact f
 ·rw [if_neg (fun g=>h g.1)];exact yCi a A b B w (by simpa using h)
theorem qDk {r:Bool}{x X y Y:Int}(h:Hid (r=(decide (x<=X)&&decide (y<=Y))))(v:Value)(w:World)(b:SeesS w v [(x,X),(y,Y)]):Cl 150 #[v] w fun e c=>e=.returned (.bool r)/\Bw w c:=by
 have a:=qMu v [(x,X),(y,Y)] w b (by simp);rw [show [(x,X),(y,Y)].all okS=r by rw [h.out];simp [okS]] at a;exact a
theorem qIb {r:Bool}{x X y Y:Int}(h:Hid (r=((x==X)&&(y==Y))))(v:Value)(w:World)(b:SeesS w v [(x,X),(y,Y)]):Cl 153 #[v] w fun e c=>e=.returned (.bool r)/\Bw w c:=by
 have a:=qPh v [(x,X),(y,Y)] w b (by simp);rw [show [(x,X),(y,Y)].all qPx=r by rw [h.out];simp [qPx]] at a;exact a
def B3 (w:World) (n:Nat) (a A b B:Int):Prop:=Bx w n a A/\Bx w (n+1) b B/\Bx w (n+1+1) 0 0/\n+1+1<w.heap.size
theorem qFp (w:World)(a A b B:Int):B3 (((w.alloc (spO a A)).alloc (spO b B)).alloc (spO 0 0)) w.heap.size a A b B :=
 ⟨⟨⟨by go_cell,by go_cell⟩,by go_simp,by go_simp⟩,⟨⟨by go_cell,by go_cell⟩,by go_simp,by go_simp⟩,⟨⟨by go_cell,by go_cell⟩,by go_simp,by go_simp⟩,by simp⟩
theorem B3.al {w:World}{n:Nat}{a A b B:Int}(h:B3 w n a A b B)(o:Obj):B3 (w.alloc o) n a A b B :=
 ⟨h.1.al (by have:=h.2.2.2;omega),h.2.1.al (by have:=h.2.2.2;omega),h.2.2.1.al h.2.2.2,by have:=h.2.2.2;simp;omega⟩
theorem B3.below {w d:World}{n:Nat}{a A b B:Int}(h:B3 w n a A b B)(c:Bw w d):B3 d n a A b B :=
 ⟨h.1.below c (by have:=h.2.2.2;omega),h.2.1.below c (by have:=h.2.2.2;omega),h.2.2.1.below c h.2.2.2,by have:=h.2.2.2;have:=c.size;omega⟩
theorem B3.next {w c:World}{n:Nat}{a A b B:Int}{o:Obj}(h:B3 w n a A b B)(d:Below (w.alloc o).heap.size (w.alloc o) c):B3 c n a A b B:=(h.al o).below d
theorem qHg {w g:World}{b f c a:Obj}(d:Below ((((w.alloc b).alloc f).alloc c).alloc a).heap.size ((((w.alloc b).alloc f).alloc c).alloc a) g):Bw w g:=qCf (qCf (qCf (qCf d)))
theorem qHw {B:Nat}{w a b:World}{o:Obj}(h:Below B w a)(d:B<=a.heap.size)(c:Below (a.alloc o).heap.size (a.alloc o) b):Below B w b:=h.trans ((qCf c).mono d)

theorem yYz (op:Int)(a A b B n:Int)(w:World)(g:0<=a/\a<=18446744073709551615)(f:0<=b/\b<=18446744073709551615)(d:Hid (false=qFf op))(i:Hid (n=doL op a b)) :
  Cl 157 #[I4 op,.agg #[U8 a,U8 A],.agg #[U8 b,U8 B]] w fun e c=>e=.returned (.tuple #[.agg #[U8 0,U8 0],.bool false])/\Bw w c:=by
 go_enter Tryz.func157,Tryz.ntmps157
 go_wp2_with (first
  | (go_at_call 59;go_must (refine (qIp i d _ g f).mono ?_);rintro e c ⟨rfl,rfl⟩))
 refine bodyPost_ret (v:=.tuple #[.agg #[U8 0,U8 0],.bool false]) ?_ rfl ⟨rfl,by go_grown⟩;rw [results_cell_tmp rfl]
 simp [asAddr,Result.andThen]
 rw [qAe (a:=0) (A:=0)]
 all_goals go_cell
theorem xAw (op:Int)(a A b B n:Int)(w:World)(z:0<=a/\a<=18446744073709551615)(k:0<=b/\b<=18446744073709551615)(o:Hid (true=qFf op))(u:Hid (n=doL op a b))(l:Hid (false=(decide (a<=A)&&decide (b<=B)))) :
  Cl 157 #[I4 op,.agg #[U8 a,U8 A],.agg #[U8 b,U8 B]] w fun e f=>e=.returned (.tuple #[.agg #[U8 0,U8 0],.bool false])/\Bw w f:=by
 go_enter Tryz.func157,Tryz.ntmps157
 go_wp2_with (first
  | (go_at_call 59;go_must (refine (qIp u o _ z k).mono ?_);rintro e f ⟨rfl,rfl⟩)
  | (go_at_call 150;go_must (refine (qDk l _ _ (qBu _ _ a A b B _ (by simp))).mono ?_);rintro e d ⟨rfl,c⟩;go_must (have r:Hid (B3 d w.heap.size a A b B):=(qFp w a A b B).next c;obtain ⟨⟨⟨G,F⟩,_,_⟩,⟨⟨d0,J⟩,_,_⟩,⟨⟨r0,s⟩,I,L⟩,K⟩:=r.out;have E:w.heap.size+1<d.heap.size:=(by omega);have D:w.heap.size<d.heap.size:=(by omega);have i:Bw w d:=qHg c;clear c;have g:Hid _:=qAp (x:=U8 0) (y:=U8 0) r0 s)))
 refine bodyPost_ret (v:=.tuple #[.agg #[U8 0,U8 0],.bool false]) ?_ rfl ⟨rfl,qAb (qAb i (by omega)) (by omega)⟩;rw [results_cell_tmp rfl]
 simp [asAddr,Result.andThen]
 rw [qAe g.out.1 g.out.2]
theorem xAc (op:Int)(a A b B n:Int)(w:World)(U:0<=a/\a<=18446744073709551615)(O:0<=b/\b<=18446744073709551615)(S:Hid (true=qFf op))(T:Hid (n=doL op a b))(R:Hid (true=(decide (a<=A)&&decide (b<=B))))(Q:Hid (true=((a==A)&&(b==B)))) :
  Cl 157 #[I4 op,.agg #[U8 a,U8 A],.agg #[U8 b,U8 B]] w fun e M=>e=.returned (.tuple #[.agg #[U8 n,U8 n],.bool true])/\Bw w M:=by
 go_enter Tryz.func157,Tryz.ntmps157
 go_wp2_with (first
  | (go_at_call 59;go_must (refine (qIp T S _ U O).mono ?_);rintro e M ⟨rfl,rfl⟩)
  | (go_at_call 150;go_must (refine (qDk R _ _ (qBu _ _ a A b B _ (by simp))).mono ?_);rintro e s ⟨rfl,f⟩;go_must (have K:Hid (B3 s w.heap.size a A b B):=(qFp w a A b B).next f;obtain ⟨⟨⟨u,r⟩,_,_⟩,⟨⟨d0,E⟩,_,_⟩,⟨⟨r0,g⟩,z,G⟩,F⟩:=K.out;have d:w.heap.size+1<s.heap.size:=(by omega);have c:w.heap.size<s.heap.size:=(by omega);have I:Bw w s:=qHg f;clear f))
  | (go_at_call 153;go_must (refine (qIb Q _ _ (qBu _ _ a A b B _ (by simp))).mono ?_);rintro e D ⟨rfl,l⟩;go_must (have J:Hid (B3 D w.heap.size a A b B):=K.out.next l;have k:Bw w D:=qHw I (by omega) l;clear l I K u r d0 E r0 g z G F c d;obtain ⟨⟨⟨u,r⟩,_,_⟩,⟨⟨d0,E⟩,_,_⟩,⟨⟨r0,g⟩,z,G⟩,F⟩:=J.out;have d:w.heap.size+1<D.heap.size:=(by omega);have c:w.heap.size<D.heap.size:=(by omega)))
  | (go_at_call 134;go_must (refine (qGz n _).mono ?_);rintro e o ⟨rfl,i⟩;go_must (have P:Hid (B3 o w.heap.size a A b B):=J.out.below i;have L:Bw w o:=k.trans (i.mono (by omega));clear i k J u r d0 E r0 g z G F c d;obtain ⟨⟨⟨u,r⟩,_,_⟩,⟨⟨d0,E⟩,_,_⟩,⟨⟨r0,g⟩,z,G⟩,F⟩:=P.out;have d:w.heap.size+1<o.heap.size:=(by omega);have c:w.heap.size<o.heap.size:=(by omega);have N:Hid _:=qAp (x:=U8 n) (y:=U8 n) r0 g)))
 refine bodyPost_ret (v:=.tuple #[.agg #[U8 n,U8 n],.bool true]) ?_ rfl ⟨rfl,qAb (qAb L (by omega)) (by omega)⟩;rw [results_cell_tmp rfl]
 simp [asAddr,Result.andThen]
 rw [qAe N.out.1 N.out.2]
theorem yYq (a A b B n:Int)(w:World)(U:0<=a/\a<=18446744073709551615)(O:0<=b/\b<=18446744073709551615)(S:Hid (true=qFf 1))(T:Hid (n=doL 1 a b))(R:Hid (true=(decide (a<=A)&&decide (b<=B))))(Q:Hid (false=((a==A)&&(b==B))))(p q:Int)(V:Hid (∀ w,Cl 165 #[.agg #[U8 a,U8 A],.agg #[U8 b,U8 B]] w fun e z=>e=.returned (.agg #[U8 p,U8 q])/\Bw w z)) :
  Cl 157 #[I4 1,.agg #[U8 a,U8 A],.agg #[U8 b,U8 B]] w fun e z=>e=.returned (.tuple #[.agg #[U8 p,U8 q],.bool true])/\Bw w z:=by
 go_enter Tryz.func157,Tryz.ntmps157
 go_wp2_with (first
  | (go_at_call 59;go_must (refine (qIp T S _ U O).mono ?_);rintro e z ⟨rfl,rfl⟩)
  | (go_at_call 150;go_must (refine (qDk R _ _ (qBu _ _ a A b B _ (by simp))).mono ?_);rintro e s ⟨rfl,f⟩;go_must (have L:Hid (B3 s w.heap.size a A b B):=(qFp w a A b B).next f;obtain ⟨⟨⟨u,r⟩,_,_⟩,⟨⟨d0,F⟩,_,_⟩,⟨⟨r0,g⟩,D,I⟩,G⟩:=L.out;have d:w.heap.size+1<s.heap.size:=(by omega);have c:w.heap.size<s.heap.size:=(by omega);have J:Bw w s:=qHg f;clear f))
  | (go_at_call 153;go_must (refine (qIb Q _ _ (qBu _ _ a A b B _ (by simp))).mono ?_);rintro e E ⟨rfl,l⟩;go_must (have K:Hid (B3 E w.heap.size a A b B):=L.out.next l;have k:Bw w E:=qHw J (by omega) l;clear l J L u r d0 F r0 g D I G c d;obtain ⟨⟨⟨u,r⟩,_,_⟩,⟨⟨d0,F⟩,_,_⟩,⟨⟨r0,g⟩,D,I⟩,G⟩:=K.out;have d:w.heap.size+1<E.heap.size:=(by omega);have c:w.heap.size<E.heap.size:=(by omega)))
  | (go_at_call 165;go_must (refine (V.out _).mono ?_);rintro e o ⟨rfl,i⟩;go_must (have P:Hid (B3 o w.heap.size a A b B):=K.out.below i;have M:Bw w o:=k.trans (i.mono (by omega));clear i k K u r d0 F r0 g D I G c d;obtain ⟨⟨⟨u,r⟩,_,_⟩,⟨⟨d0,F⟩,_,_⟩,⟨⟨r0,g⟩,D,I⟩,G⟩:=P.out;have d:w.heap.size+1<o.heap.size:=(by omega);have c:w.heap.size<o.heap.size:=(by omega);have N:Hid _:=qAp (x:=U8 p) (y:=U8 q) r0 g)))
 refine bodyPost_ret (v:=.tuple #[.agg #[U8 p,U8 q],.bool true]) ?_ rfl ⟨rfl,qAb (qAb M (by omega)) (by omega)⟩;rw [results_cell_tmp rfl]
 simp [asAddr,Result.andThen]
 rw [qAe N.out.1 N.out.2]
theorem qWp (a A b B n:Int)(w:World)(U:0<=a/\a<=18446744073709551615)(O:0<=b/\b<=18446744073709551615)(S:Hid (true=qFf 2))(T:Hid (n=doL 2 a b))(R:Hid (true=(decide (a<=A)&&decide (b<=B))))(Q:Hid (false=((a==A)&&(b==B))))(p q:Int)(V:Hid (∀ w,Cl 166 #[.agg #[U8 a,U8 A],.agg #[U8 b,U8 B]] w fun e z=>e=.returned (.agg #[U8 p,U8 q])/\Bw w z)) :
  Cl 157 #[I4 2,.agg #[U8 a,U8 A],.agg #[U8 b,U8 B]] w fun e z=>e=.returned (.tuple #[.agg #[U8 p,U8 q],.bool true])/\Bw w z:=by
 go_enter Tryz.func157,Tryz.ntmps157
 go_wp2_with (first
  | (go_at_call 59;go_must (refine (qIp T S _ U O).mono ?_);rintro e z ⟨rfl,rfl⟩)
  | (go_at_call 150;go_must (refine (qDk R _ _ (qBu _ _ a A b B _ (by simp))).mono ?_);rintro e s ⟨rfl,f⟩;go_must (have L:Hid (B3 s w.heap.size a A b B):=(qFp w a A b B).next f;obtain ⟨⟨⟨u,r⟩,_,_⟩,⟨⟨d0,F⟩,_,_⟩,⟨⟨r0,g⟩,D,I⟩,G⟩:=L.out;have d:w.heap.size+1<s.heap.size:=(by omega);have c:w.heap.size<s.heap.size:=(by omega);have J:Bw w s:=qHg f;clear f))
  | (go_at_call 153;go_must (refine (qIb Q _ _ (qBu _ _ a A b B _ (by simp))).mono ?_);rintro e E ⟨rfl,l⟩;go_must (have K:Hid (B3 E w.heap.size a A b B):=L.out.next l;have k:Bw w E:=qHw J (by omega) l;clear l J L u r d0 F r0 g D I G c d;obtain ⟨⟨⟨u,r⟩,_,_⟩,⟨⟨d0,F⟩,_,_⟩,⟨⟨r0,g⟩,D,I⟩,G⟩:=K.out;have d:w.heap.size+1<E.heap.size:=(by omega);have c:w.heap.size<E.heap.size:=(by omega)))
  | (go_at_call 166;go_must (refine (V.out _).mono ?_);rintro e o ⟨rfl,i⟩;go_must (have P:Hid (B3 o w.heap.size a A b B):=K.out.below i;have M:Bw w o:=k.trans (i.mono (by omega));clear i k K u r d0 F r0 g D I G c d;obtain ⟨⟨⟨u,r⟩,_,_⟩,⟨⟨d0,F⟩,_,_⟩,⟨⟨r0,g⟩,D,I⟩,G⟩:=P.out;have d:w.heap.size+1<o.heap.size:=(by omega);have c:w.heap.size<o.heap.size:=(by omega);have N:Hid _:=qAp (x:=U8 p) (y:=U8 q) r0 g)))
 refine bodyPost_ret (v:=.tuple #[.agg #[U8 p,U8 q],.bool true]) ?_ rfl ⟨rfl,qAb (qAb M (by omega)) (by omega)⟩;rw [results_cell_tmp rfl]
 simp [asAddr,Result.andThen]
 rw [qAe N.out.1 N.out.2]
theorem yEq (a A b B n:Int)(w:World)(U:0<=a/\a<=18446744073709551615)(O:0<=b/\b<=18446744073709551615)(S:Hid (true=qFf 3))(T:Hid (n=doL 3 a b))(R:Hid (true=(decide (a<=A)&&decide (b<=B))))(Q:Hid (false=((a==A)&&(b==B))))(p q:Int)(V:Hid (∀ w,Cl 167 #[.agg #[U8 a,U8 A],.agg #[U8 b,U8 B]] w fun e z=>e=.returned (.agg #[U8 p,U8 q])/\Bw w z)) :
  Cl 157 #[I4 3,.agg #[U8 a,U8 A],.agg #[U8 b,U8 B]] w fun e z=>e=.returned (.tuple #[.agg #[U8 p,U8 q],.bool true])/\Bw w z:=by
 go_enter Tryz.func157,Tryz.ntmps157
 go_wp2_with (first
  | (go_at_call 59;go_must (refine (qIp T S _ U O).mono ?_);rintro e z ⟨rfl,rfl⟩)
  | (go_at_call 150;go_must (refine (qDk R _ _ (qBu _ _ a A b B _ (by simp))).mono ?_);rintro e s ⟨rfl,f⟩;go_must (have L:Hid (B3 s w.heap.size a A b B):=(qFp w a A b B).next f;obtain ⟨⟨⟨u,r⟩,_,_⟩,⟨⟨d0,F⟩,_,_⟩,⟨⟨r0,g⟩,D,I⟩,G⟩:=L.out;have d:w.heap.size+1<s.heap.size:=(by omega);have c:w.heap.size<s.heap.size:=(by omega);have J:Bw w s:=qHg f;clear f))
  | (go_at_call 153;go_must (refine (qIb Q _ _ (qBu _ _ a A b B _ (by simp))).mono ?_);rintro e E ⟨rfl,l⟩;go_must (have K:Hid (B3 E w.heap.size a A b B):=L.out.next l;have k:Bw w E:=qHw J (by omega) l;clear l J L u r d0 F r0 g D I G c d;obtain ⟨⟨⟨u,r⟩,_,_⟩,⟨⟨d0,F⟩,_,_⟩,⟨⟨r0,g⟩,D,I⟩,G⟩:=K.out;have d:w.heap.size+1<E.heap.size:=(by omega);have c:w.heap.size<E.heap.size:=(by omega)))
  | (go_at_call 167;go_must (refine (V.out _).mono ?_);rintro e o ⟨rfl,i⟩;go_must (have P:Hid (B3 o w.heap.size a A b B):=K.out.below i;have M:Bw w o:=k.trans (i.mono (by omega));clear i k K u r d0 F r0 g D I G c d;obtain ⟨⟨⟨u,r⟩,_,_⟩,⟨⟨d0,F⟩,_,_⟩,⟨⟨r0,g⟩,D,I⟩,G⟩:=P.out;have d:w.heap.size+1<o.heap.size:=(by omega);have c:w.heap.size<o.heap.size:=(by omega);have N:Hid _:=qAp (x:=U8 p) (y:=U8 q) r0 g)))
 refine bodyPost_ret (v:=.tuple #[.agg #[U8 p,U8 q],.bool true]) ?_ rfl ⟨rfl,qAb (qAb M (by omega)) (by omega)⟩;rw [results_cell_tmp rfl]
 simp [asAddr,Result.andThen]
 rw [qAe N.out.1 N.out.2]
theorem yDb (a A b B n:Int)(w:World)(U:0<=a/\a<=18446744073709551615)(O:0<=b/\b<=18446744073709551615)(S:Hid (true=qFf 4))(T:Hid (n=doL 4 a b))(R:Hid (true=(decide (a<=A)&&decide (b<=B))))(Q:Hid (false=((a==A)&&(b==B))))(p q:Int)(V:Hid (∀ w,Cl 168 #[.agg #[U8 a,U8 A],.agg #[U8 b,U8 B]] w fun e z=>e=.returned (.agg #[U8 p,U8 q])/\Bw w z)) :
  Cl 157 #[I4 4,.agg #[U8 a,U8 A],.agg #[U8 b,U8 B]] w fun e z=>e=.returned (.tuple #[.agg #[U8 p,U8 q],.bool true])/\Bw w z:=by
 go_enter Tryz.func157,Tryz.ntmps157
 go_wp2_with (first
  | (go_at_call 59;go_must (refine (qIp T S _ U O).mono ?_);rintro e z ⟨rfl,rfl⟩)
  | (go_at_call 150;go_must (refine (qDk R _ _ (qBu _ _ a A b B _ (by simp))).mono ?_);rintro e s ⟨rfl,f⟩;go_must (have L:Hid (B3 s w.heap.size a A b B):=(qFp w a A b B).next f;obtain ⟨⟨⟨u,r⟩,_,_⟩,⟨⟨d0,F⟩,_,_⟩,⟨⟨r0,g⟩,D,I⟩,G⟩:=L.out;have d:w.heap.size+1<s.heap.size:=(by omega);have c:w.heap.size<s.heap.size:=(by omega);have J:Bw w s:=qHg f;clear f))
  | (go_at_call 153;go_must (refine (qIb Q _ _ (qBu _ _ a A b B _ (by simp))).mono ?_);rintro e E ⟨rfl,l⟩;go_must (have K:Hid (B3 E w.heap.size a A b B):=L.out.next l;have k:Bw w E:=qHw J (by omega) l;clear l J L u r d0 F r0 g D I G c d;obtain ⟨⟨⟨u,r⟩,_,_⟩,⟨⟨d0,F⟩,_,_⟩,⟨⟨r0,g⟩,D,I⟩,G⟩:=K.out;have d:w.heap.size+1<E.heap.size:=(by omega);have c:w.heap.size<E.heap.size:=(by omega)))
  | (go_at_call 168;go_must (refine (V.out _).mono ?_);rintro e o ⟨rfl,i⟩;go_must (have P:Hid (B3 o w.heap.size a A b B):=K.out.below i;have M:Bw w o:=k.trans (i.mono (by omega));clear i k K u r d0 F r0 g D I G c d;obtain ⟨⟨⟨u,r⟩,_,_⟩,⟨⟨d0,F⟩,_,_⟩,⟨⟨r0,g⟩,D,I⟩,G⟩:=P.out;have d:w.heap.size+1<o.heap.size:=(by omega);have c:w.heap.size<o.heap.size:=(by omega);have N:Hid _:=qAp (x:=U8 p) (y:=U8 q) r0 g)))
 refine bodyPost_ret (v:=.tuple #[.agg #[U8 p,U8 q],.bool true]) ?_ rfl ⟨rfl,qAb (qAb M (by omega)) (by omega)⟩;rw [results_cell_tmp rfl]
 simp [asAddr,Result.andThen]
 rw [qAe N.out.1 N.out.2]
theorem yTf (a A b B n:Int)(w:World)(U:0<=a/\a<=18446744073709551615)(O:0<=b/\b<=18446744073709551615)(S:Hid (true=qFf 5))(T:Hid (n=doL 5 a b))(R:Hid (true=(decide (a<=A)&&decide (b<=B))))(Q:Hid (false=((a==A)&&(b==B))))(p q:Int)(V:Hid (∀ w,Cl 169 #[.agg #[U8 a,U8 A],.agg #[U8 b,U8 B]] w fun e z=>e=.returned (.agg #[U8 p,U8 q])/\Bw w z)) :
  Cl 157 #[I4 5,.agg #[U8 a,U8 A],.agg #[U8 b,U8 B]] w fun e z=>e=.returned (.tuple #[.agg #[U8 p,U8 q],.bool true])/\Bw w z:=by
 go_enter Tryz.func157,Tryz.ntmps157
 go_wp2_with (first
  | (go_at_call 59;go_must (refine (qIp T S _ U O).mono ?_);rintro e z ⟨rfl,rfl⟩)
  | (go_at_call 150;go_must (refine (qDk R _ _ (qBu _ _ a A b B _ (by simp))).mono ?_);rintro e s ⟨rfl,f⟩;go_must (have L:Hid (B3 s w.heap.size a A b B):=(qFp w a A b B).next f;obtain ⟨⟨⟨u,r⟩,_,_⟩,⟨⟨d0,F⟩,_,_⟩,⟨⟨r0,g⟩,D,I⟩,G⟩:=L.out;have d:w.heap.size+1<s.heap.size:=(by omega);have c:w.heap.size<s.heap.size:=(by omega);have J:Bw w s:=qHg f;clear f))
  | (go_at_call 153;go_must (refine (qIb Q _ _ (qBu _ _ a A b B _ (by simp))).mono ?_);rintro e E ⟨rfl,l⟩;go_must (have K:Hid (B3 E w.heap.size a A b B):=L.out.next l;have k:Bw w E:=qHw J (by omega) l;clear l J L u r d0 F r0 g D I G c d;obtain ⟨⟨⟨u,r⟩,_,_⟩,⟨⟨d0,F⟩,_,_⟩,⟨⟨r0,g⟩,D,I⟩,G⟩:=K.out;have d:w.heap.size+1<E.heap.size:=(by omega);have c:w.heap.size<E.heap.size:=(by omega)))
  | (go_at_call 169;go_must (refine (V.out _).mono ?_);rintro e o ⟨rfl,i⟩;go_must (have P:Hid (B3 o w.heap.size a A b B):=K.out.below i;have M:Bw w o:=k.trans (i.mono (by omega));clear i k K u r d0 F r0 g D I G c d;obtain ⟨⟨⟨u,r⟩,_,_⟩,⟨⟨d0,F⟩,_,_⟩,⟨⟨r0,g⟩,D,I⟩,G⟩:=P.out;have d:w.heap.size+1<o.heap.size:=(by omega);have c:w.heap.size<o.heap.size:=(by omega);have N:Hid _:=qAp (x:=U8 p) (y:=U8 q) r0 g)))
 refine bodyPost_ret (v:=.tuple #[.agg #[U8 p,U8 q],.bool true]) ?_ rfl ⟨rfl,qAb (qAb M (by omega)) (by omega)⟩;rw [results_cell_tmp rfl]
 simp [asAddr,Result.andThen]
 rw [qAe N.out.1 N.out.2]
theorem yKl (a A b B n:Int)(w:World)(U:0<=a/\a<=18446744073709551615)(O:0<=b/\b<=18446744073709551615)(S:Hid (true=qFf 9))(T:Hid (n=doL 9 a b))(R:Hid (true=(decide (a<=A)&&decide (b<=B))))(Q:Hid (false=((a==A)&&(b==B))))(p q:Int)(V:Hid (∀ w,Cl 171 #[.agg #[U8 a,U8 A],.agg #[U8 b,U8 B]] w fun e z=>e=.returned (.agg #[U8 p,U8 q])/\Bw w z)) :
  Cl 157 #[I4 9,.agg #[U8 a,U8 A],.agg #[U8 b,U8 B]] w fun e z=>e=.returned (.tuple #[.agg #[U8 p,U8 q],.bool true])/\Bw w z:=by
 go_enter Tryz.func157,Tryz.ntmps157
 go_wp2_with (first
  | (go_at_call 59;go_must (refine (qIp T S _ U O).mono ?_);rintro e z ⟨rfl,rfl⟩)
  | (go_at_call 150;go_must (refine (qDk R _ _ (qBu _ _ a A b B _ (by simp))).mono ?_);rintro e s ⟨rfl,f⟩;go_must (have L:Hid (B3 s w.heap.size a A b B):=(qFp w a A b B).next f;obtain ⟨⟨⟨u,r⟩,_,_⟩,⟨⟨d0,F⟩,_,_⟩,⟨⟨r0,g⟩,D,I⟩,G⟩:=L.out;have d:w.heap.size+1<s.heap.size:=(by omega);have c:w.heap.size<s.heap.size:=(by omega);have J:Bw w s:=qHg f;clear f))
  | (go_at_call 153;go_must (refine (qIb Q _ _ (qBu _ _ a A b B _ (by simp))).mono ?_);rintro e E ⟨rfl,l⟩;go_must (have K:Hid (B3 E w.heap.size a A b B):=L.out.next l;have k:Bw w E:=qHw J (by omega) l;clear l J L u r d0 F r0 g D I G c d;obtain ⟨⟨⟨u,r⟩,_,_⟩,⟨⟨d0,F⟩,_,_⟩,⟨⟨r0,g⟩,D,I⟩,G⟩:=K.out;have d:w.heap.size+1<E.heap.size:=(by omega);have c:w.heap.size<E.heap.size:=(by omega)))
  | (go_at_call 171;go_must (refine (V.out _).mono ?_);rintro e o ⟨rfl,i⟩;go_must (have P:Hid (B3 o w.heap.size a A b B):=K.out.below i;have M:Bw w o:=k.trans (i.mono (by omega));clear i k K u r d0 F r0 g D I G c d;obtain ⟨⟨⟨u,r⟩,_,_⟩,⟨⟨d0,F⟩,_,_⟩,⟨⟨r0,g⟩,D,I⟩,G⟩:=P.out;have d:w.heap.size+1<o.heap.size:=(by omega);have c:w.heap.size<o.heap.size:=(by omega);have N:Hid _:=qAp (x:=U8 p) (y:=U8 q) r0 g)))
 refine bodyPost_ret (v:=.tuple #[.agg #[U8 p,U8 q],.bool true]) ?_ rfl ⟨rfl,qAb (qAb M (by omega)) (by omega)⟩;rw [results_cell_tmp rfl]
 simp [asAddr,Result.andThen]
 rw [qAe N.out.1 N.out.2]
theorem yYd (a A b B n:Int)(w:World)(Q:0<=a/\a<=18446744073709551615)(K:0<=b/\b<=18446744073709551615)(O:Hid (true=qFf 6))(P:Hid (n=doL 6 a b))(N:Hid (true=(decide (a<=A)&&decide (b<=B))))(L:Hid (false=((a==A)&&(b==B)))) :
  Cl 157 #[I4 6,.agg #[U8 a,U8 A],.agg #[U8 b,U8 B]] w fun e D=>e=.returned (.tuple #[.agg #[U8 0,U8 (min A B)],.bool true])/\Bw w D:=by
 obtain ⟨m,hm⟩:∃ m,min A B=m:=⟨_,rfl⟩;rw [hm];go_enter Tryz.func157,Tryz.ntmps157
 go_wp2_with (first
  | (go_at_call 59;go_must (refine (qIp P O _ Q K).mono ?_);rintro e D ⟨rfl,rfl⟩)
  | (go_at_call 150;go_must (refine (qDk N _ _ (qBu _ _ a A b B _ (by simp))).mono ?_);rintro e f ⟨rfl,c⟩;go_must (have o:Hid (B3 f w.heap.size a A b B):=(qFp w a A b B).next c;obtain ⟨⟨⟨z,u⟩,_,_⟩,⟨⟨d0,F⟩,_,_⟩,⟨⟨r0,r⟩,E,I⟩,G⟩:=o.out;have k:w.heap.size+1<f.heap.size:=(by omega);have i:w.heap.size<f.heap.size:=(by omega);have l:Bw w f:=qHg c;clear c))
  | (go_at_call 153;go_must (refine (qIb L _ _ (qBu _ _ a A b B _ (by simp))).mono ?_);rintro e g ⟨rfl,d⟩;go_must (have M:Hid (B3 g w.heap.size a A b B):=o.out.next d;have s:Bw w g:=qHw l (by omega) d;clear d l o z u d0 F r0 r E I G i k;obtain ⟨⟨⟨z,u⟩,_,_⟩,⟨⟨d0,F⟩,_,_⟩,⟨⟨r0,r⟩,E,I⟩,G⟩:=M.out;have k:w.heap.size+1<g.heap.size:=(by omega);have i:w.heap.size<g.heap.size:=(by omega);have J:Hid _:=qAp (x:=U8 0) (y:=U8 m) r0 r)))
 refine bodyPost_ret (v:=.tuple #[.agg #[U8 0,U8 m],.bool true]) ?_ rfl ⟨rfl,qAb (qAb s (by omega)) (by omega)⟩;rw [results_cell_tmp rfl]
 simp [asAddr,Result.andThen]
 rw [qAe J.out.1 J.out.2]
theorem yYc (a A b B n:Int)(w:World)(S:0<=a/\a<=18446744073709551615)(L:0<=b/\b<=18446744073709551615)(P:Hid (true=qFf 8))(Q:Hid (n=doL 8 a b))(O:Hid (true=(decide (a<=A)&&decide (b<=B))))(M:Hid (false=((a==A)&&(b==B))))(hA:0<=A/\A<=18446744073709551615)(R:0<=B/\B<=18446744073709551615) :
  Cl 157 #[I4 8,.agg #[U8 a,U8 A],.agg #[U8 b,U8 B]] w fun e d=>e=.returned (.tuple #[.agg #[U8 0,U8 (qCq (max A B))],.bool true])/\Bw w d:=by
 obtain ⟨m,z⟩:∃ m,Hid (qCq (max A B)=m):=⟨_,rfl⟩;rw [z.out]
 have T:Hid (∀ w,Cl 170 #[U8 A,U8 B] w fun e d=>e=.returned (U8 m)/\w=d):=fun w=>by rw [<- z.out];exact qYx A B w hA R
 go_enter Tryz.func157,Tryz.ntmps157
 go_wp2_with (first
  | (go_at_call 59;go_must (refine (qIp Q P _ S L).mono ?_);rintro e d ⟨rfl,rfl⟩)
  | (go_at_call 150;go_must (refine (qDk O _ _ (qBu _ _ a A b B _ (by simp))).mono ?_);rintro e g ⟨rfl,c⟩;go_must (have r:Hid (B3 g w.heap.size a A b B):=(qFp w a A b B).next c;obtain ⟨⟨⟨E,D⟩,_,_⟩,⟨⟨d0,G⟩,_,_⟩,⟨⟨r0,s⟩,F,J⟩,I⟩:=r.out;have l:w.heap.size+1<g.heap.size:=(by omega);have k:w.heap.size<g.heap.size:=(by omega);have o:Bw w g:=qHg c;clear c))
  | (go_at_call 153;go_must (refine (qIb M _ _ (qBu _ _ a A b B _ (by simp))).mono ?_);rintro e i ⟨rfl,f⟩;go_must (have N:Hid (B3 i w.heap.size a A b B):=r.out.next f;have u:Bw w i:=qHw o (by omega) f;clear f o r E D d0 G r0 s F J I k l;obtain ⟨⟨⟨E,D⟩,_,_⟩,⟨⟨d0,G⟩,_,_⟩,⟨⟨r0,s⟩,F,J⟩,I⟩:=N.out;have l:w.heap.size+1<i.heap.size:=(by omega);have k:w.heap.size<i.heap.size:=(by omega);have K:Hid _:=qAp (x:=U8 0) (y:=U8 m) r0 s))
  | (go_at_call 170;go_must (refine (T.out _).mono ?_);rintro e d ⟨rfl,rfl⟩))
 refine bodyPost_ret (v:=.tuple #[.agg #[U8 0,U8 m],.bool true]) ?_ rfl ⟨rfl,qAb (qAb u (by omega)) (by omega)⟩;rw [results_cell_tmp rfl]
 simp [asAddr,Result.andThen]
 rw [qAe K.out.1 K.out.2]
theorem yXx (a A b B n:Int)(w:World)(Q:0<=a/\a<=18446744073709551615)(K:0<=b/\b<=18446744073709551615)(O:Hid (true=qFf 10))(P:Hid (n=doL 10 a b))(N:Hid (true=(decide (a<=A)&&decide (b<=B))))(L:Hid (false=((a==A)&&(b==B))))(hA:0<=A/\A<=18446744073709551615)(R:0<=B/\B<=18446744073709551615) :
  Cl 157 #[I4 10,.agg #[U8 a,U8 A],.agg #[U8 b,U8 B]] w fun e D=>e=.returned (.tuple #[.agg #[U8 (a / 2 ^ min B.toNat 64),U8 (A / 2 ^ min b.toNat 64)],.bool true])/\Bw w D:=by
 go_enter Tryz.func157,Tryz.ntmps157
 go_wp2_with (first
  | (go_at_call 59;go_must (refine (qIp P O _ Q K).mono ?_);rintro e D ⟨rfl,rfl⟩)
  | (go_at_call 150;go_must (refine (qDk N _ _ (qBu _ _ a A b B _ (by simp))).mono ?_);rintro e f ⟨rfl,c⟩;go_must (have o:Hid (B3 f w.heap.size a A b B):=(qFp w a A b B).next c;obtain ⟨⟨⟨z,u⟩,_,_⟩,⟨⟨d0,F⟩,_,_⟩,⟨⟨r0,r⟩,E,I⟩,G⟩:=o.out;have k:w.heap.size+1<f.heap.size:=(by omega);have i:w.heap.size<f.heap.size:=(by omega);have l:Bw w f:=qHg c;clear c))
  | (go_at_call 153;go_must (refine (qIb L _ _ (qBu _ _ a A b B _ (by simp))).mono ?_);rintro e g ⟨rfl,d⟩;go_must (have M:Hid (B3 g w.heap.size a A b B):=o.out.next d;have s:Bw w g:=qHw l (by omega) d;clear d l o z u d0 F r0 r E I G i k;obtain ⟨⟨⟨z,u⟩,_,_⟩,⟨⟨d0,F⟩,_,_⟩,⟨⟨r0,r⟩,E,I⟩,G⟩:=M.out;have k:w.heap.size+1<g.heap.size:=(by omega);have i:w.heap.size<g.heap.size:=(by omega);have J:Hid _:=qAp (x:=U8 (a / 2 ^ min B.toNat 64)) (y:=U8 (A / 2 ^ min b.toNat 64)) r0 r)))
 refine bodyPost_ret (v:=.tuple #[.agg #[U8 (a / 2 ^ min B.toNat 64),U8 (A / 2 ^ min b.toNat 64)],.bool true]) ?_ rfl ⟨rfl,qAb (qAb s (by omega)) (by omega)⟩;rw [results_cell_tmp rfl]
 simp [asAddr,Result.andThen]
 rw [qAe J.out.1 J.out.2]
theorem xBx (a A b B n:Int)(w:World)(V:0<=a/\a<=18446744073709551615)(M:0<=b/\b<=18446744073709551615)(S:Hid (true=qFf 7))(T:Hid (n=doL 7 a b))(P:Hid (true=(decide (a<=A)&&decide (b<=B))))(N:Hid (false=((a==A)&&(b==B))))(hA:0<=A/\A<=18446744073709551615)(U:0<=B/\B<=18446744073709551615) :
  Cl 157 #[I4 7,.agg #[U8 a,U8 A],.agg #[U8 b,U8 B]] w fun e c=>e=.returned (.tuple #[.agg #[U8 (max a b),U8 (qCq (max A B))],.bool true])/\Bw w c:=by
 obtain ⟨Y,F⟩:∃ m,Hid (qCq (max A B)=m):=⟨_,rfl⟩;rw [F.out]
 have X:Hid (∀ w,Cl 170 #[U8 A,U8 B] w fun e c=>e=.returned (U8 Y)/\w=c):=fun w=>by rw [<- F.out];exact qYx A B w hA U
 obtain ⟨Q,R⟩:∃ Q,max a b=Q:=⟨_,rfl⟩;rw [R];go_enter Tryz.func157,Tryz.ntmps157
 go_wp2_with (first
  | (go_at_call 59;go_must (refine (qIp T S _ V M).mono ?_);rintro e c ⟨rfl,rfl⟩)
  | (go_at_call 150;go_must (refine (qDk P _ _ (qBu _ _ a A b B _ (by simp))).mono ?_);rintro e k ⟨rfl,f⟩;go_must (have z:Hid (B3 k w.heap.size a A b B):=(qFp w a A b B).next f;obtain ⟨⟨⟨l,i⟩,_,_⟩,⟨⟨d0,o⟩,_,_⟩,⟨⟨r0,D⟩,I,K⟩,J⟩:=z.out;have s:w.heap.size+1<k.heap.size:=(by omega);have r:w.heap.size<k.heap.size:=(by omega);have u:Bw w k:=qHg f;clear f))
  | (go_at_call 153;go_must (refine (qIb N _ _ (qBu _ _ a A b B _ (by simp))).mono ?_);rintro e d ⟨rfl,g⟩;go_must (have O:Hid (B3 d w.heap.size a A b B):=z.out.next g;have E:Bw w d:=qHw u (by omega) g;clear g u z l i d0 o r0 D I K J r s;obtain ⟨⟨⟨l,i⟩,_,_⟩,⟨⟨d0,o⟩,_,_⟩,⟨⟨r0,D⟩,I,K⟩,J⟩:=O.out;have s:w.heap.size+1<d.heap.size:=(by omega);have r:w.heap.size<d.heap.size:=(by omega);have L:Hid _:=qAp (x:=U8 Q) (y:=U8 Y) r0 D))
  | (go_at_call 170;fail))
 have G:d.cell? ⟨w.heap.size,0,none⟩=some (U8 a)/\d.cell? ⟨w.heap.size,1,none⟩=some (U8 A)/\d.cell? ⟨w.heap.size+1,0,none⟩=some (U8 b)/\d.cell? ⟨w.heap.size+1,1,none⟩=some (U8 B):=⟨l,i,d0,o⟩;clear l i d0 o
 go_region_held_law (fun c=>c.cell? ⟨w.heap.size,0,none⟩=some (U8 a)/\c.cell? ⟨w.heap.size,1,none⟩=some (U8 A)/\c.cell? ⟨w.heap.size+1,0,none⟩=some (U8 b)/\c.cell? ⟨w.heap.size+1,1,none⟩=some (U8 B))
  (first|assumption|((refine qMc ?_ (by omega) (by omega);first|assumption|(refine qMc ?_ (by omega) (by omega);assumption))))
  ((go_at_call 170;refine (X.out _).mono ?_;rintro e c ⟨rfl,rfl⟩))
 all_goals go_wp2
 all_goals refine bodyPost_ret (v:=.tuple #[.agg #[U8 Q,U8 Y],.bool true]) ?_ rfl ⟨rfl,qHd (qAb (qAb E (by omega)) (by omega))⟩
 all_goals rw [results_cell_tmp rfl]
 all_goals simp [asAddr,Result.andThen]
 all_goals rw [qGq L.out.1 L.out.2]
theorem yGl (op:Int):qFf op=decide (1<=op/\op<=10):=rfl
theorem yXs:KDo:=by
 intro op a A b B w f hA d s;unfold W64 at f hA d s;obtain ⟨n,g⟩:∃ n,Hid (n=doL op a b):=⟨_,rfl⟩;unfold doR
 by_cases c1:1<=op/\op<=10
 case neg=>rw [if_neg (fun h=>c1 h.1)];exact yYz op a A b B n w f d (by show _=_;rw [yGl,decide_eq_false c1]) g
 have i:Hid (true=qFf op):=by show _=_;rw [yGl,decide_eq_true c1]
 by_cases c2:a<=A/\b<=B
 case neg =>
  rw [if_neg (fun h=>c2 h.2)];exact xAw op a A b B n w f d i g (by show _=_;rw [<- Bool.decide_and,decide_eq_false c2])
 have k:Hid (true=(decide (a<=A)&&decide (b<=B))):=by show _=_;rw [<- Bool.decide_and,decide_eq_true c2]
 rw [if_pos ⟨c1,c2⟩]
 by_cases hs:a=A/\b=B
 ·have e:qBn op a A b B=(n,n):=by unfold qBn;rw [if_pos hs,g.out]
  rw [e];exact xAc op a A b B n w f d i g k (by show _=_;rw [hs.1,hs.2];simp)
 have l:Hid (false=((a==A)&&(b==B))):=by
  show _=_
  symm
  rw [Bool.eq_false_iff];intro h
  simp at h
  exact hs h
 have o:0<=a/\a<=A/\A<=18446744073709551615:=by omega
 have r:0<=b/\b<=B/\B<=18446744073709551615:=by omega
 have c:op=1∨op=2∨op=3∨op=4∨op=5∨op=6∨op=7∨op=8∨op=9∨op=10:=by omega
 rcases c with rfl|rfl|rfl|rfl|rfl|rfl|rfl|rfl|rfl|rfl
 ·have e:qBn 1 a A b B=(if 18446744073709551615<A+B then (0,18446744073709551615) else (a+b,A+B)):=by unfold qBn;rw [if_neg hs];rfl
  rw [e];exact yYq a A b B n w f d i g k l _ _ (fun w=>yVu a A b B w o r)
 ·have e:qBn 2 a A b B=(if a<B then (0,18446744073709551615) else (a-B,A-b)):=by unfold qBn;rw [if_neg hs];rfl
  rw [e];exact qWp a A b B n w f d i g k l _ _ (fun w=>yOc a A b B w o r)
 ·have e:qBn 3 a A b B=(if 18446744073709551615<A*B then (0,18446744073709551615) else (a*b,A*B)):=by unfold qBn;rw [if_neg hs];rfl
  rw [e];exact yEq a A b B n w f d i g k l _ _ (fun w=>yOp a A b B w o r)
 ·have e:qBn 4 a A b B=(if b=0 then (0,A) else (a / B,A / b)):=by unfold qBn;rw [if_neg hs];rfl
  rw [e];exact yDb a A b B n w f d i g k l _ _ (fun w=>yUg a A b B w o r)
 ·have e:qBn 5 a A b B=(if b=0 then (0,A) else if A<b then (a,A) else (0,min A (B-1))):=by unfold qBn;rw [if_neg hs];rfl
  rw [e];exact yTf a A b B n w f d i g k l _ _ (fun w=>yNw a A b B w o r)
 ·have e:qBn 6 a A b B=(0,min A B):=by unfold qBn;rw [if_neg hs];rfl
  rw [e];exact yYd a A b B n w f d i g k l
 ·have e:qBn 7 a A b B=(max a b,qCq (max A B)):=by unfold qBn;rw [if_neg hs];rfl
  rw [e];exact xBx a A b B n w f d i g k l hA s
 ·have e:qBn 8 a A b B=(0,qCq (max A B)):=by unfold qBn;rw [if_neg hs];rfl
  rw [e];exact yYc a A b B n w f d i g k l hA s
 ·have e:qBn 9 a A b B=(if b=B/\A*2 ^ min b.toNat 64<=18446744073709551615 then (a*2 ^ min b.toNat 64,A*2 ^ min b.toNat 64) else (0,18446744073709551615)):=by unfold qBn;rw [if_neg hs];rfl
  rw [e];exact yKl a A b B n w f d i g k l _ _ (fun w=>yFc a A b B w o r)
 ·have e:qBn 10 a A b B=(a / 2 ^ min B.toNat 64,A / 2 ^ min b.toNat 64):=by unfold qBn;rw [if_neg hs];rfl
  rw [e];exact yXx a A b B n w f d i g k l hA s
end Go.Proofs.YtmdhljoicnommaaGreat
