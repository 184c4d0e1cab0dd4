/-
  S6LWays
  S6LRaise
  S6LDoA
  S6LDoB
  S6LDo
-/
import Derived.Test.YtmdhljoicnommaaGreatMS15
import Derived.Test.YtmdhljoicnommaaGreatMS5
namespace Go.Proofs.YtmdhljoicnommaaGreat
set_option maxHeartbeats 12800000
open Go.RowKit
set_option linter.unusedVariables false
set_option maxRecDepth 20000
abbrev aggS (p:Int×Int):Value:=.agg #[.int .u64 p.1,.int .u64 p.2]
theorem bitLen_pow:∀ (f x:Nat),x<f->x<18446744073709551616->x<2 ^ Lib.bitLen x/\(x≠0->2 ^ (Lib.bitLen x-1)<=x/\0<Lib.bitLen x)/\(x=0->Lib.bitLen x=0)
 | 0,x,h,_=>absurd h (by omega)
 | f+1,x,h,hx=>by
  by_cases h0:x=0
  ·subst h0;exact ⟨by decide,fun h=>absurd rfl h,fun _=>by decide⟩
  ·obtain ⟨d,b,a⟩:=bitLen_pow f (x / 2) (by omega) (by omega);have e:=Lib.bitLen_half x h0 (by omega);refine ⟨?_,fun _=>⟨?_,by omega⟩,fun h=>absurd h h0⟩
   ·rw [e,Nat.add_comm,Nat.pow_succ];omega
   ·rw [e,Nat.add_sub_cancel_left]
    by_cases hz:x / 2=0
    ·rw [a hz];omega
    ·obtain ⟨c,g⟩:=b hz
     have:Lib.bitLen (x / 2)=Lib.bitLen (x / 2)-1+1:=by omega
     rw [this,Nat.pow_succ];omega
theorem bitLen_le {x:Nat}(b:x<18446744073709551616):Lib.bitLen x<=64:=by
 obtain ⟨g,c,a⟩:=bitLen_pow (x+1) x (by omega) b
 by_cases h0:x=0
 ·rw [a h0];omega
 ·obtain ⟨f,d⟩:=c h0
  rcases Nat.lt_or_ge 64 (Lib.bitLen x) with h|h
  ·have:2 ^ 64<=2 ^ (Lib.bitLen x-1):=Nat.pow_le_pow_right (by decide) (by omega)
   have e:(2:Nat) ^ 64=18446744073709551616:=by decide
   omega
  ·exact h
theorem form_bits {n:Int}(h0:0<=n)(h:n<=18446744073709551615):formL n=2 ^ Lib.bitLen n.toNat-1:=by
 obtain ⟨m,rfl⟩:=Int.eq_ofNat_of_zero_le h0;rw [Int.toNat_natCast];obtain ⟨c,a,b⟩:=bitLen_pow (m+1) m (by omega) (by omega)
 refine form_eq h0 h (by rw [qBj];exact_mod_cast c) fun d=>?_
 rw [qBj]
 by_cases hz:m=0
 ·have:=b hz;omega
 ·exact_mod_cast (a hz).1
theorem lones_any (a b:Int)(w:World)(u:0<=a/\a<=18446744073709551615)(s:0<=b/\b<=18446744073709551615) :
  Cl 170 #[U8 a,U8 b] w fun e g=>e=.returned (U8 (formL (max a b)))/\w=g:=by
 obtain ⟨m,c⟩:∃ m,Hid (m=max a b):=⟨_,rfl⟩
 have hm:0<=m/\m<=18446744073709551615:=by have:=c.out;omega
 obtain ⟨k,d⟩:∃ k,Hid (k=Lib.bitLen m.toNat):=⟨_,rfl⟩
 have l:k<=64:=by rw [d.out];exact bitLen_le (by omega)
 have n:(k:Int)<=64:=by omega
 have i:Hid (formL m=2 ^ k-1):=by rw [d.out];exact form_bits hm.1 hm.2
 have r:=qBr k;have o:=pow_le64 l
 have f:formL (max a b)=2 ^ k-1:=by rw [<- c.out];exact i.out
 rw [f];go_enter Tryz.func170,Tryz.ntmps170
 go_wp2_with (go_at_call 174;go_must (rw [<- c.out];refine (Tryz.bits_Len64 m _ hm.1 hm.2).mono ?_);rintro e g ⟨rfl,rfl⟩;go_must (rw [<- d.out]))
 go_ret;refine ⟨ret1 ?_,rfl⟩
 simp [IntKind.wrap_u64]
 omega
theorem third {w b:World}{c d:Obj}(a:Below (((w.alloc c).alloc d).alloc (spO 0 0)).heap.size (((w.alloc c).alloc d).alloc (spO 0 0)) b):Bx b (w.heap.size+1+1) 0 0/\Bw w b/\w.heap.size+1+1<b.heap.size:=by
 refine ⟨Bx.below ⟨⟨by go_cell,by go_cell⟩,by go_simp,by go_simp⟩ a (by simp),qAz (qAz (qAz a)),Nat.lt_of_lt_of_le (by simp) a.size⟩
theorem lsum_any (a A b B:Int)(w:World)(s:0<=a/\a<=A/\A<=18446744073709551615)(r:0<=b/\b<=B/\B<=18446744073709551615) :
  Cl 165 #[.agg #[U8 a,U8 A],.agg #[U8 b,U8 B]] w fun e n=>e=.returned (aggS (if 18446744073709551615<A+B then (0,18446744073709551615) else (a+b,A+B)))/\Bw w n:=by
 by_cases h:18446744073709551615<A+B
 ·rw [if_pos h]
  have d:(A+B) / 18446744073709551616=1:=by omega
  have f:Hid (∀ w,(callFunc 172 #[U8 A,U8 B,U8 0]).run Tryz.prog w=.ok (.value (.tuple #[U8 ((A+B)%18446744073709551616),U8 1])) w):=fun w=>by rw [add64_any A B (by omega) (by omega),d]
  go_enter Tryz.func165,Tryz.ntmps165
  go_wp2_with (first|simp only [f.out]|(go_at_call 133;go_must (refine (qBw _).mono ?_);rintro e u ⟨rfl,c⟩;go_must (obtain ⟨⟨⟨k,o⟩,z,E⟩,i,D⟩:=third c;have g:Hid _:=qAk (x:=U8 0) (y:=U8 18446744073709551615) k o;clear c)))
  refine bodyPost_ret (v:=aggS (0,18446744073709551615)) ?_ rfl ⟨rfl,qAa (qAa i (by omega)) (by omega)⟩;rw [qAm rfl]
  simp [asAddr,Result.andThen]
  rw [qAc g.out.1 g.out.2]
 ·rw [if_neg h]
  have d:(A+B) / 18446744073709551616=0:=by omega
  have l:(A+B)%18446744073709551616=A+B:=by omega
  have f:Hid (∀ w,(callFunc 172 #[U8 A,U8 B,U8 0]).run Tryz.prog w=.ok (.value (.tuple #[U8 (A+B),U8 0])) w):=fun w=>by rw [add64_any A B (by omega) (by omega),d,l]
  go_enter Tryz.func165,Tryz.ntmps165
  go_wp2_with (first|simp only [f.out])
  refine bodyPost_ret (v:=aggS (a+b,A+B)) ?_ rfl ⟨rfl,by go_grown⟩;rw [qAm rfl]
  simp [asAddr,Result.andThen]
  rw [qAc (a:=a+b) (A:=A+B)]
  all_goals go_cell
theorem ldiff_any (a A b B:Int)(w:World)(n:0<=a/\a<=A/\A<=18446744073709551615)(l:0<=b/\b<=B/\B<=18446744073709551615) :
  Cl 166 #[.agg #[U8 a,U8 A],.agg #[U8 b,U8 B]] w fun e i=>e=.returned (aggS (if a<B then (0,18446744073709551615) else (a-B,A-b)))/\Bw w i:=by
 by_cases h:a<B
 ·rw [if_pos h];go_enter Tryz.func166,Tryz.ntmps166
  go_wp2_with ((go_at_call 133;go_must (refine (qBw _).mono ?_);rintro e o ⟨rfl,c⟩;go_must (obtain ⟨⟨⟨g,k⟩,r,u⟩,f,s⟩:=third c;have d:Hid _:=qAk (x:=U8 0) (y:=U8 18446744073709551615) g k;clear c)))
  refine bodyPost_ret (v:=aggS (0,18446744073709551615)) ?_ rfl ⟨rfl,qAa (qAa f (by omega)) (by omega)⟩;rw [qAm rfl]
  simp [asAddr,Result.andThen]
  rw [qAc d.out.1 d.out.2]
 ·rw [if_neg h];go_enter Tryz.func166,Tryz.ntmps166;go_wp2;refine bodyPost_ret (v:=aggS (a-B,A-b)) ?_ rfl ⟨rfl,by go_grown⟩;rw [qAm rfl]
  simp [asAddr,Result.andThen]
  rw [qAc (a:=a-B) (A:=A-b)]
  all_goals go_cell
theorem lprod_any (a A b B:Int)(w:World)(n:0<=a/\a<=A/\A<=18446744073709551615)(i:0<=b/\b<=B/\B<=18446744073709551615) :
  Cl 167 #[.agg #[U8 a,U8 A],.agg #[U8 b,U8 B]] w fun e c=>e=.returned (aggS (if 18446744073709551615<A*B then (0,18446744073709551615) else (a*b,A*B)))/\Bw w c:=by
 obtain ⟨X,rfl⟩:=Int.eq_ofNat_of_zero_le (show 0<=A by omega);obtain ⟨Y,rfl⟩:=Int.eq_ofNat_of_zero_le (show 0<=B by omega)
 have f:((X*Y:Nat):Int)=(X:Int)*Y:=by simp
 by_cases h:18446744073709551615<(X:Int)*Y
 ·rw [if_pos h];obtain ⟨q,r⟩:∃ q:Nat,Hid (X*Y / 18446744073709551616=q):=⟨_,rfl⟩
  have I:0<q:=by have:=r.out;omega
  have G:((q:Int)==0)=false:=by simp;omega
  have g:Hid (∀ w,Cl 173 #[U8 X,U8 Y] w fun e c=>e=.returned (.tuple #[U8 (q:Int),U8 ((X*Y%18446744073709551616:Nat):Int)])/\c=w):=fun w=>by rw [<- r.out];exact Tryz.bits_Mul64 X Y (by omega) (by omega) w
  clear f h;go_enter Tryz.func167,Tryz.ntmps167
  go_wp2_with (first|(go_at_call 173;go_must (refine (g.out _).mono ?_);rintro e c ⟨rfl,rfl⟩)|(go_at_call 133;go_must (refine (qBw _).mono ?_);rintro e M ⟨rfl,d⟩;go_must (obtain ⟨⟨⟨D,E⟩,K,L⟩,k,J⟩:=third d;have l:Hid _:=qAk (x:=U8 0) (y:=U8 18446744073709551615) D E;clear d)))
  refine bodyPost_ret (v:=aggS (0,18446744073709551615)) ?_ rfl ⟨rfl,qAa (qAa k (by omega)) (by omega)⟩;rw [qAm rfl]
  simp [asAddr,Result.andThen]
  rw [qAc l.out.1 l.out.2]
 ·rw [if_neg h];have F:a*b<=(X:Int)*Y:=Int.mul_le_mul n.2.1 i.2.1 i.1 (by omega);have g0:0<=a*b:=Int.mul_nonneg n.1 i.1
  have s:X*Y / 18446744073709551616=0:=by omega
  have u:((X*Y%18446744073709551616:Nat):Int)=(X:Int)*Y:=by omega
  obtain ⟨P,o⟩:∃ P,Hid (P=(X:Int)*Y):=⟨_,rfl⟩;have N:IntKind.u64.wrap (a*b)=a*b:=wrap_in g0 (by omega)
  have g:Hid (∀ w,Cl 173 #[U8 X,U8 Y] w fun e c=>e=.returned (.tuple #[U8 0,U8 P])/\c=w):=fun w=>by
   have z:=Tryz.bits_Mul64 X Y (by omega) (by omega) w;rw [s,u,<- o.out] at z;exact z
  rw [<- o.out];clear s u f h F;go_enter Tryz.func167,Tryz.ntmps167
  go_wp2_with (go_at_call 173;go_must (refine (g.out _).mono ?_);rintro e c ⟨rfl,rfl⟩)
  refine bodyPost_ret (v:=aggS (a*b,P)) ?_ rfl ⟨rfl,by go_grown⟩;rw [qAm rfl]
  simp [asAddr,Result.andThen]
  rw [qAc (a:=a*b) (A:=P)]
  all_goals go_cell
theorem lquo_any (a A b B:Int)(w:World)(l:0<=a/\a<=A/\A<=18446744073709551615)(k:0<=b/\b<=B/\B<=18446744073709551615) :
  Cl 168 #[.agg #[U8 a,U8 A],.agg #[U8 b,U8 B]] w fun e d=>e=.returned (aggS (if b=0 then (0,A) else (a / B,A / b)))/\Bw w d:=by
 by_cases h:b=0
 ·rw [if_pos h];subst h;go_enter Tryz.func168,Tryz.ntmps168;go_wp2;refine bodyPost_ret (v:=aggS (0,A)) ?_ rfl ⟨rfl,by go_grown⟩;rw [qAm rfl]
  simp [asAddr,Result.andThen]
  rw [qAc (a:=0) (A:=A)]
  all_goals go_cell
 ·rw [if_neg h]
  have i:(b==0)=false:=by simpa using h
  have f:b≠0:=h
  have c:B≠0:=by omega
  have g:(B==0)=false:=by simpa using c
  go_enter Tryz.func168,Tryz.ntmps168;go_wp2;go_region;go_wp2;refine bodyPost_ret (v:=aggS (a / B,A / b)) ?_ rfl ⟨rfl,by go_grown⟩;rw [qAm rfl]
  simp [asAddr,Result.andThen]
  rw [qAc (a:=a / B) (A:=A / b)]
  all_goals go_cell
theorem lrest_any (a A b B:Int)(w:World)(i:0<=a/\a<=A/\A<=18446744073709551615)(g:0<=b/\b<=B/\B<=18446744073709551615) :
  Cl 169 #[.agg #[U8 a,U8 A],.agg #[U8 b,U8 B]] w fun e d=>e=.returned (aggS (if b=0 then (0,A) else if A<b then (a,A) else (0,min A (B-1))))/\Bw w d:=by
 by_cases h:b=0
 ·rw [if_pos h];subst h;go_enter Tryz.func169,Tryz.ntmps169;go_wp2;refine bodyPost_ret (v:=aggS (0,A)) ?_ rfl ⟨rfl,by go_grown⟩;rw [qAm rfl]
  simp [asAddr,Result.andThen]
  rw [qAc (a:=0) (A:=A)]
  all_goals go_cell
 ·rw [if_neg h]
  have f:(b==0)=false:=by simpa using h
  by_cases h2:A<b
  ·rw [if_pos h2];go_enter Tryz.func169,Tryz.ntmps169;go_wp2;refine bodyPost_ret (v:=aggS (a,A)) ?_ rfl ⟨rfl,by go_grown⟩;rw [qAm rfl]
   simp [asAddr,Result.andThen]
   rw [qAc (a:=a) (A:=A)]
   all_goals go_cell
  ·rw [if_neg h2];have k:IntKind.u64.wrap (B-1)=B-1:=wrap_in (by omega) (by omega);obtain ⟨m,c⟩:∃ m,Hid (min A (B-1)=m):=⟨_,rfl⟩;rw [c.out];go_enter Tryz.func169,Tryz.ntmps169;go_wp2;rw [c.out];refine bodyPost_ret (v:=aggS (0,m)) ?_ rfl ⟨rfl,by go_grown⟩;rw [qAm rfl]
   simp [asAddr,Result.andThen]
   rw [qAc (a:=0) (A:=m)]
   all_goals go_cell
theorem sees_one (w:World)(t:TypeId)(x X:Int)(k:Nat)(a:k=w.heap.size):SeesS (w.alloc (.cells #[U8 x,U8 X] t)) (.slice (some ⟨k,0,none⟩) 1 1) [(x,X)]:=by
 subst a;exact SeesS.lit w t [(x,X)] _ 1 rfl rfl (by simp)
theorem lone_any {r:Bool}{x X:Int}(h:Hid (r=(x==X)))(v:Value)(w:World)(c:SeesS w v [(x,X)]):Cl 153 #[v] w fun e b=>e=.returned (.bool r)/\Bw w b:=by
 have a:=lallSingle_any v [(x,X)] w c (by simp);rw [show [(x,X)].all oneS=r by rw [h.out];simp [oneS]] at a;exact a
theorem shift_fit {A P:Int}(hA:0<=A)(a:0<P)(h:A*P<=18446744073709551615):IntKind.u64.wrap (A*P)=A*P/\(IntKind.u64.wrap (A*P) / P != A)=false:=by
 have h0:0<=A*P:=Int.mul_nonneg hA (by omega);have e:=wrap_in h0 h;refine ⟨e,?_⟩;rw [e,Int.mul_ediv_cancel _ (by omega)]
 simp
theorem shift_lost {A P:Int}(hA:0<=A)(a:0<P)(h:¬ A*P<=18446744073709551615):(IntKind.u64.wrap (A*P) / P != A)=true:=by
 have h0:IntKind.u64.wrap (A*P)<A*P:=by rw [IntKind.wrap_u64];omega
 have b:IntKind.u64.wrap (A*P) / P<A:=Int.ediv_lt_of_lt_mul a h0
 simp
 omega
theorem third4 {w b:World}{c f d:Obj}(a:Below ((((w.alloc c).alloc f).alloc (spO 0 0)).alloc d).heap.size ((((w.alloc c).alloc f).alloc (spO 0 0)).alloc d) b):Bx b (w.heap.size+1+1) 0 0/\Bw w b/\w.heap.size+1+1<b.heap.size:=by
 refine ⟨Bx.below ⟨⟨by go_cell,by go_cell⟩,by go_simp,by go_simp⟩ a (by simp),qAz (qAz (qAz (qAz a))),Nat.lt_of_lt_of_le (by simp) a.size⟩
theorem first4 {w d:World}{g f c:Obj}{a A:Int}(b:Below ((((w.alloc (spO a A)).alloc g).alloc f).alloc c).heap.size ((((w.alloc (spO a A)).alloc g).alloc f).alloc c) d):Bx d w.heap.size a A:=by
 refine Bx.below ⟨⟨by go_cell,by go_cell⟩,by go_simp,by go_simp⟩ b (by simp;omega)
theorem lraised_wide (a A b B:Int)(w:World)(u:(b==B)=false) :
  Cl 171 #[.agg #[U8 a,U8 A],.agg #[U8 b,U8 B]] w fun e D=>e=.returned (aggS (0,18446744073709551615))/\Bw w D:=by
 have r:Hid (false=(b==B)):=u.symm;go_enter Tryz.func171,Tryz.ntmps171
 go_wp2_with (first
  | (go_at_call 153;go_must (refine (lone_any r _ _ (sees_one _ _ b B _ (by simp))).mono ?_);rintro e s ⟨rfl,f⟩;go_must (obtain ⟨l,d,i⟩:=third4 f;have z:Hid (Bx s (w.heap.size+1+1) 0 0):=l;clear f l))
  | (go_at_call 133;go_must (refine (qBw _).mono ?_);rintro e o ⟨rfl,c⟩;go_must (obtain ⟨⟨n,E⟩,G,I⟩:=z.out.below c i;have g:Bw w o:=d.trans (c.mono d.size);have F:=Nat.lt_of_lt_of_le i c.size;have k:Hid _:=qAk (x:=U8 0) (y:=U8 18446744073709551615) n E;clear c d i)))
 refine bodyPost_ret (v:=aggS (0,18446744073709551615)) ?_ rfl ⟨rfl,qAa (qAa g (by omega)) (by omega)⟩;rw [qAm rfl]
 simp [asAddr,Result.andThen]
 rw [qAc k.out.1 k.out.2]
theorem lraised_one (a A b:Int)(w:World)(E:0<=a/\a<=A/\A<=18446744073709551615)(U:0<=b/\b<=18446744073709551615) :
  Cl 171 #[.agg #[U8 a,U8 A],.agg #[U8 b,U8 b]] w fun e Q=>e=.returned (aggS (if A*2 ^ min b.toNat 64<=18446744073709551615 then (a*2 ^ min b.toNat 64,A*2 ^ min b.toNat 64) else (0,18446744073709551615)))/\Bw w Q:=by
 have G:Hid (true=(b==b)):=by show _=_;simp
 have i:=qBr (min b.toNat 64)
 by_cases h:A*2 ^ min b.toNat 64<=18446744073709551615
 ·rw [if_pos h];obtain ⟨L,r⟩:=shift_fit (show 0<=A by omega) i h;have F:a*2 ^ min b.toNat 64<=A*2 ^ min b.toNat 64:=Int.mul_le_mul_of_nonneg_right E.2.1 (by omega);obtain ⟨z,_⟩:=shift_fit E.1 i (Int.le_trans F h);obtain ⟨x,I⟩:∃ x,Hid (a*2 ^ min b.toNat 64=x):=⟨_,rfl⟩;obtain ⟨X,n⟩:∃ x,Hid (A*2 ^ min b.toNat 64=x):=⟨_,rfl⟩;have R:IntKind.u64.wrap (a*2 ^ min b.toNat 64)=x:=z.trans I.out;have D:IntKind.u64.wrap (A*2 ^ min b.toNat 64)=X:=L.trans n.out
  have S:(X / 2 ^ min b.toNat 64 != A)=false:=by rw [<- D];exact r
  rw [I.out,n.out];clear L z r F h i;go_enter Tryz.func171,Tryz.ntmps171
  go_wp2_with (first
   | (go_at_call 153;go_must (refine (lone_any G _ _ (sees_one _ _ b b _ (by simp))).mono ?_);rintro e K ⟨rfl,c⟩;go_must (obtain ⟨l,d,k⟩:=third4 c;obtain ⟨⟨d0,J⟩,g0,B⟩:=first4 c;obtain ⟨⟨o,s⟩,O,P⟩:=l;have g:Hid _:=qAk (x:=U8 x) (y:=U8 X) o s;clear c)))
  refine bodyPost_ret (v:=aggS (x,X)) ?_ rfl ⟨rfl,qAa (qAa d (by omega)) (by omega)⟩;rw [qAm rfl]
  simp [asAddr,Result.andThen]
  rw [qAc g.out.1 g.out.2]
 ·rw [if_neg h];have r:=shift_lost (show 0<=A by omega) i h;clear h i;go_enter Tryz.func171,Tryz.ntmps171
  go_wp2_with (first
   | (go_at_call 153;go_must (refine (lone_any G _ _ (sees_one _ _ b b _ (by simp))).mono ?_);rintro e K ⟨rfl,c⟩;go_must (obtain ⟨l,d,k⟩:=third4 c;obtain ⟨⟨d0,J⟩,g0,B⟩:=first4 c;have M:Hid (Bx K (w.heap.size+1+1) 0 0):=l;clear c l))
   | (go_at_call 133;go_must (refine (qBw _).mono ?_);rintro e N ⟨rfl,f⟩;go_must (obtain ⟨⟨o,s⟩,O,P⟩:=M.out.below f k;have u:Bw w N:=d.trans (f.mono d.size);have T:=Nat.lt_of_lt_of_le k f.size;have g:Hid _:=qAk (x:=U8 0) (y:=U8 18446744073709551615) o s;clear f d k d0 J g0 B)))
  refine bodyPost_ret (v:=aggS (0,18446744073709551615)) ?_ rfl ⟨rfl,qAa (qAa u (by omega)) (by omega)⟩;rw [qAm rfl]
  simp [asAddr,Result.andThen]
  rw [qAc g.out.1 g.out.2]
theorem lraised_any (a A b B:Int)(w:World)(d:0<=a/\a<=A/\A<=18446744073709551615)(i:0<=b/\b<=B/\B<=18446744073709551615) :
  Cl 171 #[.agg #[U8 a,U8 A],.agg #[U8 b,U8 B]] w fun e g=>e=.returned (aggS (if b=B/\A*2 ^ min b.toNat 64<=18446744073709551615 then (a*2 ^ min b.toNat 64,A*2 ^ min b.toNat 64) else (0,18446744073709551615)))/\Bw w g:=by
 by_cases h:b=B
 ·subst h;have f:=lraised_one a A b w d (by omega)

  simp only [true_and];exact f
 ·rw [if_neg (fun c=>h c.1)];exact lraised_wide a A b B w (by simpa using h)
theorem qBo {r:Bool}{x X y Y:Int}(h:Hid (r=(decide (x<=X)&&decide (y<=Y))))(v:Value)(w:World)(b:SeesS w v [(x,X),(y,Y)]):Cl 150 #[v] w fun e c=>e=.returned (.bool r)/\Bw w c:=by
 have a:=lallRight_any v [(x,X),(y,Y)] w b (by simp);rw [show [(x,X),(y,Y)].all okS=r by rw [h.out];simp [okS]] at a;exact a
theorem two_one {r:Bool}{x X y Y:Int}(h:Hid (r=((x==X)&&(y==Y))))(v:Value)(w:World)(b:SeesS w v [(x,X),(y,Y)]):Cl 153 #[v] w fun e c=>e=.returned (.bool r)/\Bw w c:=by
 have a:=lallSingle_any v [(x,X),(y,Y)] w b (by simp);rw [show [(x,X),(y,Y)].all oneS=r by rw [h.out];simp [oneS]] at a;exact a
def B3 (w:World) (n:Nat) (a A b B:Int):Prop:=Bx w n a A/\Bx w (n+1) b B/\Bx w (n+1+1) 0 0/\n+1+1<w.heap.size
theorem b3_new (w:World)(a A b B:Int):B3 (((w.alloc (spO a A)).alloc (spO b B)).alloc (spO 0 0)) w.heap.size a A b B :=
 ⟨⟨⟨by go_cell,by go_cell⟩,by go_simp,by go_simp⟩,⟨⟨by go_cell,by go_cell⟩,by go_simp,by go_simp⟩,⟨⟨by go_cell,by go_cell⟩,by go_simp,by go_simp⟩,by simp⟩
theorem B3.al {w:World}{n:Nat}{a A b B:Int}(h:B3 w n a A b B)(o:Obj):B3 (w.alloc o) n a A b B :=
 ⟨h.1.al (by have:=h.2.2.2;omega),h.2.1.al (by have:=h.2.2.2;omega),h.2.2.1.al h.2.2.2,by have:=h.2.2.2;simp;omega⟩
theorem B3.below {w d:World}{n:Nat}{a A b B:Int}(h:B3 w n a A b B)(c:Bw w d):B3 d n a A b B :=
 ⟨h.1.below c (by have:=h.2.2.2;omega),h.2.1.below c (by have:=h.2.2.2;omega),h.2.2.1.below c h.2.2.2,by have:=h.2.2.2;have:=c.size;omega⟩
theorem B3.next {w c:World}{n:Nat}{a A b B:Int}{o:Obj}(h:B3 w n a A b B)(d:Below (w.alloc o).heap.size (w.alloc o) c):B3 c n a A b B:=(h.al o).below d
theorem grow4 {w d:World}{b g f c:Obj}(a:Below ((((w.alloc b).alloc g).alloc f).alloc c).heap.size ((((w.alloc b).alloc g).alloc f).alloc c) d):Bw w d:=qAz (qAz (qAz (qAz a)))
theorem grow1 {B:Nat}{w a b:World}{o:Obj}(h:Below B w a)(d:B<=a.heap.size)(c:Below (a.alloc o).heap.size (a.alloc o) b):Below B w b:=h.trans ((qAz c).mono d)

theorem ldo_no1 (op:Int)(a A b B n:Int)(w:World)(g:0<=a/\a<=18446744073709551615)(d:0<=b/\b<=18446744073709551615)(i:Hid (false=isOp op))(f:Hid (n=doL op a b)) :
  Cl 157 #[I4 op,.agg #[U8 a,U8 A],.agg #[U8 b,U8 B]] w fun e c=>e=.returned (.tuple #[.agg #[U8 0,U8 0],.bool false])/\Bw w c:=by
 go_enter Tryz.func157,Tryz.ntmps157
 go_wp2_with (first
  | (go_at_call 59;go_must (refine (do_as f i _ g d).mono ?_);rintro e c ⟨rfl,rfl⟩))
 refine bodyPost_ret (v:=.tuple #[.agg #[U8 0,U8 0],.bool false]) ?_ rfl ⟨rfl,by go_grown⟩;rw [results_cell_tmp rfl]
 simp [asAddr,Result.andThen]
 rw [qAc (a:=0) (A:=0)]
 all_goals go_cell
theorem ldo_no2 (op:Int)(a A b B n:Int)(w:World)(o:0<=a/\a<=18446744073709551615)(u:0<=b/\b<=18446744073709551615)(s:Hid (true=isOp op))(z:Hid (n=doL op a b))(k:Hid (false=(decide (a<=A)&&decide (b<=B)))) :
  Cl 157 #[I4 op,.agg #[U8 a,U8 A],.agg #[U8 b,U8 B]] w fun e i=>e=.returned (.tuple #[.agg #[U8 0,U8 0],.bool false])/\Bw w i:=by
 go_enter Tryz.func157,Tryz.ntmps157
 go_wp2_with (first
  | (go_at_call 59;go_must (refine (do_as z s _ o u).mono ?_);rintro e i ⟨rfl,rfl⟩)
  | (go_at_call 150;go_must (refine (qBo k _ _ (qAt _ _ a A b B _ (by simp))).mono ?_);rintro e d ⟨rfl,c⟩;go_must (have l:Hid (B3 d w.heap.size a A b B):=(b3_new w a A b B).next c;obtain ⟨⟨⟨F,I⟩,_,_⟩,⟨⟨d0,L⟩,_,_⟩,⟨⟨r0,r⟩,J,K⟩,G⟩:=l.out;have E:w.heap.size+1<d.heap.size:=(by omega);have D:w.heap.size<d.heap.size:=(by omega);have f:Bw w d:=grow4 c;clear c;have g:Hid _:=qAk (x:=U8 0) (y:=U8 0) r0 r)))
 refine bodyPost_ret (v:=.tuple #[.agg #[U8 0,U8 0],.bool false]) ?_ rfl ⟨rfl,qAa (qAa f (by omega)) (by omega)⟩;rw [results_cell_tmp rfl]
 simp [asAddr,Result.andThen]
 rw [qAc g.out.1 g.out.2]
theorem ldo_one (op:Int)(a A b B n:Int)(w:World)(P:0<=a/\a<=18446744073709551615)(T:0<=b/\b<=18446744073709551615)(S:Hid (true=isOp op))(U:Hid (n=doL op a b))(O:Hid (true=(decide (a<=A)&&decide (b<=B))))(R:Hid (true=((a==A)&&(b==B)))) :
  Cl 157 #[I4 op,.agg #[U8 a,U8 A],.agg #[U8 b,U8 B]] w fun e N=>e=.returned (.tuple #[.agg #[U8 n,U8 n],.bool true])/\Bw w N:=by
 go_enter Tryz.func157,Tryz.ntmps157
 go_wp2_with (first
  | (go_at_call 59;go_must (refine (do_as U S _ P T).mono ?_);rintro e N ⟨rfl,rfl⟩)
  | (go_at_call 150;go_must (refine (qBo O _ _ (qAt _ _ a A b B _ (by simp))).mono ?_);rintro e F ⟨rfl,f⟩;go_must (have K:Hid (B3 F w.heap.size a A b B):=(b3_new w a A b B).next f;obtain ⟨⟨⟨o,s⟩,_,_⟩,⟨⟨d0,E⟩,_,_⟩,⟨⟨r0,k⟩,z,D⟩,r⟩:=K.out;have d:w.heap.size+1<F.heap.size:=(by omega);have c:w.heap.size<F.heap.size:=(by omega);have I:Bw w F:=grow4 f;clear f))
  | (go_at_call 153;go_must (refine (two_one R _ _ (qAt _ _ a A b B _ (by simp))).mono ?_);rintro e u ⟨rfl,g⟩;go_must (have L:Hid (B3 u w.heap.size a A b B):=K.out.next g;have i:Bw w u:=grow1 I (by omega) g;clear g I K o s d0 E r0 k z D r c d;obtain ⟨⟨⟨o,s⟩,_,_⟩,⟨⟨d0,E⟩,_,_⟩,⟨⟨r0,k⟩,z,D⟩,r⟩:=L.out;have d:w.heap.size+1<u.heap.size:=(by omega);have c:w.heap.size<u.heap.size:=(by omega)))
  | (go_at_call 134;go_must (refine (qCz n _).mono ?_);rintro e G ⟨rfl,l⟩;go_must (have Q:Hid (B3 G w.heap.size a A b B):=L.out.below l;have J:Bw w G:=i.trans (l.mono (by omega));clear l i L o s d0 E r0 k z D r c d;obtain ⟨⟨⟨o,s⟩,_,_⟩,⟨⟨d0,E⟩,_,_⟩,⟨⟨r0,k⟩,z,D⟩,r⟩:=Q.out;have d:w.heap.size+1<G.heap.size:=(by omega);have c:w.heap.size<G.heap.size:=(by omega);have M:Hid _:=qAk (x:=U8 n) (y:=U8 n) r0 k)))
 refine bodyPost_ret (v:=.tuple #[.agg #[U8 n,U8 n],.bool true]) ?_ rfl ⟨rfl,qAa (qAa J (by omega)) (by omega)⟩;rw [results_cell_tmp rfl]
 simp [asAddr,Result.andThen]
 rw [qAc M.out.1 M.out.2]
theorem ldo_sum (a A b B n:Int)(w:World)(Q:0<=a/\a<=18446744073709551615)(U:0<=b/\b<=18446744073709551615)(T:Hid (true=isOp 1))(V:Hid (n=doL 1 a b))(P:Hid (true=(decide (a<=A)&&decide (b<=B))))(S:Hid (false=((a==A)&&(b==B))))(p q:Int)(O:Hid (∀ w,Cl 165 #[.agg #[U8 a,U8 A],.agg #[U8 b,U8 B]] w fun e G=>e=.returned (.agg #[U8 p,U8 q])/\Bw w G)) :
  Cl 157 #[I4 1,.agg #[U8 a,U8 A],.agg #[U8 b,U8 B]] w fun e G=>e=.returned (.tuple #[.agg #[U8 p,U8 q],.bool true])/\Bw w G:=by
 go_enter Tryz.func157,Tryz.ntmps157
 go_wp2_with (first
  | (go_at_call 59;go_must (refine (do_as V T _ Q U).mono ?_);rintro e G ⟨rfl,rfl⟩)
  | (go_at_call 150;go_must (refine (qBo P _ _ (qAt _ _ a A b B _ (by simp))).mono ?_);rintro e F ⟨rfl,f⟩;go_must (have L:Hid (B3 F w.heap.size a A b B):=(b3_new w a A b B).next f;obtain ⟨⟨⟨o,s⟩,_,_⟩,⟨⟨d0,E⟩,_,_⟩,⟨⟨r0,k⟩,z,D⟩,r⟩:=L.out;have d:w.heap.size+1<F.heap.size:=(by omega);have c:w.heap.size<F.heap.size:=(by omega);have J:Bw w F:=grow4 f;clear f))
  | (go_at_call 153;go_must (refine (two_one S _ _ (qAt _ _ a A b B _ (by simp))).mono ?_);rintro e u ⟨rfl,g⟩;go_must (have M:Hid (B3 u w.heap.size a A b B):=L.out.next g;have i:Bw w u:=grow1 J (by omega) g;clear g J L o s d0 E r0 k z D r c d;obtain ⟨⟨⟨o,s⟩,_,_⟩,⟨⟨d0,E⟩,_,_⟩,⟨⟨r0,k⟩,z,D⟩,r⟩:=M.out;have d:w.heap.size+1<u.heap.size:=(by omega);have c:w.heap.size<u.heap.size:=(by omega)))
  | (go_at_call 165;go_must (refine (O.out _).mono ?_);rintro e I ⟨rfl,l⟩;go_must (have R:Hid (B3 I w.heap.size a A b B):=M.out.below l;have K:Bw w I:=i.trans (l.mono (by omega));clear l i M o s d0 E r0 k z D r c d;obtain ⟨⟨⟨o,s⟩,_,_⟩,⟨⟨d0,E⟩,_,_⟩,⟨⟨r0,k⟩,z,D⟩,r⟩:=R.out;have d:w.heap.size+1<I.heap.size:=(by omega);have c:w.heap.size<I.heap.size:=(by omega);have N:Hid _:=qAk (x:=U8 p) (y:=U8 q) r0 k)))
 refine bodyPost_ret (v:=.tuple #[.agg #[U8 p,U8 q],.bool true]) ?_ rfl ⟨rfl,qAa (qAa K (by omega)) (by omega)⟩;rw [results_cell_tmp rfl]
 simp [asAddr,Result.andThen]
 rw [qAc N.out.1 N.out.2]
theorem ldo_difference (a A b B n:Int)(w:World)(Q:0<=a/\a<=18446744073709551615)(U:0<=b/\b<=18446744073709551615)(T:Hid (true=isOp 2))(V:Hid (n=doL 2 a b))(P:Hid (true=(decide (a<=A)&&decide (b<=B))))(S:Hid (false=((a==A)&&(b==B))))(p q:Int)(O:Hid (∀ w,Cl 166 #[.agg #[U8 a,U8 A],.agg #[U8 b,U8 B]] w fun e G=>e=.returned (.agg #[U8 p,U8 q])/\Bw w G)) :
  Cl 157 #[I4 2,.agg #[U8 a,U8 A],.agg #[U8 b,U8 B]] w fun e G=>e=.returned (.tuple #[.agg #[U8 p,U8 q],.bool true])/\Bw w G:=by
 go_enter Tryz.func157,Tryz.ntmps157
 go_wp2_with (first
  | (go_at_call 59;go_must (refine (do_as V T _ Q U).mono ?_);rintro e G ⟨rfl,rfl⟩)
  | (go_at_call 150;go_must (refine (qBo P _ _ (qAt _ _ a A b B _ (by simp))).mono ?_);rintro e F ⟨rfl,f⟩;go_must (have L:Hid (B3 F w.heap.size a A b B):=(b3_new w a A b B).next f;obtain ⟨⟨⟨o,s⟩,_,_⟩,⟨⟨d0,E⟩,_,_⟩,⟨⟨r0,k⟩,z,D⟩,r⟩:=L.out;have d:w.heap.size+1<F.heap.size:=(by omega);have c:w.heap.size<F.heap.size:=(by omega);have J:Bw w F:=grow4 f;clear f))
  | (go_at_call 153;go_must (refine (two_one S _ _ (qAt _ _ a A b B _ (by simp))).mono ?_);rintro e u ⟨rfl,g⟩;go_must (have M:Hid (B3 u w.heap.size a A b B):=L.out.next g;have i:Bw w u:=grow1 J (by omega) g;clear g J L o s d0 E r0 k z D r c d;obtain ⟨⟨⟨o,s⟩,_,_⟩,⟨⟨d0,E⟩,_,_⟩,⟨⟨r0,k⟩,z,D⟩,r⟩:=M.out;have d:w.heap.size+1<u.heap.size:=(by omega);have c:w.heap.size<u.heap.size:=(by omega)))
  | (go_at_call 166;go_must (refine (O.out _).mono ?_);rintro e I ⟨rfl,l⟩;go_must (have R:Hid (B3 I w.heap.size a A b B):=M.out.below l;have K:Bw w I:=i.trans (l.mono (by omega));clear l i M o s d0 E r0 k z D r c d;obtain ⟨⟨⟨o,s⟩,_,_⟩,⟨⟨d0,E⟩,_,_⟩,⟨⟨r0,k⟩,z,D⟩,r⟩:=R.out;have d:w.heap.size+1<I.heap.size:=(by omega);have c:w.heap.size<I.heap.size:=(by omega);have N:Hid _:=qAk (x:=U8 p) (y:=U8 q) r0 k)))
 refine bodyPost_ret (v:=.tuple #[.agg #[U8 p,U8 q],.bool true]) ?_ rfl ⟨rfl,qAa (qAa K (by omega)) (by omega)⟩;rw [results_cell_tmp rfl]
 simp [asAddr,Result.andThen]
 rw [qAc N.out.1 N.out.2]
theorem ldo_product (a A b B n:Int)(w:World)(Q:0<=a/\a<=18446744073709551615)(U:0<=b/\b<=18446744073709551615)(T:Hid (true=isOp 3))(V:Hid (n=doL 3 a b))(P:Hid (true=(decide (a<=A)&&decide (b<=B))))(S:Hid (false=((a==A)&&(b==B))))(p q:Int)(O:Hid (∀ w,Cl 167 #[.agg #[U8 a,U8 A],.agg #[U8 b,U8 B]] w fun e G=>e=.returned (.agg #[U8 p,U8 q])/\Bw w G)) :
  Cl 157 #[I4 3,.agg #[U8 a,U8 A],.agg #[U8 b,U8 B]] w fun e G=>e=.returned (.tuple #[.agg #[U8 p,U8 q],.bool true])/\Bw w G:=by
 go_enter Tryz.func157,Tryz.ntmps157
 go_wp2_with (first
  | (go_at_call 59;go_must (refine (do_as V T _ Q U).mono ?_);rintro e G ⟨rfl,rfl⟩)
  | (go_at_call 150;go_must (refine (qBo P _ _ (qAt _ _ a A b B _ (by simp))).mono ?_);rintro e F ⟨rfl,f⟩;go_must (have L:Hid (B3 F w.heap.size a A b B):=(b3_new w a A b B).next f;obtain ⟨⟨⟨o,s⟩,_,_⟩,⟨⟨d0,E⟩,_,_⟩,⟨⟨r0,k⟩,z,D⟩,r⟩:=L.out;have d:w.heap.size+1<F.heap.size:=(by omega);have c:w.heap.size<F.heap.size:=(by omega);have J:Bw w F:=grow4 f;clear f))
  | (go_at_call 153;go_must (refine (two_one S _ _ (qAt _ _ a A b B _ (by simp))).mono ?_);rintro e u ⟨rfl,g⟩;go_must (have M:Hid (B3 u w.heap.size a A b B):=L.out.next g;have i:Bw w u:=grow1 J (by omega) g;clear g J L o s d0 E r0 k z D r c d;obtain ⟨⟨⟨o,s⟩,_,_⟩,⟨⟨d0,E⟩,_,_⟩,⟨⟨r0,k⟩,z,D⟩,r⟩:=M.out;have d:w.heap.size+1<u.heap.size:=(by omega);have c:w.heap.size<u.heap.size:=(by omega)))
  | (go_at_call 167;go_must (refine (O.out _).mono ?_);rintro e I ⟨rfl,l⟩;go_must (have R:Hid (B3 I w.heap.size a A b B):=M.out.below l;have K:Bw w I:=i.trans (l.mono (by omega));clear l i M o s d0 E r0 k z D r c d;obtain ⟨⟨⟨o,s⟩,_,_⟩,⟨⟨d0,E⟩,_,_⟩,⟨⟨r0,k⟩,z,D⟩,r⟩:=R.out;have d:w.heap.size+1<I.heap.size:=(by omega);have c:w.heap.size<I.heap.size:=(by omega);have N:Hid _:=qAk (x:=U8 p) (y:=U8 q) r0 k)))
 refine bodyPost_ret (v:=.tuple #[.agg #[U8 p,U8 q],.bool true]) ?_ rfl ⟨rfl,qAa (qAa K (by omega)) (by omega)⟩;rw [results_cell_tmp rfl]
 simp [asAddr,Result.andThen]
 rw [qAc N.out.1 N.out.2]
theorem ldo_quotient (a A b B n:Int)(w:World)(Q:0<=a/\a<=18446744073709551615)(U:0<=b/\b<=18446744073709551615)(T:Hid (true=isOp 4))(V:Hid (n=doL 4 a b))(P:Hid (true=(decide (a<=A)&&decide (b<=B))))(S:Hid (false=((a==A)&&(b==B))))(p q:Int)(O:Hid (∀ w,Cl 168 #[.agg #[U8 a,U8 A],.agg #[U8 b,U8 B]] w fun e G=>e=.returned (.agg #[U8 p,U8 q])/\Bw w G)) :
  Cl 157 #[I4 4,.agg #[U8 a,U8 A],.agg #[U8 b,U8 B]] w fun e G=>e=.returned (.tuple #[.agg #[U8 p,U8 q],.bool true])/\Bw w G:=by
 go_enter Tryz.func157,Tryz.ntmps157
 go_wp2_with (first
  | (go_at_call 59;go_must (refine (do_as V T _ Q U).mono ?_);rintro e G ⟨rfl,rfl⟩)
  | (go_at_call 150;go_must (refine (qBo P _ _ (qAt _ _ a A b B _ (by simp))).mono ?_);rintro e F ⟨rfl,f⟩;go_must (have L:Hid (B3 F w.heap.size a A b B):=(b3_new w a A b B).next f;obtain ⟨⟨⟨o,s⟩,_,_⟩,⟨⟨d0,E⟩,_,_⟩,⟨⟨r0,k⟩,z,D⟩,r⟩:=L.out;have d:w.heap.size+1<F.heap.size:=(by omega);have c:w.heap.size<F.heap.size:=(by omega);have J:Bw w F:=grow4 f;clear f))
  | (go_at_call 153;go_must (refine (two_one S _ _ (qAt _ _ a A b B _ (by simp))).mono ?_);rintro e u ⟨rfl,g⟩;go_must (have M:Hid (B3 u w.heap.size a A b B):=L.out.next g;have i:Bw w u:=grow1 J (by omega) g;clear g J L o s d0 E r0 k z D r c d;obtain ⟨⟨⟨o,s⟩,_,_⟩,⟨⟨d0,E⟩,_,_⟩,⟨⟨r0,k⟩,z,D⟩,r⟩:=M.out;have d:w.heap.size+1<u.heap.size:=(by omega);have c:w.heap.size<u.heap.size:=(by omega)))
  | (go_at_call 168;go_must (refine (O.out _).mono ?_);rintro e I ⟨rfl,l⟩;go_must (have R:Hid (B3 I w.heap.size a A b B):=M.out.below l;have K:Bw w I:=i.trans (l.mono (by omega));clear l i M o s d0 E r0 k z D r c d;obtain ⟨⟨⟨o,s⟩,_,_⟩,⟨⟨d0,E⟩,_,_⟩,⟨⟨r0,k⟩,z,D⟩,r⟩:=R.out;have d:w.heap.size+1<I.heap.size:=(by omega);have c:w.heap.size<I.heap.size:=(by omega);have N:Hid _:=qAk (x:=U8 p) (y:=U8 q) r0 k)))
 refine bodyPost_ret (v:=.tuple #[.agg #[U8 p,U8 q],.bool true]) ?_ rfl ⟨rfl,qAa (qAa K (by omega)) (by omega)⟩;rw [results_cell_tmp rfl]
 simp [asAddr,Result.andThen]
 rw [qAc N.out.1 N.out.2]
theorem ldo_rest (a A b B n:Int)(w:World)(Q:0<=a/\a<=18446744073709551615)(U:0<=b/\b<=18446744073709551615)(T:Hid (true=isOp 5))(V:Hid (n=doL 5 a b))(P:Hid (true=(decide (a<=A)&&decide (b<=B))))(S:Hid (false=((a==A)&&(b==B))))(p q:Int)(O:Hid (∀ w,Cl 169 #[.agg #[U8 a,U8 A],.agg #[U8 b,U8 B]] w fun e G=>e=.returned (.agg #[U8 p,U8 q])/\Bw w G)) :
  Cl 157 #[I4 5,.agg #[U8 a,U8 A],.agg #[U8 b,U8 B]] w fun e G=>e=.returned (.tuple #[.agg #[U8 p,U8 q],.bool true])/\Bw w G:=by
 go_enter Tryz.func157,Tryz.ntmps157
 go_wp2_with (first
  | (go_at_call 59;go_must (refine (do_as V T _ Q U).mono ?_);rintro e G ⟨rfl,rfl⟩)
  | (go_at_call 150;go_must (refine (qBo P _ _ (qAt _ _ a A b B _ (by simp))).mono ?_);rintro e F ⟨rfl,f⟩;go_must (have L:Hid (B3 F w.heap.size a A b B):=(b3_new w a A b B).next f;obtain ⟨⟨⟨o,s⟩,_,_⟩,⟨⟨d0,E⟩,_,_⟩,⟨⟨r0,k⟩,z,D⟩,r⟩:=L.out;have d:w.heap.size+1<F.heap.size:=(by omega);have c:w.heap.size<F.heap.size:=(by omega);have J:Bw w F:=grow4 f;clear f))
  | (go_at_call 153;go_must (refine (two_one S _ _ (qAt _ _ a A b B _ (by simp))).mono ?_);rintro e u ⟨rfl,g⟩;go_must (have M:Hid (B3 u w.heap.size a A b B):=L.out.next g;have i:Bw w u:=grow1 J (by omega) g;clear g J L o s d0 E r0 k z D r c d;obtain ⟨⟨⟨o,s⟩,_,_⟩,⟨⟨d0,E⟩,_,_⟩,⟨⟨r0,k⟩,z,D⟩,r⟩:=M.out;have d:w.heap.size+1<u.heap.size:=(by omega);have c:w.heap.size<u.heap.size:=(by omega)))
  | (go_at_call 169;go_must (refine (O.out _).mono ?_);rintro e I ⟨rfl,l⟩;go_must (have R:Hid (B3 I w.heap.size a A b B):=M.out.below l;have K:Bw w I:=i.trans (l.mono (by omega));clear l i M o s d0 E r0 k z D r c d;obtain ⟨⟨⟨o,s⟩,_,_⟩,⟨⟨d0,E⟩,_,_⟩,⟨⟨r0,k⟩,z,D⟩,r⟩:=R.out;have d:w.heap.size+1<I.heap.size:=(by omega);have c:w.heap.size<I.heap.size:=(by omega);have N:Hid _:=qAk (x:=U8 p) (y:=U8 q) r0 k)))
 refine bodyPost_ret (v:=.tuple #[.agg #[U8 p,U8 q],.bool true]) ?_ rfl ⟨rfl,qAa (qAa K (by omega)) (by omega)⟩;rw [results_cell_tmp rfl]
 simp [asAddr,Result.andThen]
 rw [qAc N.out.1 N.out.2]
theorem ldo_raised (a A b B n:Int)(w:World)(Q:0<=a/\a<=18446744073709551615)(U:0<=b/\b<=18446744073709551615)(T:Hid (true=isOp 9))(V:Hid (n=doL 9 a b))(P:Hid (true=(decide (a<=A)&&decide (b<=B))))(S:Hid (false=((a==A)&&(b==B))))(p q:Int)(O:Hid (∀ w,Cl 171 #[.agg #[U8 a,U8 A],.agg #[U8 b,U8 B]] w fun e G=>e=.returned (.agg #[U8 p,U8 q])/\Bw w G)) :
  Cl 157 #[I4 9,.agg #[U8 a,U8 A],.agg #[U8 b,U8 B]] w fun e G=>e=.returned (.tuple #[.agg #[U8 p,U8 q],.bool true])/\Bw w G:=by
 go_enter Tryz.func157,Tryz.ntmps157
 go_wp2_with (first
  | (go_at_call 59;go_must (refine (do_as V T _ Q U).mono ?_);rintro e G ⟨rfl,rfl⟩)
  | (go_at_call 150;go_must (refine (qBo P _ _ (qAt _ _ a A b B _ (by simp))).mono ?_);rintro e F ⟨rfl,f⟩;go_must (have L:Hid (B3 F w.heap.size a A b B):=(b3_new w a A b B).next f;obtain ⟨⟨⟨o,s⟩,_,_⟩,⟨⟨d0,E⟩,_,_⟩,⟨⟨r0,k⟩,z,D⟩,r⟩:=L.out;have d:w.heap.size+1<F.heap.size:=(by omega);have c:w.heap.size<F.heap.size:=(by omega);have J:Bw w F:=grow4 f;clear f))
  | (go_at_call 153;go_must (refine (two_one S _ _ (qAt _ _ a A b B _ (by simp))).mono ?_);rintro e u ⟨rfl,g⟩;go_must (have M:Hid (B3 u w.heap.size a A b B):=L.out.next g;have i:Bw w u:=grow1 J (by omega) g;clear g J L o s d0 E r0 k z D r c d;obtain ⟨⟨⟨o,s⟩,_,_⟩,⟨⟨d0,E⟩,_,_⟩,⟨⟨r0,k⟩,z,D⟩,r⟩:=M.out;have d:w.heap.size+1<u.heap.size:=(by omega);have c:w.heap.size<u.heap.size:=(by omega)))
  | (go_at_call 171;go_must (refine (O.out _).mono ?_);rintro e I ⟨rfl,l⟩;go_must (have R:Hid (B3 I w.heap.size a A b B):=M.out.below l;have K:Bw w I:=i.trans (l.mono (by omega));clear l i M o s d0 E r0 k z D r c d;obtain ⟨⟨⟨o,s⟩,_,_⟩,⟨⟨d0,E⟩,_,_⟩,⟨⟨r0,k⟩,z,D⟩,r⟩:=R.out;have d:w.heap.size+1<I.heap.size:=(by omega);have c:w.heap.size<I.heap.size:=(by omega);have N:Hid _:=qAk (x:=U8 p) (y:=U8 q) r0 k)))
 refine bodyPost_ret (v:=.tuple #[.agg #[U8 p,U8 q],.bool true]) ?_ rfl ⟨rfl,qAa (qAa K (by omega)) (by omega)⟩;rw [results_cell_tmp rfl]
 simp [asAddr,Result.andThen]
 rw [qAc N.out.1 N.out.2]
theorem ldo_and (a A b B n:Int)(w:World)(L:0<=a/\a<=18446744073709551615)(O:0<=b/\b<=18446744073709551615)(N:Hid (true=isOp 6))(P:Hid (n=doL 6 a b))(K:Hid (true=(decide (a<=A)&&decide (b<=B))))(M:Hid (false=((a==A)&&(b==B)))) :
  Cl 157 #[I4 6,.agg #[U8 a,U8 A],.agg #[U8 b,U8 B]] w fun e J=>e=.returned (.tuple #[.agg #[U8 0,U8 (min A B)],.bool true])/\Bw w J:=by
 obtain ⟨m,hm⟩:∃ m,min A B=m:=⟨_,rfl⟩;rw [hm];go_enter Tryz.func157,Tryz.ntmps157
 go_wp2_with (first
  | (go_at_call 59;go_must (refine (do_as P N _ L O).mono ?_);rintro e J ⟨rfl,rfl⟩)
  | (go_at_call 150;go_must (refine (qBo K _ _ (qAt _ _ a A b B _ (by simp))).mono ?_);rintro e g ⟨rfl,c⟩;go_must (have o:Hid (B3 g w.heap.size a A b B):=(b3_new w a A b B).next c;obtain ⟨⟨⟨u,D⟩,_,_⟩,⟨⟨d0,I⟩,_,_⟩,⟨⟨r0,s⟩,F,G⟩,z⟩:=o.out;have l:w.heap.size+1<g.heap.size:=(by omega);have i:w.heap.size<g.heap.size:=(by omega);have k:Bw w g:=grow4 c;clear c))
  | (go_at_call 153;go_must (refine (two_one M _ _ (qAt _ _ a A b B _ (by simp))).mono ?_);rintro e f ⟨rfl,d⟩;go_must (have Q:Hid (B3 f w.heap.size a A b B):=o.out.next d;have r:Bw w f:=grow1 k (by omega) d;clear d k o u D d0 I r0 s F G z i l;obtain ⟨⟨⟨u,D⟩,_,_⟩,⟨⟨d0,I⟩,_,_⟩,⟨⟨r0,s⟩,F,G⟩,z⟩:=Q.out;have l:w.heap.size+1<f.heap.size:=(by omega);have i:w.heap.size<f.heap.size:=(by omega);have E:Hid _:=qAk (x:=U8 0) (y:=U8 m) r0 s)))
 refine bodyPost_ret (v:=.tuple #[.agg #[U8 0,U8 m],.bool true]) ?_ rfl ⟨rfl,qAa (qAa r (by omega)) (by omega)⟩;rw [results_cell_tmp rfl]
 simp [asAddr,Result.andThen]
 rw [qAc E.out.1 E.out.2]
theorem ldo_xor (a A b B n:Int)(w:World)(O:0<=a/\a<=18446744073709551615)(R:0<=b/\b<=18446744073709551615)(Q:Hid (true=isOp 8))(S:Hid (n=doL 8 a b))(M:Hid (true=(decide (a<=A)&&decide (b<=B))))(P:Hid (false=((a==A)&&(b==B))))(hA:0<=A/\A<=18446744073709551615)(N:0<=B/\B<=18446744073709551615) :
  Cl 157 #[I4 8,.agg #[U8 a,U8 A],.agg #[U8 b,U8 B]] w fun e f=>e=.returned (.tuple #[.agg #[U8 0,U8 (formL (max A B))],.bool true])/\Bw w f:=by
 obtain ⟨m,F⟩:∃ m,Hid (formL (max A B)=m):=⟨_,rfl⟩;rw [F.out]
 have L:Hid (∀ w,Cl 170 #[U8 A,U8 B] w fun e f=>e=.returned (U8 m)/\w=f):=fun w=>by rw [<- F.out];exact lones_any A B w hA N
 go_enter Tryz.func157,Tryz.ntmps157
 go_wp2_with (first
  | (go_at_call 59;go_must (refine (do_as S Q _ O R).mono ?_);rintro e f ⟨rfl,rfl⟩)
  | (go_at_call 150;go_must (refine (qBo M _ _ (qAt _ _ a A b B _ (by simp))).mono ?_);rintro e i ⟨rfl,c⟩;go_must (have r:Hid (B3 i w.heap.size a A b B):=(b3_new w a A b B).next c;obtain ⟨⟨⟨z,E⟩,_,_⟩,⟨⟨d0,K⟩,_,_⟩,⟨⟨r0,u⟩,I,J⟩,D⟩:=r.out;have o:w.heap.size+1<i.heap.size:=(by omega);have k:w.heap.size<i.heap.size:=(by omega);have l:Bw w i:=grow4 c;clear c))
  | (go_at_call 153;go_must (refine (two_one P _ _ (qAt _ _ a A b B _ (by simp))).mono ?_);rintro e g ⟨rfl,d⟩;go_must (have T:Hid (B3 g w.heap.size a A b B):=r.out.next d;have s:Bw w g:=grow1 l (by omega) d;clear d l r z E d0 K r0 u I J D k o;obtain ⟨⟨⟨z,E⟩,_,_⟩,⟨⟨d0,K⟩,_,_⟩,⟨⟨r0,u⟩,I,J⟩,D⟩:=T.out;have o:w.heap.size+1<g.heap.size:=(by omega);have k:w.heap.size<g.heap.size:=(by omega);have G:Hid _:=qAk (x:=U8 0) (y:=U8 m) r0 u))
  | (go_at_call 170;go_must (refine (L.out _).mono ?_);rintro e f ⟨rfl,rfl⟩))
 refine bodyPost_ret (v:=.tuple #[.agg #[U8 0,U8 m],.bool true]) ?_ rfl ⟨rfl,qAa (qAa s (by omega)) (by omega)⟩;rw [results_cell_tmp rfl]
 simp [asAddr,Result.andThen]
 rw [qAc G.out.1 G.out.2]
theorem ldo_shr (a A b B n:Int)(w:World)(L:0<=a/\a<=18446744073709551615)(O:0<=b/\b<=18446744073709551615)(N:Hid (true=isOp 10))(P:Hid (n=doL 10 a b))(K:Hid (true=(decide (a<=A)&&decide (b<=B))))(M:Hid (false=((a==A)&&(b==B))))(hA:0<=A/\A<=18446744073709551615)(R:0<=B/\B<=18446744073709551615) :
  Cl 157 #[I4 10,.agg #[U8 a,U8 A],.agg #[U8 b,U8 B]] w fun e J=>e=.returned (.tuple #[.agg #[U8 (a / 2 ^ min B.toNat 64),U8 (A / 2 ^ min b.toNat 64)],.bool true])/\Bw w J:=by
 go_enter Tryz.func157,Tryz.ntmps157
 go_wp2_with (first
  | (go_at_call 59;go_must (refine (do_as P N _ L O).mono ?_);rintro e J ⟨rfl,rfl⟩)
  | (go_at_call 150;go_must (refine (qBo K _ _ (qAt _ _ a A b B _ (by simp))).mono ?_);rintro e g ⟨rfl,c⟩;go_must (have o:Hid (B3 g w.heap.size a A b B):=(b3_new w a A b B).next c;obtain ⟨⟨⟨u,D⟩,_,_⟩,⟨⟨d0,I⟩,_,_⟩,⟨⟨r0,s⟩,F,G⟩,z⟩:=o.out;have l:w.heap.size+1<g.heap.size:=(by omega);have i:w.heap.size<g.heap.size:=(by omega);have k:Bw w g:=grow4 c;clear c))
  | (go_at_call 153;go_must (refine (two_one M _ _ (qAt _ _ a A b B _ (by simp))).mono ?_);rintro e f ⟨rfl,d⟩;go_must (have Q:Hid (B3 f w.heap.size a A b B):=o.out.next d;have r:Bw w f:=grow1 k (by omega) d;clear d k o u D d0 I r0 s F G z i l;obtain ⟨⟨⟨u,D⟩,_,_⟩,⟨⟨d0,I⟩,_,_⟩,⟨⟨r0,s⟩,F,G⟩,z⟩:=Q.out;have l:w.heap.size+1<f.heap.size:=(by omega);have i:w.heap.size<f.heap.size:=(by omega);have E:Hid _:=qAk (x:=U8 (a / 2 ^ min B.toNat 64)) (y:=U8 (A / 2 ^ min b.toNat 64)) r0 s)))
 refine bodyPost_ret (v:=.tuple #[.agg #[U8 (a / 2 ^ min B.toNat 64),U8 (A / 2 ^ min b.toNat 64)],.bool true]) ?_ rfl ⟨rfl,qAa (qAa r (by omega)) (by omega)⟩;rw [results_cell_tmp rfl]
 simp [asAddr,Result.andThen]
 rw [qAc E.out.1 E.out.2]
theorem ldo_or (a A b B n:Int)(w:World)(R:0<=a/\a<=18446744073709551615)(U:0<=b/\b<=18446744073709551615)(T:Hid (true=isOp 7))(V:Hid (n=doL 7 a b))(N:Hid (true=(decide (a<=A)&&decide (b<=B))))(S:Hid (false=((a==A)&&(b==B))))(hA:0<=A/\A<=18446744073709551615)(O:0<=B/\B<=18446744073709551615) :
  Cl 157 #[I4 7,.agg #[U8 a,U8 A],.agg #[U8 b,U8 B]] w fun e c=>e=.returned (.tuple #[.agg #[U8 (max a b),U8 (formL (max A B))],.bool true])/\Bw w c:=by
 obtain ⟨Y,G⟩:∃ m,Hid (formL (max A B)=m):=⟨_,rfl⟩;rw [G.out]
 have M:Hid (∀ w,Cl 170 #[U8 A,U8 B] w fun e c=>e=.returned (U8 Y)/\w=c):=fun w=>by rw [<- G.out];exact lones_any A B w hA O
 obtain ⟨Q,P⟩:∃ Q,max a b=Q:=⟨_,rfl⟩;rw [P];go_enter Tryz.func157,Tryz.ntmps157
 go_wp2_with (first
  | (go_at_call 59;go_must (refine (do_as V T _ R U).mono ?_);rintro e c ⟨rfl,rfl⟩)
  | (go_at_call 150;go_must (refine (qBo N _ _ (qAt _ _ a A b B _ (by simp))).mono ?_);rintro e o ⟨rfl,f⟩;go_must (have z:Hid (B3 o w.heap.size a A b B):=(b3_new w a A b B).next f;obtain ⟨⟨⟨i,k⟩,_,_⟩,⟨⟨d0,l⟩,_,_⟩,⟨⟨r0,E⟩,J,K⟩,F⟩:=z.out;have u:w.heap.size+1<o.heap.size:=(by omega);have r:w.heap.size<o.heap.size:=(by omega);have s:Bw w o:=grow4 f;clear f))
  | (go_at_call 153;go_must (refine (two_one S _ _ (qAt _ _ a A b B _ (by simp))).mono ?_);rintro e d ⟨rfl,g⟩;go_must (have X:Hid (B3 d w.heap.size a A b B):=z.out.next g;have D:Bw w d:=grow1 s (by omega) g;clear g s z i k d0 l r0 E J K F r u;obtain ⟨⟨⟨i,k⟩,_,_⟩,⟨⟨d0,l⟩,_,_⟩,⟨⟨r0,E⟩,J,K⟩,F⟩:=X.out;have u:w.heap.size+1<d.heap.size:=(by omega);have r:w.heap.size<d.heap.size:=(by omega);have I:Hid _:=qAk (x:=U8 Q) (y:=U8 Y) r0 E))
  | (go_at_call 170;fail))
 have L:d.cell? ⟨w.heap.size,0,none⟩=some (U8 a)/\d.cell? ⟨w.heap.size,1,none⟩=some (U8 A)/\d.cell? ⟨w.heap.size+1,0,none⟩=some (U8 b)/\d.cell? ⟨w.heap.size+1,1,none⟩=some (U8 B):=⟨i,k,d0,l⟩;clear i k d0 l
 go_region_held_law (fun c=>c.cell? ⟨w.heap.size,0,none⟩=some (U8 a)/\c.cell? ⟨w.heap.size,1,none⟩=some (U8 A)/\c.cell? ⟨w.heap.size+1,0,none⟩=some (U8 b)/\c.cell? ⟨w.heap.size+1,1,none⟩=some (U8 B))
  (first|assumption|((refine keep4 ?_ (by omega) (by omega);first|assumption|(refine keep4 ?_ (by omega) (by omega);assumption))))
  ((go_at_call 170;refine (M.out _).mono ?_;rintro e c ⟨rfl,rfl⟩))
 all_goals go_wp2
 all_goals refine bodyPost_ret (v:=.tuple #[.agg #[U8 Q,U8 Y],.bool true]) ?_ rfl ⟨rfl,below_dr (qAa (qAa D (by omega)) (by omega))⟩
 all_goals rw [results_cell_tmp rfl]
 all_goals simp [asAddr,Result.andThen]
 all_goals rw [qCt I.out.1 I.out.2]
theorem isOp_eq (op:Int):isOp op=decide (1<=op/\op<=10):=rfl
theorem ldo_any:KDo:=by
 intro op a A b B w g hA f s;unfold W64 at g hA f s;obtain ⟨n,d⟩:∃ n,Hid (n=doL op a b):=⟨_,rfl⟩;unfold doR
 by_cases c1:1<=op/\op<=10
 case neg=>rw [if_neg (fun h=>c1 h.1)];exact ldo_no1 op a A b B n w g f (by show _=_;rw [isOp_eq,decide_eq_false c1]) d
 have i:Hid (true=isOp op):=by show _=_;rw [isOp_eq,decide_eq_true c1]
 by_cases c2:a<=A/\b<=B
 case neg =>
  rw [if_neg (fun h=>c2 h.2)];exact ldo_no2 op a A b B n w g f i d (by show _=_;rw [<- Bool.decide_and,decide_eq_false c2])
 have k:Hid (true=(decide (a<=A)&&decide (b<=B))):=by show _=_;rw [<- Bool.decide_and,decide_eq_true c2]
 rw [if_pos ⟨c1,c2⟩]
 by_cases hs:a=A/\b=B
 ·have e:spanL op a A b B=(n,n):=by unfold spanL;rw [if_pos hs,d.out]
  rw [e];exact ldo_one op a A b B n w g f i d k (by show _=_;rw [hs.1,hs.2];simp)
 have l:Hid (false=((a==A)&&(b==B))):=by
  show _=_
  symm
  rw [Bool.eq_false_iff];intro h
  simp at h
  exact hs h
 have o:0<=a/\a<=A/\A<=18446744073709551615:=by omega
 have r:0<=b/\b<=B/\B<=18446744073709551615:=by omega
 have c:op=1∨op=2∨op=3∨op=4∨op=5∨op=6∨op=7∨op=8∨op=9∨op=10:=by omega
 rcases c with rfl|rfl|rfl|rfl|rfl|rfl|rfl|rfl|rfl|rfl
 ·have e:spanL 1 a A b B=(if 18446744073709551615<A+B then (0,18446744073709551615) else (a+b,A+B)):=by unfold spanL;rw [if_neg hs];rfl
  rw [e];exact ldo_sum a A b B n w g f i d k l _ _ (fun w=>lsum_any a A b B w o r)
 ·have e:spanL 2 a A b B=(if a<B then (0,18446744073709551615) else (a-B,A-b)):=by unfold spanL;rw [if_neg hs];rfl
  rw [e];exact ldo_difference a A b B n w g f i d k l _ _ (fun w=>ldiff_any a A b B w o r)
 ·have e:spanL 3 a A b B=(if 18446744073709551615<A*B then (0,18446744073709551615) else (a*b,A*B)):=by unfold spanL;rw [if_neg hs];rfl
  rw [e];exact ldo_product a A b B n w g f i d k l _ _ (fun w=>lprod_any a A b B w o r)
 ·have e:spanL 4 a A b B=(if b=0 then (0,A) else (a / B,A / b)):=by unfold spanL;rw [if_neg hs];rfl
  rw [e];exact ldo_quotient a A b B n w g f i d k l _ _ (fun w=>lquo_any a A b B w o r)
 ·have e:spanL 5 a A b B=(if b=0 then (0,A) else if A<b then (a,A) else (0,min A (B-1))):=by unfold spanL;rw [if_neg hs];rfl
  rw [e];exact ldo_rest a A b B n w g f i d k l _ _ (fun w=>lrest_any a A b B w o r)
 ·have e:spanL 6 a A b B=(0,min A B):=by unfold spanL;rw [if_neg hs];rfl
  rw [e];exact ldo_and a A b B n w g f i d k l
 ·have e:spanL 7 a A b B=(max a b,formL (max A B)):=by unfold spanL;rw [if_neg hs];rfl
  rw [e];exact ldo_or a A b B n w g f i d k l hA s
 ·have e:spanL 8 a A b B=(0,formL (max A B)):=by unfold spanL;rw [if_neg hs];rfl
  rw [e];exact ldo_xor a A b B n w g f i d k l hA s
 ·have e:spanL 9 a A b B=(if b=B/\A*2 ^ min b.toNat 64<=18446744073709551615 then (a*2 ^ min b.toNat 64,A*2 ^ min b.toNat 64) else (0,18446744073709551615)):=by unfold spanL;rw [if_neg hs];rfl
  rw [e];exact ldo_raised a A b B n w g f i d k l _ _ (fun w=>lraised_any a A b B w o r)
 ·have e:spanL 10 a A b B=(a / 2 ^ min B.toNat 64,A / 2 ^ min b.toNat 64):=by unfold spanL;rw [if_neg hs];rfl
  rw [e];exact ldo_shr a A b B n w g f i d k l hA s
end Go.Proofs.YtmdhljoicnommaaGreat
