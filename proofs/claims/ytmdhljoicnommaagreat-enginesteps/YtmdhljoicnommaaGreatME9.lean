/-
  A5Ref
  A5Split
  A5Do
  A5RDo
  A5RAll
  A5As
  A5RHolds
-/
import Derived.Test.YtmdhljoicnommaaGreatME0
import Derived.Test.YtmdhljoicnommaaGreatME8
namespace Go.Proofs.YtmdhljoicnommaaGreat
set_option maxHeartbeats 12800000
open Go.RowKit
set_option linter.unusedVariables false
theorem yMu (a b S C:Int)(k:Nat)(F:k<64)(d:0<=a)(B:a<18446744073709551616)(g:0<=b)(z:b<18446744073709551616)(r:0<=S)(A:S<2 ^ k)(G:0<=C)(I:C<=1)(h:S+C*2 ^ k=a%2 ^ k+b%2 ^ k) :
  ∃ S' C':Int,bits .or .u64 S (IntKind.u64.wrap (bits .and .u64 (IntKind.u64.wrap (IntKind.u64.wrap (bits .and .u64 (a / 2 ^ k) 1+bits .and .u64 (b / 2 ^ k) 1)+C)) 1*2 ^ k))=S' /\
   IntKind.u64.wrap (IntKind.u64.wrap (bits .and .u64 (a / 2 ^ k) 1+bits .and .u64 (b / 2 ^ k) 1)+C) / 2=C' /\
   0<=S'/\S'<2 ^ (k+1)/\0<=C'/\C'<=1/\S'+C'*2 ^ (k+1)=a%2 ^ (k+1)+b%2 ^ (k+1):=by
 have c:=qRz a k d B;have f:=qRz b k g z;rw [qPg c.1 c.2,qPg f.1 f.2,qUc a k d,qUc b k g,Int.pow_succ];have D:∃ x:Int,x=a / 2 ^ k%2:=⟨_,rfl⟩;have E:∃ y:Int,y=b / 2 ^ k%2:=⟨_,rfl⟩;obtain ⟨x,w⟩:=D;obtain ⟨y,n⟩:=E
 have o:x=0∨x=1:=by omega
 have l:y=0∨y=1:=by omega
 rw [<- w,<- n]
 have s:IntKind.u64.wrap (IntKind.u64.wrap (x+y)+C)=x+y+C:=by
  rw [IntKind.wrap_u64,IntKind.wrap_u64]
  omega
 rw [s,qPg (by omega) (by omega),yWu S ((x+y+C)%2) k F r A (by omega) (by omega)];have J:=qDo k;refine ⟨_,_,rfl,rfl,?_⟩
 have i:C=0∨C=1:=by omega
 clear w n s
 generalize (2:Int) ^ k=p at *
 generalize a%p=u at *
 generalize b%p=v at *
 rcases o with rfl|rfl<;>rcases l with rfl|rfl<;>rcases i with rfl|rfl<;>simp at h ⊢<;>omega

theorem qLt (a b:Int)(w:World)(A:0<=a/\a<=18446744073709551615)(u:0<=b/\b<=18446744073709551615) :
  Cl 97 #[U8 a,U8 b] w fun e z =>
   e=.returned (U8 ((a+b)%18446744073709551616))/\w=z:=by
 go_enter Tryz.func97,Tryz.ntmps97;go_wp2
 go_loop [5,6,7] (fun s c i=>∃ (k:Nat) (S C:Int),k<=64/\i=I4 k/\s=U8 S/\c=U8 C/\0<=S/\S<2 ^ k/\0<=C/\C<=1/\S+C*2 ^ k=a%2 ^ k+b%2 ^ k) (fun _ _ i=>64-(intOf i).toNat)
 case atStart=>exact ⟨0,0,0,by omega,rfl,rfl,rfl,by omega,by simp,by omega,by omega,by simp [Int.emod_one]⟩
 case round =>
  obtain ⟨k,S,C,E,rfl,rfl,rfl,n,g,l,D,h⟩:=hrel
  by_cases hlt:k<64
  ·have y:Hid (∃ d f:Int,bits .or .u64 S (IntKind.u64.wrap (bits .and .u64 (IntKind.u64.wrap (IntKind.u64.wrap (bits .and .u64 (a / 2 ^ k) 1+bits .and .u64 (b / 2 ^ k) 1)+C)) 1*2 ^ k))=d /\
    IntKind.u64.wrap (IntKind.u64.wrap (bits .and .u64 (a / 2 ^ k) 1+bits .and .u64 (b / 2 ^ k) 1)+C) / 2=f /\
    0<=d/\d<2 ^ (k+1)/\0<=f/\f<=1/\d+f*2 ^ (k+1)=a%2 ^ (k+1)+b%2 ^ (k+1)):=yMu a b S C k hlt A.1 (by omega) u.1 (by omega) n g l D h
   clear h g;go_wp2
   go_round
   case rel =>
    obtain ⟨d,f,o,B,r⟩:=y.out;exact ⟨k+1,d,f,by omega,by go_num,by rw [o],by rw [B],r⟩
   case measure=>simp [intOf];omega
  ·obtain rfl:k=64:=by omega
   have H:Hid (S=(a+b)%18446744073709551616):=by
    have e:(2:Int) ^ 64=18446744073709551616:=by decide
    rw [e] at h g
    show S=_
    omega
   clear h g;go_wp2;go_ret;exact ⟨qQl H.out,rfl⟩

theorem yVr (b:Int)(w:World)(c:0<=b/\b<=18446744073709551615) :
  Cl 97 #[U8 (bits .xor .u64 IntKind.u64.max b),U8 1] w fun e a =>
   e=.returned (U8 (-b%18446744073709551616))/\w=a:=by
 rw [yXu c.1 (by omega)];have h:=qLt (18446744073709551615-b) 1 w (by omega) (by omega)
 have e:(18446744073709551615-b+1)%18446744073709551616 = -b%18446744073709551616:=by omega
 rw [e] at h;exact h
theorem qYd (a b:Int)(w:World)(i:0<=a/\a<=18446744073709551615)(f:0<=b/\b<=18446744073709551615) :
  Cl 98 #[U8 a,U8 b] w fun e c =>
   e=.returned (U8 ((a-b)%18446744073709551616))/\w=c:=by
 have d:Hid True:=trivial;go_enter Tryz.func98,Tryz.ntmps98
 go_wp2_with (first
  | (go_at_call 97;have g:=d;clear g;refine (yVr b _ f).mono ?_;rintro e c ⟨rfl,rfl⟩;clear d)
  | (go_at_call 97;refine (qLt a (-b%18446744073709551616) _ i (by omega)).mono ?_;rintro e c ⟨rfl,rfl⟩))
 go_ret;exact ⟨qQl (by omega),rfl⟩

theorem yLn (a b S A:Int)(k:Nat)(c:0<=b)(hA:A=a*2 ^ k%18446744073709551616)(d:S=a*(b%2 ^ k)%18446744073709551616) :
  (A+A)%18446744073709551616=a*2 ^ (k+1)%18446744073709551616 /\
  (b / 2 ^ k%2=1->(S+A)%18446744073709551616=a*(b%2 ^ (k+1))%18446744073709551616) /\
  (b / 2 ^ k%2≠1->S=a*(b%2 ^ (k+1))%18446744073709551616):=by
 rw [qUc b k c,Int.pow_succ];refine ⟨?_,fun h=>?_,fun h=>?_⟩
 ·rw [<- Int.mul_assoc]
  generalize a*2 ^ k=z at *
  omega
 ·rw [h,Int.mul_one,Int.mul_add]
  generalize a*2 ^ k=z at *
  generalize a*(b%2 ^ k)=y at *
  omega
 ·have:b / 2 ^ k%2=0:=by omega
  rw [this]
  simpa using d

theorem yOk (a b:Int)(w:World)(D:0<=a/\a<=18446744073709551615)(g:0<=b/\b<=18446744073709551615) :
  Cl 99 #[U8 a,U8 b] w fun e n =>
   e=.returned (U8 (a*b%18446744073709551616))/\w=n:=by
 go_enter Tryz.func99,Tryz.ntmps99;go_wp2
 go_loop [0,5,6] (fun u s i=>∃ (k:Nat) (A S:Int),k<=64/\i=I4 k/\u=U8 A/\s=U8 S/\0<=A/\A<=18446744073709551615/\0<=S/\S<=18446744073709551615/\A=a*2 ^ k%18446744073709551616/\S=a*(b%2 ^ k)%18446744073709551616) (fun _ _ i=>64-(intOf i).toNat)
 case atStart=>exact ⟨0,a,0,by omega,rfl,rfl,rfl,by omega,by omega,by omega,by omega,by simp;omega,by simp [Int.emod_one]⟩
 case round =>
  obtain ⟨k,A,S,E,rfl,rfl,rfl,hA0,y,z,B,hA,c⟩:=hrel
  by_cases hlt:k<64
  ·have d:=yLn a b S A k g.1 hA c;have f:Hid (bits .and .u64 (b / 2 ^ k) 1=b / 2 ^ k%2):=qPg (qRz b k g.1 (by omega)).1 (qRz b k g.1 (by omega)).2
   by_cases hbit:b / 2 ^ k%2=1
   ·have r:(bits .and .u64 (b / 2 ^ k) 1==1)=true:=by rw [f.out,hbit];rfl
    have o:Hid ((A+A)%18446744073709551616=a*2 ^ (k+1)%18446744073709551616):=d.1;have l:Hid ((S+A)%18446744073709551616=a*(b%2 ^ (k+1))%18446744073709551616):=d.2.1 hbit;clear d hA c hbit f
    go_wp2_with (go_at_call 97;refine (qLt _ _ _ (by omega) (by omega)).mono ?_;rintro e n ⟨rfl,rfl⟩)
    go_round
    case rel=>exact ⟨k+1,_,_,by omega,by go_num,rfl,rfl,by omega,by omega,by omega,by omega,o.out,l.out⟩
    case measure=>simp [intOf];omega
   ·have r:(bits .and .u64 (b / 2 ^ k) 1==1)=false:=by rw [f.out];simpa using hbit
    have o:Hid ((A+A)%18446744073709551616=a*2 ^ (k+1)%18446744073709551616):=d.1;have l:Hid (S=a*(b%2 ^ (k+1))%18446744073709551616):=d.2.2 hbit;clear d hA c hbit f
    go_wp2_with (go_at_call 97;refine (qLt _ _ _ (by omega) (by omega)).mono ?_;rintro e n ⟨rfl,rfl⟩)
    go_round
    case rel=>exact ⟨k+1,_,_,by omega,by go_num,rfl,rfl,by omega,by omega,by omega,by omega,o.out,l.out⟩
    case measure=>simp [intOf];omega
  ·obtain rfl:k=64:=by omega
   have H:Hid (S=a*b%18446744073709551616):=by
    have e:(2:Int) ^ 64=18446744073709551616:=by decide
    rw [e,Int.emod_eq_of_lt g.1 (by omega)] at c;exact c
   clear hA c;go_wp2;go_ret;exact ⟨qQl H.out,rfl⟩
theorem yYa {a b Q R:Int}{n:Nat}(l:0<=a/\a<=18446744073709551615)(g:0<b)(c:0<=Q)(f:0<=R)(h:a / 2 ^ n=Q*b+R):Q*2 ^ n<18446744073709551616:=by
 have i:=qDo n;have o:Q*1<=Q*b:=Int.mul_le_mul_of_nonneg_left (by omega) c
 have d:Q<=a / 2 ^ n:=by omega
 have k:Q*2 ^ n<=a / 2 ^ n*2 ^ n:=Int.mul_le_mul_of_nonneg_right d (by omega);have r:a / 2 ^ n*2 ^ n<=a:=Int.ediv_mul_le _ (by omega)
 omega
theorem yTz {a b Q R T:Int}{m:Nat}(c:0<=a)(h:a / 2 ^ (m+1)=Q*b+R)(i:T=2*R+a / 2 ^ m%2) :
  a / 2 ^ m=2*Q*b+T/\a / 2 ^ m=(2*Q+1)*b+(T-b):=by
 have d:=yUb a m c;rw [h] at d;have f:2*Q*b=2*(Q*b):=Int.mul_assoc 2 Q b;have g:(2*Q+1)*b=2*Q*b+1*b:=Int.add_mul _ _ _
 constructor<;>omega
theorem yIo (Q:Int)(m:Nat):Q*2 ^ (m+1)=2*Q*2 ^ m:=by
 rw [Int.pow_succ,Int.mul_comm 2 Q,Int.mul_assoc,Int.mul_comm 2 (2 ^ m)]
theorem yZw {a R:Int}{m:Nat}(c:0<=a/\a<=18446744073709551615)(d:0<=R)(f:R<=18446744073709551615) :
  bits .or .u64 (IntKind.u64.wrap (R*2)) (bits .and .u64 (a / 2 ^ m) 1)=(2*R+a / 2 ^ m%2)%18446744073709551616:=by
 have b:=qRz a m c.1 (by omega);rw [qPg b.1 b.2,IntKind.wrap_u64,yUu _ _ (by omega) (by omega) (by omega) (by omega) (by omega)]
 omega

theorem qXk (a b:Int)(w:World)(u:0<=a/\a<=18446744073709551615)(F:0<=b/\b<=18446744073709551615)(D:0<b) :
  Cl 100 #[U8 a,U8 b] w fun e A =>
   e=.returned (.tuple #[U8 (a / b),U8 (a%b)])/\w=A:=by
 go_enter Tryz.func100,Tryz.ntmps100;go_wp2
 go_loop [6,7,8] (fun q r i=>∃ (n:Nat) (V Q R I:Int),n<=64/\i=I4 I/\q=U8 V/\r=U8 R/\I=n-1/\V=Q*2 ^ n/\0<=Q/\0<=R/\R<b/\a / 2 ^ n=Q*b+R) (fun _ _ i=>(intOf i+1).toNat)
 case atStart=>exact ⟨64,0,0,0,63,by omega,rfl,rfl,rfl,by omega,by simp,by omega,by omega,by omega,by
  have e:(2:Int) ^ 64=18446744073709551616:=by decide
  rw [e];omega⟩
 case round =>
  obtain ⟨n,V,Q,R,I,O,rfl,rfl,rfl,E,hV,k,f,s,h⟩:=hrel
  cases n with
  | zero =>
   obtain rfl:I = -1:=by omega
   have G:Hid (V=a / b):=by
    show V=_
    simp at h hV
    rw [hV,h,Int.add_comm,Int.add_mul_ediv_right _ _ (by omega),Int.ediv_eq_zero_of_lt f s]
    omega
   have J:Hid (R=a%b):=by
    show R=_
    simp at h
    rw [h,Int.add_comm,Int.add_mul_emod_self_right,Int.emod_eq_of_lt f s]
   clear h hV s E;go_wp2;go_ret2;rw [G.out,J.out];exact ⟨rfl,rfl⟩
  | succ m =>
   obtain rfl:I=(m:Int):=by omega
   have B:=yYa u D k f h
   have hm:m<64:=by omega
   subst hV
   have z:Hid (bits .or .u64 (Q*2 ^ (m+1)) (IntKind.u64.wrap (2 ^ m))=(2*Q+1)*2 ^ m):=by
    have:=xCb Q m hm k B
    rwa [Int.one_mul] at this
   have K:Hid (Q*2 ^ (m+1)=2*Q*2 ^ m):=yIo Q m;obtain ⟨T,y⟩:∃ T,T=2*R+a / 2 ^ m%2:=⟨_,rfl⟩
   have l:Hid (bits .or .u64 (IntKind.u64.wrap (R*2)) (bits .and .u64 (a / 2 ^ m) 1)=T%18446744073709551616):=by
    rw [y];exact yZw u f (by omega)
   have o:Hid (a / 2 ^ m=2*Q*b+T/\a / 2 ^ m=(2*Q+1)*b+(T-b)):=yTz u.1 h y
   have M:2*R<=T:=by omega
   have N:T<=2*R+1:=by omega
   clear h B E y
   go_wp2_with (go_at_call 98;refine (qYd _ b _ (qPf _ _ _) F).mono ?_;rintro e A ⟨rfl,rfl⟩)
   ·have g:R / 9223372036854775808=1:=by assumption
    go_round
    case rel =>
     refine ⟨m,_,2*Q+1,T-b,_,by omega,rfl,rfl,?_,rfl,z.out,by omega,by omega,by omega,o.out.2⟩;rw [l.out];exact congrArg _ (by omega)
    case measure=>simp [intOf]<;>omega
   ·have g:¬ R / 9223372036854775808=1:=by assumption
    have c:(R / 9223372036854775808==1)=true∨b<=bits .or .u64 (R*2) (bits .and .u64 (a / 2 ^ m) 1):=by assumption
    have d:bits .or .u64 (R*2) (bits .and .u64 (a / 2 ^ m) 1)=T:=by
     have h:=l.out;rw [IntKind.wrap_u64,Int.emod_eq_of_lt (by omega) (by omega)] at h;rw [h];omega
    rw [d] at c
    have L:b<=T:=by
     rcases c with h|h
     ·exact absurd (by simpa using h) g
     ·exact h
    clear c
    go_round
    case rel =>
     refine ⟨m,_,2*Q+1,T-b,_,by omega,rfl,rfl,?_,rfl,z.out,by omega,by omega,by omega,o.out.2⟩;rw [d];exact congrArg _ (by omega)
    case measure=>simp [intOf]<;>omega
   ·have g:¬ R / 9223372036854775808=1:=by assumption
    have c:(R / 9223372036854775808==1)=false/\bits .or .u64 (R*2) (bits .and .u64 (a / 2 ^ m) 1)<b:=by assumption
    have d:bits .or .u64 (R*2) (bits .and .u64 (a / 2 ^ m) 1)=T:=by
     have h:=l.out;rw [IntKind.wrap_u64,Int.emod_eq_of_lt (by omega) (by omega)] at h;rw [h];omega
    rw [d] at c
    go_round
    case rel =>
     refine ⟨m,_,2*Q,T,_,by omega,rfl,rfl,?_,rfl,K.out,by omega,by omega,c.2,o.out.1⟩;rw [d]
    case measure=>simp [intOf]<;>omega
theorem yYj (a b:Int)(w:World)(g:0<=a/\a<=18446744073709551615)(d:0<=b/\b<=18446744073709551615) :
  Cl 92 #[U8 a,U8 b] w fun e c=>e=.returned (U8 (a / b))/\w=c:=by
 by_cases h:b=0
 ·subst h;go_enter Tryz.func92,Tryz.ntmps92;go_wp2;go_ret;exact ⟨qQl (by simp),rfl⟩
 ·have f:(b==0)=false:=by simpa using h
  go_enter Tryz.func92,Tryz.ntmps92;go_wp2;go_ret;exact ⟨rfl,rfl⟩
theorem yUl (a b:Int)(w:World)(g:0<=a/\a<=18446744073709551615)(d:0<=b/\b<=18446744073709551615) :
  Cl 93 #[U8 a,U8 b] w fun e c=>e=.returned (U8 (a%b))/\w=c:=by
 by_cases h:b=0
 ·subst h;go_enter Tryz.func93,Tryz.ntmps93;go_wp2;go_ret;exact ⟨qQl (by simp),rfl⟩
 ·have f:(b==0)=false:=by simpa using h
  go_enter Tryz.func93,Tryz.ntmps93;go_wp2;go_ret;exact ⟨rfl,rfl⟩

theorem qVd {op a b x:Int}{c:Bool}{P:Prop}(g:x=doL op a b)(f:c=qFf op)(d:P):Ending.returned (.tuple #[U8 x,.bool c])=.returned (.tuple #[U8 (doL op a b),.bool (qFf op)])/\P:=⟨qUd g f,d⟩

theorem xBc (op a b : Int)(w : World)(f : 0 <= a /\ a <= 18446744073709551615)(d : 0 <= b /\ b <= 18446744073709551615) :
    Cl 59 #[I4 op, U8 a, U8 b] w fun e c =>
      e = .returned (.tuple #[U8 (doL op a b), .bool (qFf op)]) /\ w = c := by
  go_enter Tryz.func59, Tryz.ntmps59
  go_wp2_with (first
    | (go_at_call 92; refine (yYj _ _ _ f d).mono ?_; rintro e c ⟨rfl, rfl⟩)
    | (go_at_call 93; refine (yUl _ _ _ f d).mono ?_; rintro e c ⟨rfl, rfl⟩))
  all_goals go_ret2
  all_goals simp only [beq_iff_eq, beq_eq_false_iff_ne, ne_eq] at *
  all_goals first
    | (subst op; exact qVd (by simp [doL, IntKind.wrap_u64]) rfl (by trivial))
    | (refine qVd ?_ ?_ (by trivial)
       · unfold doL; repeat rw [if_neg (by assumption)]
       · unfold qFf; symm; apply decide_eq_false; omega)

theorem qPn {op a b:Int}{x c:Bool}{P:Prop}(g:x=qCo op a b)(f:c=qFj op)(d:P):Ending.returned (.tuple #[.bool x,.bool c])=.returned (.tuple #[.bool (qCo op a b),.bool (qFj op)])/\P:=⟨xCk g f,d⟩

theorem yQr (op a b : Int)(w : World)(f : 0 <= a /\ a <= 18446744073709551615)(d : 0 <= b /\ b <= 18446744073709551615) :
    Cl 61 #[I4 op, U8 a, U8 b] w fun e c =>
      e = .returned (.tuple #[.bool (qCo op a b), .bool (qFj op)]) /\ w = c := by
  go_enter Tryz.func61, Tryz.ntmps61;go_wp2
  all_goals go_ret2
  all_goals simp only [beq_iff_eq, beq_eq_false_iff_ne, ne_eq] at *
  all_goals first
    | (subst op; exact qPn rfl rfl (by trivial))
    | (refine qPn ?_ ?_ (by trivial)
       · unfold qCo; repeat rw [if_neg (by assumption)]
       · unfold qFj; symm; apply decide_eq_false; omega)
theorem qRq {f:Nat->Int}(a:f 64=0)(c:∀ i n,i<=n->f i=0->f n=0){i b:Nat}(hi:i<=b)(h:i=b∨f i=0):f i=f (min b 64):=by
 by_cases hb:b<=64
 ·rw [Nat.min_eq_left hb]
  rcases h with rfl|h
  ·rfl
  ·rw [h,c i b hi h]
 ·rw [Nat.min_eq_right (by omega),a]
  rcases h with rfl|h
  ·exact c 64 i (by omega) a
  ·exact h
theorem yVs (a:Int):a*2 ^ 64%18446744073709551616=0:=by
 have e:(2:Int) ^ 64=18446744073709551616:=by decide
 rw [e];omega
theorem yPr (a:Int)(i n:Nat)(h:i<=n)(b:a*2 ^ i%18446744073709551616=0):a*2 ^ n%18446744073709551616=0:=by
 obtain ⟨j,rfl⟩:=Nat.exists_eq_add_of_le h;rw [Int.pow_add,<- Int.mul_assoc,Int.mul_emod,b]
 simp
theorem yAl (a:Int)(h0:0<=a)(h:a<=18446744073709551615):a / 2 ^ 64=0:=by
 have e:(2:Int) ^ 64=18446744073709551616:=by decide
 rw [e];omega
theorem qOy (a:Int)(i j:Nat):a / 2 ^ (i+j)=a / 2 ^ i / 2 ^ j:=by
 rw [Int.pow_add,Int.ediv_ediv_of_nonneg (Int.le_of_lt (qDo i))]
theorem qXt (a:Int)(i n:Nat)(h:i<=n)(b:a / 2 ^ i=0):a / 2 ^ n=0:=by
 obtain ⟨j,rfl⟩:=Nat.exists_eq_add_of_le h;rw [qOy,b]
 simp
theorem yTd (a:Int)(i:Nat):(a*2 ^ i%18446744073709551616+a*2 ^ i%18446744073709551616)%18446744073709551616=a*2 ^ (i+1)%18446744073709551616:=by
 rw [Int.pow_succ,<- Int.mul_assoc]
 generalize a*2 ^ i=z
 omega

theorem ySm (a b:Int)(w:World)(y:0<=a/\a<=18446744073709551615)(l:0<=b/\b<=18446744073709551615) :
  Cl 68 #[I4 9,U8 a,U8 b] w fun e g =>
   e=.returned (.tuple #[U8 (a*2 ^ min b.toNat 64%18446744073709551616),.bool true])/\w=g:=by
 obtain ⟨B,rfl⟩:=Int.eq_ofNat_of_zero_le l.1;rw [Int.toNat_natCast];go_enter Tryz.func68,Tryz.ntmps68;go_wp2
 go_loop [1,10] (fun u i=>∃ (k:Nat) (A:Int),k<=B/\i=U8 k/\u=U8 A/\0<=A/\A<=18446744073709551615/\A=a*2 ^ k%18446744073709551616) (fun _ i=>B-(intOf i).toNat)
 case atStart=>exact ⟨0,a,by omega,rfl,rfl,by omega,by omega,by simp;omega⟩
 case round =>
  obtain ⟨k,A,o,rfl,rfl,hA0,s,hA⟩:=hrel;have c:Hid (A=a*2 ^ k%18446744073709551616):=hA;clear hA
  by_cases hlt:k<B/\0<A
  ·obtain ⟨n,z⟩:=hlt
   have r:Hid ((A+A)%18446744073709551616=a*2 ^ (k+1)%18446744073709551616):=by rw [c.out];exact yTd a k
   clear c
   go_wp2_with (go_at_call 97;refine (qLt _ _ _ (by omega) (by omega)).mono ?_;rintro e g ⟨rfl,rfl⟩)
   go_round
   case rel=>exact ⟨k+1,_,by omega,by go_num,rfl,by omega,by omega,r.out⟩
   case measure=>simp [intOf];omega
  ·have d:Hid (A=a*2 ^ min B 64%18446744073709551616):=by
    rw [c.out]
    exact qRq (f:=fun i=>a*2 ^ i%18446744073709551616) (yVs a) (yPr a) o (by
     by_cases h:k=B
     ·exact .inl h
     ·exact .inr (by show _=(0:Int);rw [<- c.out];omega))
   clear c
   by_cases n:k<B
   ·obtain rfl:A=0:=by omega
    go_wp2;go_ret2;exact ⟨qUd d.out rfl,rfl⟩
   ·go_wp2;go_ret2;exact ⟨qUd d.out rfl,rfl⟩

theorem yTk (a b:Int)(w:World)(g:0<=a/\a<=18446744073709551615)(l:0<=b/\b<=18446744073709551615) :
  Cl 68 #[I4 10,U8 a,U8 b] w fun e n =>
   e=.returned (.tuple #[U8 (a / 2 ^ min b.toNat 64),.bool true])/\w=n:=by
 obtain ⟨B,rfl⟩:=Int.eq_ofNat_of_zero_le l.1;rw [Int.toNat_natCast];go_enter Tryz.func68,Tryz.ntmps68;go_wp2
 go_loop [1,10] (fun u i=>∃ (k:Nat) (A:Int),k<=B/\i=U8 k/\u=U8 A/\0<=A/\A<=18446744073709551615/\A=a / 2 ^ k) (fun _ i=>B-(intOf i).toNat)
 case atStart=>exact ⟨0,a,by omega,rfl,rfl,by omega,by omega,by simp⟩
 case round =>
  obtain ⟨k,A,r,rfl,rfl,hA0,y,hA⟩:=hrel;have c:Hid (A=a / 2 ^ k):=hA;clear hA
  by_cases hlt:k<B/\0<A
  ·obtain ⟨o,z⟩:=hlt
   have s:Hid (A / 2=a / 2 ^ (k+1)):=by rw [c.out,qOy];rfl
   clear c;go_wp2
   go_round
   case rel=>exact ⟨k+1,_,by omega,by go_num,rfl,by omega,by omega,s.out⟩
   case measure=>simp [intOf];omega
  ·have d:Hid (A=a / 2 ^ min B 64):=by
    rw [c.out]
    exact qRq (f:=fun i=>a / 2 ^ i) (yAl a g.1 g.2) (qXt a) r (by
     by_cases h:k=B
     ·exact .inl h
     ·exact .inr (by show _=(0:Int);rw [<- c.out];omega))
   clear c
   by_cases o:k<B
   ·obtain rfl:A=0:=by omega
    go_wp2;go_ret2;exact ⟨qUd d.out rfl,rfl⟩
   ·go_wp2;go_ret2;exact ⟨qUd d.out rfl,rfl⟩
theorem yWz (op a b : Int)(w : World)(f : 0 <= a /\ a <= 18446744073709551615)(d : 0 <= b /\ b <= 18446744073709551615)(i : (op == 9) = false)(g : (op == 10) = false)(l : (op == 4) = false)(k : (op == 5) = false) :
    Cl 68 #[I4 op, U8 a, U8 b] w fun e c =>
      e = .returned (.tuple #[U8 (doL op a b), .bool (qFf op)]) /\ w = c := by
  go_enter Tryz.func68, Tryz.ntmps68
  go_wp2_with (first
    | (go_at_call 97; refine (qLt _ _ _ f d).mono ?_; rintro e c ⟨rfl, rfl⟩)
    | (go_at_call 98; refine (qYd _ _ _ f d).mono ?_; rintro e c ⟨rfl, rfl⟩)
    | (go_at_call 99; refine (yOk _ _ _ f d).mono ?_; rintro e c ⟨rfl, rfl⟩))
  all_goals go_ret2
  all_goals simp only [beq_iff_eq, beq_eq_false_iff_ne, ne_eq] at *
  all_goals first
    | (subst op; exact qVd (by simp [doL, yXv, xBa, yXy]) rfl (by trivial))
    | (refine qVd ?_ ?_ (by trivial)
       · unfold doL; repeat rw [if_neg (by assumption)]
       · unfold qFf; symm; apply decide_eq_false; omega)
theorem yYi (a b:Int)(w:World)(f:0<=a/\a<=18446744073709551615)(d:0<=b/\b<=18446744073709551615) :
  Cl 68 #[I4 4,U8 a,U8 b] w fun e c =>
   e=.returned (.tuple #[U8 (a / b),.bool true])/\w=c:=by
 by_cases h0:0<b
 ·go_enter Tryz.func68,Tryz.ntmps68
  go_wp2_with (go_at_call 100;refine (qXk _ _ _ f d h0).mono ?_;rintro e c ⟨rfl,rfl⟩)
  go_ret2;exact ⟨rfl,rfl⟩
 ·obtain rfl:b=0:=by omega
  go_enter Tryz.func68,Tryz.ntmps68;go_wp2;go_ret2;exact ⟨qUd (by simp) rfl,rfl⟩
theorem yYk (a b:Int)(w:World)(f:0<=a/\a<=18446744073709551615)(d:0<=b/\b<=18446744073709551615) :
  Cl 68 #[I4 5,U8 a,U8 b] w fun e c =>
   e=.returned (.tuple #[U8 (a%b),.bool true])/\w=c:=by
 by_cases h0:0<b
 ·go_enter Tryz.func68,Tryz.ntmps68
  go_wp2_with (go_at_call 100;refine (qXk _ _ _ f d h0).mono ?_;rintro e c ⟨rfl,rfl⟩)
  go_ret2;exact ⟨rfl,rfl⟩
 ·obtain rfl:b=0:=by omega
  go_enter Tryz.func68,Tryz.ntmps68;go_wp2;go_ret2;exact ⟨qUd (by simp) rfl,rfl⟩

theorem xAe (op a b:Int)(w:World)(d:0<=a/\a<=18446744073709551615)(c:0<=b/\b<=18446744073709551615) :
  Cl 68 #[I4 op,U8 a,U8 b] w fun e f =>
   e=.returned (.tuple #[U8 (doL op a b),.bool (qFf op)])/\w=f:=by
 by_cases h4:op=4
 ·subst h4;exact yYi a b w d c
 by_cases h5:op=5
 ·subst h5;exact yYk a b w d c
 by_cases h9:op=9
 ·subst h9;exact ySm a b w d c
 by_cases h10:op=10
 ·subst h10;exact yTk a b w d c
 exact yWz op a b w d c (by simpa using h9) (by simpa using h10) (by simpa using h4) (by simpa using h5)

theorem qIp {op a b n:Int}{c:Bool}(i:Hid (n=doL op a b))(k:Hid (c=qFf op))(w:World)(g:0<=a/\a<=18446744073709551615)(d:0<=b/\b<=18446744073709551615) :
  Cl 59 #[I4 op,U8 a,U8 b] w fun e f=>e=.returned (.tuple #[U8 n,.bool c])/\w=f:=by
 rw [i.out,k.out];exact xBc op a b w g d
theorem yNn {op a b n:Int}{c:Bool}(i:Hid (n=doL op a b))(k:Hid (c=qFf op))(w:World)(g:0<=a/\a<=18446744073709551615)(d:0<=b/\b<=18446744073709551615) :
  Cl 68 #[I4 op,U8 a,U8 b] w fun e f=>e=.returned (.tuple #[U8 n,.bool c])/\w=f:=by
 rw [i.out,k.out];exact xAe op a b w g d
theorem qIr {op a b:Int}{n c:Bool}(i:Hid (n=qCo op a b))(k:Hid (c=qFj op))(w:World)(g:0<=a/\a<=18446744073709551615)(d:0<=b/\b<=18446744073709551615) :
  Cl 61 #[I4 op,U8 a,U8 b] w fun e f=>e=.returned (.tuple #[.bool n,.bool c])/\w=f:=by
 rw [i.out,k.out];exact yQr op a b w g d
theorem yLi (op a b : Int)(w : World)(f : 0 <= a /\ a <= 18446744073709551615)(d : 0 <= b /\ b <= 18446744073709551615) :
    Cl 65 #[I4 op, U8 a, U8 b] w fun e c =>
      e = .returned (.tuple #[.bool (qCo op a b), .bool (qFj op)]) /\ w = c := by
  go_enter Tryz.func65, Tryz.ntmps65;go_wp2
  all_goals go_ret2
  all_goals simp only [beq_iff_eq, beq_eq_false_iff_ne, ne_eq] at *
  all_goals first
    | (subst op; exact qPn (by simp [qCo, bne, <- Int.not_lt]) rfl (by trivial))
    | (refine qPn ?_ ?_ (by trivial)
       · unfold qCo; repeat rw [if_neg (by assumption)]
       · unfold qFj; symm; apply decide_eq_false; omega)
theorem yQb {op a b:Int}{n c:Bool}(i:Hid (n=qCo op a b))(k:Hid (c=qFj op))(w:World)(g:0<=a/\a<=18446744073709551615)(d:0<=b/\b<=18446744073709551615) :
  Cl 65 #[I4 op,U8 a,U8 b] w fun e f=>e=.returned (.tuple #[.bool n,.bool c])/\w=f:=by
 rw [i.out,k.out];exact yLi op a b w g d

end Go.Proofs.YtmdhljoicnommaaGreat
