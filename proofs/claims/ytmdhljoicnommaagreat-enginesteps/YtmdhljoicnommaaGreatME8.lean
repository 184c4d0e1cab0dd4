/-
  A5Plain
  A5More
  S6Plain
  S6Lists
-/
import Derived.Test.YtmdhljoicnommaaGreatRows
import Derived.Laws.Bits64b
import Derived.Laws.BitsLemmas
import Derived.WalkSpells
import Derived.OpenShut
namespace Go.Proofs.YtmdhljoicnommaaGreat
set_option maxHeartbeats 12800000
open Go.RowKit
set_option linter.unusedVariables false
def doL (op a b:Int):Int :=
 if op=1 then (a+b)%18446744073709551616
 else if op=2 then (a-b)%18446744073709551616
 else if op=3 then a*b%18446744073709551616
 else if op=4 then a / b
 else if op=5 then a%b
 else if op=6 then bits .and .u64 a b
 else if op=7 then bits .or .u64 a b
 else if op=8 then bits .xor .u64 a b
 else if op=9 then a*2 ^ min b.toNat 64%18446744073709551616
 else if op=10 then a / 2 ^ min b.toNat 64
 else 0
def qFf (op:Int):Bool:=decide (1<=op/\op<=10)
def qCo (op a b:Int):Bool :=
 if op=16 then a==b
 else if op=17 then a != b
 else if op=18 then decide (a<b)
 else if op=19 then decide (b<=a)
 else false
def qFj (op:Int):Bool:=decide (16<=op/\op<=19)

theorem qUd {k:IntKind}{a b:Int}{c c':Bool}(f:a=b)(d:c=c'):Ending.returned (.tuple #[.int k a,.bool c])=.returned (.tuple #[.int k b,.bool c']):=by rw [f,d]
theorem xCk {a b c c':Bool}(f:a=b)(d:c=c'):Ending.returned (.tuple #[.bool a,.bool c])=.returned (.tuple #[.bool b,.bool c']):=by rw [f,d]
theorem qQl {k:IntKind}{a b:Int}(h:a=b):Ending.returned (.int k a)=.returned (.int k b):=by rw [h]

def bv (x:Int):BitVec 64:=BitVec.ofInt 64 x
theorem qPu (v:BitVec 64):IntKind.u64.wrap ((v.toNat:Nat):Int)=(v.toNat:Int):=by
 have:=v.isLt;rw [IntKind.wrap_u64]
 omega
theorem yBz (x y:Int):bits .and .u64 x y=((bv x &&& bv y).toNat:Int):=qPu (bv x &&& bv y)
theorem qUs (x y:Int):bits .or .u64 x y=((bv x ||| bv y).toNat:Int):=qPu (bv x ||| bv y)
theorem yCb (x y:Int):bits .xor .u64 x y=((bv x ^^^ bv y).toNat:Int):=qPu (bv x ^^^ bv y)
theorem qXh (x y:Int):bits .andNot .u64 x y=((bv x &&& ~~~ bv y).toNat:Int):=qPu (bv x &&& ~~~ bv y)
theorem qMn (v:BitVec 64):bv ((v.toNat:Nat):Int)=v:=by
 unfold bv;rw [BitVec.ofInt_natCast]
 simp
theorem qKm {x:Int}(h0:0<=x)(h:x<18446744073709551616):((bv x).toNat:Int)=x:=by
 obtain ⟨n,rfl⟩:=Int.eq_ofNat_of_zero_le h0;unfold bv;rw [BitVec.ofInt_natCast,BitVec.toNat_ofNat]
 omega
theorem xBf:bv IntKind.u64.max=BitVec.allOnes 64:=by decide
theorem qOf (x:Int):bits .xor .u64 IntKind.u64.max x=((~~~ bv x).toNat:Int):=by
 rw [yCb,xBf,BitVec.allOnes_xor]
theorem yXu {x:Int}(h0:0<=x)(h:x<18446744073709551616):bits .xor .u64 IntKind.u64.max x=18446744073709551615-x:=by
 rw [qOf,BitVec.toNat_not];have:=qKm h0 h;have:=(bv x).isLt
 omega
theorem yXv (a b:Int):bits .xor .u64 IntKind.u64.max (bits .or .u64 (bits .xor .u64 IntKind.u64.max a) (bits .xor .u64 IntKind.u64.max b))=bits .and .u64 a b:=by
 rw [qOf,qUs,qOf a,qOf b,qMn,qMn,qMn,yBz]
 congr 2
 ext i hi
 simp
theorem xBa (a b:Int):bits .xor .u64 IntKind.u64.max (bits .and .u64 (bits .xor .u64 IntKind.u64.max a) (bits .xor .u64 IntKind.u64.max b))=bits .or .u64 a b:=by
 rw [qOf,yBz,qOf a,qOf b,qMn,qMn,qMn,qUs]
 congr 2
 ext i hi
 simp
theorem yXy (a b:Int):bits .or .u64 (bits .andNot .u64 a b) (bits .andNot .u64 b a)=bits .xor .u64 a b:=by
 rw [qUs,qXh,qXh,qMn,qMn,yCb]
 congr 2
 ext i hi
 simp
 cases (bv a)[i]<;>cases (bv b)[i]<;>rfl
theorem yXm (op:BinOp)(x y:Int):0<=bits op .u64 x y/\bits op .u64 x y<18446744073709551616:=by
 have h:bits op .u64 x y=(bits op .u64 x y):=rfl;unfold bits;rw [IntKind.wrap_u64]
 omega

theorem qPg {x:Int}(h0:0<=x)(h:x<18446744073709551616):bits .and .u64 x 1=x%2:=by
 have:=bits_mask .u64 64 (by decide) (fun n h0 h=>by rw [IntKind.wrap_u64];omega) 1 (by decide) x h0 (by simpa using h)
 simpa using this
theorem qDd (k:Nat):(2:Int) ^ k=((2 ^ k:Nat):Int):=by simp
theorem qDo (k:Nat):0<(2:Int) ^ k:=by
 rw [qDd]
 exact_mod_cast Nat.two_pow_pos k
theorem qUj {k:Nat}(h:k<=64):(2:Int) ^ k<=18446744073709551616:=by
 rw [qDd];have b:2 ^ k<=2 ^ 64:=Nat.pow_le_pow_right (by decide) h
 have a:(2 ^ 64:Nat)=18446744073709551616:=by decide
 omega
theorem qUm {k:Nat}(h:k<64):(2:Int) ^ k*2<=18446744073709551616:=by
 have:=qUj (k:=k+1) (by omega);rw [Int.pow_succ] at this;exact this
theorem qUc (a:Int)(k:Nat)(h:0<=a):a%2 ^ (k+1)=a%2 ^ k+2 ^ k*(a / 2 ^ k%2):=by
 obtain ⟨n,rfl⟩:=Int.eq_ofNat_of_zero_le h;have:=Nat.mod_mul (a:=2 ^ k) (b:=2) (x:=n);rw [<- Nat.pow_succ] at this
 exact_mod_cast this
theorem yUb (a:Int)(k:Nat)(h:0<=a):a / 2 ^ k=2*(a / 2 ^ (k+1))+a / 2 ^ k%2:=by
 obtain ⟨n,rfl⟩:=Int.eq_ofNat_of_zero_le h
 have c:n / 2 ^ (k+1)=n / 2 ^ k / 2:=by rw [Nat.pow_succ,Nat.div_div_eq_div_mul]
 have b:n / 2 ^ k=2*(n / 2 ^ (k+1))+n / 2 ^ k%2:=by rw [c];omega
 exact_mod_cast b
theorem qRz (a:Int)(k:Nat)(h0:0<=a)(h:a<18446744073709551616):0<=a / 2 ^ k/\a / 2 ^ k<18446744073709551616:=by
 have b:=qDo k;exact ⟨Int.ediv_nonneg h0 (by omega),Int.lt_of_le_of_lt (Int.ediv_le_self _ h0) h⟩
theorem yWu (S c:Int)(k:Nat)(g:k<64)(a:0<=S)(d:S<2 ^ k)(l:0<=c)(o:c<=1):bits .or .u64 S (IntKind.u64.wrap (c*2 ^ k))=S+c*2 ^ k:=by
 have n:=qDo k;have i:=qUm g
 have f:IntKind.u64.wrap (c*2 ^ k)=c*2 ^ k:=by
  rw [IntKind.wrap_u64]
  obtain rfl|rfl:c=0∨c=1:=by omega
  ·simp
  ·rw [Int.one_mul];exact Int.emod_eq_of_lt (by omega) (by omega)
 rw [f];obtain ⟨s,rfl⟩:=Int.eq_ofNat_of_zero_le a
 have b:s<2 ^ k:=by exact_mod_cast d
 have r:(2:Nat) ^ k*2<=18446744073709551616:=by rw [qDd] at i;omega
 obtain rfl|rfl:c=0∨c=1:=by omega
 ·have:=bits_or_u64_nat s 0 (by omega) (by decide)
  simpa using this
 ·have:=bits_or_u64_nat s (2 ^ k) (by omega) (by omega);have e:=Nat.two_pow_add_eq_or_of_lt b 1;rw [Nat.mul_one,Nat.or_comm,Nat.add_comm] at e;rw [<- e] at this
  simpa using this
theorem yUu (S c:Int)(a:0<=S)(d:S<18446744073709551616)(f:S%2=0)(b:0<=c)(g:c<=1):bits .or .u64 S c=S+c:=by
 exact bits_join .u64 64 (by decide) (fun n h0 h=>by rw [IntKind.wrap_u64];omega) 1 S c a (by simpa using f) (by simpa using d) b (by omega) (by omega)
theorem xCb (Q:Int)(i:Nat)(hi:i<64)(a:0<=Q)(b:Q*2 ^ (i+1)<18446744073709551616):bits .or .u64 (Q*2 ^ (i+1)) (IntKind.u64.wrap (1*2 ^ i))=(2*Q+1)*2 ^ i:=by
 have f:=qDo i;have g:=qUm hi;have c:(2:Int) ^ (i+1)=2 ^ i*2:=Int.pow_succ 2 i
 have d:IntKind.u64.wrap (1*2 ^ i)=2 ^ i:=by
  rw [IntKind.wrap_u64,Int.one_mul];exact Int.emod_eq_of_lt (by omega) (by omega)
 rw [d,bits_join .u64 64 (by decide) (fun n h0 h=>by rw [IntKind.wrap_u64];omega) (i+1) _ _ (Int.mul_nonneg a (by omega)) (Int.mul_emod_left _ _) (by simpa using b) (by omega) (by omega) (by omega)];rw [c,Int.add_mul,Int.mul_comm 2 Q,Int.mul_assoc,Int.mul_comm 2 (2 ^ i)]
 omega
theorem qPf (op:BinOp)(x y:Int):0<=bits op .u64 x y/\bits op .u64 x y<=18446744073709551615:=by
 have:=yXm op x y
 omega
def W64 (x:Int):Prop:=0<=x/\x<=18446744073709551615
theorem qVh (op:Int){a b:Int}(c:W64 a)(d:W64 b):W64 (doL op a b):=by
 have k:=qDo (min b.toNat 64);have n:=qPf .and a b;have o:=qPf .or a b;have l:=qPf .xor a b;have f:0<=a / b/\a / b<=a:=⟨Int.ediv_nonneg c.1 d.1,Int.ediv_le_self _ c.1⟩
 have i:0<=a%b/\a%b<=a:=by
  by_cases h:b=0
  ·subst h;simp;exact c.1
  ·have:=d.1;have hm:=Int.emod_nonneg a h;have:=Int.ediv_mul_add_emod a b;have:0<=a / b*b:=Int.mul_nonneg f.1 d.1
   omega
 have g:0<=a / 2 ^ min b.toNat 64/\a / 2 ^ min b.toNat 64<=a:=⟨Int.ediv_nonneg c.1 (by omega),Int.ediv_le_self _ c.1⟩;unfold W64 at *;unfold doL
 generalize a*2 ^ min b.toNat 64=y
 generalize a*b=z
 repeat' split
 all_goals omega
def qCq (n:Int):Int:=if n=0 then 0 else 2 ^ (n.toNat.log2+1)-1
theorem qUn {n:Int}(h0:0<=n)(h:n<=18446744073709551615):∃ k:Nat,k<=64/\qCq n=2 ^ k-1/\n<2 ^ k/\(0<k->(2:Int) ^ (k-1)<=n):=by
 unfold qCq
 split
 ·rename_i e
  exact ⟨0,by omega,by simp,by simp [e],fun h=>absurd h (by omega)⟩
 ·rename_i hne
  obtain ⟨m,rfl⟩:=Int.eq_ofNat_of_zero_le h0
  have hm:m≠0:=by omega
  have d:=Nat.lt_log2_self (n:=m);have a:=Nat.log2_self_le hm;refine ⟨m.log2+1,?_,by rw [Int.toNat_natCast],by rw [qDd];omega,fun _=>by rw [qDd,Nat.add_sub_cancel];exact_mod_cast a⟩
  by_cases hc:m.log2+1<=64
  ·exact hc
  ·have b:2 ^ 64<=2 ^ m.log2:=Nat.pow_le_pow_right (by decide) (by omega)
   have c:(2:Nat) ^ 64=18446744073709551616:=by decide
   omega
theorem yYx {n:Int}(h0:0<=n)(h:n<=18446744073709551615):0<=qCq n/\qCq n<=18446744073709551615:=by
 obtain ⟨k,a,e,_,_⟩:=qUn h0 h;have c:=qDo k;have b:=qUj a
 omega
theorem yGw {n:Int}{k:Nat}(h0:0<=n)(h:n<=18446744073709551615)(i:n<2 ^ k)(g:0<k->(2:Int) ^ (k-1)<=n):qCq n=2 ^ k-1:=by
 obtain ⟨j,_,e,l,f⟩:=qUn h0 h;rw [e]
 have mono:∀ a b:Nat,a<=b->(2:Int) ^ a<=2 ^ b:=fun a b d=>by
  rw [qDd,qDd]
  exact_mod_cast Nat.pow_le_pow_right (by decide) d
 have:j=k:=by
  rcases Nat.lt_trichotomy j k with c|c|c
  ·have:=g (by omega);have:=mono j (k-1) (by omega)
   omega
  ·exact c
  ·have:=f (by omega);have:=mono k (j-1) (by omega)
   omega
 rw [this]

def qBn (op a A b B:Int):Int×Int :=
 if a=A/\b=B then (doL op a b,doL op a b)
 else if op=1 then (if 18446744073709551615<A+B then (0,18446744073709551615) else (a+b,A+B))
 else if op=2 then (if a<B then (0,18446744073709551615) else (a-B,A-b))
 else if op=3 then (if 18446744073709551615<A*B then (0,18446744073709551615) else (a*b,A*B))
 else if op=4 then (if b=0 then (0,A) else (a / B,A / b))
 else if op=5 then (if b=0 then (0,A) else if A<b then (a,A) else (0,min A (B-1)))
 else if op=6 then (0,min A B)
 else if op=7 then (max a b,qCq (max A B))
 else if op=8 then (0,qCq (max A B))
 else if op=9 then (if b=B/\A*2 ^ min b.toNat 64<=18446744073709551615 then (a*2 ^ min b.toNat 64,A*2 ^ min b.toNat 64) else (0,18446744073709551615))
 else (a / 2 ^ min B.toNat 64,A / 2 ^ min b.toNat 64)

theorem xBh {x y:Int}(b:W64 x)(a:W64 y):bits .and .u64 x y<=x/\bits .and .u64 x y<=y:=by
 rw [yBz,BitVec.toNat_and];have d:=qKm b.1 (by have:=b.2;omega);have g:=qKm a.1 (by have:=a.2;omega);have c:=Nat.and_le_left (n:=(bv x).toNat) (m:=(bv y).toNat);have f:=Nat.and_le_right (n:=(bv x).toNat) (m:=(bv y).toNat)
 omega
theorem xCf {x y:Int}(b:W64 x)(a:W64 y):x<=bits .or .u64 x y/\y<=bits .or .u64 x y:=by
 rw [qUs,BitVec.toNat_or];have d:=qKm b.1 (by have:=b.2;omega);have g:=qKm a.1 (by have:=a.2;omega);have c:=Nat.left_le_or (n:=(bv x).toNat) (m:=(bv y).toNat);have f:=Nat.right_le_or (n:=(bv x).toNat) (m:=(bv y).toNat)
 omega
theorem qXm {x y:Int}{k:Nat}(b:W64 x)(a:W64 y)(f:x<2 ^ k)(g:y<2 ^ k):bits .or .u64 x y<2 ^ k/\bits .xor .u64 x y<2 ^ k:=by
 rw [qUs,yCb,BitVec.toNat_or,BitVec.toNat_xor];have i:=qKm b.1 (by have:=b.2;omega);have l:=qKm a.1 (by have:=a.2;omega);rw [qDd] at f g ⊢
 have c:(bv x).toNat<2 ^ k:=by omega
 have d:(bv y).toNat<2 ^ k:=by omega
 have:=Nat.or_lt_two_pow c d;have:=Nat.xor_lt_two_pow c d
 omega
theorem qRp {i j:Nat}(h:i<=j):(2:Int) ^ min i 64<=2 ^ min j 64:=by
 rw [qDd,qDd]
 exact_mod_cast Nat.pow_le_pow_right (by decide) (by omega)
theorem qQi {x X d D:Int}(g:0<=x)(a:x<=X)(b:0<d)(c:d<=D):x / D<=X / d:=by
 have i:x / D<=X / D:=Int.ediv_le_ediv (by omega) a;have h0:0<=X / D:=Int.ediv_nonneg (by omega) (by omega)
 have l:X / D<=X / d:=by
  rw [Int.le_ediv_iff_mul_le b];have f:X / D*d<=X / D*D:=Int.mul_le_mul_of_nonneg_left c h0;have k:X / D*D<=X:=Int.ediv_mul_le _ (by omega)
  omega
 omega

theorem qVo {op a A b B x y:Int}(D:1<=op/\op<=10)(o:0<=a)(hA:A<=18446744073709551615)(s:0<=b)(I:B<=18446744073709551615)(f:a<=x/\x<=A)(l:b<=y/\y<=B) :
  (qBn op a A b B).1<=doL op x y/\doL op x y<=(qBn op a A b B).2:=by
 have d:W64 x:=⟨by omega,by omega⟩;have g:W64 y:=⟨by omega,by omega⟩;have c:=qVh op d g;unfold W64 at c;unfold qBn
 by_cases hs:a=A/\b=B
 ·rw [if_pos hs];obtain ⟨rfl,rfl⟩:=hs
  obtain rfl:x=a:=by omega
  obtain rfl:y=b:=by omega
  exact ⟨Int.le_refl _,Int.le_refl _⟩
 rw [if_neg hs]
 by_cases h1:op=1
 ·subst h1;rw [if_pos rfl]
  split
  ·exact c
  ·show a+b<=(x+y)%18446744073709551616/\(x+y)%18446744073709551616<=A+B
   omega
 rw [if_neg h1]
 by_cases h2:op=2
 ·subst h2;rw [if_pos rfl]
  split
  ·exact c
  ·show a-B<=(x-y)%18446744073709551616/\(x-y)%18446744073709551616<=A-b
   omega
 rw [if_neg h2]
 by_cases h3:op=3
 ·subst h3;rw [if_pos rfl]
  split
  ·exact c
  ·show a*b<=x*y%18446744073709551616/\x*y%18446744073709551616<=A*B
   have i:a*b<=x*y:=Int.mul_le_mul f.1 l.1 s (by omega);have u:x*y<=A*B:=Int.mul_le_mul f.2 l.2 (by omega) (by omega);have E:0<=a*b:=Int.mul_nonneg o s;rw [Int.emod_eq_of_lt (by omega) (by omega)];exact ⟨i,u⟩
 rw [if_neg h3]
 by_cases h4:op=4
 ·subst h4;rw [if_pos rfl]
  split
  ·show 0<=x / y/\x / y<=A
   have:=Int.ediv_le_self (a:=x) y d.1;exact ⟨Int.ediv_nonneg d.1 g.1,by omega⟩
  ·show a / B<=x / y/\x / y<=A / b
   exact ⟨qQi o f.1 (by omega) l.2,qQi d.1 f.2 (by omega) l.1⟩
 rw [if_neg h4]
 by_cases h5:op=5
 ·subst h5;rw [if_pos rfl];have i:doL 5 x y=x%y:=rfl
  have u:x%y<=x:=by
   have e:=Int.ediv_mul_add_emod x y;have:=Int.mul_nonneg (Int.ediv_nonneg d.1 g.1) g.1
   omega
  rw [i] at c ⊢
  split
  ·exact ⟨c.1,by show x%y<=A;omega⟩
  ·split
   ·show a<=x%y/\x%y<=A
    rw [Int.emod_eq_of_lt d.1 (by omega)];exact f
   ·have:=Int.emod_lt_of_pos x (show 0<y by omega)
    show 0<=x%y/\x%y<=min A (B-1)
    omega
 rw [if_neg h5]
 by_cases h6:op=6
 ·subst h6;rw [if_pos rfl];have i:doL 6 x y=bits .and .u64 x y:=rfl;rw [i] at c ⊢;have:=xBh d g
  show 0<=bits .and .u64 x y/\bits .and .u64 x y<=min A B
  omega
 rw [if_neg h6];obtain ⟨k,G,e,i,_⟩:=qUn (n:=max A B) (by omega) (by omega)
 by_cases h7:op=7
 ·subst h7;rw [if_pos rfl];have q:=xCf d g;have r:=(qXm (k:=k) d g (by omega) (by omega)).1
  show max a b<=bits .or .u64 x y/\bits .or .u64 x y<=qCq (max A B)
  omega
 rw [if_neg h7]
 by_cases h8:op=8
 ·subst h8;rw [if_pos rfl];have r:=(qXm (k:=k) d g (by omega) (by omega)).2;have q:=qPf .xor x y
  show 0<=bits .xor .u64 x y/\bits .xor .u64 x y<=qCq (max A B)
  omega
 rw [if_neg h8]
 by_cases h9:op=9
 ·subst h9;rw [if_pos rfl]
  split
  ·rename_i hc
   obtain ⟨rfl,hc⟩:=hc
   obtain rfl:y=b:=by omega
   have F:=qDo (min y.toNat 64);have z:a*2 ^ min y.toNat 64<=x*2 ^ min y.toNat 64:=Int.mul_le_mul_of_nonneg_right f.1 (by omega);have w:x*2 ^ min y.toNat 64<=A*2 ^ min y.toNat 64:=Int.mul_le_mul_of_nonneg_right f.2 (by omega);have r0:0<=a*2 ^ min y.toNat 64:=Int.mul_nonneg o (by omega)
   show a*2 ^ min y.toNat 64<=x*2 ^ min y.toNat 64%18446744073709551616/\x*2 ^ min y.toNat 64%18446744073709551616<=A*2 ^ min y.toNat 64
   rw [Int.emod_eq_of_lt (by omega) (by omega)];exact ⟨z,w⟩
  ·exact c
 rw [if_neg h9]
 obtain rfl:op=10:=by omega
 show a / 2 ^ min B.toNat 64<=x / 2 ^ min y.toNat 64/\x / 2 ^ min y.toNat 64<=A / 2 ^ min b.toNat 64
 exact ⟨qQi o f.1 (qDo _) (qRp (by omega)),qQi d.1 f.2 (qDo _) (qRp (by omega))⟩
theorem yKz {op a A b B:Int}(c:1<=op/\op<=10)(f:0<=a)(hA:A<=18446744073709551615)(d:0<=b)(g:B<=18446744073709551615)(i:a<=A)(k:b<=B) :
  (qBn op a A b B).1<=(qBn op a A b B).2:=by
 have h:=qVo c f hA d g (x:=a) (y:=b) ⟨by omega,by omega⟩ ⟨by omega,by omega⟩
 omega

def qJz (op:Int) (h:Bool):Bool:=(op==18&&h)||(op==19 && !h)
def qOk (op:Int) (h:Bool):Bool:=(op==16&&h)||(op==17 && !h)
def qEo (op a A b B:Int) (h:Bool):Option (Int×Int) :=
 if b≠B then some (a,A)
 else if qJz op h=true then (if b<=a then none else some (a,min A (b-1)))
 else if 18<=op then (if A<b then none else some (max a b,A))
 else if qOk op h=true then (if a<=b/\b<=A then some (b,b) else none)
 else if a=b/\A=b then none
 else if a=b then some (b+1,A)
 else if A=b then some (a,b-1)
 else some (a,A)
theorem yAg {op a A b B x y:Int}{h:Bool}(g:16<=op/\op<=19)(c:a<=x/\x<=A)(i:b<=y/\y<=B)(f:qCo op x y=h) :
  ∃ l u,qEo op a A b B h=some (l,u)/\l<=x/\x<=u/\a<=l/\u<=A:=by
 unfold qEo
 by_cases hs:b≠B
 ·rw [if_pos hs];exact ⟨a,A,rfl,c.1,c.2,Int.le_refl _,Int.le_refl _⟩
 rw [if_neg hs]
 obtain rfl:b=B:=by omega
 obtain rfl:y=b:=by omega
 have d:op=16∨op=17∨op=18∨op=19:=by omega
 subst f
 rcases d with rfl|rfl|rfl|rfl
 ·have e:qCo 16 x y=(x==y):=rfl;rw [e]
  by_cases hxy:x=y
  ·subst hxy;rw [beq_self_eq_true];rw [if_neg (show ¬ qJz 16 true=true by decide),if_neg (show ¬ (18:Int)<=16 by decide),if_pos (show qOk 16 true=true by decide),if_pos c];exact ⟨x,x,rfl,Int.le_refl _,Int.le_refl _,c.1,c.2⟩
  ·rw [beq_eq_false_iff_ne.2 hxy];rw [if_neg (show ¬ qJz 16 false=true by decide),if_neg (show ¬ (18:Int)<=16 by decide),if_neg (show ¬ qOk 16 false=true by decide)]
   by_cases h1:a=y/\A=y
   ·omega
   rw [if_neg h1]
   by_cases h2:a=y
   ·rw [if_pos h2];exact ⟨y+1,A,rfl,by omega,by omega,by omega,by omega⟩
   rw [if_neg h2]
   by_cases h3:A=y
   ·rw [if_pos h3];exact ⟨a,y-1,rfl,by omega,by omega,by omega,by omega⟩
   rw [if_neg h3];exact ⟨a,A,rfl,by omega,by omega,by omega,by omega⟩
 ·have e:qCo 17 x y=(x != y):=rfl;rw [e];unfold bne
  by_cases hxy:x=y
  ·subst hxy;rw [beq_self_eq_true,Bool.not_true];rw [if_neg (show ¬ qJz 17 false=true by decide),if_neg (show ¬ (18:Int)<=17 by decide),if_pos (show qOk 17 false=true by decide),if_pos c];exact ⟨x,x,rfl,Int.le_refl _,Int.le_refl _,c.1,c.2⟩
  ·rw [beq_eq_false_iff_ne.2 hxy,Bool.not_false];rw [if_neg (show ¬ qJz 17 true=true by decide),if_neg (show ¬ (18:Int)<=17 by decide),if_neg (show ¬ qOk 17 true=true by decide)]
   by_cases h1:a=y/\A=y
   ·omega
   rw [if_neg h1]
   by_cases h2:a=y
   ·rw [if_pos h2];exact ⟨y+1,A,rfl,by omega,by omega,by omega,by omega⟩
   rw [if_neg h2]
   by_cases h3:A=y
   ·rw [if_pos h3];exact ⟨a,y-1,rfl,by omega,by omega,by omega,by omega⟩
   rw [if_neg h3];exact ⟨a,A,rfl,by omega,by omega,by omega,by omega⟩
 ·have e:qCo 18 x y=decide (x<y):=rfl;rw [e]
  by_cases hxy:x<y
  ·rw [decide_eq_true hxy];rw [if_pos (show qJz 18 true=true by decide),if_neg (by omega)];exact ⟨a,min A (y-1),rfl,by omega,by omega,by omega,by omega⟩
  ·rw [decide_eq_false hxy];rw [if_neg (show ¬ qJz 18 false=true by decide),if_pos (show (18:Int)<=18 by decide),if_neg (by omega)];exact ⟨max a y,A,rfl,by omega,by omega,by omega,by omega⟩
 ·have e:qCo 19 x y=decide (y<=x):=rfl;rw [e]
  by_cases hxy:y<=x
  ·rw [decide_eq_true hxy];rw [if_neg (show ¬ qJz 19 true=true by decide),if_pos (show (18:Int)<=19 by decide),if_neg (by omega)];exact ⟨max a y,A,rfl,by omega,by omega,by omega,by omega⟩
  ·rw [decide_eq_false hxy];rw [if_pos (show qJz 19 false=true by decide),if_neg (by omega)];exact ⟨a,min A (y-1),rfl,by omega,by omega,by omega,by omega⟩
def qWu:List Int->Int
 | []=>0
 | x :: r=>r.foldl min x
def qTv:List Int->Int
 | []=>0
 | x :: r=>r.foldl max x
theorem qRh (r:List Int):∀ x:Int,r.foldl min x<=x/\(∀ y∈r,r.foldl min x<=y)/\(r.foldl min x=x∨r.foldl min x∈r):=by
 induction r with
 | nil=>intro x;simp
 | cons z r ih =>
  intro x;obtain ⟨d,c,a⟩:=ih (min x z);refine ⟨by show r.foldl min (min x z)<=x;omega,fun y b=>?_,?_⟩
  ·show r.foldl min (min x z)<=y
   rcases List.mem_cons.1 b with rfl|b
   ·omega
   ·exact c y b
  ·show r.foldl min (min x z)=x∨r.foldl min (min x z)∈z :: r
   rcases a with a|a
   ·by_cases hc:x<=z
    ·left;rw [a];omega
    ·right;rw [a,Int.min_eq_right (by omega)];simp
   ·right;simp [a]
theorem qSo (r:List Int):∀ x:Int,x<=r.foldl max x/\(∀ y∈r,y<=r.foldl max x)/\(r.foldl max x=x∨r.foldl max x∈r):=by
 induction r with
 | nil=>intro x;simp
 | cons z r ih =>
  intro x;obtain ⟨d,c,a⟩:=ih (max x z);refine ⟨by show x<=r.foldl max (max x z);omega,fun y b=>?_,?_⟩
  ·show y<=r.foldl max (max x z)
   rcases List.mem_cons.1 b with rfl|b
   ·omega
   ·exact c y b
  ·show r.foldl max (max x z)=x∨r.foldl max (max x z)∈z :: r
   rcases a with a|a
   ·by_cases hc:z<=x
    ·left;rw [a];omega
    ·right;rw [a,Int.max_eq_right (by omega)];simp
   ·right;simp [a]
theorem yGd {xs:List Int}{y:Int}(h:y∈xs):qWu xs<=y:=by
 cases xs with
 | nil=>simp at h
 | cons x r =>
  rcases List.mem_cons.1 h with rfl|h
  ·exact (qRh r _).1
  ·exact (qRh r x).2.1 y h
theorem yGb {xs:List Int}{y:Int}(h:y∈xs):y<=qTv xs:=by
 cases xs with
 | nil=>simp at h
 | cons x r =>
  rcases List.mem_cons.1 h with rfl|h
  ·exact (qSo r _).1
  ·exact (qSo r x).2.1 y h
theorem yWw {xs:List Int}(h:xs≠[]):qWu xs∈xs:=by
 cases xs with
 | nil=>exact absurd rfl h
 | cons x r =>
  show r.foldl min x∈x :: r
  rcases (qRh r x).2.2 with h|h
  ·rw [h];simp
  ·simp [h]
theorem yVt {xs:List Int}(h:xs≠[]):qTv xs∈xs:=by
 cases xs with
 | nil=>exact absurd rfl h
 | cons x r =>
  show r.foldl max x∈x :: r
  rcases (qSo r x).2.2 with h|h
  ·rw [h];simp
  ·simp [h]
theorem qSg {xs:List Int}(h:xs≠[])(y:Int):qWu (xs++[y])=min (qWu xs) y:=by
 cases xs with
 | nil=>exact absurd rfl h
 | cons x r=>show (r++[y]).foldl min x=min (r.foldl min x) y;rw [List.foldl_append];rfl
theorem qSt {xs:List Int}(h:xs≠[])(y:Int):qTv (xs++[y])=max (qTv xs) y:=by
 cases xs with
 | nil=>exact absurd rfl h
 | cons x r=>show (r++[y]).foldl max x=max (r.foldl max x) y;rw [List.foldl_append];rfl

def okS (s:Int×Int):Bool:=decide (s.1<=s.2)
def loF (ss:List (Int×Int)):Int:=qWu (ss.map (·.1))
def hiF (ss:List (Int×Int)):Int:=qTv (ss.map (·.2))
def loM (ss:List (Int×Int)):Int:=qTv (ss.map (·.1))
def hiM (ss:List (Int×Int)):Int:=qWu (ss.map (·.2))
def qCj (ss:List (Int×Int)):Bool := !ss.isEmpty&&ss.all okS
def qOq (ss:List (Int×Int)):Bool:=qCj ss&&decide (loM ss<=hiM ss)
def qDe (ss:List (Int×Int)):Int×Int:=if qCj ss=true then (loF ss,hiF ss) else (0,0)
def qSu (ss:List (Int×Int)):Int×Int:=if qOq ss=true then (loM ss,hiM ss) else (0,0)
theorem ySc {ss:List (Int×Int)}(h:qCj ss=true):ss≠[]/\∀ s∈ss,s.1<=s.2:=by
 unfold qCj at h;rw [Bool.and_eq_true] at h;refine ⟨fun e=>by subst e;simp at h,fun s a=>?_⟩;exact of_decide_eq_true (List.all_eq_true.1 h.2 s a)
theorem yGz {ss:List (Int×Int)}(h:qCj ss=true){s:Int×Int}(a:s∈ss):(qDe ss).1<=s.1/\s.2<=(qDe ss).2/\(qDe ss).1<=(qDe ss).2:=by
 unfold qDe;rw [if_pos h];have c:loF ss<=s.1:=yGd (List.mem_map.2 ⟨s,a,rfl⟩);have b:s.2<=hiF ss:=yGb (List.mem_map.2 ⟨s,a,rfl⟩);have d:=(ySc h).2 s a;exact ⟨c,b,by show loF ss<=hiF ss;omega⟩
end Go.Proofs.YtmdhljoicnommaaGreat
