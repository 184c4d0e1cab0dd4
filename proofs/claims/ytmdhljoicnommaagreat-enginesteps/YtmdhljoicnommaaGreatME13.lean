/-
  S6RDoC
  S6RShl
  S6RShls
  S6RJoin
  S6Awake
  J9Join
-/
import Derived.Test.YtmdhljoicnommaaGreatME10
import Derived.Deep.RegionHeldLaw
namespace Go.Proofs.YtmdhljoicnommaaGreat
set_option maxHeartbeats 12800000
open Go.RowKit
set_option linter.unusedVariables false
set_option maxRecDepth 20000
theorem qMc {w:World}{n m k j:Nat}{v:Value}{d c l b:Value}(h:w.cell? ⟨n,0,none⟩=some d/\w.cell? ⟨n,1,none⟩=some c/\w.cell? ⟨m,0,none⟩=some l/\w.cell? ⟨m,1,none⟩=some b)(f:k≠n)(g:k≠m) :
  (w.setCell ⟨k,j,none⟩ v).cell? ⟨n,0,none⟩=some d/\(w.setCell ⟨k,j,none⟩ v).cell? ⟨n,1,none⟩=some c/\(w.setCell ⟨k,j,none⟩ v).cell? ⟨m,0,none⟩=some l/\(w.setCell ⟨k,j,none⟩ v).cell? ⟨m,1,none⟩=some b:=by
 have a:∀ p i,k≠p->(w.setCell ⟨k,j,none⟩ v).cell? ⟨p,i,none⟩=w.cell? ⟨p,i,none⟩:=fun p i o=>World.cell?_setCell_other _ _ _ _ (fun e=>o (by injection e with r))
 rw [a n 0 f,a n 1 f,a m 0 g,a m 1 g];exact h
theorem qAb {B:Nat}{w Z:World}{n j:Nat}{v:Value}(h:Below B w Z)(b:B<=n):Below B w (Z.setCell ⟨n,j,none⟩ v) :=
 ⟨h.os,h.tape,h.output,by simpa [World.setCell] using h.size,fun k a=>(Below.heap_setCell Z _ _ k (fun e=>by simp at e;omega)).trans (h.block k a)⟩
theorem qHd {B:Nat}{w Z:World}(h:Below B w Z):Below B w Z.drew:=⟨h.os,h.tape,h.output,h.size,h.block⟩
theorem yGs {n m:Int}(h:Hid (m=qCq n))(w:World)(b:0<=n/\n<=18446744073709551615):Cl 159 #[U8 n] w fun e a=>e=.returned (U8 m)/\w=a:=by
 rw [h.out];exact qBi n w b
theorem qGq {w:World}{n:Nat}{a A:Int}(h0:w.cell? ⟨n,0,none⟩=some (U8 a))(b:w.cell? ⟨n,1,none⟩=some (U8 A)):(loadVar 151 ⟨n,0,none⟩).run Tryz.prog w.drew=.ok (.agg #[U8 a,U8 A]) w.drew:=qAe (w:=w.drew) h0 b
theorem qAp {Z:World}{n:Nat}{d b x y:Value}(r0:Z.cell? ⟨n,0,none⟩=some d)(f:Z.cell? ⟨n,1,none⟩=some b) :
  ((Z.setCell ⟨n,0,none⟩ x).setCell ⟨n,1,none⟩ y).cell? ⟨n,0,none⟩=some x/\((Z.setCell ⟨n,0,none⟩ x).setCell ⟨n,1,none⟩ y).cell? ⟨n,1,none⟩=some y:=by
 have e:((Z.setCell ⟨n,0,none⟩ x).cell? ⟨n,1,none⟩)=some b:=by rw [World.cell?_setCell_other _ _ _ _ (fun e=>by injection e with c a;simp at a)];exact f
 constructor
 ·rw [World.cell?_setCell_other _ _ _ _ (fun e=>by injection e with c a;simp at a)]
  simp [World.cell?_setCell_same',r0]
 ·simp [World.cell?_setCell_same',e]

theorem yZb (a A b B:Int)(w:World)(r:0<=a/\a<=A/\A<=18446744073709551615)(l:0<=b/\b<=B/\B<=18446744073709551615)(u:(a==A)=false)  :
  Cl 143 #[I4 10,.agg #[U8 a,U8 A],.agg #[U8 b,U8 B]] w fun e c=>e=.returned (.tuple #[.agg #[U8 (a / 2 ^ min B.toNat 64),U8 (A / 2 ^ min b.toNat 64)],.bool true])/\Bw w c:=by
 have E:decide (a<=A)=true:=decide_eq_true r.2.1;have z:decide (b<=B)=true:=decide_eq_true l.2.1;obtain ⟨X,g⟩:∃ X,Hid (X=a / 2 ^ min B.toNat 64):=⟨_,rfl⟩;obtain ⟨Y,d⟩:∃ Y,Hid (Y=A / 2 ^ min b.toNat 64):=⟨_,rfl⟩;obtain ⟨Z,k,f,r0,o,D,F,i⟩:∃ Z,Hid (Z=((((((w.alloc (spO a A)).alloc (spO b B)).alloc (spO 0 0)).alloc (spO a A)).alloc (spO b B)).alloc (spO 0 18446744073709551615)))/\(Z.cell? ⟨w.heap.size,0,none⟩=some (U8 a)/\Z.cell? ⟨w.heap.size,1,none⟩=some (U8 A)/\Z.cell? ⟨w.heap.size+1,0,none⟩=some (U8 b)/\Z.cell? ⟨w.heap.size+1,1,none⟩=some (U8 B))/\Z.cell? ⟨w.heap.size+1+1,0,none⟩=some (U8 0)/\Z.cell? ⟨w.heap.size+1+1,1,none⟩=some (U8 0)/\Z.frozen? ⟨w.heap.size+1+1,0,none⟩=false/\Z.frozen? ⟨w.heap.size+1+1,1,none⟩=false/\Bw w Z :=
  ⟨_,rfl,⟨by go_cell,by go_cell,by go_cell,by go_cell⟩,by go_cell,by go_cell,by go_simp,by go_simp,by go_grown⟩
 go_enter Tryz.func143,Tryz.ntmps143
 go_wp2_with (first
  | (go_at_call 146;go_must (refine (qAf _ _ _).mono ?_);rintro e c ⟨rfl,rfl⟩)
  | (go_at_call 161;fail))
 rw [<- k.out];clear k
 go_region_held_law (fun c=>c.cell? ⟨w.heap.size,0,none⟩=some (U8 a)/\c.cell? ⟨w.heap.size,1,none⟩=some (U8 A)/\c.cell? ⟨w.heap.size+1,0,none⟩=some (U8 b)/\c.cell? ⟨w.heap.size+1,1,none⟩=some (U8 B))
  (first|assumption|((refine qMc ?_ (by omega) (by omega);first|assumption|(refine qMc ?_ (by omega) (by omega);assumption))))
  ((go_at_call 161;refine (yCn _ _ _ (by omega) (by omega)).mono ?_;rintro e c ⟨rfl,rfl⟩;first|rw [<- g.out]|rw [<- d.out]))
 go_wp2;obtain ⟨n,s⟩:=qAp (x:=U8 (X)) (y:=U8 Y) r0 o;refine bodyPost_ret (v:=.tuple #[.agg #[U8 (X),U8 Y],.bool true]) ?_ rfl ⟨by rw [g.out,d.out],qHd (qAb (qAb i (by omega)) (by omega))⟩;rw [results_cell_tmp rfl]
 simp [asAddr,Result.andThen]
 rw [qGq n s]
theorem ySq (a b B:Int)(w:World)(r:0<=a/\a<=a/\a<=18446744073709551615)(l:0<=b/\b<=B/\B<=18446744073709551615)(u:(b==B)=false)  :
  Cl 143 #[I4 10,.agg #[U8 a,U8 a],.agg #[U8 b,U8 B]] w fun e c=>e=.returned (.tuple #[.agg #[U8 (a / 2 ^ min B.toNat 64),U8 (a / 2 ^ min b.toNat 64)],.bool true])/\Bw w c:=by
 have D:decide (a<=a)=true:=decide_eq_true r.2.1;have z:decide (b<=B)=true:=decide_eq_true l.2.1;obtain ⟨X,g⟩:∃ X,Hid (X=a / 2 ^ min B.toNat 64):=⟨_,rfl⟩;obtain ⟨Y,d⟩:∃ Y,Hid (Y=a / 2 ^ min b.toNat 64):=⟨_,rfl⟩;obtain ⟨Z,k,f,r0,o,A,E,i⟩:∃ Z,Hid (Z=((((((w.alloc (spO a a)).alloc (spO b B)).alloc (spO 0 0)).alloc (spO a a)).alloc (spO b B)).alloc (spO 0 18446744073709551615)))/\(Z.cell? ⟨w.heap.size,0,none⟩=some (U8 a)/\Z.cell? ⟨w.heap.size,1,none⟩=some (U8 a)/\Z.cell? ⟨w.heap.size+1,0,none⟩=some (U8 b)/\Z.cell? ⟨w.heap.size+1,1,none⟩=some (U8 B))/\Z.cell? ⟨w.heap.size+1+1,0,none⟩=some (U8 0)/\Z.cell? ⟨w.heap.size+1+1,1,none⟩=some (U8 0)/\Z.frozen? ⟨w.heap.size+1+1,0,none⟩=false/\Z.frozen? ⟨w.heap.size+1+1,1,none⟩=false/\Bw w Z :=
  ⟨_,rfl,⟨by go_cell,by go_cell,by go_cell,by go_cell⟩,by go_cell,by go_cell,by go_simp,by go_simp,by go_grown⟩
 go_enter Tryz.func143,Tryz.ntmps143
 go_wp2_with (first
  | (go_at_call 146;go_must (refine (qAf _ _ _).mono ?_);rintro e c ⟨rfl,rfl⟩)
  | (go_at_call 161;fail))
 rw [<- k.out];clear k
 go_region_held_law (fun c=>c.cell? ⟨w.heap.size,0,none⟩=some (U8 a)/\c.cell? ⟨w.heap.size,1,none⟩=some (U8 a)/\c.cell? ⟨w.heap.size+1,0,none⟩=some (U8 b)/\c.cell? ⟨w.heap.size+1,1,none⟩=some (U8 B))
  (first|assumption|((refine qMc ?_ (by omega) (by omega);first|assumption|(refine qMc ?_ (by omega) (by omega);assumption))))
  ((go_at_call 161;refine (yCn _ _ _ (by omega) (by omega)).mono ?_;rintro e c ⟨rfl,rfl⟩;first|rw [<- g.out]|rw [<- d.out]))
 go_wp2;obtain ⟨n,s⟩:=qAp (x:=U8 (X)) (y:=U8 Y) r0 o;refine bodyPost_ret (v:=.tuple #[.agg #[U8 (X),U8 Y],.bool true]) ?_ rfl ⟨by rw [g.out,d.out],qHd (qAb (qAb i (by omega)) (by omega))⟩;rw [results_cell_tmp rfl]
 simp [asAddr,Result.andThen]
 rw [qGq n s]
def Bx (w:World) (n:Nat) (x y:Int):Prop:=(w.cell? ⟨n,0,none⟩=some (.int .u64 x)/\w.cell? ⟨n,1,none⟩=some (.int .u64 y))/\w.frozen? ⟨n,0,none⟩=false/\w.frozen? ⟨n,1,none⟩=false
theorem Bx.set {w:World}{n:Nat}{x y:Int}(h:Bx w n x y)(b a:Int):Bx ((w.setCell ⟨n,0,none⟩ (U8 b)).setCell ⟨n,1,none⟩ (U8 a)) n b a :=
 ⟨qAp h.1.1 h.1.2,by simpa using h.2.1,by simpa using h.2.2⟩
theorem Bx.far {w:World}{n m i:Nat}{x y:Int}{v:Value}(h:Bx w n x y)(b:m≠n):Bx (w.setCell ⟨m,i,none⟩ v) n x y:=by
 have a:∀ j,(w.setCell ⟨m,i,none⟩ v).cell? ⟨n,j,none⟩=w.cell? ⟨n,j,none⟩:=fun j=>World.cell?_setCell_other _ _ _ _ (fun e=>b (by injection e with c))
 exact ⟨⟨(a 0).trans h.1.1,(a 1).trans h.1.2⟩,by simpa using h.2.1,by simpa using h.2.2⟩
def qIf (a A:Int) (k:Nat):Option (Int×Int):=if A*2 ^ min k 64<=18446744073709551615 then some (a*2 ^ min k 64,A*2 ^ min k 64) else none
theorem yEv {A:Int}{j k:Nat}(hA:0<A)(h:18446744073709551615<A*2 ^ j)(b:j<=k):18446744073709551615<A*2 ^ min k 64:=by
 by_cases hk:k<=64
 ·rw [Nat.min_eq_left hk]
  have a:(2:Int) ^ j<=2 ^ k:=by rw [qDd,qDd];exact_mod_cast Nat.pow_le_pow_right (by decide) b
  have c:A*2 ^ j<=A*2 ^ k:=Int.mul_le_mul_of_nonneg_left a (by omega)
  omega
 ·rw [Nat.min_eq_right (by omega)]
  have e:(2:Int) ^ 64=18446744073709551616:=by decide
  rw [e]
  omega
theorem yEm {A:Int}{k:Nat}(hA:0<A)(h:A*2 ^ k<=18446744073709551615):k<64:=by
 rcases Nat.lt_or_ge k 64 with a|a
 ·exact a
 ·have b:(2:Int) ^ 64<=2 ^ k:=by rw [qDd,qDd];exact_mod_cast Nat.pow_le_pow_right (by decide) a
  have e:(2:Int) ^ 64=18446744073709551616:=by decide
  have c:1*2 ^ k<=A*2 ^ k:=Int.mul_le_mul_of_nonneg_right (by omega) (by omega)
  omega

theorem yEe (a A k:Int)(w:World)(ha:0<=a/\a<=A/\A<=18446744073709551615)(O:0<=k/\k<=18446744073709551615) :
  Cl 160 #[.agg #[U8 a,U8 A],U8 k] w fun e M=>e=.returned (qBh (qIf a A k.toNat))/\Bw w M:=by
 obtain ⟨K,rfl⟩:=Int.eq_ofNat_of_zero_le O.1;rw [Int.toNat_natCast];go_enter Tryz.func160,Tryz.ntmps160;go_wp2
 go_loopw [6] (fun i wr=>∃ (j:Nat) (x X:Int),j<=K/\i=U8 j/\x=a*2 ^ j/\X=A*2 ^ j/\0<=x/\x<=X/\X<=18446744073709551615/\Bx wr w.heap.size x X/\Bx wr (w.heap.size+1) 0 0/\Bw w wr) (fun i _=>K-(intOf i).toNat)
 case atStart=>exact ⟨0,a,A,by omega,rfl,by simp,by simp,by omega,by omega,by omega,⟨⟨by go_cell,by go_cell⟩,by go_simp,by go_simp⟩,⟨⟨by go_cell,by go_cell⟩,by go_simp,by go_simp⟩,by go_grown⟩
 case round =>
  obtain ⟨j,x,X,hj,rfl,F,D,R,S,B,r,n,c⟩:=hrel;have b:Hid (x=a*2 ^ j/\X=A*2 ^ j):=⟨F,D⟩;clear F D;obtain ⟨⟨V,J⟩,Z,f1⟩:=id r;obtain ⟨⟨d0,G⟩,g0,g1⟩:=id n;have f:Hid (Bx wr w.heap.size x X):=r;have l:Hid (Bx wr (w.heap.size+1) 0 0):=n;clear r n
  by_cases hlt:j<K/\0<X
  ·obtain ⟨h1,Y⟩:=hlt
   by_cases hg:9223372036854775807<X
   ·have s:Hid (qIf a A K=none):=by
     have hA:0<A:=by
      rcases Int.lt_or_le 0 A with h|h
      ·exact h
      ·have:A=0:=by omega
       have e:=b.out.2;rw [this] at e;simp at e;omega
     unfold qIf;rw [if_neg]
     ·rfl
     have:=yEv (j:=j+1) (k:=K) hA (by rw [Int.pow_succ,<- Int.mul_assoc,<- b.out.2];omega) (by omega)
     omega
    have d:Hid _:=qAp (x:=U8 0) (y:=U8 0) d0 G;go_wp2;refine bodyPost_ret (v:=qBh none) ?_ rfl ⟨by rw [s.out],qAb (qAb c (by omega)) (by omega)⟩;rw [results_cell_tmp rfl]
    simp [asAddr,Result.andThen]
    rw [qAe d.out.1 d.out.2]
    rfl
   ·have T:2*X<=18446744073709551615:=by omega
    have E:Hid (2*x=a*2 ^ (j+1)/\2*X=A*2 ^ (j+1)):=by
     show _/\_
     rw [Int.pow_succ,<- Int.mul_assoc,<- Int.mul_assoc,<- b.out.1,<- b.out.2]
     omega
    have I:Hid (Bx ((wr.setCell ⟨w.heap.size,0,none⟩ (U8 (2*x))).setCell ⟨w.heap.size,1,none⟩ (U8 (2*X))) w.heap.size (2*x) (2*X)):=f.out.set _ _;have P:Hid (Bx ((wr.setCell ⟨w.heap.size,0,none⟩ (U8 (2*x))).setCell ⟨w.heap.size,1,none⟩ (U8 (2*X))) (w.heap.size+1) 0 0):=(l.out.far (by omega)).far (by omega);have L:Hid (Bw w ((wr.setCell ⟨w.heap.size,0,none⟩ (U8 (2*x))).setCell ⟨w.heap.size,1,none⟩ (U8 (2*X)))):=qAb (qAb c (by omega)) (by omega)
    have Q:(wr.setCell ⟨w.heap.size,0,none⟩ (U8 (2*x))).cell? ⟨w.heap.size,1,none⟩=some (U8 X):=by rw [World.cell?_setCell_other _ _ _ _ (fun e=>by injection e with u g;simp at g)];exact J
    clear b f l c;go_wp2
    go_roundw
    case rel=>exact ⟨j+1,2*x,2*X,by omega,by go_num,E.out.1,E.out.2,by omega,by omega,by omega,I.out,P.out,L.out⟩
    case measure=>simp [intOf];omega
  ·have s:Hid (qIf a A K=some (x,X)):=by
    show _=_
    rcases Int.lt_or_le 0 X with h|h
    ·obtain rfl:j=K:=by omega
     have hA:0<A:=by
      rcases Int.lt_or_le 0 A with o|o
      ·exact o
      ·have:A=0:=by omega
       have e:=b.out.2;rw [this] at e;simp at e;omega
     have U:=yEm hA (by rw [<- b.out.2];exact B);unfold qIf;rw [Nat.min_eq_left (by omega),<- b.out.1,<- b.out.2,if_pos B]
    ·have N:=qDo j
     have hA:A=0:=by
      rcases Int.lt_or_le 0 A with o|o
      ·have:=Int.mul_pos o N;have:=b.out.2
       omega
      ·omega
     have z:a=0:=by omega
     have u:=b.out.1;have g:=b.out.2;rw [z] at u;rw [hA] at g
     simp at u g
     rw [u,g,z,hA]
     simp [qIf]
   have d:Hid _:=qAp (x:=U8 x) (y:=U8 X) d0 G;clear b f l
   by_cases hj2:j<K
   ·obtain rfl:X=0:=by omega
    go_wp2;refine bodyPost_ret (v:=qBh (some (x,0))) ?_ rfl ⟨by rw [s.out],qAb (qAb c (by omega)) (by omega)⟩;rw [results_cell_tmp rfl]
    simp [asAddr,Result.andThen]
    rw [qAe d.out.1 d.out.2]
    rfl
   ·go_wp2;refine bodyPost_ret (v:=qBh (some (x,X))) ?_ rfl ⟨by rw [s.out],qAb (qAb c (by omega)) (by omega)⟩;rw [results_cell_tmp rfl]
    simp [asAddr,Result.andThen]
    rw [qAe d.out.1 d.out.2]
    rfl
theorem qUr {a A k:Int}{o:Option (Int×Int)}(h:Hid (o=qIf a A k.toNat))(w:World)(c:0<=a/\a<=A/\A<=18446744073709551615)(d:0<=k/\k<=18446744073709551615) :
  Cl 160 #[.agg #[U8 a,U8 A],U8 k] w fun e b=>e=.returned (qBh o)/\Bw w b:=by
 rw [h.out];exact yEe a A k w c d
theorem Bx.below {w c:World}{n B:Nat}{x y:Int}(h:Bx w n x y)(a:Below B w c)(b:n<B):Bx c n x y:=by
 unfold Bx;rw [a.cell (p:=⟨n,0,none⟩) b,a.cell (p:=⟨n,1,none⟩) b,a.frozen (p:=⟨n,0,none⟩) b,a.frozen (p:=⟨n,1,none⟩) b];exact h

theorem ySo (a A n:Int)(w:World)(k:0<=a/\a<=A/\A<=18446744073709551615)(D:0<=n/\n<=18446744073709551615)(E:(a==A)=false)(h:Hid (none=qIf a A n.toNat)) :
  Cl 143 #[I4 9,.agg #[U8 a,U8 A],.agg #[U8 n,U8 n]] w fun e i=>e=.returned (.tuple #[.agg #[U8 0,U8 18446744073709551615],.bool true])/\Bw w i:=by
 have I:decide (a<=A)=true:=decide_eq_true k.2.1;have G:decide (n<=n)=true:=decide_eq_true (Int.le_refl _);obtain ⟨Z,s,f,r,u,c,l⟩:∃ Z,Hid (Z=((((((w.alloc (spO a A)).alloc (spO n n)).alloc (spO 0 0)).alloc (spO a A)).alloc (spO n n)).alloc (spO 0 18446744073709551615)))/\Bx Z w.heap.size a A/\Bx Z (w.heap.size+1+1) 0 0/\Bx Z (w.heap.size+1+1+1+1+1) 0 18446744073709551615/\Bw w Z/\w.heap.size+1+1+1+1+1<Z.heap.size :=
  ⟨_,rfl,⟨⟨by go_cell,by go_cell⟩,by go_simp,by go_simp⟩,⟨⟨by go_cell,by go_cell⟩,by go_simp,by go_simp⟩,⟨⟨by go_cell,by go_cell⟩,by go_simp,by go_simp⟩,by go_grown,by simp⟩
 go_enter Tryz.func143,Tryz.ntmps143
 go_wp2_with (first
  | (go_at_call 146;go_must (refine (qAf _ _ _).mono ?_);rintro e i ⟨rfl,rfl⟩)
  | (go_at_call 160;go_must (rw [<- s.out];refine (qUr h _ k D).mono ?_);rintro e g ⟨rfl,b⟩;go_must (simp only [qBh];obtain ⟨⟨r0,B⟩,q0,J⟩:=r.below b (by omega);obtain ⟨⟨e0,K⟩,_,_⟩:=u.below b (by omega);have o:=c.trans (b.mono c.size);have d:=b.size;have z:w.heap.size+1+1+1+1+1<g.heap.size:=Nat.lt_of_lt_of_le l d;have F:w.heap.size+1+1<g.heap.size:=Nat.lt_trans (by omega) z;clear d b l s)))
 have t:=qAp (x:=U8 0) (y:=U8 18446744073709551615) r0 B;refine bodyPost_ret (v:=.tuple #[.agg #[U8 0,U8 18446744073709551615],.bool true]) ?_ rfl ⟨rfl,(qAb (qAb o (by omega)) (by omega)).alloc (by simp [World.setCell];omega) _⟩;rw [results_cell_tmp rfl]
 simp [asAddr,Result.andThen]
 rw [qAe (a:=0) (A:=18446744073709551615)]
 ·refine (World.cell?_alloc_past _ _ _ ?_).trans t.1;simp [World.setCell];omega
 ·refine (World.cell?_alloc_past _ _ _ ?_).trans t.2;simp [World.setCell];omega
theorem yTm (a A n x X:Int)(w:World)(k:0<=a/\a<=A/\A<=18446744073709551615)(D:0<=n/\n<=18446744073709551615)(E:(a==A)=false)(h:Hid (some (x,X)=qIf a A n.toNat)) :
  Cl 143 #[I4 9,.agg #[U8 a,U8 A],.agg #[U8 n,U8 n]] w fun e i=>e=.returned (.tuple #[.agg #[U8 x,U8 X],.bool true])/\Bw w i:=by
 have I:decide (a<=A)=true:=decide_eq_true k.2.1;have G:decide (n<=n)=true:=decide_eq_true (Int.le_refl _);obtain ⟨Z,s,f,r,u,c,l⟩:∃ Z,Hid (Z=((((((w.alloc (spO a A)).alloc (spO n n)).alloc (spO 0 0)).alloc (spO a A)).alloc (spO n n)).alloc (spO 0 18446744073709551615)))/\Bx Z w.heap.size a A/\Bx Z (w.heap.size+1+1) 0 0/\Bx Z (w.heap.size+1+1+1+1+1) 0 18446744073709551615/\Bw w Z/\w.heap.size+1+1+1+1+1<Z.heap.size :=
  ⟨_,rfl,⟨⟨by go_cell,by go_cell⟩,by go_simp,by go_simp⟩,⟨⟨by go_cell,by go_cell⟩,by go_simp,by go_simp⟩,⟨⟨by go_cell,by go_cell⟩,by go_simp,by go_simp⟩,by go_grown,by simp⟩
 go_enter Tryz.func143,Tryz.ntmps143
 go_wp2_with (first
  | (go_at_call 146;go_must (refine (qAf _ _ _).mono ?_);rintro e i ⟨rfl,rfl⟩)
  | (go_at_call 160;go_must (rw [<- s.out];refine (qUr h _ k D).mono ?_);rintro e g ⟨rfl,b⟩;go_must (simp only [qBh];obtain ⟨⟨r0,B⟩,q0,J⟩:=r.below b (by omega);obtain ⟨⟨e0,K⟩,_,_⟩:=u.below b (by omega);have o:=c.trans (b.mono c.size);have d:=b.size;have z:w.heap.size+1+1+1+1+1<g.heap.size:=Nat.lt_of_lt_of_le l d;have F:w.heap.size+1+1<g.heap.size:=Nat.lt_trans (by omega) z;clear d b l s)))
 have t:=qAp (x:=U8 x) (y:=U8 X) r0 B;refine bodyPost_ret (v:=.tuple #[.agg #[U8 x,U8 X],.bool true]) ?_ rfl ⟨rfl,(qAb (qAb o (by omega)) (by omega)).alloc (by simp [World.setCell];omega) _⟩;rw [results_cell_tmp rfl]
 simp [asAddr,Result.andThen]
 rw [qAe (a:=x) (A:=X)]
 ·refine (World.cell?_alloc_past _ _ _ ?_).trans t.1;simp [World.setCell];omega
 ·refine (World.cell?_alloc_past _ _ _ ?_).trans t.2;simp [World.setCell];omega
theorem qUo {ss:List (Int×Int)}{k:Nat}(b:k<ss.length)(h0:k≠0):loF (ss.take (k+1))=min (loF (ss.take k)) (ss.getD k (0,0)).1/\hiF (ss.take (k+1))=max (hiF (ss.take k)) (ss.getD k (0,0)).2/\loM (ss.take (k+1))=max (loM (ss.take k)) (ss.getD k (0,0)).1/\hiM (ss.take (k+1))=min (hiM (ss.take k)) (ss.getD k (0,0)).2:=by
 have e:ss.getD k (0,0)=ss[k]:=by simp [b]
 have a:∀ f:Int×Int->Int,(ss.take k).map f≠[]:=fun f h=>by
  have c:(ss.take k).length=0:=by rw [List.map_eq_nil_iff.1 h];rfl
  rw [List.length_take] at c
  omega
 unfold loF hiF loM hiM;rw [e,List.take_succ_eq_append_getElem b];simp only [List.map_append,List.map_cons,List.map_nil];exact ⟨qSg (a _) _,qSt (a _) _,qSt (a _) _,qSg (a _) _⟩
theorem qUi {ss:List (Int×Int)}(h:0<ss.length):loF (ss.take 1)=(ss.getD 0 (0,0)).1/\hiF (ss.take 1)=(ss.getD 0 (0,0)).2/\loM (ss.take 1)=(ss.getD 0 (0,0)).1/\hiM (ss.take 1)=(ss.getD 0 (0,0)).2:=by
 cases ss with
 | nil=>simp at h
 | cons s r=>exact ⟨rfl,rfl,rfl,rfl⟩
theorem yDl {ss:List (Int×Int)}{k:Nat}(a:k<ss.length):(ss.take (k+1)).all okS=((ss.take k).all okS&&okS (ss.getD k (0,0))):=by
 have e:ss.getD k (0,0)=ss[k]:=by simp [a]
 rw [e,List.take_succ_eq_append_getElem a,List.all_append]
 simp
theorem yMr {ss:List (Int×Int)}{k:Nat}(b:k<ss.length)(h:okS (ss.getD k (0,0))=false):qCj ss=false:=by
 have e:ss.getD k (0,0)=ss[k]:=by simp [b]
 rw [e] at h;unfold qCj;rw [Bool.and_eq_false_iff]
 right
 rw [Bool.eq_false_iff];intro a;rw [List.all_eq_true.1 a _ (List.getElem_mem b)] at h
 cases h

theorem Bx.set0 {w:World}{n:Nat}{x y:Int}(h:Bx w n x y)(a:Int):Bx (w.setCell ⟨n,0,none⟩ (U8 a)) n a y :=
 ⟨⟨by simp [World.cell?_setCell_same',h.1.1],by rw [World.cell?_setCell_other _ _ _ _ (fun e=>by injection e with c b;simp at b)];exact h.1.2⟩,by simpa using h.2.1,by simpa using h.2.2⟩
theorem Bx.set1 {w:World}{n:Nat}{x y:Int}(h:Bx w n x y)(a:Int):Bx (w.setCell ⟨n,1,none⟩ (U8 a)) n x a :=
 ⟨⟨by rw [World.cell?_setCell_other _ _ _ _ (fun e=>by injection e with c b;simp at b)];exact h.1.1,by simp [World.cell?_setCell_same',h.1.2]⟩,by simpa using h.2.1,by simpa using h.2.2⟩
theorem Bx.drew2 {w:World}{n:Nat}{x y:Int}{o:Obj}(h:Bx w n x y)(b:n<w.heap.size):Bx (w.alloc o).drew.drew n x y :=
 have a:Bx (w.alloc o) n x y:=h.below ((Below.refl w.heap.size w).alloc (Nat.le_refl _) o) b
 a
theorem Bx.al {w:World}{n:Nat}{x y:Int}{o:Obj}(h:Bx w n x y)(a:n<w.heap.size):Bx (w.alloc o) n x y:=h.below ((Below.refl w.heap.size w).alloc (Nat.le_refl _) o) a
theorem qMl {B:Nat}{w Z:World}{o:Obj}(h:Below B w Z)(a:B<=Z.heap.size):Below B w (Z.alloc o).drew.drew:=qHd (qHd (h.alloc a o))
theorem qDj {w:World}{a:Addr}{v:Value}:(w.setCell a v).heap.size=w.heap.size:=by simp [World.setCell]

theorem yIa (u off cap:Nat)(ss:List (Int×Int))(w:World)(O:0<ss.length)(Z:ss.length<=cap)(hm:cap<=9223372036854775807)(Q:u<w.heap.size)(K:∀ s∈ss,wfS s)(J:∀ k,k<ss.length->AtS w u (off+k*2) (ss.getD k (0,0))) :
  Cl 122 #[.slice (some ⟨u,off,none⟩) ss.length cap] w fun e I=>e=.returned (qBh (if qCj ss=true then some (qDe ss) else none))/\Bw w I:=by
 have HA:Hid (∀ k,k<ss.length->AtS w u (off+k*2) (ss.getD k (0,0))):=J;have HW:Hid (∀ s∈ss,wfS s):=K;clear J K;obtain ⟨n,l⟩:∃ n,Hid (n=ss.length):=⟨_,rfl⟩;rw [<- l.out] at Z O ⊢;obtain ⟨R,M⟩:∃ R,Hid (R=if qCj ss=true then some (qDe ss) else none):=⟨_,rfl⟩;rw [<- M.out];go_enter Tryz.func122,Tryz.ntmps122;go_wp2
 go_loopw [5] (fun i wr=>∃ (k:Nat) (x X:Int),k<=n/\i=I4 k/\Hid ((ss.take k).all okS=true/\(k≠0->x=loF (ss.take k)/\X=hiF (ss.take k)))/\Bx wr w.heap.size 0 0/\Bx wr (w.heap.size+1) x X/\Bw w wr/\w.heap.size+1<wr.heap.size) (fun i _=>n-(intOf i).toNat)
 case atStart=>exact ⟨0,0,0,by omega,rfl,⟨rfl,fun h=>absurd rfl h⟩,⟨⟨by go_cell,by go_cell⟩,by go_simp,by go_simp⟩,⟨⟨by go_cell,by go_cell⟩,by go_simp,by go_simp⟩,by go_grown,by simp⟩
 case round =>
  obtain ⟨k,x,X,hk,rfl,c,F,E,b,m1⟩:=hrel
  have m0:w.heap.size<wr.heap.size:=by omega
  have mb:u<wr.heap.size:=by omega
  obtain ⟨⟨S,P⟩,f0,f1⟩:=id F;obtain ⟨⟨d0,d1⟩,g0,g1⟩:=id E;have f:Hid (Bx wr w.heap.size 0 0):=F;have g:Hid (Bx wr (w.heap.size+1) x X):=E;have hsz:=b.size;clear F E
  by_cases hlt:k<n
  ·obtain ⟨y,Y,D⟩:∃ y Y,Hid (ss.getD k (0,0)=(y,Y)):=⟨_,_,rfl⟩;have z:=(HA.out k (by have:=l.out;omega)).below b Q;rw [D.out] at z;obtain ⟨e0,V⟩:=z;simp only at e0 V
   cases hr:decide (y<=Y)
   ·have HF:Hid (qCj ss=false):=yMr (k:=k) (by have:=l.out;omega) (by rw [D.out];exact hr);have G:Hid _:=qAp (x:=U8 0) (y:=U8 0) S P
    have L:Hid (R=none):=by rw [M.out,HF.out];rfl
    go_wp2_with (go_at_call 146;go_must (refine (qAf _ _ _).mono ?_);rintro e I ⟨rfl,rfl⟩)
    refine bodyPost_ret (v:=qBh none) ?_ rfl ⟨by rw [L.out],(qAb (qAb b (by omega)) (by omega)).alloc (by simp [World.setCell];omega) _⟩;rw [results_cell_tmp rfl]
    simp [asAddr,Result.andThen]
    rw [qAe (a:=0) (A:=0)]
    ·rfl
    ·refine (World.cell?_alloc_past _ _ _ ?_).trans G.out.1;simp [World.setCell];omega
    ·refine (World.cell?_alloc_past _ _ _ ?_).trans G.out.2;simp [World.setCell];omega
   ·have o:Hid ((ss.take (k+1)).all okS=true):=by
     show _=_
     rw [yDl (by have:=l.out;omega),c.out.1,D.out];exact hr
    by_cases hk0:k=0
    ·have U:((k:Int)==0)=true:=by simp [hk0]
     have a1:wr.cell? ⟨u,off,none⟩=some (U8 y):=by simpa [hk0] using e0
     have a2:wr.cell? ⟨u,off+1,none⟩=some (U8 Y):=by simpa [hk0] using V
     have d:Hid (loF (ss.take (k+1))=y/\hiF (ss.take (k+1))=Y):=by
      have h:=qUi (ss:=ss) (by have:=l.out;omega);have e:=D.out;rw [hk0] at e ⊢;rw [e] at h;exact ⟨h.1,h.2.1⟩
     go_wp2_with (go_at_call 146;go_must (refine (qAf _ _ _).mono ?_);rintro e I ⟨rfl,rfl⟩)
     go_region
     all_goals go_wp2
     all_goals go_region
     all_goals go_wp2
     ·go_roundw
      case rel=>exact ⟨k+1,y,Y,by omega,by first|go_num|exact congrArg _ (by omega),⟨o.out,fun _=>⟨by rw [d.out.1],by rw [d.out.2]⟩⟩,Bx.drew2 ((f.out.far (m:=w.heap.size+1) (by omega)).far (m:=w.heap.size+1) (by omega)) (by first|omega|(simp only [qDj];omega)),Bx.drew2 ((g.out.set0 y).set1 Y) (by first|omega|(simp only [qDj];omega)),qMl (qAb (qAb b (by omega)) (by omega)) (by first|omega|(simp only [qDj];omega)),by first|(simp;omega)|(simp [World.setCell];omega)⟩
      case measure=>simp [intOf];omega
    ·have U:((k:Int)==0)=false:=by simp;omega
     have d:Hid (loF (ss.take (k+1))=min (loF (ss.take k)) y/\hiF (ss.take (k+1))=max (hiF (ss.take k)) Y):=by
      have h:=qUo (ss:=ss) (k:=k) (by have:=l.out;omega) hk0;rw [D.out] at h;exact ⟨h.1,h.2.1⟩
     go_wp2_with (go_at_call 146;go_must (refine (qAf _ _ _).mono ?_);rintro e I ⟨rfl,rfl⟩)
     by_cases hy:y<x<;>by_cases hY:X<Y
     all_goals go_region
     all_goals go_wp2
     all_goals go_region
     all_goals go_wp2
     ·go_roundw
      case rel=>exact ⟨k+1,y,Y,by omega,by go_num,⟨o.out,fun _=>⟨by rw [d.out.1,<- (c.out.2 hk0).1];omega,by rw [d.out.2,<- (c.out.2 hk0).2];omega⟩⟩,Bx.drew2 ((f.out.far (m:=w.heap.size+1) (by omega)).far (m:=w.heap.size+1) (by omega)) (by first|omega|(simp only [qDj];omega)),Bx.drew2 ((g.out.set0 y).set1 Y) (by first|omega|(simp only [qDj];omega)),qMl (qAb (qAb b (by omega)) (by omega)) (by first|omega|(simp only [qDj];omega)),by first|(simp;omega)|(simp [World.setCell];omega)⟩
      case measure=>simp [intOf];omega
     ·go_roundw
      case rel=>exact ⟨k+1,y,X,by omega,by go_num,⟨o.out,fun _=>⟨by rw [d.out.1,<- (c.out.2 hk0).1];omega,by rw [d.out.2,<- (c.out.2 hk0).2];omega⟩⟩,Bx.drew2 (f.out.far (m:=w.heap.size+1) (by omega)) (by first|omega|(simp only [qDj];omega)),Bx.drew2 (g.out.set0 y) (by first|omega|(simp only [qDj];omega)),qMl (qAb b (by omega)) (by first|omega|(simp only [qDj];omega)),by first|(simp;omega)|(simp [World.setCell];omega)⟩
      case measure=>simp [intOf];omega
     ·go_roundw
      case rel=>exact ⟨k+1,x,Y,by omega,by go_num,⟨o.out,fun _=>⟨by rw [d.out.1,<- (c.out.2 hk0).1];omega,by rw [d.out.2,<- (c.out.2 hk0).2];omega⟩⟩,Bx.drew2 (f.out.far (m:=w.heap.size+1) (by omega)) (by first|omega|(simp only [qDj];omega)),Bx.drew2 (g.out.set1 Y) (by first|omega|(simp only [qDj];omega)),qMl (qAb b (by omega)) (by first|omega|(simp only [qDj];omega)),by first|(simp;omega)|(simp [World.setCell];omega)⟩
      case measure=>simp [intOf];omega
     ·go_roundw
      case rel=>exact ⟨k+1,x,X,by omega,by go_num,⟨o.out,fun _=>⟨by rw [d.out.1,<- (c.out.2 hk0).1];omega,by rw [d.out.2,<- (c.out.2 hk0).2];omega⟩⟩,Bx.drew2 f.out (by first|omega|(simp only [qDj];omega)),Bx.drew2 g.out (by first|omega|(simp only [qDj];omega)),qMl b (by first|omega|(simp only [qDj];omega)),by first|(simp;omega)|(simp [World.setCell];omega)⟩
      case measure=>simp [intOf];omega
  ·obtain rfl:k=n:=by omega
   have L:Hid (R=some (x,X)):=by
    have B:=c.out.1;have N:=c.out.2 (by omega);rw [show ss.take k=ss by rw [l.out];exact List.take_length] at B N
    have T:qCj ss=true:=by
     unfold qCj;rw [B,Bool.and_true]
     cases ss with
     | nil=>have:=l.out;simp at this;omega
     | cons s r=>rfl
    show _=_
    rw [M.out,if_pos T];unfold qDe;rw [if_pos T,<- N.1,<- N.2]
   have G:Hid _:=qAp (x:=U8 x) (y:=U8 X) S P;have a0:decide ((0:Int)<(k:Int))=true:=decide_eq_true (by omega);go_wp2;refine bodyPost_ret (v:=qBh (some (x,X))) ?_ rfl ⟨by rw [L.out],qAb (qAb b (by omega)) (by omega)⟩;rw [results_cell_tmp rfl]
   simp [asAddr,Result.andThen]
   rw [qAe G.out.1 G.out.2]
   rfl
def KDo:Prop:=∀ (op a A b B:Int) (w:World),W64 a->W64 A->W64 b->W64 B->Calls Tryz.prog 157 #[.int .i64 op,.agg #[.int .u64 a,.int .u64 A],.agg #[.int .u64 b,.int .u64 B]] w fun e w'=>e=.returned (qBh (doR op a A b B))/\Below w.heap.size w w'
def yZi:Prop:=∀ (op a A b B:Int) (h:Bool) (w:World),W64 a->W64 A->W64 b->W64 B->Calls Tryz.prog 141 #[.int .i64 op,.agg #[.int .u64 a,.int .u64 A],.agg #[.int .u64 b,.int .u64 B],.bool h] w fun e w'=>e=.returned (qBh (qDb op a A b B h))/\Below w.heap.size w w'
theorem qBu (w:World)(t:TypeId)(x X y Y:Int)(k:Nat)(a:k=w.heap.size):SeesS (w.alloc (.cells #[U8 x,U8 X,U8 y,U8 Y] t)) (.slice (some ⟨k,0,none⟩) 2 2) [(x,X),(y,Y)]:=by
 subst a;exact SeesS.lit w t [(x,X),(y,Y)] _ 2 rfl rfl (by simp)
theorem yGx (a:Option Addr)(cap:Nat)(w:World):Cl 122 #[.slice a 0 cap] w fun e b=>e=.returned (qBh none)/\Bw w b:=by
 go_enter Tryz.func122,Tryz.ntmps122;go_wp2;refine wp_loop_rounds 1 ?_;rw [rounds_succ];go_wp2;refine bodyPost_ret (v:=qBh none) ?_ rfl ⟨rfl,by go_grown⟩;rw [results_cell_tmp rfl]
 simp [asAddr,Result.andThen]
 rw [qAe (a:=0) (A:=0)]
 ·rfl
 all_goals go_cell
theorem yNi (v:Value)(ss:List (Int×Int))(w:World)(g:SeesS w v ss)(d:∀ s∈ss,wfS s) :
  Cl 122 #[v] w fun e i=>e=.returned (qBh (if qCj ss=true then some (qDe ss) else none))/\Bw w i:=by
 obtain ⟨a,cap,rfl,l,hm,n,k⟩:=g
 by_cases hne:ss=[]
 ·subst hne;exact yGx a cap w
 ·obtain ⟨b,off,rfl,f,c⟩:=k hne;exact yIa b off cap ss w (List.length_pos_iff.2 hne) l (by unfold maxLen at hm;omega) f d c
end Go.Proofs.YtmdhljoicnommaaGreat
