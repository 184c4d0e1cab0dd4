/-
  S6RDoC
  S6RShl
  S6RShls
  S6RJoin
  S6Awake
  J9Join
-/
import Derived.Test.YtmdhljoicnommaaGreatMS10
import Derived.Deep.RegionHeldLaw
namespace Go.Proofs.YtmdhljoicnommaaGreat
set_option maxHeartbeats 12800000
open Go.RowKit
set_option linter.unusedVariables false
set_option maxRecDepth 20000
theorem keep4 {w:World}{n m k j:Nat}{v:Value}{g b c f:Value}(h:w.cell? ⟨n,0,none⟩=some g/\w.cell? ⟨n,1,none⟩=some b/\w.cell? ⟨m,0,none⟩=some c/\w.cell? ⟨m,1,none⟩=some f)(d:k≠n)(l:k≠m) :
  (w.setCell ⟨k,j,none⟩ v).cell? ⟨n,0,none⟩=some g/\(w.setCell ⟨k,j,none⟩ v).cell? ⟨n,1,none⟩=some b/\(w.setCell ⟨k,j,none⟩ v).cell? ⟨m,0,none⟩=some c/\(w.setCell ⟨k,j,none⟩ v).cell? ⟨m,1,none⟩=some f:=by
 have a:∀ p i,k≠p->(w.setCell ⟨k,j,none⟩ v).cell? ⟨p,i,none⟩=w.cell? ⟨p,i,none⟩:=fun p i o=>World.cell?_setCell_other _ _ _ _ (fun e=>o (by injection e with r))
 rw [a n 0 d,a n 1 d,a m 0 l,a m 1 l];exact h
theorem qAa {B:Nat}{w Z:World}{n j:Nat}{v:Value}(h:Below B w Z)(b:B<=n):Below B w (Z.setCell ⟨n,j,none⟩ v) :=
 ⟨h.os,h.tape,h.output,by simpa [World.setCell] using h.size,fun k a=>(Below.heap_setCell Z _ _ k (fun e=>by simp at e;omega)).trans (h.block k a)⟩
theorem below_dr {B:Nat}{w Z:World}(h:Below B w Z):Below B w Z.drew:=⟨h.os,h.tape,h.output,h.size,h.block⟩
theorem form_as {n m:Int}(h:Hid (m=formL n))(w:World)(b:0<=n/\n<=18446744073709551615):Cl 159 #[U8 n] w fun e a=>e=.returned (U8 m)/\w=a:=by
 rw [h.out];exact qAq n w b
theorem qCt {w:World}{n:Nat}{a A:Int}(h0:w.cell? ⟨n,0,none⟩=some (U8 a))(b:w.cell? ⟨n,1,none⟩=some (U8 A)):(loadVar 151 ⟨n,0,none⟩).run Tryz.prog w.drew=.ok (.agg #[U8 a,U8 A]) w.drew:=qAc (w:=w.drew) h0 b
theorem qAk {Z:World}{n:Nat}{f b x y:Value}(r0:Z.cell? ⟨n,0,none⟩=some f)(c:Z.cell? ⟨n,1,none⟩=some b) :
  ((Z.setCell ⟨n,0,none⟩ x).setCell ⟨n,1,none⟩ y).cell? ⟨n,0,none⟩=some x/\((Z.setCell ⟨n,0,none⟩ x).setCell ⟨n,1,none⟩ y).cell? ⟨n,1,none⟩=some y:=by
 have e:((Z.setCell ⟨n,0,none⟩ x).cell? ⟨n,1,none⟩)=some b:=by rw [World.cell?_setCell_other _ _ _ _ (fun e=>by injection e with d a;simp at a)];exact c
 constructor
 ·rw [World.cell?_setCell_other _ _ _ _ (fun e=>by injection e with d a;simp at a)]
  simp [World.cell?_setCell_same',r0]
 ·simp [World.cell?_setCell_same',e]

theorem sdo_shr (a A b B:Int)(w:World)(n:0<=a/\a<=A/\A<=18446744073709551615)(s:0<=b/\b<=B/\B<=18446744073709551615)(F:(a==A)=false)  :
  Cl 143 #[I4 10,.agg #[U8 a,U8 A],.agg #[U8 b,U8 B]] w fun e c=>e=.returned (.tuple #[.agg #[U8 (a / 2 ^ min B.toNat 64),U8 (A / 2 ^ min b.toNat 64)],.bool true])/\Bw w c:=by
 have D:decide (a<=A)=true:=decide_eq_true n.2.1;have u:decide (b<=B)=true:=decide_eq_true s.2.1;obtain ⟨X,i⟩:∃ X,Hid (X=a / 2 ^ min B.toNat 64):=⟨_,rfl⟩;obtain ⟨Y,g⟩:∃ Y,Hid (Y=A / 2 ^ min b.toNat 64):=⟨_,rfl⟩;obtain ⟨Z,f,k,r0,o,z,E,d⟩:∃ Z,Hid (Z=((((((w.alloc (spO a A)).alloc (spO b B)).alloc (spO 0 0)).alloc (spO a A)).alloc (spO b B)).alloc (spO 0 18446744073709551615)))/\(Z.cell? ⟨w.heap.size,0,none⟩=some (U8 a)/\Z.cell? ⟨w.heap.size,1,none⟩=some (U8 A)/\Z.cell? ⟨w.heap.size+1,0,none⟩=some (U8 b)/\Z.cell? ⟨w.heap.size+1,1,none⟩=some (U8 B))/\Z.cell? ⟨w.heap.size+1+1,0,none⟩=some (U8 0)/\Z.cell? ⟨w.heap.size+1+1,1,none⟩=some (U8 0)/\Z.frozen? ⟨w.heap.size+1+1,0,none⟩=false/\Z.frozen? ⟨w.heap.size+1+1,1,none⟩=false/\Bw w Z :=
  ⟨_,rfl,⟨by go_cell,by go_cell,by go_cell,by go_cell⟩,by go_cell,by go_cell,by go_simp,by go_simp,by go_grown⟩
 go_enter Tryz.func143,Tryz.ntmps143
 go_wp2_with (first
  | (go_at_call 146;go_must (refine (qAe _ _ _).mono ?_);rintro e c ⟨rfl,rfl⟩)
  | (go_at_call 161;fail))
 rw [<- f.out];clear f
 go_region_held_law (fun c=>c.cell? ⟨w.heap.size,0,none⟩=some (U8 a)/\c.cell? ⟨w.heap.size,1,none⟩=some (U8 A)/\c.cell? ⟨w.heap.size+1,0,none⟩=some (U8 b)/\c.cell? ⟨w.heap.size+1,1,none⟩=some (U8 B))
  (first|assumption|((refine keep4 ?_ (by omega) (by omega);first|assumption|(refine keep4 ?_ (by omega) (by omega);assumption))))
  ((go_at_call 161;refine (half_any _ _ _ (by omega) (by omega)).mono ?_;rintro e c ⟨rfl,rfl⟩;first|rw [<- i.out]|rw [<- g.out]))
 go_wp2;obtain ⟨r,l⟩:=qAk (x:=U8 (X)) (y:=U8 Y) r0 o;refine bodyPost_ret (v:=.tuple #[.agg #[U8 (X),U8 Y],.bool true]) ?_ rfl ⟨by rw [i.out,g.out],below_dr (qAa (qAa d (by omega)) (by omega))⟩;rw [results_cell_tmp rfl]
 simp [asAddr,Result.andThen]
 rw [qCt r l]
theorem sdo_shrs (a b B:Int)(w:World)(n:0<=a/\a<=a/\a<=18446744073709551615)(s:0<=b/\b<=B/\B<=18446744073709551615)(E:(b==B)=false)  :
  Cl 143 #[I4 10,.agg #[U8 a,U8 a],.agg #[U8 b,U8 B]] w fun e c=>e=.returned (.tuple #[.agg #[U8 (a / 2 ^ min B.toNat 64),U8 (a / 2 ^ min b.toNat 64)],.bool true])/\Bw w c:=by
 have A:decide (a<=a)=true:=decide_eq_true n.2.1;have u:decide (b<=B)=true:=decide_eq_true s.2.1;obtain ⟨X,i⟩:∃ X,Hid (X=a / 2 ^ min B.toNat 64):=⟨_,rfl⟩;obtain ⟨Y,g⟩:∃ Y,Hid (Y=a / 2 ^ min b.toNat 64):=⟨_,rfl⟩;obtain ⟨Z,f,k,r0,o,z,D,d⟩:∃ Z,Hid (Z=((((((w.alloc (spO a a)).alloc (spO b B)).alloc (spO 0 0)).alloc (spO a a)).alloc (spO b B)).alloc (spO 0 18446744073709551615)))/\(Z.cell? ⟨w.heap.size,0,none⟩=some (U8 a)/\Z.cell? ⟨w.heap.size,1,none⟩=some (U8 a)/\Z.cell? ⟨w.heap.size+1,0,none⟩=some (U8 b)/\Z.cell? ⟨w.heap.size+1,1,none⟩=some (U8 B))/\Z.cell? ⟨w.heap.size+1+1,0,none⟩=some (U8 0)/\Z.cell? ⟨w.heap.size+1+1,1,none⟩=some (U8 0)/\Z.frozen? ⟨w.heap.size+1+1,0,none⟩=false/\Z.frozen? ⟨w.heap.size+1+1,1,none⟩=false/\Bw w Z :=
  ⟨_,rfl,⟨by go_cell,by go_cell,by go_cell,by go_cell⟩,by go_cell,by go_cell,by go_simp,by go_simp,by go_grown⟩
 go_enter Tryz.func143,Tryz.ntmps143
 go_wp2_with (first
  | (go_at_call 146;go_must (refine (qAe _ _ _).mono ?_);rintro e c ⟨rfl,rfl⟩)
  | (go_at_call 161;fail))
 rw [<- f.out];clear f
 go_region_held_law (fun c=>c.cell? ⟨w.heap.size,0,none⟩=some (U8 a)/\c.cell? ⟨w.heap.size,1,none⟩=some (U8 a)/\c.cell? ⟨w.heap.size+1,0,none⟩=some (U8 b)/\c.cell? ⟨w.heap.size+1,1,none⟩=some (U8 B))
  (first|assumption|((refine keep4 ?_ (by omega) (by omega);first|assumption|(refine keep4 ?_ (by omega) (by omega);assumption))))
  ((go_at_call 161;refine (half_any _ _ _ (by omega) (by omega)).mono ?_;rintro e c ⟨rfl,rfl⟩;first|rw [<- i.out]|rw [<- g.out]))
 go_wp2;obtain ⟨r,l⟩:=qAk (x:=U8 (X)) (y:=U8 Y) r0 o;refine bodyPost_ret (v:=.tuple #[.agg #[U8 (X),U8 Y],.bool true]) ?_ rfl ⟨by rw [i.out,g.out],below_dr (qAa (qAa d (by omega)) (by omega))⟩;rw [results_cell_tmp rfl]
 simp [asAddr,Result.andThen]
 rw [qCt r l]
def Bx (w:World) (n:Nat) (x y:Int):Prop:=(w.cell? ⟨n,0,none⟩=some (.int .u64 x)/\w.cell? ⟨n,1,none⟩=some (.int .u64 y))/\w.frozen? ⟨n,0,none⟩=false/\w.frozen? ⟨n,1,none⟩=false
theorem Bx.set {w:World}{n:Nat}{x y:Int}(h:Bx w n x y)(a b:Int):Bx ((w.setCell ⟨n,0,none⟩ (U8 a)).setCell ⟨n,1,none⟩ (U8 b)) n a b :=
 ⟨qAk h.1.1 h.1.2,by simpa using h.2.1,by simpa using h.2.2⟩
theorem Bx.far {w:World}{n m i:Nat}{x y:Int}{v:Value}(h:Bx w n x y)(b:m≠n):Bx (w.setCell ⟨m,i,none⟩ v) n x y:=by
 have a:∀ j,(w.setCell ⟨m,i,none⟩ v).cell? ⟨n,j,none⟩=w.cell? ⟨n,j,none⟩:=fun j=>World.cell?_setCell_other _ _ _ _ (fun e=>b (by injection e with c))
 exact ⟨⟨(a 0).trans h.1.1,(a 1).trans h.1.2⟩,by simpa using h.2.1,by simpa using h.2.2⟩
def shiftR (a A:Int) (k:Nat):Option (Int×Int):=if A*2 ^ min k 64<=18446744073709551615 then some (a*2 ^ min k 64,A*2 ^ min k 64) else none
theorem shift_grows {A:Int}{j k:Nat}(hA:0<A)(h:18446744073709551615<A*2 ^ j)(a:j<=k):18446744073709551615<A*2 ^ min k 64:=by
 by_cases hk:k<=64
 ·rw [Nat.min_eq_left hk]
  have b:(2:Int) ^ j<=2 ^ k:=by rw [qBj,qBj];exact_mod_cast Nat.pow_le_pow_right (by decide) a
  have c:A*2 ^ j<=A*2 ^ k:=Int.mul_le_mul_of_nonneg_left b (by omega)
  omega
 ·rw [Nat.min_eq_right (by omega)]
  have e:(2:Int) ^ 64=18446744073709551616:=by decide
  rw [e]
  omega
theorem shift_small {A:Int}{k:Nat}(hA:0<A)(h:A*2 ^ k<=18446744073709551615):k<64:=by
 rcases Nat.lt_or_ge k 64 with a|a
 ·exact a
 ·have c:(2:Int) ^ 64<=2 ^ k:=by rw [qBj,qBj];exact_mod_cast Nat.pow_le_pow_right (by decide) a
  have e:(2:Int) ^ 64=18446744073709551616:=by decide
  have b:1*2 ^ k<=A*2 ^ k:=Int.mul_le_mul_of_nonneg_right (by omega) (by omega)
  omega

theorem shifted_any (a A k:Int)(w:World)(Z:0<=a/\a<=A/\A<=18446744073709551615)(M:0<=k/\k<=18446744073709551615) :
  Cl 160 #[.agg #[U8 a,U8 A],U8 k] w fun e P=>e=.returned (optV (shiftR a A k.toNat))/\Bw w P:=by
 obtain ⟨K,rfl⟩:=Int.eq_ofNat_of_zero_le M.1;rw [Int.toNat_natCast];go_enter Tryz.func160,Tryz.ntmps160;go_wp2
 go_loopw [6] (fun i wr=>∃ (j:Nat) (x X:Int),j<=K/\i=U8 j/\x=a*2 ^ j/\X=A*2 ^ j/\0<=x/\x<=X/\X<=18446744073709551615/\Bx wr w.heap.size x X/\Bx wr (w.heap.size+1) 0 0/\Bw w wr) (fun i _=>K-(intOf i).toNat)
 case atStart=>exact ⟨0,a,A,by omega,rfl,by simp,by simp,by omega,by omega,by omega,⟨⟨by go_cell,by go_cell⟩,by go_simp,by go_simp⟩,⟨⟨by go_cell,by go_cell⟩,by go_simp,by go_simp⟩,by go_grown⟩
 case round =>
  obtain ⟨j,x,X,hj,rfl,D,G,R,U,B,o,r,c⟩:=hrel;have b:Hid (x=a*2 ^ j/\X=A*2 ^ j):=⟨D,G⟩;clear D G;obtain ⟨⟨V,I⟩,f0,f1⟩:=id o;obtain ⟨⟨d0,F⟩,g0,Y⟩:=id r;have l:Hid (Bx wr w.heap.size x X):=o;have n:Hid (Bx wr (w.heap.size+1) 0 0):=r;clear o r
  by_cases hlt:j<K/\0<X
  ·obtain ⟨h1,h2⟩:=hlt
   by_cases hg:9223372036854775807<X
   ·have u:Hid (shiftR a A K=none):=by
     have hA:0<A:=by
      rcases Int.lt_or_le 0 A with h|h
      ·exact h
      ·have:A=0:=by omega
       have e:=b.out.2;rw [this] at e;simp at e;omega
     unfold shiftR;rw [if_neg]
     ·rfl
     have:=shift_grows (j:=j+1) (k:=K) hA (by rw [Int.pow_succ,<- Int.mul_assoc,<- b.out.2];omega) (by omega)
     omega
    have d:Hid _:=qAk (x:=U8 0) (y:=U8 0) d0 F;go_wp2;refine bodyPost_ret (v:=optV none) ?_ rfl ⟨by rw [u.out],qAa (qAa c (by omega)) (by omega)⟩;rw [results_cell_tmp rfl]
    simp [asAddr,Result.andThen]
    rw [qAc d.out.1 d.out.2]
    rfl
   ·have T:2*X<=18446744073709551615:=by omega
    have E:Hid (2*x=a*2 ^ (j+1)/\2*X=A*2 ^ (j+1)):=by
     show _/\_
     rw [Int.pow_succ,<- Int.mul_assoc,<- Int.mul_assoc,<- b.out.1,<- b.out.2]
     omega
    have N:Hid (Bx ((wr.setCell ⟨w.heap.size,0,none⟩ (U8 (2*x))).setCell ⟨w.heap.size,1,none⟩ (U8 (2*X))) w.heap.size (2*x) (2*X)):=l.out.set _ _;have J:Hid (Bx ((wr.setCell ⟨w.heap.size,0,none⟩ (U8 (2*x))).setCell ⟨w.heap.size,1,none⟩ (U8 (2*X))) (w.heap.size+1) 0 0):=(n.out.far (by omega)).far (by omega);have L:Hid (Bw w ((wr.setCell ⟨w.heap.size,0,none⟩ (U8 (2*x))).setCell ⟨w.heap.size,1,none⟩ (U8 (2*X)))):=qAa (qAa c (by omega)) (by omega)
    have S:(wr.setCell ⟨w.heap.size,0,none⟩ (U8 (2*x))).cell? ⟨w.heap.size,1,none⟩=some (U8 X):=by rw [World.cell?_setCell_other _ _ _ _ (fun e=>by injection e with s g;simp at g)];exact I
    clear b l n c;go_wp2
    go_roundw
    case rel=>exact ⟨j+1,2*x,2*X,by omega,by go_num,E.out.1,E.out.2,by omega,by omega,by omega,N.out,J.out,L.out⟩
    case measure=>simp [intOf];omega
  ·have u:Hid (shiftR a A K=some (x,X)):=by
    show _=_
    rcases Int.lt_or_le 0 X with h|h
    ·obtain rfl:j=K:=by omega
     have hA:0<A:=by
      rcases Int.lt_or_le 0 A with f|f
      ·exact f
      ·have:A=0:=by omega
       have e:=b.out.2;rw [this] at e;simp at e;omega
     have Q:=shift_small hA (by rw [<- b.out.2];exact B);unfold shiftR;rw [Nat.min_eq_left (by omega),<- b.out.1,<- b.out.2,if_pos B]
    ·have O:=qBr j
     have hA:A=0:=by
      rcases Int.lt_or_le 0 A with f|f
      ·have:=Int.mul_pos f O;have:=b.out.2
       omega
      ·omega
     have z:a=0:=by omega
     have s:=b.out.1;have g:=b.out.2;rw [z] at s;rw [hA] at g
     simp at s g
     rw [s,g,z,hA]
     simp [shiftR]
   have d:Hid _:=qAk (x:=U8 x) (y:=U8 X) d0 F;clear b l n
   by_cases hj2:j<K
   ·obtain rfl:X=0:=by omega
    go_wp2;refine bodyPost_ret (v:=optV (some (x,0))) ?_ rfl ⟨by rw [u.out],qAa (qAa c (by omega)) (by omega)⟩;rw [results_cell_tmp rfl]
    simp [asAddr,Result.andThen]
    rw [qAc d.out.1 d.out.2]
    rfl
   ·go_wp2;refine bodyPost_ret (v:=optV (some (x,X))) ?_ rfl ⟨by rw [u.out],qAa (qAa c (by omega)) (by omega)⟩;rw [results_cell_tmp rfl]
    simp [asAddr,Result.andThen]
    rw [qAc d.out.1 d.out.2]
    rfl
theorem shifted_as {a A k:Int}{o:Option (Int×Int)}(h:Hid (o=shiftR a A k.toNat))(w:World)(c:0<=a/\a<=A/\A<=18446744073709551615)(d:0<=k/\k<=18446744073709551615) :
  Cl 160 #[.agg #[U8 a,U8 A],U8 k] w fun e b=>e=.returned (optV o)/\Bw w b:=by
 rw [h.out];exact shifted_any a A k w c d
theorem Bx.below {w c:World}{n B:Nat}{x y:Int}(h:Bx w n x y)(b:Below B w c)(a:n<B):Bx c n x y:=by
 unfold Bx;rw [b.cell (p:=⟨n,0,none⟩) a,b.cell (p:=⟨n,1,none⟩) a,b.frozen (p:=⟨n,0,none⟩) a,b.frozen (p:=⟨n,1,none⟩) a];exact h

theorem sdo_shl2 (a A n:Int)(w:World)(g:0<=a/\a<=A/\A<=18446744073709551615)(u:0<=n/\n<=18446744073709551615)(K:(a==A)=false)(h:Hid (none=shiftR a A n.toNat)) :
  Cl 143 #[I4 9,.agg #[U8 a,U8 A],.agg #[U8 n,U8 n]] w fun e i=>e=.returned (.tuple #[.agg #[U8 0,U8 18446744073709551615],.bool true])/\Bw w i:=by
 have J:decide (a<=A)=true:=decide_eq_true g.2.1;have G:decide (n<=n)=true:=decide_eq_true (Int.le_refl _);obtain ⟨Z,k,l,r,B,d,f⟩:∃ Z,Hid (Z=((((((w.alloc (spO a A)).alloc (spO n n)).alloc (spO 0 0)).alloc (spO a A)).alloc (spO n n)).alloc (spO 0 18446744073709551615)))/\Bx Z w.heap.size a A/\Bx Z (w.heap.size+1+1) 0 0/\Bx Z (w.heap.size+1+1+1+1+1) 0 18446744073709551615/\Bw w Z/\w.heap.size+1+1+1+1+1<Z.heap.size :=
  ⟨_,rfl,⟨⟨by go_cell,by go_cell⟩,by go_simp,by go_simp⟩,⟨⟨by go_cell,by go_cell⟩,by go_simp,by go_simp⟩,⟨⟨by go_cell,by go_cell⟩,by go_simp,by go_simp⟩,by go_grown,by simp⟩
 go_enter Tryz.func143,Tryz.ntmps143
 go_wp2_with (first
  | (go_at_call 146;go_must (refine (qAe _ _ _).mono ?_);rintro e i ⟨rfl,rfl⟩)
  | (go_at_call 160;go_must (rw [<- k.out];refine (shifted_as h _ g u).mono ?_);rintro e o ⟨rfl,b⟩;go_must (simp only [optV];obtain ⟨⟨r0,z⟩,q0,E⟩:=r.below b (by omega);obtain ⟨⟨e0,I⟩,_,_⟩:=B.below b (by omega);have s:=d.trans (b.mono d.size);have c:=b.size;have D:w.heap.size+1+1+1+1+1<o.heap.size:=Nat.lt_of_lt_of_le f c;have F:w.heap.size+1+1<o.heap.size:=Nat.lt_trans (by omega) D;clear c b f k)))
 have t:=qAk (x:=U8 0) (y:=U8 18446744073709551615) r0 z;refine bodyPost_ret (v:=.tuple #[.agg #[U8 0,U8 18446744073709551615],.bool true]) ?_ rfl ⟨rfl,(qAa (qAa s (by omega)) (by omega)).alloc (by simp [World.setCell];omega) _⟩;rw [results_cell_tmp rfl]
 simp [asAddr,Result.andThen]
 rw [qAc (a:=0) (A:=18446744073709551615)]
 ·refine (World.cell?_alloc_past _ _ _ ?_).trans t.1;simp [World.setCell];omega
 ·refine (World.cell?_alloc_past _ _ _ ?_).trans t.2;simp [World.setCell];omega
theorem sdo_shl3 (a A n x X:Int)(w:World)(g:0<=a/\a<=A/\A<=18446744073709551615)(u:0<=n/\n<=18446744073709551615)(K:(a==A)=false)(h:Hid (some (x,X)=shiftR a A n.toNat)) :
  Cl 143 #[I4 9,.agg #[U8 a,U8 A],.agg #[U8 n,U8 n]] w fun e i=>e=.returned (.tuple #[.agg #[U8 x,U8 X],.bool true])/\Bw w i:=by
 have J:decide (a<=A)=true:=decide_eq_true g.2.1;have G:decide (n<=n)=true:=decide_eq_true (Int.le_refl _);obtain ⟨Z,k,l,r,B,d,f⟩:∃ Z,Hid (Z=((((((w.alloc (spO a A)).alloc (spO n n)).alloc (spO 0 0)).alloc (spO a A)).alloc (spO n n)).alloc (spO 0 18446744073709551615)))/\Bx Z w.heap.size a A/\Bx Z (w.heap.size+1+1) 0 0/\Bx Z (w.heap.size+1+1+1+1+1) 0 18446744073709551615/\Bw w Z/\w.heap.size+1+1+1+1+1<Z.heap.size :=
  ⟨_,rfl,⟨⟨by go_cell,by go_cell⟩,by go_simp,by go_simp⟩,⟨⟨by go_cell,by go_cell⟩,by go_simp,by go_simp⟩,⟨⟨by go_cell,by go_cell⟩,by go_simp,by go_simp⟩,by go_grown,by simp⟩
 go_enter Tryz.func143,Tryz.ntmps143
 go_wp2_with (first
  | (go_at_call 146;go_must (refine (qAe _ _ _).mono ?_);rintro e i ⟨rfl,rfl⟩)
  | (go_at_call 160;go_must (rw [<- k.out];refine (shifted_as h _ g u).mono ?_);rintro e o ⟨rfl,b⟩;go_must (simp only [optV];obtain ⟨⟨r0,z⟩,q0,E⟩:=r.below b (by omega);obtain ⟨⟨e0,I⟩,_,_⟩:=B.below b (by omega);have s:=d.trans (b.mono d.size);have c:=b.size;have D:w.heap.size+1+1+1+1+1<o.heap.size:=Nat.lt_of_lt_of_le f c;have F:w.heap.size+1+1<o.heap.size:=Nat.lt_trans (by omega) D;clear c b f k)))
 have t:=qAk (x:=U8 x) (y:=U8 X) r0 z;refine bodyPost_ret (v:=.tuple #[.agg #[U8 x,U8 X],.bool true]) ?_ rfl ⟨rfl,(qAa (qAa s (by omega)) (by omega)).alloc (by simp [World.setCell];omega) _⟩;rw [results_cell_tmp rfl]
 simp [asAddr,Result.andThen]
 rw [qAc (a:=x) (A:=X)]
 ·refine (World.cell?_alloc_past _ _ _ ?_).trans t.1;simp [World.setCell];omega
 ·refine (World.cell?_alloc_past _ _ _ ?_).trans t.2;simp [World.setCell];omega
theorem loF_step {ss:List (Int×Int)}{k:Nat}(b:k<ss.length)(h0:k≠0):loF (ss.take (k+1))=min (loF (ss.take k)) (ss.getD k (0,0)).1/\hiF (ss.take (k+1))=max (hiF (ss.take k)) (ss.getD k (0,0)).2/\loM (ss.take (k+1))=max (loM (ss.take k)) (ss.getD k (0,0)).1/\hiM (ss.take (k+1))=min (hiM (ss.take k)) (ss.getD k (0,0)).2:=by
 have e:ss.getD k (0,0)=ss[k]:=by simp [b]
 have a:∀ f:Int×Int->Int,(ss.take k).map f≠[]:=fun f h=>by
  have c:(ss.take k).length=0:=by rw [List.map_eq_nil_iff.1 h];rfl
  rw [List.length_take] at c
  omega
 unfold loF hiF loM hiM;rw [e,List.take_succ_eq_append_getElem b];simp only [List.map_append,List.map_cons,List.map_nil];exact ⟨minF_snoc (a _) _,maxF_snoc (a _) _,maxF_snoc (a _) _,minF_snoc (a _) _⟩
theorem ends_one {ss:List (Int×Int)}(h:0<ss.length):loF (ss.take 1)=(ss.getD 0 (0,0)).1/\hiF (ss.take 1)=(ss.getD 0 (0,0)).2/\loM (ss.take 1)=(ss.getD 0 (0,0)).1/\hiM (ss.take 1)=(ss.getD 0 (0,0)).2:=by
 cases ss with
 | nil=>simp at h
 | cons s r=>exact ⟨rfl,rfl,rfl,rfl⟩
theorem okS_all_take {ss:List (Int×Int)}{k:Nat}(a:k<ss.length):(ss.take (k+1)).all okS=((ss.take k).all okS&&okS (ss.getD k (0,0))):=by
 have e:ss.getD k (0,0)=ss[k]:=by simp [a]
 rw [e,List.take_succ_eq_append_getElem a,List.all_append]
 simp
theorem okS_false {ss:List (Int×Int)}{k:Nat}(b:k<ss.length)(h:okS (ss.getD k (0,0))=false):joinB ss=false:=by
 have e:ss.getD k (0,0)=ss[k]:=by simp [b]
 rw [e] at h;unfold joinB;rw [Bool.and_eq_false_iff]
 right
 rw [Bool.eq_false_iff];intro a;rw [List.all_eq_true.1 a _ (List.getElem_mem b)] at h
 cases h

theorem Bx.set0 {w:World}{n:Nat}{x y:Int}(h:Bx w n x y)(a:Int):Bx (w.setCell ⟨n,0,none⟩ (U8 a)) n a y :=
 ⟨⟨by simp [World.cell?_setCell_same',h.1.1],by rw [World.cell?_setCell_other _ _ _ _ (fun e=>by injection e with c b;simp at b)];exact h.1.2⟩,by simpa using h.2.1,by simpa using h.2.2⟩
theorem Bx.set1 {w:World}{n:Nat}{x y:Int}(h:Bx w n x y)(a:Int):Bx (w.setCell ⟨n,1,none⟩ (U8 a)) n x a :=
 ⟨⟨by rw [World.cell?_setCell_other _ _ _ _ (fun e=>by injection e with c b;simp at b)];exact h.1.1,by simp [World.cell?_setCell_same',h.1.2]⟩,by simpa using h.2.1,by simpa using h.2.2⟩
theorem Bx.drew2 {w:World}{n:Nat}{x y:Int}{o:Obj}(h:Bx w n x y)(b:n<w.heap.size):Bx (w.alloc o).drew.drew n x y :=
 have a:Bx (w.alloc o) n x y:=h.below ((Below.refl w.heap.size w).alloc (Nat.le_refl _) o) b
 a
theorem Bx.al {w:World}{n:Nat}{x y:Int}{o:Obj}(h:Bx w n x y)(a:n<w.heap.size):Bx (w.alloc o) n x y:=h.below ((Below.refl w.heap.size w).alloc (Nat.le_refl _) o) a
theorem below_dr2 {B:Nat}{w Z:World}{o:Obj}(h:Below B w Z)(a:B<=Z.heap.size):Below B w (Z.alloc o).drew.drew:=below_dr (below_dr (h.alloc a o))
theorem qBm {w:World}{a:Addr}{v:Value}:(w.setCell a v).heap.size=w.heap.size:=by simp [World.setCell]

theorem rjoin_some (u off cap:Nat)(ss:List (Int×Int))(w:World)(M:0<ss.length)(hc:ss.length<=cap)(hm:cap<=9223372036854775807)(U:u<w.heap.size)(K:∀ s∈ss,wfS s)(J:∀ k,k<ss.length->AtS w u (off+k*2) (ss.getD k (0,0))) :
  Cl 122 #[.slice (some ⟨u,off,none⟩) ss.length cap] w fun e I=>e=.returned (optV (if joinB ss=true then some (joinL ss) else none))/\Bw w I:=by
 have Z:Hid (∀ k,k<ss.length->AtS w u (off+k*2) (ss.getD k (0,0))):=J;have HW:Hid (∀ s∈ss,wfS s):=K;clear J K;obtain ⟨n,g⟩:∃ n,Hid (n=ss.length):=⟨_,rfl⟩;rw [<- g.out] at hc M ⊢;obtain ⟨R,L⟩:∃ R,Hid (R=if joinB ss=true then some (joinL ss) else none):=⟨_,rfl⟩;rw [<- L.out];go_enter Tryz.func122,Tryz.ntmps122;go_wp2
 go_loopw [5] (fun i wr=>∃ (k:Nat) (x X:Int),k<=n/\i=I4 k/\Hid ((ss.take k).all okS=true/\(k≠0->x=loF (ss.take k)/\X=hiF (ss.take k)))/\Bx wr w.heap.size 0 0/\Bx wr (w.heap.size+1) x X/\Bw w wr/\w.heap.size+1<wr.heap.size) (fun i _=>n-(intOf i).toNat)
 case atStart=>exact ⟨0,0,0,by omega,rfl,⟨rfl,fun h=>absurd rfl h⟩,⟨⟨by go_cell,by go_cell⟩,by go_simp,by go_simp⟩,⟨⟨by go_cell,by go_cell⟩,by go_simp,by go_simp⟩,by go_grown,by simp⟩
 case round =>
  obtain ⟨k,x,X,hk,rfl,d,F,G,b,m1⟩:=hrel
  have m0:w.heap.size<wr.heap.size:=by omega
  have mb:u<wr.heap.size:=by omega
  obtain ⟨⟨P,Q⟩,f0,f1⟩:=id F;obtain ⟨⟨d0,d1⟩,g0,g1⟩:=id G;have f:Hid (Bx wr w.heap.size 0 0):=F;have l:Hid (Bx wr (w.heap.size+1) x X):=G;have hsz:=b.size;clear F G
  by_cases hlt:k<n
  ·obtain ⟨y,Y,D⟩:∃ y Y,Hid (ss.getD k (0,0)=(y,Y)):=⟨_,_,rfl⟩;have z:=(Z.out k (by have:=g.out;omega)).below b U;rw [D.out] at z;obtain ⟨e0,T⟩:=z;simp only at e0 T
   cases hr:decide (y<=Y)
   ·have HF:Hid (joinB ss=false):=okS_false (k:=k) (by have:=g.out;omega) (by rw [D.out];exact hr);have B:Hid _:=qAk (x:=U8 0) (y:=U8 0) P Q
    have O:Hid (R=none):=by rw [L.out,HF.out];rfl
    go_wp2_with (go_at_call 146;go_must (refine (qAe _ _ _).mono ?_);rintro e I ⟨rfl,rfl⟩)
    refine bodyPost_ret (v:=optV none) ?_ rfl ⟨by rw [O.out],(qAa (qAa b (by omega)) (by omega)).alloc (by simp [World.setCell];omega) _⟩;rw [results_cell_tmp rfl]
    simp [asAddr,Result.andThen]
    rw [qAc (a:=0) (A:=0)]
    ·rfl
    ·refine (World.cell?_alloc_past _ _ _ ?_).trans B.out.1;simp [World.setCell];omega
    ·refine (World.cell?_alloc_past _ _ _ ?_).trans B.out.2;simp [World.setCell];omega
   ·have o:Hid ((ss.take (k+1)).all okS=true):=by
     show _=_
     rw [okS_all_take (by have:=g.out;omega),d.out.1,D.out];exact hr
    by_cases hk0:k=0
    ·have S:((k:Int)==0)=true:=by simp [hk0]
     have a0:wr.cell? ⟨u,off,none⟩=some (U8 y):=by simpa [hk0] using e0
     have a1:wr.cell? ⟨u,off+1,none⟩=some (U8 Y):=by simpa [hk0] using T
     have c:Hid (loF (ss.take (k+1))=y/\hiF (ss.take (k+1))=Y):=by
      have h:=ends_one (ss:=ss) (by have:=g.out;omega);have e:=D.out;rw [hk0] at e ⊢;rw [e] at h;exact ⟨h.1,h.2.1⟩
     go_wp2_with (go_at_call 146;go_must (refine (qAe _ _ _).mono ?_);rintro e I ⟨rfl,rfl⟩)
     go_region
     all_goals go_wp2
     all_goals go_region
     all_goals go_wp2
     ·go_roundw
      case rel=>exact ⟨k+1,y,Y,by omega,by first|go_num|exact congrArg _ (by omega),⟨o.out,fun _=>⟨by rw [c.out.1],by rw [c.out.2]⟩⟩,Bx.drew2 ((f.out.far (m:=w.heap.size+1) (by omega)).far (m:=w.heap.size+1) (by omega)) (by first|omega|(simp only [qBm];omega)),Bx.drew2 ((l.out.set0 y).set1 Y) (by first|omega|(simp only [qBm];omega)),below_dr2 (qAa (qAa b (by omega)) (by omega)) (by first|omega|(simp only [qBm];omega)),by first|(simp;omega)|(simp [World.setCell];omega)⟩
      case measure=>simp [intOf];omega
    ·have S:((k:Int)==0)=false:=by simp;omega
     have c:Hid (loF (ss.take (k+1))=min (loF (ss.take k)) y/\hiF (ss.take (k+1))=max (hiF (ss.take k)) Y):=by
      have h:=loF_step (ss:=ss) (k:=k) (by have:=g.out;omega) hk0;rw [D.out] at h;exact ⟨h.1,h.2.1⟩
     go_wp2_with (go_at_call 146;go_must (refine (qAe _ _ _).mono ?_);rintro e I ⟨rfl,rfl⟩)
     by_cases hy:y<x<;>by_cases hY:X<Y
     all_goals go_region
     all_goals go_wp2
     all_goals go_region
     all_goals go_wp2
     ·go_roundw
      case rel=>exact ⟨k+1,y,Y,by omega,by go_num,⟨o.out,fun _=>⟨by rw [c.out.1,<- (d.out.2 hk0).1];omega,by rw [c.out.2,<- (d.out.2 hk0).2];omega⟩⟩,Bx.drew2 ((f.out.far (m:=w.heap.size+1) (by omega)).far (m:=w.heap.size+1) (by omega)) (by first|omega|(simp only [qBm];omega)),Bx.drew2 ((l.out.set0 y).set1 Y) (by first|omega|(simp only [qBm];omega)),below_dr2 (qAa (qAa b (by omega)) (by omega)) (by first|omega|(simp only [qBm];omega)),by first|(simp;omega)|(simp [World.setCell];omega)⟩
      case measure=>simp [intOf];omega
     ·go_roundw
      case rel=>exact ⟨k+1,y,X,by omega,by go_num,⟨o.out,fun _=>⟨by rw [c.out.1,<- (d.out.2 hk0).1];omega,by rw [c.out.2,<- (d.out.2 hk0).2];omega⟩⟩,Bx.drew2 (f.out.far (m:=w.heap.size+1) (by omega)) (by first|omega|(simp only [qBm];omega)),Bx.drew2 (l.out.set0 y) (by first|omega|(simp only [qBm];omega)),below_dr2 (qAa b (by omega)) (by first|omega|(simp only [qBm];omega)),by first|(simp;omega)|(simp [World.setCell];omega)⟩
      case measure=>simp [intOf];omega
     ·go_roundw
      case rel=>exact ⟨k+1,x,Y,by omega,by go_num,⟨o.out,fun _=>⟨by rw [c.out.1,<- (d.out.2 hk0).1];omega,by rw [c.out.2,<- (d.out.2 hk0).2];omega⟩⟩,Bx.drew2 (f.out.far (m:=w.heap.size+1) (by omega)) (by first|omega|(simp only [qBm];omega)),Bx.drew2 (l.out.set1 Y) (by first|omega|(simp only [qBm];omega)),below_dr2 (qAa b (by omega)) (by first|omega|(simp only [qBm];omega)),by first|(simp;omega)|(simp [World.setCell];omega)⟩
      case measure=>simp [intOf];omega
     ·go_roundw
      case rel=>exact ⟨k+1,x,X,by omega,by go_num,⟨o.out,fun _=>⟨by rw [c.out.1,<- (d.out.2 hk0).1];omega,by rw [c.out.2,<- (d.out.2 hk0).2];omega⟩⟩,Bx.drew2 f.out (by first|omega|(simp only [qBm];omega)),Bx.drew2 l.out (by first|omega|(simp only [qBm];omega)),below_dr2 b (by first|omega|(simp only [qBm];omega)),by first|(simp;omega)|(simp [World.setCell];omega)⟩
      case measure=>simp [intOf];omega
  ·obtain rfl:k=n:=by omega
   have O:Hid (R=some (x,X)):=by
    have E:=d.out.1;have N:=d.out.2 (by omega);rw [show ss.take k=ss by rw [g.out];exact List.take_length] at E N
    have V:joinB ss=true:=by
     unfold joinB;rw [E,Bool.and_true]
     cases ss with
     | nil=>have:=g.out;simp at this;omega
     | cons s r=>rfl
    show _=_
    rw [L.out,if_pos V];unfold joinL;rw [if_pos V,<- N.1,<- N.2]
   have B:Hid _:=qAk (x:=U8 x) (y:=U8 X) P Q;have a2:decide ((0:Int)<(k:Int))=true:=decide_eq_true (by omega);go_wp2;refine bodyPost_ret (v:=optV (some (x,X))) ?_ rfl ⟨by rw [O.out],qAa (qAa b (by omega)) (by omega)⟩;rw [results_cell_tmp rfl]
   simp [asAddr,Result.andThen]
   rw [qAc B.out.1 B.out.2]
   rfl
def KDo:Prop:=∀ (op a A b B:Int) (w:World),W64 a->W64 A->W64 b->W64 B->Calls Tryz.prog 157 #[.int .i64 op,.agg #[.int .u64 a,.int .u64 A],.agg #[.int .u64 b,.int .u64 B]] w fun e w'=>e=.returned (optV (doR op a A b B))/\Below w.heap.size w w'
def KRefine:Prop:=∀ (op a A b B:Int) (h:Bool) (w:World),W64 a->W64 A->W64 b->W64 B->Calls Tryz.prog 141 #[.int .i64 op,.agg #[.int .u64 a,.int .u64 A],.agg #[.int .u64 b,.int .u64 B],.bool h] w fun e w'=>e=.returned (optV (refineR op a A b B h))/\Below w.heap.size w w'
theorem qAt (w:World)(t:TypeId)(x X y Y:Int)(k:Nat)(a:k=w.heap.size):SeesS (w.alloc (.cells #[U8 x,U8 X,U8 y,U8 Y] t)) (.slice (some ⟨k,0,none⟩) 2 2) [(x,X),(y,Y)]:=by
 subst a;exact SeesS.lit w t [(x,X),(y,Y)] _ 2 rfl rfl (by simp)
theorem rjoin_none (a:Option Addr)(cap:Nat)(w:World):Cl 122 #[.slice a 0 cap] w fun e b=>e=.returned (optV none)/\Bw w b:=by
 go_enter Tryz.func122,Tryz.ntmps122;go_wp2;refine wp_loop_rounds 1 ?_;rw [rounds_succ];go_wp2;refine bodyPost_ret (v:=optV none) ?_ rfl ⟨rfl,by go_grown⟩;rw [results_cell_tmp rfl]
 simp [asAddr,Result.andThen]
 rw [qAc (a:=0) (A:=0)]
 ·rfl
 all_goals go_cell
theorem rjoin_any (v:Value)(ss:List (Int×Int))(w:World)(k:SeesS w v ss)(d:∀ s∈ss,wfS s) :
  Cl 122 #[v] w fun e l=>e=.returned (optV (if joinB ss=true then some (joinL ss) else none))/\Bw w l:=by
 obtain ⟨a,cap,rfl,f,hm,n,i⟩:=k
 by_cases hne:ss=[]
 ·subst hne;exact rjoin_none a cap w
 ·obtain ⟨b,off,rfl,g,c⟩:=i hne;exact rjoin_some b off cap ss w (List.length_pos_iff.2 hne) f (by unfold maxLen at hm;omega) g d c
end Go.Proofs.YtmdhljoicnommaaGreat
