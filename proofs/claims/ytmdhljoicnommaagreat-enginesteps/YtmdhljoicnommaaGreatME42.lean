/-
  S6RDo
  S6ROr
-/
import Derived.Test.YtmdhljoicnommaaGreatME16
import Derived.Test.YtmdhljoicnommaaGreatME13
import Derived.Lib.MinMax
namespace Go.Proofs.YtmdhljoicnommaaGreat
set_option maxHeartbeats 12800000
open Go.RowKit
set_option linter.unusedVariables false
set_option maxRecDepth 20000
def yAd:Prop:=∀ (a A b B:Int) (w:World),(0<=a/\a<=A/\A<=18446744073709551615)->(0<=b/\b<=B/\B<=18446744073709551615)->¬ (a=A/\b=B) ->
 Calls Tryz.prog 143 #[.int .i64 7,.agg #[.int .u64 a,.int .u64 A],.agg #[.int .u64 b,.int .u64 B]] w fun e w'=>e=.returned (.tuple #[.agg #[.int .u64 (max a b),.int .u64 (qCq (max A B))],.bool true])/\Below w.heap.size w w'

theorem qDv {a A b B:Int}(h:¬ (a=A/\b=B)){p:Prop}(d:(a==A)=false->p)(c:a=A->(b==B)=false->p):p:=by
 by_cases e:a=A
 ·exact c e (by simp;exact fun f=>h ⟨e,f⟩)
 ·exact d (by simpa using e)

section
variable {a A b B:Int} {w:World} (ha:0<=a/\a<=A/\A<=18446744073709551615) (hb:0<=b/\b<=B/\B<=18446744073709551615) (hs:¬ (a=A/\b=B))
include ha hb hs
theorem yZf:Cl 143 #[I4 1,.agg #[U8 a,U8 A],.agg #[U8 b,U8 B]] w fun e d=>e=.returned (qBh (some (qBn 1 a A b B)))/\Bw w d:=by
 unfold qBn;rw [if_neg hs,if_pos rfl]
 by_cases h:18446744073709551615<A+B
 ·rw [if_pos h];exact qDv hs (fun c=>yVi a A b B w ha hb c (by omega)) (fun e c=>by subst e;exact yLv a b B w ha hb c (by omega))
 ·rw [if_neg h];exact qDv hs (fun c=>yUw a A b B w ha hb c (by omega)) (fun e c=>by subst e;exact yRp a b B w ha hb c (by omega))
theorem yYr:Cl 143 #[I4 2,.agg #[U8 a,U8 A],.agg #[U8 b,U8 B]] w fun e d=>e=.returned (qBh (some (qBn 2 a A b B)))/\Bw w d:=by
 unfold qBn;rw [if_neg hs,if_neg (by decide),if_pos rfl]
 by_cases h:a<B
 ·rw [if_pos h];exact qDv hs (fun c=>yUd a A b B w ha hb c h) (fun e c=>by subst e;exact yPh a b B w ha hb c h)
 ·rw [if_neg h];exact qDv hs (fun c=>ySj a A b B w ha hb c (by omega)) (fun e c=>by subst e;exact yOs a b B w ha hb c (by omega))
theorem yXk:Cl 143 #[I4 3,.agg #[U8 a,U8 A],.agg #[U8 b,U8 B]] w fun e d=>e=.returned (qBh (some (qBn 3 a A b B)))/\Bw w d:=by
 unfold qBn;rw [if_neg hs,if_neg (by decide),if_neg (by decide),if_pos rfl]
 by_cases h:18446744073709551615<A*B
 ·rw [if_pos h];exact qDv hs (fun c=>ySv a A b B w ha hb c (decide_eq_true h)) (fun e c=>by subst e;exact yPa a b B w ha hb c (decide_eq_true h))
 ·rw [if_neg h];have g0:0<=a*b:=Int.mul_nonneg ha.1 hb.1;have f:a*b<=A*B:=Int.mul_le_mul ha.2.1 hb.2.1 hb.1 (by omega);exact qDv hs (fun c=>yTc a A b B w ha hb c (decide_eq_false h) (qGl g0 (by omega)) (qGl (by omega) (by omega))) (fun e c=>by subst e;exact yQq a b B w ha hb c (decide_eq_false h) (qGl g0 (by omega)) (qGl (by omega) (by omega)))
theorem yZe:Cl 143 #[I4 4,.agg #[U8 a,U8 A],.agg #[U8 b,U8 B]] w fun e f=>e=.returned (qBh (some (qBn 4 a A b B)))/\Bw w f:=by
 unfold qBn;rw [if_neg hs,if_neg (by decide),if_neg (by decide),if_neg (by decide),if_pos rfl]
 by_cases h:b=0
 ·rw [if_pos h];subst h;exact qDv hs (fun c=>yUq a A B w ha ⟨Nat.le_refl 0,hb.2⟩ c) (fun e c=>by subst e;exact yNe a B w ha ⟨Nat.le_refl 0,hb.2⟩ c)
 ·rw [if_neg h]
  have d:(b==0)=false:=by simpa using h
  exact qDv hs (fun c=>yTi a A b B w ha hb c d) (fun e c=>by subst e;exact yPf a b B w ha hb c d)
theorem yZo:Cl 143 #[I4 5,.agg #[U8 a,U8 A],.agg #[U8 b,U8 B]] w fun e g=>e=.returned (qBh (some (qBn 5 a A b B)))/\Bw w g:=by
 unfold qBn;rw [if_neg hs,if_neg (by decide),if_neg (by decide),if_neg (by decide),if_neg (by decide),if_pos rfl]
 by_cases h:b=0
 ·rw [if_pos h];subst h;exact qDv hs (fun c=>yVm a A B w ha ⟨Nat.le_refl 0,hb.2⟩ c) (fun e c=>by subst e;exact yQd a B w ha ⟨Nat.le_refl 0,hb.2⟩ c)
 ·rw [if_neg h]
  have d:(b==0)=false:=by simpa using h
  by_cases h2:A<b
  ·rw [if_pos h2];exact qDv hs (fun c=>yVp a A b B w ha hb c d h2) (fun e c=>by subst e;exact yRs a b B w ha hb c d h2)
  ·rw [if_neg h2];have f:=qGl (x:=B-1) (by omega) (by omega)
   by_cases h3:A<=B-1
   ·rw [Int.min_eq_left h3];exact qDv hs (fun c=>yVd a A b B w ha hb c d h2 f h3) (fun e c=>by subst e;exact yQo a b B w ha hb c d h2 f h3)
   ·rw [Int.min_eq_right (by omega)];exact qDv hs (fun c=>yTj a A b B w ha hb c d h2 f (by omega)) (fun e c=>by subst e;exact yOf a b B w ha hb c d h2 f (by omega))
theorem yZk:Cl 143 #[I4 6,.agg #[U8 a,U8 A],.agg #[U8 b,U8 B]] w fun e d=>e=.returned (qBh (some (qBn 6 a A b B)))/\Bw w d:=by
 unfold qBn;rw [if_neg hs,if_neg (by decide),if_neg (by decide),if_neg (by decide),if_neg (by decide),if_neg (by decide),if_pos rfl]
 by_cases h3:A<=B
 ·rw [Int.min_eq_left h3];exact qDv hs (fun c=>ySh a A b B w ha hb c h3) (fun e c=>by subst e;exact yPw a b B w ha hb c h3)
 ·rw [Int.min_eq_right (by omega)];exact qDv hs (fun c=>yWn a A b B w ha hb c (by omega)) (fun e c=>by subst e;exact yOe a b B w ha hb c (by omega))
theorem xBg (c:yAd):Cl 143 #[I4 7,.agg #[U8 a,U8 A],.agg #[U8 b,U8 B]] w fun e d=>e=.returned (qBh (some (qBn 7 a A b B)))/\Bw w d:=by
 unfold qBn;rw [if_neg hs,if_neg (by decide),if_neg (by decide),if_neg (by decide),if_neg (by decide),if_neg (by decide),if_neg (by decide),if_pos rfl];exact c a A b B w ha hb hs
theorem yZh:Cl 143 #[I4 8,.agg #[U8 a,U8 A],.agg #[U8 b,U8 B]] w fun e d=>e=.returned (qBh (some (qBn 8 a A b B)))/\Bw w d:=by
 unfold qBn;rw [if_neg hs,if_neg (by decide),if_neg (by decide),if_neg (by decide),if_neg (by decide),if_neg (by decide),if_neg (by decide),if_neg (by decide),if_pos rfl]
 by_cases h3:A<B
 ·rw [Int.max_eq_right (by omega)];exact qDv hs (fun c=>yUy a A b B w ha hb c h3) (fun e c=>by subst e;exact yNm a b B w ha hb c h3)
 ·rw [Int.max_eq_left (by omega)];exact qDv hs (fun c=>yVb a A b B w ha hb c (by omega)) (fun e c=>by subst e;exact yPq a b B w ha hb c (by omega))
theorem xAh:Cl 143 #[I4 9,.agg #[U8 a,U8 A],.agg #[U8 b,U8 B]] w fun e f=>e=.returned (qBh (some (qBn 9 a A b B)))/\Bw w f:=by
 unfold qBn;rw [if_neg hs,if_neg (by decide),if_neg (by decide),if_neg (by decide),if_neg (by decide),if_neg (by decide),if_neg (by decide),if_neg (by decide),if_neg (by decide),if_pos rfl]
 by_cases h:b=B
 ·subst h
  have hA:(a==A)=false:=by simp;exact fun e=>hs ⟨e,rfl⟩
  by_cases h2:A*2 ^ min b.toNat 64<=18446744073709551615
  ·rw [if_pos ⟨rfl,h2⟩];exact yTm a A b _ _ w ha ⟨hb.1,hb.2.2⟩ hA (show _=qIf a A b.toNat by unfold qIf;rw [if_pos h2])
  ·rw [if_neg (fun c=>h2 c.2)];exact ySo a A b w ha ⟨hb.1,hb.2.2⟩ hA (show _=qIf a A b.toNat by unfold qIf;rw [if_neg h2])
 ·rw [if_neg (fun c=>h c.1)]
  have d:(b==B)=false:=by simpa using h
  exact qDv hs (fun c=>yWq a A b B w ha hb c d) (fun e c=>by subst e;exact yMi a b B w ha hb c d)
theorem yZa:Cl 143 #[I4 10,.agg #[U8 a,U8 A],.agg #[U8 b,U8 B]] w fun e d=>e=.returned (qBh (some (qBn 10 a A b B)))/\Bw w d:=by
 unfold qBn;rw [if_neg hs,if_neg (by decide),if_neg (by decide),if_neg (by decide),if_neg (by decide),if_neg (by decide),if_neg (by decide),if_neg (by decide),if_neg (by decide),if_neg (by decide)];exact qDv hs (fun c=>yZb a A b B w ha hb c) (fun e c=>by subst e;exact ySq a b B w ha hb c)
end
theorem yYw (i:yAd)(op a A b B:Int)(w:World)(ha:W64 a)(hA:W64 A)(hb:W64 b)(g:W64 B) :
  Cl 143 #[I4 op,.agg #[U8 a,U8 A],.agg #[U8 b,U8 B]] w fun e k=>e=.returned (qBh (doR op a A b B))/\Bw w k:=by
 unfold W64 at ha hA hb g;unfold doR
 by_cases c1:op<1
 ·rw [if_neg (by omega)];exact xCa op a A b B w c1
 by_cases c2:10<op
 ·rw [if_neg (by omega)];exact xBk op a A b B w c1 c2
 have f:1<=op/\op<=10:=by omega
 by_cases c3:a<=A
 case neg=>rw [if_neg (by omega)];exact xBi op a A b B w f (decide_eq_false c3)
 by_cases c4:b<=B
 case neg=>rw [if_neg (by omega)];exact xBy op a A b B w f (decide_eq_true c3) (decide_eq_false c4)
 rw [if_pos ⟨f,c3,c4⟩];have d:0<=a/\a<=A/\A<=18446744073709551615:=⟨ha.1,c3,hA.2⟩;have c:0<=b/\b<=B/\B<=18446744073709551615:=⟨hb.1,c4,g.2⟩
 by_cases hs:a=A/\b=B
 ·obtain ⟨rfl,rfl⟩:=hs
  have e:qBn op a a b b=(doL op a b,doL op a b):=by unfold qBn;rw [if_pos ⟨rfl,rfl⟩]
  rw [e];exact yZj op a b w f ha hb
 have l:op=1∨op=2∨op=3∨op=4∨op=5∨op=6∨op=7∨op=8∨op=9∨op=10:=by omega
 rcases l with rfl|rfl|rfl|rfl|rfl|rfl|rfl|rfl|rfl|rfl
 ·exact yZf d c hs
 ·exact yYr d c hs
 ·exact yXk d c hs
 ·exact yZe d c hs
 ·exact yZo d c hs
 ·exact yZk d c hs
 ·exact xBg d c hs i
 ·exact yZh d c hs
 ·exact xAh d c hs
 ·exact yZa d c hs
theorem xBs (a A b B:Int)(w:World)(u:0<=a/\a<=A/\A<=18446744073709551615)(n:0<=b/\b<=B/\B<=18446744073709551615)(z:(a==A)=false) :
  Cl 143 #[I4 7,.agg #[U8 a,U8 A],.agg #[U8 b,U8 B]] w fun e c=>e=.returned (.tuple #[.agg #[U8 (max a b),U8 (qCq (max A B))],.bool true])/\Bw w c:=by
 have F:decide (a<=A)=true:=decide_eq_true u.2.1;have D:decide (b<=B)=true:=decide_eq_true n.2.1;obtain ⟨P,o⟩:∃ P,max A B=P:=⟨_,rfl⟩;obtain ⟨Q,r⟩:∃ Q,max a b=Q:=⟨_,rfl⟩
 have g:0<=P/\P<=18446744073709551615:=by omega
 rw [o,r];obtain ⟨Y,d⟩:∃ Y,Hid (Y=qCq P):=⟨_,rfl⟩;rw [<- d.out];obtain ⟨Z,k,f,r0,s,E,G,i⟩:∃ Z,Hid (Z=((((((w.alloc (spO a A)).alloc (spO b B)).alloc (spO 0 0)).alloc (spO a A)).alloc (spO b B)).alloc (spO 0 18446744073709551615)))/\(Z.cell? ⟨w.heap.size,0,none⟩=some (U8 a)/\Z.cell? ⟨w.heap.size,1,none⟩=some (U8 A)/\Z.cell? ⟨w.heap.size+1,0,none⟩=some (U8 b)/\Z.cell? ⟨w.heap.size+1,1,none⟩=some (U8 B))/\Z.cell? ⟨w.heap.size+1+1,0,none⟩=some (U8 0)/\Z.cell? ⟨w.heap.size+1+1,1,none⟩=some (U8 0)/\Z.frozen? ⟨w.heap.size+1+1,0,none⟩=false/\Z.frozen? ⟨w.heap.size+1+1,1,none⟩=false/\Bw w Z :=
  ⟨_,rfl,⟨by go_cell,by go_cell,by go_cell,by go_cell⟩,by go_cell,by go_cell,by go_simp,by go_simp,by go_grown⟩
 have l:Hid _:=qAp (x:=U8 Q) (y:=U8 Y) r0 s;go_enter Tryz.func143,Tryz.ntmps143
 go_wp2_with (first
  | (go_at_call 146;go_must (refine (qAf _ _ _).mono ?_);rintro e c ⟨rfl,rfl⟩)
  | (go_at_call 159;fail))
 rw [<- k.out];clear k
 go_region_held_law (fun c=>c.cell? ⟨w.heap.size,0,none⟩=some (U8 a)/\c.cell? ⟨w.heap.size,1,none⟩=some (U8 A)/\c.cell? ⟨w.heap.size+1,0,none⟩=some (U8 b)/\c.cell? ⟨w.heap.size+1,1,none⟩=some (U8 B))
  (first|assumption|((refine qMc ?_ (by omega) (by omega);first|assumption|(refine qMc ?_ (by omega) (by omega);assumption))))
  ((go_at_call 159;refine (yGs d _ g).mono ?_;rintro e c ⟨rfl,rfl⟩))
 all_goals go_wp2
 all_goals refine bodyPost_ret (v:=.tuple #[.agg #[U8 Q,U8 Y],.bool true]) ?_ rfl ⟨rfl,qHd (qAb (qAb i (by omega)) (by omega))⟩
 all_goals rw [results_cell_tmp rfl]
 all_goals simp [asAddr,Result.andThen]
 all_goals rw [qGq l.out.1 l.out.2]
theorem xAd (a b B:Int)(w:World)(u:0<=a/\a<=a/\a<=18446744073709551615)(n:0<=b/\b<=B/\B<=18446744073709551615)(z:(b==B)=false) :
  Cl 143 #[I4 7,.agg #[U8 a,U8 a],.agg #[U8 b,U8 B]] w fun e c=>e=.returned (.tuple #[.agg #[U8 (max a b),U8 (qCq (max a B))],.bool true])/\Bw w c:=by
 have E:decide (a<=a)=true:=decide_eq_true u.2.1;have A:decide (b<=B)=true:=decide_eq_true n.2.1;obtain ⟨P,o⟩:∃ P,max a B=P:=⟨_,rfl⟩;obtain ⟨Q,r⟩:∃ Q,max a b=Q:=⟨_,rfl⟩
 have g:0<=P/\P<=18446744073709551615:=by omega
 rw [o,r];obtain ⟨Y,d⟩:∃ Y,Hid (Y=qCq P):=⟨_,rfl⟩;rw [<- d.out];obtain ⟨Z,k,f,r0,s,D,F,i⟩:∃ Z,Hid (Z=((((((w.alloc (spO a a)).alloc (spO b B)).alloc (spO 0 0)).alloc (spO a a)).alloc (spO b B)).alloc (spO 0 18446744073709551615)))/\(Z.cell? ⟨w.heap.size,0,none⟩=some (U8 a)/\Z.cell? ⟨w.heap.size,1,none⟩=some (U8 a)/\Z.cell? ⟨w.heap.size+1,0,none⟩=some (U8 b)/\Z.cell? ⟨w.heap.size+1,1,none⟩=some (U8 B))/\Z.cell? ⟨w.heap.size+1+1,0,none⟩=some (U8 0)/\Z.cell? ⟨w.heap.size+1+1,1,none⟩=some (U8 0)/\Z.frozen? ⟨w.heap.size+1+1,0,none⟩=false/\Z.frozen? ⟨w.heap.size+1+1,1,none⟩=false/\Bw w Z :=
  ⟨_,rfl,⟨by go_cell,by go_cell,by go_cell,by go_cell⟩,by go_cell,by go_cell,by go_simp,by go_simp,by go_grown⟩
 have l:Hid _:=qAp (x:=U8 Q) (y:=U8 Y) r0 s;go_enter Tryz.func143,Tryz.ntmps143
 go_wp2_with (first
  | (go_at_call 146;go_must (refine (qAf _ _ _).mono ?_);rintro e c ⟨rfl,rfl⟩)
  | (go_at_call 159;fail))
 rw [<- k.out];clear k
 go_region_held_law (fun c=>c.cell? ⟨w.heap.size,0,none⟩=some (U8 a)/\c.cell? ⟨w.heap.size,1,none⟩=some (U8 a)/\c.cell? ⟨w.heap.size+1,0,none⟩=some (U8 b)/\c.cell? ⟨w.heap.size+1,1,none⟩=some (U8 B))
  (first|assumption|((refine qMc ?_ (by omega) (by omega);first|assumption|(refine qMc ?_ (by omega) (by omega);assumption))))
  ((go_at_call 159;refine (yGs d _ g).mono ?_;rintro e c ⟨rfl,rfl⟩))
 all_goals go_wp2
 all_goals refine bodyPost_ret (v:=.tuple #[.agg #[U8 Q,U8 Y],.bool true]) ?_ rfl ⟨rfl,qHd (qAb (qAb i (by omega)) (by omega))⟩
 all_goals rw [results_cell_tmp rfl]
 all_goals simp [asAddr,Result.andThen]
 all_goals rw [qGq l.out.1 l.out.2]
theorem xBm:yAd:=fun a A b B w f d g=>qDv g (fun c=>xBs a A b B w f d c) (fun e c=>by subst e;exact xAd a b B w f d c)
end Go.Proofs.YtmdhljoicnommaaGreat
