/-
  S6RDo
  S6ROr
-/
import Derived.Test.YtmdhljoicnommaaGreatMS16
import Derived.Test.YtmdhljoicnommaaGreatMS13
import Derived.Lib.MinMax
namespace Go.Proofs.YtmdhljoicnommaaGreat
set_option maxHeartbeats 12800000
open Go.RowKit
set_option linter.unusedVariables false
set_option maxRecDepth 20000
def OrWay:Prop:=∀ (a A b B:Int) (w:World),(0<=a/\a<=A/\A<=18446744073709551615)->(0<=b/\b<=B/\B<=18446744073709551615)->¬ (a=A/\b=B) ->
 Calls Tryz.prog 143 #[.int .i64 7,.agg #[.int .u64 a,.int .u64 A],.agg #[.int .u64 b,.int .u64 B]] w fun e w'=>e=.returned (.tuple #[.agg #[.int .u64 (max a b),.int .u64 (formL (max A B))],.bool true])/\Below w.heap.size w w'

theorem qBu {a A b B:Int}(h:¬ (a=A/\b=B)){p:Prop}(f:(a==A)=false->p)(d:a=A->(b==B)=false->p):p:=by
 by_cases e:a=A
 ·exact d e (by simp;exact fun c=>h ⟨e,c⟩)
 ·exact f (by simpa using e)

section
variable {a A b B:Int} {w:World} (ha:0<=a/\a<=A/\A<=18446744073709551615) (hb:0<=b/\b<=B/\B<=18446744073709551615) (hs:¬ (a=A/\b=B))
include ha hb hs
theorem way_add:Cl 143 #[I4 1,.agg #[U8 a,U8 A],.agg #[U8 b,U8 B]] w fun e d=>e=.returned (optV (some (spanL 1 a A b B)))/\Bw w d:=by
 unfold spanL;rw [if_neg hs,if_pos rfl]
 by_cases h:18446744073709551615<A+B
 ·rw [if_pos h];exact qBu hs (fun c=>sdo_add2 a A b B w ha hb c (by omega)) (fun e c=>by subst e;exact sdo_add2s a b B w ha hb c (by omega))
 ·rw [if_neg h];exact qBu hs (fun c=>sdo_add1 a A b B w ha hb c (by omega)) (fun e c=>by subst e;exact sdo_add1s a b B w ha hb c (by omega))
theorem way_sub:Cl 143 #[I4 2,.agg #[U8 a,U8 A],.agg #[U8 b,U8 B]] w fun e d=>e=.returned (optV (some (spanL 2 a A b B)))/\Bw w d:=by
 unfold spanL;rw [if_neg hs,if_neg (by decide),if_pos rfl]
 by_cases h:a<B
 ·rw [if_pos h];exact qBu hs (fun c=>sdo_sub2 a A b B w ha hb c h) (fun e c=>by subst e;exact sdo_sub2s a b B w ha hb c h)
 ·rw [if_neg h];exact qBu hs (fun c=>sdo_sub1 a A b B w ha hb c (by omega)) (fun e c=>by subst e;exact sdo_sub1s a b B w ha hb c (by omega))
theorem way_mul:Cl 143 #[I4 3,.agg #[U8 a,U8 A],.agg #[U8 b,U8 B]] w fun e d=>e=.returned (optV (some (spanL 3 a A b B)))/\Bw w d:=by
 unfold spanL;rw [if_neg hs,if_neg (by decide),if_neg (by decide),if_pos rfl]
 by_cases h:18446744073709551615<A*B
 ·rw [if_pos h];exact qBu hs (fun c=>sdo_mul2 a A b B w ha hb c (decide_eq_true h)) (fun e c=>by subst e;exact sdo_mul2s a b B w ha hb c (decide_eq_true h))
 ·rw [if_neg h];have g0:0<=a*b:=Int.mul_nonneg ha.1 hb.1;have f:a*b<=A*B:=Int.mul_le_mul ha.2.1 hb.2.1 hb.1 (by omega);exact qBu hs (fun c=>sdo_mul1 a A b B w ha hb c (decide_eq_false h) (wrap_in g0 (by omega)) (wrap_in (by omega) (by omega))) (fun e c=>by subst e;exact sdo_mul1s a b B w ha hb c (decide_eq_false h) (wrap_in g0 (by omega)) (wrap_in (by omega) (by omega)))
theorem way_div:Cl 143 #[I4 4,.agg #[U8 a,U8 A],.agg #[U8 b,U8 B]] w fun e f=>e=.returned (optV (some (spanL 4 a A b B)))/\Bw w f:=by
 unfold spanL;rw [if_neg hs,if_neg (by decide),if_neg (by decide),if_neg (by decide),if_pos rfl]
 by_cases h:b=0
 ·rw [if_pos h];subst h;exact qBu hs (fun c=>sdo_div1 a A B w ha ⟨Nat.le_refl 0,hb.2⟩ c) (fun e c=>by subst e;exact sdo_div1s a B w ha ⟨Nat.le_refl 0,hb.2⟩ c)
 ·rw [if_neg h]
  have d:(b==0)=false:=by simpa using h
  exact qBu hs (fun c=>sdo_div2 a A b B w ha hb c d) (fun e c=>by subst e;exact sdo_div2s a b B w ha hb c d)
theorem way_rem:Cl 143 #[I4 5,.agg #[U8 a,U8 A],.agg #[U8 b,U8 B]] w fun e g=>e=.returned (optV (some (spanL 5 a A b B)))/\Bw w g:=by
 unfold spanL;rw [if_neg hs,if_neg (by decide),if_neg (by decide),if_neg (by decide),if_neg (by decide),if_pos rfl]
 by_cases h:b=0
 ·rw [if_pos h];subst h;exact qBu hs (fun c=>sdo_rem1 a A B w ha ⟨Nat.le_refl 0,hb.2⟩ c) (fun e c=>by subst e;exact sdo_rem1s a B w ha ⟨Nat.le_refl 0,hb.2⟩ c)
 ·rw [if_neg h]
  have d:(b==0)=false:=by simpa using h
  by_cases h2:A<b
  ·rw [if_pos h2];exact qBu hs (fun c=>sdo_rem2 a A b B w ha hb c d h2) (fun e c=>by subst e;exact sdo_rem2s a b B w ha hb c d h2)
  ·rw [if_neg h2];have f:=wrap_in (x:=B-1) (by omega) (by omega)
   by_cases h3:A<=B-1
   ·rw [Int.min_eq_left h3];exact qBu hs (fun c=>sdo_rem4 a A b B w ha hb c d h2 f h3) (fun e c=>by subst e;exact sdo_rem4s a b B w ha hb c d h2 f h3)
   ·rw [Int.min_eq_right (by omega)];exact qBu hs (fun c=>sdo_rem3 a A b B w ha hb c d h2 f (by omega)) (fun e c=>by subst e;exact sdo_rem3s a b B w ha hb c d h2 f (by omega))
theorem way_and:Cl 143 #[I4 6,.agg #[U8 a,U8 A],.agg #[U8 b,U8 B]] w fun e d=>e=.returned (optV (some (spanL 6 a A b B)))/\Bw w d:=by
 unfold spanL;rw [if_neg hs,if_neg (by decide),if_neg (by decide),if_neg (by decide),if_neg (by decide),if_neg (by decide),if_pos rfl]
 by_cases h3:A<=B
 ·rw [Int.min_eq_left h3];exact qBu hs (fun c=>sdo_and1 a A b B w ha hb c h3) (fun e c=>by subst e;exact sdo_and1s a b B w ha hb c h3)
 ·rw [Int.min_eq_right (by omega)];exact qBu hs (fun c=>sdo_and2 a A b B w ha hb c (by omega)) (fun e c=>by subst e;exact sdo_and2s a b B w ha hb c (by omega))
theorem way_or (d:OrWay):Cl 143 #[I4 7,.agg #[U8 a,U8 A],.agg #[U8 b,U8 B]] w fun e c=>e=.returned (optV (some (spanL 7 a A b B)))/\Bw w c:=by
 unfold spanL;rw [if_neg hs,if_neg (by decide),if_neg (by decide),if_neg (by decide),if_neg (by decide),if_neg (by decide),if_neg (by decide),if_pos rfl];exact d a A b B w ha hb hs
theorem way_xor:Cl 143 #[I4 8,.agg #[U8 a,U8 A],.agg #[U8 b,U8 B]] w fun e d=>e=.returned (optV (some (spanL 8 a A b B)))/\Bw w d:=by
 unfold spanL;rw [if_neg hs,if_neg (by decide),if_neg (by decide),if_neg (by decide),if_neg (by decide),if_neg (by decide),if_neg (by decide),if_neg (by decide),if_pos rfl]
 by_cases h3:A<B
 ·rw [Int.max_eq_right (by omega)];exact qBu hs (fun c=>sdo_xor1 a A b B w ha hb c h3) (fun e c=>by subst e;exact sdo_xor1s a b B w ha hb c h3)
 ·rw [Int.max_eq_left (by omega)];exact qBu hs (fun c=>sdo_xor2 a A b B w ha hb c (by omega)) (fun e c=>by subst e;exact sdo_xor2s a b B w ha hb c (by omega))
theorem way_shl:Cl 143 #[I4 9,.agg #[U8 a,U8 A],.agg #[U8 b,U8 B]] w fun e f=>e=.returned (optV (some (spanL 9 a A b B)))/\Bw w f:=by
 unfold spanL;rw [if_neg hs,if_neg (by decide),if_neg (by decide),if_neg (by decide),if_neg (by decide),if_neg (by decide),if_neg (by decide),if_neg (by decide),if_neg (by decide),if_pos rfl]
 by_cases h:b=B
 ·subst h
  have hA:(a==A)=false:=by simp;exact fun e=>hs ⟨e,rfl⟩
  by_cases h2:A*2 ^ min b.toNat 64<=18446744073709551615
  ·rw [if_pos ⟨rfl,h2⟩];exact sdo_shl3 a A b _ _ w ha ⟨hb.1,hb.2.2⟩ hA (show _=shiftR a A b.toNat by unfold shiftR;rw [if_pos h2])
  ·rw [if_neg (fun c=>h2 c.2)];exact sdo_shl2 a A b w ha ⟨hb.1,hb.2.2⟩ hA (show _=shiftR a A b.toNat by unfold shiftR;rw [if_neg h2])
 ·rw [if_neg (fun c=>h c.1)]
  have d:(b==B)=false:=by simpa using h
  exact qBu hs (fun c=>sdo_shl1 a A b B w ha hb c d) (fun e c=>by subst e;exact sdo_shl1s a b B w ha hb c d)
theorem way_shr:Cl 143 #[I4 10,.agg #[U8 a,U8 A],.agg #[U8 b,U8 B]] w fun e d=>e=.returned (optV (some (spanL 10 a A b B)))/\Bw w d:=by
 unfold spanL;rw [if_neg hs,if_neg (by decide),if_neg (by decide),if_neg (by decide),if_neg (by decide),if_neg (by decide),if_neg (by decide),if_neg (by decide),if_neg (by decide),if_neg (by decide)];exact qBu hs (fun c=>sdo_shr a A b B w ha hb c) (fun e c=>by subst e;exact sdo_shrs a b B w ha hb c)
end
theorem sdo_any (k:OrWay)(op a A b B:Int)(w:World)(ha:W64 a)(hA:W64 A)(hb:W64 b)(g:W64 B) :
  Cl 143 #[I4 op,.agg #[U8 a,U8 A],.agg #[U8 b,U8 B]] w fun e l=>e=.returned (optV (doR op a A b B))/\Bw w l:=by
 unfold W64 at ha hA hb g;unfold doR
 by_cases c1:op<1
 ·rw [if_neg (by omega)];exact sdo_lo op a A b B w c1
 by_cases c2:10<op
 ·rw [if_neg (by omega)];exact sdo_hi op a A b B w c1 c2
 have f:1<=op/\op<=10:=by omega
 by_cases c3:a<=A
 case neg=>rw [if_neg (by omega)];exact sdo_na op a A b B w f (decide_eq_false c3)
 by_cases c4:b<=B
 case neg=>rw [if_neg (by omega)];exact sdo_nb op a A b B w f (decide_eq_true c3) (decide_eq_false c4)
 rw [if_pos ⟨f,c3,c4⟩];have d:0<=a/\a<=A/\A<=18446744073709551615:=⟨ha.1,c3,hA.2⟩;have c:0<=b/\b<=B/\B<=18446744073709551615:=⟨hb.1,c4,g.2⟩
 by_cases hs:a=A/\b=B
 ·obtain ⟨rfl,rfl⟩:=hs
  have e:spanL op a a b b=(doL op a b,doL op a b):=by unfold spanL;rw [if_pos ⟨rfl,rfl⟩]
  rw [e];exact sdo_one op a b w f ha hb
 have i:op=1∨op=2∨op=3∨op=4∨op=5∨op=6∨op=7∨op=8∨op=9∨op=10:=by omega
 rcases i with rfl|rfl|rfl|rfl|rfl|rfl|rfl|rfl|rfl|rfl
 ·exact way_add d c hs
 ·exact way_sub d c hs
 ·exact way_mul d c hs
 ·exact way_div d c hs
 ·exact way_rem d c hs
 ·exact way_and d c hs
 ·exact way_or d c hs k
 ·exact way_xor d c hs
 ·exact way_shl d c hs
 ·exact way_shr d c hs
theorem sdo_or (a A b B:Int)(w:World)(o:0<=a/\a<=A/\A<=18446744073709551615)(u:0<=b/\b<=B/\B<=18446744073709551615)(G:(a==A)=false) :
  Cl 143 #[I4 7,.agg #[U8 a,U8 A],.agg #[U8 b,U8 B]] w fun e c=>e=.returned (.tuple #[.agg #[U8 (max a b),U8 (formL (max A B))],.bool true])/\Bw w c:=by
 have E:decide (a<=A)=true:=decide_eq_true o.2.1;have z:decide (b<=B)=true:=decide_eq_true u.2.1;obtain ⟨P,s⟩:∃ P,max A B=P:=⟨_,rfl⟩;obtain ⟨Q,n⟩:∃ Q,max a b=Q:=⟨_,rfl⟩
 have g:0<=P/\P<=18446744073709551615:=by omega
 rw [s,n];obtain ⟨Y,k⟩:∃ Y,Hid (Y=formL P):=⟨_,rfl⟩;rw [<- k.out];obtain ⟨Z,i,l,r0,r,D,F,f⟩:∃ Z,Hid (Z=((((((w.alloc (spO a A)).alloc (spO b B)).alloc (spO 0 0)).alloc (spO a A)).alloc (spO b B)).alloc (spO 0 18446744073709551615)))/\(Z.cell? ⟨w.heap.size,0,none⟩=some (U8 a)/\Z.cell? ⟨w.heap.size,1,none⟩=some (U8 A)/\Z.cell? ⟨w.heap.size+1,0,none⟩=some (U8 b)/\Z.cell? ⟨w.heap.size+1,1,none⟩=some (U8 B))/\Z.cell? ⟨w.heap.size+1+1,0,none⟩=some (U8 0)/\Z.cell? ⟨w.heap.size+1+1,1,none⟩=some (U8 0)/\Z.frozen? ⟨w.heap.size+1+1,0,none⟩=false/\Z.frozen? ⟨w.heap.size+1+1,1,none⟩=false/\Bw w Z :=
  ⟨_,rfl,⟨by go_cell,by go_cell,by go_cell,by go_cell⟩,by go_cell,by go_cell,by go_simp,by go_simp,by go_grown⟩
 have d:Hid _:=qAk (x:=U8 Q) (y:=U8 Y) r0 r;go_enter Tryz.func143,Tryz.ntmps143
 go_wp2_with (first
  | (go_at_call 146;go_must (refine (qAe _ _ _).mono ?_);rintro e c ⟨rfl,rfl⟩)
  | (go_at_call 159;fail))
 rw [<- i.out];clear i
 go_region_held_law (fun c=>c.cell? ⟨w.heap.size,0,none⟩=some (U8 a)/\c.cell? ⟨w.heap.size,1,none⟩=some (U8 A)/\c.cell? ⟨w.heap.size+1,0,none⟩=some (U8 b)/\c.cell? ⟨w.heap.size+1,1,none⟩=some (U8 B))
  (first|assumption|((refine keep4 ?_ (by omega) (by omega);first|assumption|(refine keep4 ?_ (by omega) (by omega);assumption))))
  ((go_at_call 159;refine (form_as k _ g).mono ?_;rintro e c ⟨rfl,rfl⟩))
 all_goals go_wp2
 all_goals refine bodyPost_ret (v:=.tuple #[.agg #[U8 Q,U8 Y],.bool true]) ?_ rfl ⟨rfl,below_dr (qAa (qAa f (by omega)) (by omega))⟩
 all_goals rw [results_cell_tmp rfl]
 all_goals simp [asAddr,Result.andThen]
 all_goals rw [qCt d.out.1 d.out.2]
theorem sdo_ors (a b B:Int)(w:World)(o:0<=a/\a<=a/\a<=18446744073709551615)(u:0<=b/\b<=B/\B<=18446744073709551615)(F:(b==B)=false) :
  Cl 143 #[I4 7,.agg #[U8 a,U8 a],.agg #[U8 b,U8 B]] w fun e c=>e=.returned (.tuple #[.agg #[U8 (max a b),U8 (formL (max a B))],.bool true])/\Bw w c:=by
 have D:decide (a<=a)=true:=decide_eq_true o.2.1;have z:decide (b<=B)=true:=decide_eq_true u.2.1;obtain ⟨P,s⟩:∃ P,max a B=P:=⟨_,rfl⟩;obtain ⟨Q,n⟩:∃ Q,max a b=Q:=⟨_,rfl⟩
 have g:0<=P/\P<=18446744073709551615:=by omega
 rw [s,n];obtain ⟨Y,k⟩:∃ Y,Hid (Y=formL P):=⟨_,rfl⟩;rw [<- k.out];obtain ⟨Z,i,l,r0,r,A,E,f⟩:∃ Z,Hid (Z=((((((w.alloc (spO a a)).alloc (spO b B)).alloc (spO 0 0)).alloc (spO a a)).alloc (spO b B)).alloc (spO 0 18446744073709551615)))/\(Z.cell? ⟨w.heap.size,0,none⟩=some (U8 a)/\Z.cell? ⟨w.heap.size,1,none⟩=some (U8 a)/\Z.cell? ⟨w.heap.size+1,0,none⟩=some (U8 b)/\Z.cell? ⟨w.heap.size+1,1,none⟩=some (U8 B))/\Z.cell? ⟨w.heap.size+1+1,0,none⟩=some (U8 0)/\Z.cell? ⟨w.heap.size+1+1,1,none⟩=some (U8 0)/\Z.frozen? ⟨w.heap.size+1+1,0,none⟩=false/\Z.frozen? ⟨w.heap.size+1+1,1,none⟩=false/\Bw w Z :=
  ⟨_,rfl,⟨by go_cell,by go_cell,by go_cell,by go_cell⟩,by go_cell,by go_cell,by go_simp,by go_simp,by go_grown⟩
 have d:Hid _:=qAk (x:=U8 Q) (y:=U8 Y) r0 r;go_enter Tryz.func143,Tryz.ntmps143
 go_wp2_with (first
  | (go_at_call 146;go_must (refine (qAe _ _ _).mono ?_);rintro e c ⟨rfl,rfl⟩)
  | (go_at_call 159;fail))
 rw [<- i.out];clear i
 go_region_held_law (fun c=>c.cell? ⟨w.heap.size,0,none⟩=some (U8 a)/\c.cell? ⟨w.heap.size,1,none⟩=some (U8 a)/\c.cell? ⟨w.heap.size+1,0,none⟩=some (U8 b)/\c.cell? ⟨w.heap.size+1,1,none⟩=some (U8 B))
  (first|assumption|((refine keep4 ?_ (by omega) (by omega);first|assumption|(refine keep4 ?_ (by omega) (by omega);assumption))))
  ((go_at_call 159;refine (form_as k _ g).mono ?_;rintro e c ⟨rfl,rfl⟩))
 all_goals go_wp2
 all_goals refine bodyPost_ret (v:=.tuple #[.agg #[U8 Q,U8 Y],.bool true]) ?_ rfl ⟨rfl,below_dr (qAa (qAa f (by omega)) (by omega))⟩
 all_goals rw [results_cell_tmp rfl]
 all_goals simp [asAddr,Result.andThen]
 all_goals rw [qCt d.out.1 d.out.2]
theorem or_way:OrWay:=fun a A b B w d f g=>qBu g (fun c=>sdo_or a A b B w d f c) (fun e c=>by subst e;exact sdo_ors a b B w d f c)
end Go.Proofs.YtmdhljoicnommaaGreat
