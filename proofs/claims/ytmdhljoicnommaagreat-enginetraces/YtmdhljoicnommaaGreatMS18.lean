/-
  S6LCond
  S6LEqual
  S6LRefA
  S6LRefine
-/
import Derived.Test.YtmdhljoicnommaaGreatMS17
import Derived.Deep.RegionWith
namespace Go.Proofs.YtmdhljoicnommaaGreat
set_option maxHeartbeats 12800000
open Go.RowKit
set_option linter.unusedVariables false
set_option maxRecDepth 20000
def meetO (x X y Y:Int):Option (Int×Int):=if max x y<=min X Y then some (max x y,min X Y) else none
theorem meet_two (x X y Y:Int):(if meetB [(x,X),(y,Y)]=true then some (meetL [(x,X),(y,Y)]) else none)=meetO x X y Y:=by
 have a:=meet_cross (ss:=[(x,X),(y,Y)]) (by simp);have b:loM [(x,X),(y,Y)]=max x y:=rfl;have c:hiM [(x,X),(y,Y)]=min X Y:=rfl;rw [b,c] at a;unfold meetO
 by_cases h:max x y<=min X Y
 ·rw [decide_eq_true h] at a;rw [if_pos a,if_pos h];unfold meetL;rw [if_pos a,b,c]
 ·rw [decide_eq_false h] at a;rw [if_neg (by rw [a];simp),if_neg h]
theorem optV_as (o:Option (Int×Int)):∃ x y c,Hid (optV o=.tuple #[.agg #[U8 x,U8 y],.bool c]):=by
 cases o with
 | none=>exact ⟨0,0,false,rfl⟩
 | some p=>exact ⟨p.1,p.2,true,rfl⟩
theorem two_meet {x X y Y p q:Int}{c:Bool}(h:Hid (optV (meetO x X y Y)=.tuple #[.agg #[U8 p,U8 q],.bool c]))(v:Value)(w:World)(a:SeesS w v [(x,X),(y,Y)])(k:W64 x)(g:W64 X)(d:W64 y)(f:W64 Y) :
  Cl 164 #[v] w fun e i=>e=.returned (.tuple #[.agg #[U8 p,U8 q],.bool c])/\Bw w i:=by
 have b:=lmeet_any v [(x,X),(y,Y)] w a (by
  intro s a
  simp at a
  rcases a with rfl|rfl
  ·exact ⟨k,g⟩
  ·exact ⟨d,f⟩)
 rw [meet_two,h.out] at b;exact b
theorem second3 {w b:World}{c d:Obj}(a:Below (((w.alloc c).alloc (spO 0 0)).alloc d).heap.size (((w.alloc c).alloc (spO 0 0)).alloc d) b):Bx b (w.heap.size+1) 0 0/\Bw w b/\w.heap.size+1<b.heap.size :=
 ⟨Bx.below ⟨⟨by go_cell,by go_cell⟩,by go_simp,by go_simp⟩ a (by simp),qAz (qAz (qAz a)),Nat.lt_of_lt_of_le (by simp) a.size⟩
theorem lbelow_from (a A n:Int)(w:World)(k:W64 a)(hA:W64 A)(l:W64 n) :
  Cl 155 #[.agg #[U8 a,U8 A],U8 n,.bool false] w fun e o=>e=.returned (optV (meetO a A n 18446744073709551615))/\Bw w o:=by
 obtain ⟨p,q,c,f⟩:=optV_as (meetO a A n 18446744073709551615);rw [f.out];go_enter Tryz.func155,Tryz.ntmps155
 go_wp2_with (go_at_call 164;go_must (refine (two_meet f _ _ (qAt _ _ a A n 18446744073709551615 _ (by simp)) k hA l ⟨by decide,by decide⟩).mono ?_);rintro e r ⟨rfl,b⟩;go_must (obtain ⟨⟨⟨r0,i⟩,s,z⟩,g,u⟩:=second3 b;have d:Hid _:=qAk (x:=U8 p) (y:=U8 q) r0 i;clear b))
 refine bodyPost_ret (v:=.tuple #[.agg #[U8 p,U8 q],.bool c]) ?_ rfl ⟨rfl,qAa (qAa g (by omega)) (by omega)⟩;rw [results_cell_tmp rfl]
 simp [asAddr,Result.andThen]
 rw [qAc d.out.1 d.out.2]
theorem lbelow_zero (a A:Int)(w:World) :
  Cl 155 #[.agg #[U8 a,U8 A],U8 0,.bool true] w fun e b=>e=.returned (optV none)/\Bw w b:=by
 go_enter Tryz.func155,Tryz.ntmps155;go_wp2;refine bodyPost_ret (v:=optV none) ?_ rfl ⟨rfl,by go_grown⟩;rw [results_cell_tmp rfl]
 simp [asAddr,Result.andThen]
 rw [qAc (a:=0) (A:=0)]
 ·rfl
 all_goals go_cell
theorem lbelow_less (a A n:Int)(w:World)(l:W64 a)(hA:W64 A)(o:W64 n)(g:(n==0)=false) :
  Cl 155 #[.agg #[U8 a,U8 A],U8 n,.bool true] w fun e s=>e=.returned (optV (meetO a A 0 (n-1)))/\Bw w s:=by
 obtain ⟨p,q,c,f⟩:=optV_as (meetO a A 0 (n-1));rw [f.out]
 have u:n≠0:=by simpa using g
 have z:0<=n/\n<=18446744073709551615:=o;have B:IntKind.u64.wrap (n-1)=n-1:=wrap_in (by omega) (by omega);have r:Hid (W64 (n-1)):=⟨by omega,by omega⟩;go_enter Tryz.func155,Tryz.ntmps155
 go_wp2_with (go_at_call 164;go_must (refine (two_meet f _ _ (qAt _ _ a A 0 (n-1) _ (by simp)) l hA ⟨by decide,by decide⟩ r.out).mono ?_);rintro e D ⟨rfl,b⟩;go_must (obtain ⟨⟨⟨r0,k⟩,E,G⟩,i,F⟩:=second3 b;have d:Hid _:=qAk (x:=U8 p) (y:=U8 q) r0 k;clear b))
 refine bodyPost_ret (v:=.tuple #[.agg #[U8 p,U8 q],.bool c]) ?_ rfl ⟨rfl,qAa (qAa i (by omega)) (by omega)⟩;rw [results_cell_tmp rfl]
 simp [asAddr,Result.andThen]
 rw [qAc d.out.1 d.out.2]
theorem dr_below {B:Nat}{w Z:World}(h:Below B w.drew Z):Below B w Z:=⟨h.os,h.tape,h.output,h.size,h.block⟩
theorem two2 {w c:World}{a A:Int}(b:Below ((w.alloc (spO a A)).alloc (spO 0 0)).heap.size ((w.alloc (spO a A)).alloc (spO 0 0)) c):(Bx c w.heap.size a A/\Bx c (w.heap.size+1) 0 0)/\Bw w c/\w.heap.size+1<c.heap.size :=
 ⟨⟨Bx.below ⟨⟨by go_cell,by go_cell⟩,by go_simp,by go_simp⟩ b (by simp;omega),Bx.below ⟨⟨by go_cell,by go_cell⟩,by go_simp,by go_simp⟩ b (by simp)⟩,qAz (qAz b),Nat.lt_of_lt_of_le (by simp) b.size⟩
theorem lequal_yes (a A n:Int)(w:World)(z:W64 a)(hA:W64 A)(i:W64 n) :
  Cl 154 #[.agg #[U8 a,U8 A],U8 n,.bool true] w fun e F=>e=.returned (optV (meetO a A n n))/\Bw w F:=by
 obtain ⟨p,q,c,l⟩:=optV_as (meetO a A n n);rw [l.out];go_enter Tryz.func154,Tryz.ntmps154
 go_wp2_with (go_at_call 134;fail)
 go_region_with (first
  | (go_at_call 134;go_must (refine (qCz n _).mono ?_);rintro e r ⟨rfl,g⟩;go_must (have E:=two2 (dr_below g);clear g;obtain ⟨⟨⟨⟨I,J⟩,_,_⟩,o⟩,k,u⟩:=E;have s:Hid (Bx r (w.heap.size+1) 0 0):=o;have G:w.heap.size<r.heap.size:=(by omega);clear o))
  | (go_at_call 164;go_must (refine (two_meet l _ _ (qAt _ _ a A n n _ (by simp)) z hA i i).mono ?_);rintro e D ⟨rfl,b⟩;go_must (obtain ⟨⟨r0,B⟩,K,L⟩:=(s.out.al u).below b (by simp;omega);have f:Hid _:=qAk (x:=U8 p) (y:=U8 q) r0 B;have d:Bw w D:=k.trans ((qAz b).mono (by omega));clear b)))
 all_goals go_wp2
 all_goals refine bodyPost_ret (v:=.tuple #[.agg #[U8 p,U8 q],.bool c]) ?_ rfl ⟨rfl,by first|exact qAa (qAa d (by omega)) (by omega)|exact below_dr (qAa (qAa d (by omega)) (by omega))⟩
 all_goals rw [results_cell_tmp rfl]
 all_goals simp [asAddr,Result.andThen,Act.put]
 all_goals first|rw [qAc f.out.1 f.out.2]|rw [qCt f.out.1 f.out.2]
theorem lequal_none (n:Int)(w:World) :
  Cl 154 #[.agg #[U8 n,U8 n],U8 n,.bool false] w fun e i=>e=.returned (optV none)/\Bw w i:=by
 go_enter Tryz.func154,Tryz.ntmps154
 go_wp2_with (go_at_call 134;fail)
 go_region_with (first
  | (go_at_call 134;go_must (refine (qCz n _).mono ?_);rintro e g ⟨rfl,b⟩;go_must (have f:=two2 (dr_below b);clear b;obtain ⟨⟨⟨⟨l,u⟩,_,_⟩,⟨⟨r0,d⟩,o,s⟩⟩,c,r⟩:=f;have a:Hid _:=qAk (x:=U8 0) (y:=U8 0) r0 d;have k:w.heap.size<g.heap.size:=(by omega))))
 all_goals go_wp2
 all_goals refine bodyPost_ret (v:=optV none) ?_ rfl ⟨rfl,by first|exact qAa (qAa c (by omega)) (by omega)|exact below_dr (qAa (qAa c (by omega)) (by omega))⟩
 all_goals rw [results_cell_tmp rfl]
 all_goals simp [asAddr,Result.andThen]
 all_goals first|rw [qAc a.out.1 a.out.2]|rw [qCt a.out.1 a.out.2]
 all_goals rfl
theorem lequal_lo (A n:Int)(w:World)(hA:(A==n)=false)(I:IntKind.u64.wrap (n+1)=n+1) :
  Cl 154 #[.agg #[U8 n,U8 A],U8 n,.bool false] w fun e r=>e=.returned (optV (some (n+1,A)))/\Bw w r:=by
 go_enter Tryz.func154,Tryz.ntmps154
 go_wp2_with (go_at_call 134;fail)
 go_region_with (first
  | (go_at_call 134;go_must (refine (qCz n _).mono ?_);rintro e f ⟨rfl,a⟩;go_must (have o:=two2 (dr_below a);clear a;obtain ⟨⟨⟨⟨z,g⟩,g0,D⟩,b⟩,c,B⟩:=o;have s:w.heap.size<f.heap.size:=(by omega);obtain ⟨⟨r0,k⟩,F,G⟩:=Bx.far (m:=w.heap.size) (i:=0) (v:=U8 (n+1)) b (by omega);clear b;have u:(f.setCell ⟨w.heap.size,0,none⟩ (U8 (n+1))).cell? ⟨w.heap.size,1,none⟩=some (U8 A):=(World.cell?_setCell_other _ _ _ _ (fun e=>by injection e with E l;simp at l)).trans g;have d:Hid _:=qAk (x:=U8 (n+1)) (y:=U8 A) r0 k)))
 all_goals go_wp2
 all_goals refine bodyPost_ret (v:=optV (some (n+1,A))) ?_ rfl ⟨rfl,qAa (qAa (qAa c (by omega)) (by omega)) (by omega)⟩
 all_goals rw [results_cell_tmp rfl]
 all_goals simp [asAddr,Result.andThen]
 all_goals rw [qAc d.out.1 d.out.2]
 all_goals rfl
theorem lequal_hi (a n:Int)(w:World)(E:(a==n)=false)(J:IntKind.u64.wrap (n-1)=n-1) :
  Cl 154 #[.agg #[U8 a,U8 n],U8 n,.bool false] w fun e s=>e=.returned (optV (some (a,n-1)))/\Bw w s:=by
 go_enter Tryz.func154,Tryz.ntmps154
 go_wp2_with (go_at_call 134;fail)
 go_region_with (first
  | (go_at_call 134;go_must (refine (qCz n _).mono ?_);rintro e g ⟨rfl,b⟩;go_must (have r:=two2 (dr_below b);clear b;obtain ⟨⟨⟨⟨k,B⟩,g0,D⟩,c⟩,d,A⟩:=r;have u:w.heap.size<g.heap.size:=(by omega);obtain ⟨⟨r0,l⟩,G,I⟩:=Bx.far (m:=w.heap.size) (i:=1) (v:=U8 (n-1)) c (by omega);clear c;have z:(g.setCell ⟨w.heap.size,1,none⟩ (U8 (n-1))).cell? ⟨w.heap.size,0,none⟩=some (U8 a):=(World.cell?_setCell_other _ _ _ _ (fun e=>by injection e with F o;simp at o)).trans k;have f:Hid _:=qAk (x:=U8 a) (y:=U8 (n-1)) r0 l)))
 all_goals go_wp2
 all_goals refine bodyPost_ret (v:=optV (some (a,n-1))) ?_ rfl ⟨rfl,qAa (qAa (qAa d (by omega)) (by omega)) (by omega)⟩
 all_goals rw [results_cell_tmp rfl]
 all_goals simp [asAddr,Result.andThen]
 all_goals rw [qAc f.out.1 f.out.2]
 all_goals rfl
theorem lequal_far (a A n:Int)(w:World)(u:(a==n)=false)(hA:(A==n)=false) :
  Cl 154 #[.agg #[U8 a,U8 A],U8 n,.bool false] w fun e k=>e=.returned (optV (some (a,A)))/\Bw w k:=by
 go_enter Tryz.func154,Tryz.ntmps154
 go_wp2_with (go_at_call 134;fail)
 go_region_with (first
  | (go_at_call 134;go_must (refine (qCz n _).mono ?_);rintro e i ⟨rfl,b⟩;go_must (have g:=two2 (dr_below b);clear b;obtain ⟨⟨⟨⟨s,E⟩,g0,r⟩,l⟩,d,B⟩:=g;have o:w.heap.size<i.heap.size:=(by omega);obtain ⟨⟨r0,f⟩,z,D⟩:=l;have c:Hid _:=qAk (x:=U8 a) (y:=U8 A) r0 f)))
 all_goals go_wp2
 all_goals refine bodyPost_ret (v:=optV (some (a,A))) ?_ rfl ⟨rfl,qAa (qAa d (by omega)) (by omega)⟩
 all_goals rw [results_cell_tmp rfl]
 all_goals simp [asAddr,Result.andThen]
 all_goals rw [qAc c.out.1 c.out.2]
 all_goals rfl
theorem lref_no1 (op:Int)(a A b B:Int)(h:Bool)(w:World){m:Bool}(d:Hid (m=holdL op 0 0))(f:Hid (false=isCond op)) :
  Cl 141 #[I4 op,.agg #[U8 a,U8 A],.agg #[U8 b,U8 B],.bool h] w fun e c=>e=.returned (.tuple #[.agg #[U8 0,U8 0],.bool false])/\Bw w c:=by
 go_enter Tryz.func141,Tryz.ntmps141
 go_wp2_with (first
  | (go_at_call 61;go_must (refine (holds_as d f _ (by omega) (by omega)).mono ?_);rintro e c ⟨rfl,rfl⟩))
 refine bodyPost_ret (v:=.tuple #[.agg #[U8 0,U8 0],.bool false]) ?_ rfl ⟨rfl,by go_grown⟩;rw [results_cell_tmp rfl]
 simp [asAddr,Result.andThen]
 rw [qAc (a:=0) (A:=0)]
 all_goals go_cell
theorem lref_no2 (op:Int)(a A b B:Int)(h:Bool)(w:World){m:Bool}(l:Hid (m=holdL op 0 0))(r:Hid (true=isCond op))(k:Hid (false=(decide (a<=A)&&decide (b<=B)))) :
  Cl 141 #[I4 op,.agg #[U8 a,U8 A],.agg #[U8 b,U8 B],.bool h] w fun e g=>e=.returned (.tuple #[.agg #[U8 0,U8 0],.bool false])/\Bw w g:=by
 go_enter Tryz.func141,Tryz.ntmps141
 go_wp2_with (first
  | (go_at_call 61;go_must (refine (holds_as l r _ (by omega) (by omega)).mono ?_);rintro e g ⟨rfl,rfl⟩)
  | (go_at_call 150;go_must (refine (qBo k _ _ (qAt _ _ a A b B _ (by simp))).mono ?_);rintro e d ⟨rfl,c⟩;go_must (have o:Hid (B3 d w.heap.size a A b B):=(b3_new w a A b B).next c;obtain ⟨⟨⟨D,I⟩,_,_⟩,⟨⟨d0,z⟩,_,_⟩,⟨⟨r0,n⟩,E,G⟩,F⟩:=o.out;have u:w.heap.size+1<d.heap.size:=(by omega);have s:w.heap.size<d.heap.size:=(by omega);have i:Bw w d:=grow4 c;clear c;have f:Hid _:=qAk (x:=U8 0) (y:=U8 0) r0 n)))
 refine bodyPost_ret (v:=.tuple #[.agg #[U8 0,U8 0],.bool false]) ?_ rfl ⟨rfl,qAa (qAa i (by omega)) (by omega)⟩;rw [results_cell_tmp rfl]
 simp [asAddr,Result.andThen]
 rw [qAc f.out.1 f.out.2]
theorem lref_wide (op:Int)(a A b B:Int)(h:Bool)(w:World){m:Bool}(M:Hid (m=holdL op 0 0))(L:Hid (true=isCond op))(J:Hid (true=(decide (a<=A)&&decide (b<=B))))(K:Hid (false=(b==B))) :
  Cl 141 #[I4 op,.agg #[U8 a,U8 A],.agg #[U8 b,U8 B],.bool h] w fun e I=>e=.returned (.tuple #[.agg #[U8 a,U8 A],.bool true])/\Bw w I:=by
 go_enter Tryz.func141,Tryz.ntmps141
 go_wp2_with (first
  | (go_at_call 61;go_must (refine (holds_as M L _ (by omega) (by omega)).mono ?_);rintro e I ⟨rfl,rfl⟩)
  | (go_at_call 150;go_must (refine (qBo J _ _ (qAt _ _ a A b B _ (by simp))).mono ?_);rintro e g ⟨rfl,c⟩;go_must (have n:Hid (B3 g w.heap.size a A b B):=(b3_new w a A b B).next c;obtain ⟨⟨⟨s,z⟩,_,_⟩,⟨⟨d0,G⟩,_,_⟩,⟨⟨r0,r⟩,E,F⟩,u⟩:=n.out;have l:w.heap.size+1<g.heap.size:=(by omega);have i:w.heap.size<g.heap.size:=(by omega);have k:Bw w g:=grow4 c;clear c))
  | (go_at_call 153;go_must (refine (lone_any K _ _ (sees_one _ _ b B _ (by simp))).mono ?_);rintro e f ⟨rfl,d⟩;go_must (have N:Hid (B3 f w.heap.size a A b B):=n.out.next d;have o:Bw w f:=grow1 k (by omega) d;clear d k n s z d0 G r0 r E F u i l;obtain ⟨⟨⟨s,z⟩,_,_⟩,⟨⟨d0,G⟩,_,_⟩,⟨⟨r0,r⟩,E,F⟩,u⟩:=N.out;have l:w.heap.size+1<f.heap.size:=(by omega);have i:w.heap.size<f.heap.size:=(by omega);have D:Hid _:=qAk (x:=U8 a) (y:=U8 A) r0 r)))
 refine bodyPost_ret (v:=.tuple #[.agg #[U8 a,U8 A],.bool true]) ?_ rfl ⟨rfl,qAa (qAa o (by omega)) (by omega)⟩;rw [results_cell_tmp rfl]
 simp [asAddr,Result.andThen]
 rw [qAc D.out.1 D.out.2]
theorem lref_16 (a A b B:Int)(h:Bool)(w:World){m:Bool}(T:Hid (m=holdL 16 0 0))(S:Hid (true=isCond 16))(P:Hid (true=(decide (a<=A)&&decide (b<=B))))(R:Hid (true=(b==B)))(p q:Int)(c:Bool)(O:Hid (∀ w,Cl 154 #[.agg #[U8 a,U8 A],U8 b,.bool h] w fun e G=>e=.returned (.tuple #[.agg #[U8 p,U8 q],.bool c])/\Bw w G)) :
  Cl 141 #[I4 16,.agg #[U8 a,U8 A],.agg #[U8 b,U8 B],.bool h] w fun e G=>e=.returned (.tuple #[.agg #[U8 p,U8 q],.bool c])/\Bw w G:=by
 go_enter Tryz.func141,Tryz.ntmps141
 go_wp2_with (first
  | (go_at_call 61;go_must (refine (holds_as T S _ (by omega) (by omega)).mono ?_);rintro e G ⟨rfl,rfl⟩)
  | (go_at_call 150;go_must (refine (qBo P _ _ (qAt _ _ a A b B _ (by simp))).mono ?_);rintro e F ⟨rfl,g⟩;go_must (have L:Hid (B3 F w.heap.size a A b B):=(b3_new w a A b B).next g;obtain ⟨⟨⟨o,s⟩,_,_⟩,⟨⟨d0,E⟩,_,_⟩,⟨⟨r0,l⟩,z,D⟩,r⟩:=L.out;have f:w.heap.size+1<F.heap.size:=(by omega);have d:w.heap.size<F.heap.size:=(by omega);have J:Bw w F:=grow4 g;clear g))
  | (go_at_call 153;go_must (refine (lone_any R _ _ (sees_one _ _ b B _ (by simp))).mono ?_);rintro e u ⟨rfl,i⟩;go_must (have M:Hid (B3 u w.heap.size a A b B):=L.out.next i;have k:Bw w u:=grow1 J (by omega) i;clear i J L o s d0 E r0 l z D r d f;obtain ⟨⟨⟨o,s⟩,_,_⟩,⟨⟨d0,E⟩,_,_⟩,⟨⟨r0,l⟩,z,D⟩,r⟩:=M.out;have f:w.heap.size+1<u.heap.size:=(by omega);have d:w.heap.size<u.heap.size:=(by omega)))
  | (go_at_call 154;go_must (refine (O.out _).mono ?_);rintro e I ⟨rfl,n⟩;go_must (have Q:Hid (B3 I w.heap.size a A b B):=M.out.below n;have K:Bw w I:=k.trans (n.mono (by omega));clear n k M o s d0 E r0 l z D r d f;obtain ⟨⟨⟨o,s⟩,_,_⟩,⟨⟨d0,E⟩,_,_⟩,⟨⟨r0,l⟩,z,D⟩,r⟩:=Q.out;have f:w.heap.size+1<I.heap.size:=(by omega);have d:w.heap.size<I.heap.size:=(by omega);have N:Hid _:=qAk (x:=U8 p) (y:=U8 q) r0 l)))
 refine bodyPost_ret (v:=.tuple #[.agg #[U8 p,U8 q],.bool c]) ?_ rfl ⟨rfl,qAa (qAa K (by omega)) (by omega)⟩;rw [results_cell_tmp rfl]
 simp [asAddr,Result.andThen]
 rw [qAc N.out.1 N.out.2]
theorem lref_17 (a A b B:Int)(h:Bool)(w:World){m:Bool}(T:Hid (m=holdL 17 0 0))(S:Hid (true=isCond 17))(P:Hid (true=(decide (a<=A)&&decide (b<=B))))(R:Hid (true=(b==B)))(p q:Int)(c:Bool)(O:Hid (∀ w,Cl 154 #[.agg #[U8 a,U8 A],U8 b,.bool (!h)] w fun e G=>e=.returned (.tuple #[.agg #[U8 p,U8 q],.bool c])/\Bw w G)) :
  Cl 141 #[I4 17,.agg #[U8 a,U8 A],.agg #[U8 b,U8 B],.bool h] w fun e G=>e=.returned (.tuple #[.agg #[U8 p,U8 q],.bool c])/\Bw w G:=by
 go_enter Tryz.func141,Tryz.ntmps141
 go_wp2_with (first
  | (go_at_call 61;go_must (refine (holds_as T S _ (by omega) (by omega)).mono ?_);rintro e G ⟨rfl,rfl⟩)
  | (go_at_call 150;go_must (refine (qBo P _ _ (qAt _ _ a A b B _ (by simp))).mono ?_);rintro e F ⟨rfl,g⟩;go_must (have L:Hid (B3 F w.heap.size a A b B):=(b3_new w a A b B).next g;obtain ⟨⟨⟨o,s⟩,_,_⟩,⟨⟨d0,E⟩,_,_⟩,⟨⟨r0,l⟩,z,D⟩,r⟩:=L.out;have f:w.heap.size+1<F.heap.size:=(by omega);have d:w.heap.size<F.heap.size:=(by omega);have J:Bw w F:=grow4 g;clear g))
  | (go_at_call 153;go_must (refine (lone_any R _ _ (sees_one _ _ b B _ (by simp))).mono ?_);rintro e u ⟨rfl,i⟩;go_must (have M:Hid (B3 u w.heap.size a A b B):=L.out.next i;have k:Bw w u:=grow1 J (by omega) i;clear i J L o s d0 E r0 l z D r d f;obtain ⟨⟨⟨o,s⟩,_,_⟩,⟨⟨d0,E⟩,_,_⟩,⟨⟨r0,l⟩,z,D⟩,r⟩:=M.out;have f:w.heap.size+1<u.heap.size:=(by omega);have d:w.heap.size<u.heap.size:=(by omega)))
  | (go_at_call 154;go_must (refine (O.out _).mono ?_);rintro e I ⟨rfl,n⟩;go_must (have Q:Hid (B3 I w.heap.size a A b B):=M.out.below n;have K:Bw w I:=k.trans (n.mono (by omega));clear n k M o s d0 E r0 l z D r d f;obtain ⟨⟨⟨o,s⟩,_,_⟩,⟨⟨d0,E⟩,_,_⟩,⟨⟨r0,l⟩,z,D⟩,r⟩:=Q.out;have f:w.heap.size+1<I.heap.size:=(by omega);have d:w.heap.size<I.heap.size:=(by omega);have N:Hid _:=qAk (x:=U8 p) (y:=U8 q) r0 l)))
 refine bodyPost_ret (v:=.tuple #[.agg #[U8 p,U8 q],.bool c]) ?_ rfl ⟨rfl,qAa (qAa K (by omega)) (by omega)⟩;rw [results_cell_tmp rfl]
 simp [asAddr,Result.andThen]
 rw [qAc N.out.1 N.out.2]
theorem lref_18 (a A b B:Int)(h:Bool)(w:World){m:Bool}(T:Hid (m=holdL 18 0 0))(S:Hid (true=isCond 18))(P:Hid (true=(decide (a<=A)&&decide (b<=B))))(R:Hid (true=(b==B)))(p q:Int)(c:Bool)(O:Hid (∀ w,Cl 155 #[.agg #[U8 a,U8 A],U8 b,.bool h] w fun e G=>e=.returned (.tuple #[.agg #[U8 p,U8 q],.bool c])/\Bw w G)) :
  Cl 141 #[I4 18,.agg #[U8 a,U8 A],.agg #[U8 b,U8 B],.bool h] w fun e G=>e=.returned (.tuple #[.agg #[U8 p,U8 q],.bool c])/\Bw w G:=by
 go_enter Tryz.func141,Tryz.ntmps141
 go_wp2_with (first
  | (go_at_call 61;go_must (refine (holds_as T S _ (by omega) (by omega)).mono ?_);rintro e G ⟨rfl,rfl⟩)
  | (go_at_call 150;go_must (refine (qBo P _ _ (qAt _ _ a A b B _ (by simp))).mono ?_);rintro e F ⟨rfl,g⟩;go_must (have L:Hid (B3 F w.heap.size a A b B):=(b3_new w a A b B).next g;obtain ⟨⟨⟨o,s⟩,_,_⟩,⟨⟨d0,E⟩,_,_⟩,⟨⟨r0,l⟩,z,D⟩,r⟩:=L.out;have f:w.heap.size+1<F.heap.size:=(by omega);have d:w.heap.size<F.heap.size:=(by omega);have J:Bw w F:=grow4 g;clear g))
  | (go_at_call 153;go_must (refine (lone_any R _ _ (sees_one _ _ b B _ (by simp))).mono ?_);rintro e u ⟨rfl,i⟩;go_must (have M:Hid (B3 u w.heap.size a A b B):=L.out.next i;have k:Bw w u:=grow1 J (by omega) i;clear i J L o s d0 E r0 l z D r d f;obtain ⟨⟨⟨o,s⟩,_,_⟩,⟨⟨d0,E⟩,_,_⟩,⟨⟨r0,l⟩,z,D⟩,r⟩:=M.out;have f:w.heap.size+1<u.heap.size:=(by omega);have d:w.heap.size<u.heap.size:=(by omega)))
  | (go_at_call 155;go_must (refine (O.out _).mono ?_);rintro e I ⟨rfl,n⟩;go_must (have Q:Hid (B3 I w.heap.size a A b B):=M.out.below n;have K:Bw w I:=k.trans (n.mono (by omega));clear n k M o s d0 E r0 l z D r d f;obtain ⟨⟨⟨o,s⟩,_,_⟩,⟨⟨d0,E⟩,_,_⟩,⟨⟨r0,l⟩,z,D⟩,r⟩:=Q.out;have f:w.heap.size+1<I.heap.size:=(by omega);have d:w.heap.size<I.heap.size:=(by omega);have N:Hid _:=qAk (x:=U8 p) (y:=U8 q) r0 l)))
 refine bodyPost_ret (v:=.tuple #[.agg #[U8 p,U8 q],.bool c]) ?_ rfl ⟨rfl,qAa (qAa K (by omega)) (by omega)⟩;rw [results_cell_tmp rfl]
 simp [asAddr,Result.andThen]
 rw [qAc N.out.1 N.out.2]
theorem lref_19 (a A b B:Int)(h:Bool)(w:World){m:Bool}(T:Hid (m=holdL 19 0 0))(S:Hid (true=isCond 19))(P:Hid (true=(decide (a<=A)&&decide (b<=B))))(R:Hid (true=(b==B)))(p q:Int)(c:Bool)(O:Hid (∀ w,Cl 155 #[.agg #[U8 a,U8 A],U8 b,.bool (!h)] w fun e G=>e=.returned (.tuple #[.agg #[U8 p,U8 q],.bool c])/\Bw w G)) :
  Cl 141 #[I4 19,.agg #[U8 a,U8 A],.agg #[U8 b,U8 B],.bool h] w fun e G=>e=.returned (.tuple #[.agg #[U8 p,U8 q],.bool c])/\Bw w G:=by
 go_enter Tryz.func141,Tryz.ntmps141
 go_wp2_with (first
  | (go_at_call 61;go_must (refine (holds_as T S _ (by omega) (by omega)).mono ?_);rintro e G ⟨rfl,rfl⟩)
  | (go_at_call 150;go_must (refine (qBo P _ _ (qAt _ _ a A b B _ (by simp))).mono ?_);rintro e F ⟨rfl,g⟩;go_must (have L:Hid (B3 F w.heap.size a A b B):=(b3_new w a A b B).next g;obtain ⟨⟨⟨o,s⟩,_,_⟩,⟨⟨d0,E⟩,_,_⟩,⟨⟨r0,l⟩,z,D⟩,r⟩:=L.out;have f:w.heap.size+1<F.heap.size:=(by omega);have d:w.heap.size<F.heap.size:=(by omega);have J:Bw w F:=grow4 g;clear g))
  | (go_at_call 153;go_must (refine (lone_any R _ _ (sees_one _ _ b B _ (by simp))).mono ?_);rintro e u ⟨rfl,i⟩;go_must (have M:Hid (B3 u w.heap.size a A b B):=L.out.next i;have k:Bw w u:=grow1 J (by omega) i;clear i J L o s d0 E r0 l z D r d f;obtain ⟨⟨⟨o,s⟩,_,_⟩,⟨⟨d0,E⟩,_,_⟩,⟨⟨r0,l⟩,z,D⟩,r⟩:=M.out;have f:w.heap.size+1<u.heap.size:=(by omega);have d:w.heap.size<u.heap.size:=(by omega)))
  | (go_at_call 155;go_must (refine (O.out _).mono ?_);rintro e I ⟨rfl,n⟩;go_must (have Q:Hid (B3 I w.heap.size a A b B):=M.out.below n;have K:Bw w I:=k.trans (n.mono (by omega));clear n k M o s d0 E r0 l z D r d f;obtain ⟨⟨⟨o,s⟩,_,_⟩,⟨⟨d0,E⟩,_,_⟩,⟨⟨r0,l⟩,z,D⟩,r⟩:=Q.out;have f:w.heap.size+1<I.heap.size:=(by omega);have d:w.heap.size<I.heap.size:=(by omega);have N:Hid _:=qAk (x:=U8 p) (y:=U8 q) r0 l)))
 refine bodyPost_ret (v:=.tuple #[.agg #[U8 p,U8 q],.bool c]) ?_ rfl ⟨rfl,qAa (qAa K (by omega)) (by omega)⟩;rw [results_cell_tmp rfl]
 simp [asAddr,Result.andThen]
 rw [qAc N.out.1 N.out.2]
theorem isCond_eq (op:Int):isCond op=decide (16<=op/\op<=19):=rfl
theorem lequal_any (a A n:Int)(h:Bool)(w:World)(b:W64 a)(hA:W64 A)(c:W64 n)(f:a<=A) :
  Cl 154 #[.agg #[U8 a,U8 A],U8 n,.bool h] w fun e d=>e=.returned (optV (if h=true then (if a<=n/\n<=A then some (n,n) else none) else if a=n/\A=n then none else if a=n then some (n+1,A) else if A=n then some (a,n-1) else some (a,A)))/\Bw w d:=by
 have k:0<=n/\n<=18446744073709551615:=c;have g:0<=a/\a<=18446744073709551615:=b;have i:0<=A/\A<=18446744073709551615:=hA
 cases h
 ·rw [if_neg (by simp)]
  by_cases h1:a=n/\A=n
  ·rw [if_pos h1];obtain ⟨rfl,rfl⟩:=h1;exact lequal_none _ w
  rw [if_neg h1]
  by_cases h2:a=n
  ·rw [if_pos h2];subst h2;exact lequal_lo A a w (by simp;omega) (wrap_in (by omega) (by omega))
  rw [if_neg h2]
  by_cases h3:A=n
  ·rw [if_pos h3];subst h3;exact lequal_hi a A w (by simpa using h2) (wrap_in (by omega) (by omega))
  ·rw [if_neg h3];exact lequal_far a A n w (by simpa using h2) (by simpa using h3)
 ·rw [if_pos rfl]
  have e:(if a<=n/\n<=A then some (n,n) else none)=meetO a A n n:=by
   unfold meetO
   by_cases hc:a<=n/\n<=A
   ·rw [if_pos hc,if_pos (by omega),Int.max_eq_right hc.1,Int.min_eq_right hc.2]
   ·rw [if_neg hc,if_neg (by omega)]
  rw [e];exact lequal_yes a A n w b hA c
theorem lbelow_any (a A n:Int)(h:Bool)(w:World)(c:W64 a)(hA:W64 A)(d:W64 n)(i:a<=A) :
  Cl 155 #[.agg #[U8 a,U8 A],U8 n,.bool h] w fun e g=>e=.returned (optV (if h=true then (if n<=a then none else some (a,min A (n-1))) else if A<n then none else some (max a n,A)))/\Bw w g:=by
 have k:0<=n/\n<=18446744073709551615:=d;have b:0<=a/\a<=18446744073709551615:=c;have f:0<=A/\A<=18446744073709551615:=hA
 cases h
 ·rw [if_neg (by simp)]
  have e:(if A<n then none else some (max a n,A))=meetO a A n 18446744073709551615:=by
   unfold meetO;rw [Int.min_eq_left f.2]
   by_cases hc:A<n
   ·rw [if_pos hc,if_neg (by omega)]
   ·rw [if_neg hc,if_pos (by omega)]
  rw [e];exact lbelow_from a A n w c hA d
 ·rw [if_pos rfl]
  by_cases h0:n=0
  ·subst h0;rw [if_pos b.1];exact lbelow_zero a A w
  ·have e:(if n<=a then none else some (a,min A (n-1)))=meetO a A 0 (n-1):=by
    unfold meetO;rw [Int.max_eq_left b.1]
    by_cases hc:n<=a
    ·rw [if_pos hc,if_neg (by omega)]
    ·rw [if_neg hc,if_pos (by omega)]
   rw [e];exact lbelow_less a A n w c hA d (by simpa using h0)
theorem lrefine_any:KRefine:=by
 intro op a A b B h w l hA k o;obtain ⟨m,f⟩:∃ m,Hid (m=holdL op 0 0):=⟨_,rfl⟩;unfold refineR
 by_cases c1:16<=op/\op<=19
 case neg=>rw [if_neg (fun h=>c1 h.1)];exact lref_no1 op a A b B h w f (by show _=_;rw [isCond_eq,decide_eq_false c1])
 have g:Hid (true=isCond op):=by show _=_;rw [isCond_eq,decide_eq_true c1]
 by_cases c2:a<=A/\b<=B
 case neg =>
  rw [if_neg (fun h=>c2 h.2)];exact lref_no2 op a A b B h w f g (by show _=_;rw [<- Bool.decide_and,decide_eq_false c2])
 have i:Hid (true=(decide (a<=A)&&decide (b<=B))):=by show _=_;rw [<- Bool.decide_and,decide_eq_true c2]
 rw [if_pos ⟨c1,c2⟩]
 by_cases hs:b=B
 case neg =>
  have e:refineL op a A b B h=some (a,A):=by unfold refineL;rw [if_pos hs]
  rw [e];exact lref_wide op a A b B h w f g i (by show _=_;symm;simpa using hs)
 subst hs
 have n:Hid (true=(b==b)):=by show _=_;simp
 have c:op=16∨op=17∨op=18∨op=19:=by omega
 rcases c with rfl|rfl|rfl|rfl
 ·have e:refineL 16 a A b b h=(if h=true then (if a<=b/\b<=A then some (b,b) else none) else if a=b/\A=b then none else if a=b then some (b+1,A) else if A=b then some (a,b-1) else some (a,A)):=by
   unfold refineL;rw [if_neg (by simp)];cases h<;>rfl
  rw [e];obtain ⟨p,q,c,d⟩:=optV_as (if h=true then (if a<=b/\b<=A then some (b,b) else none) else if a=b/\A=b then none else if a=b then some (b+1,A) else if A=b then some (a,b-1) else some (a,A));rw [d.out];exact lref_16 a A b b h w f g i n p q c (fun w=>by rw [<- d.out];exact lequal_any a A b h w l hA k c2.1)
 ·have e:refineL 17 a A b b h=(if (!h)=true then (if a<=b/\b<=A then some (b,b) else none) else if a=b/\A=b then none else if a=b then some (b+1,A) else if A=b then some (a,b-1) else some (a,A)):=by
   unfold refineL;rw [if_neg (by simp)];cases h<;>rfl
  rw [e];obtain ⟨p,q,c,d⟩:=optV_as (if (!h)=true then (if a<=b/\b<=A then some (b,b) else none) else if a=b/\A=b then none else if a=b then some (b+1,A) else if A=b then some (a,b-1) else some (a,A));rw [d.out];exact lref_17 a A b b h w f g i n p q c (fun w=>by rw [<- d.out];exact lequal_any a A b (!h) w l hA k c2.1)
 ·have e:refineL 18 a A b b h=(if h=true then (if b<=a then none else some (a,min A (b-1))) else if A<b then none else some (max a b,A)):=by
   unfold refineL;rw [if_neg (by simp)];cases h<;>rfl
  rw [e];obtain ⟨p,q,c,d⟩:=optV_as (if h=true then (if b<=a then none else some (a,min A (b-1))) else if A<b then none else some (max a b,A));rw [d.out];exact lref_18 a A b b h w f g i n p q c (fun w=>by rw [<- d.out];exact lbelow_any a A b h w l hA k c2.1)
 ·have e:refineL 19 a A b b h=(if (!h)=true then (if b<=a then none else some (a,min A (b-1))) else if A<b then none else some (max a b,A)):=by
   unfold refineL;rw [if_neg (by simp)];cases h<;>rfl
  rw [e];obtain ⟨p,q,c,d⟩:=optV_as (if (!h)=true then (if b<=a then none else some (a,min A (b-1))) else if A<b then none else some (max a b,A));rw [d.out];exact lref_19 a A b b h w f g i n p q c (fun w=>by rw [<- d.out];exact lbelow_any a A b (!h) w l hA k c2.1)
end Go.Proofs.YtmdhljoicnommaaGreat
