/-
  S6LCond
  S6LEqual
  S6LRefA
  S6LRefine
-/
import Derived.Test.YtmdhljoicnommaaGreatME17
import Derived.Deep.RegionWith
namespace Go.Proofs.YtmdhljoicnommaaGreat
set_option maxHeartbeats 12800000
open Go.RowKit
set_option linter.unusedVariables false
set_option maxRecDepth 20000
def qIn (x X y Y:Int):Option (Int×Int):=if max x y<=min X Y then some (max x y,min X Y) else none
theorem yVn (x X y Y:Int):(if qOq [(x,X),(y,Y)]=true then some (qSu [(x,X),(y,Y)]) else none)=qIn x X y Y:=by
 have a:=qVx (ss:=[(x,X),(y,Y)]) (by simp);have b:loM [(x,X),(y,Y)]=max x y:=rfl;have c:hiM [(x,X),(y,Y)]=min X Y:=rfl;rw [b,c] at a;unfold qIn
 by_cases h:max x y<=min X Y
 ·rw [decide_eq_true h] at a;rw [if_pos a,if_pos h];unfold qSu;rw [if_pos a,b,c]
 ·rw [decide_eq_false h] at a;rw [if_neg (by rw [a];simp),if_neg h]
theorem qLv (o:Option (Int×Int)):∃ x y c,Hid (qBh o=.tuple #[.agg #[U8 x,U8 y],.bool c]):=by
 cases o with
 | none=>exact ⟨0,0,false,rfl⟩
 | some p=>exact ⟨p.1,p.2,true,rfl⟩
theorem qUg {x X y Y p q:Int}{c:Bool}(h:Hid (qBh (qIn x X y Y)=.tuple #[.agg #[U8 p,U8 q],.bool c]))(v:Value)(w:World)(a:SeesS w v [(x,X),(y,Y)])(g:W64 x)(i:W64 X)(d:W64 y)(k:W64 Y) :
  Cl 164 #[v] w fun e f=>e=.returned (.tuple #[.agg #[U8 p,U8 q],.bool c])/\Bw w f:=by
 have b:=yNh v [(x,X),(y,Y)] w a (by
  intro s a
  simp at a
  rcases a with rfl|rfl
  ·exact ⟨g,i⟩
  ·exact ⟨d,k⟩)
 rw [yVn,h.out] at b;exact b
theorem yGi {w b:World}{c d:Obj}(a:Below (((w.alloc c).alloc (spO 0 0)).alloc d).heap.size (((w.alloc c).alloc (spO 0 0)).alloc d) b):Bx b (w.heap.size+1) 0 0/\Bw w b/\w.heap.size+1<b.heap.size :=
 ⟨Bx.below ⟨⟨by go_cell,by go_cell⟩,by go_simp,by go_simp⟩ a (by simp),qCf (qCf (qCf a)),Nat.lt_of_lt_of_le (by simp) a.size⟩
theorem yEb (a A n:Int)(w:World)(k:W64 a)(hA:W64 A)(l:W64 n) :
  Cl 155 #[.agg #[U8 a,U8 A],U8 n,.bool false] w fun e i=>e=.returned (qBh (qIn a A n 18446744073709551615))/\Bw w i:=by
 obtain ⟨p,q,c,d⟩:=qLv (qIn a A n 18446744073709551615);rw [d.out];go_enter Tryz.func155,Tryz.ntmps155
 go_wp2_with (go_at_call 164;go_must (refine (qUg d _ _ (qBu _ _ a A n 18446744073709551615 _ (by simp)) k hA l ⟨by decide,by decide⟩).mono ?_);rintro e z ⟨rfl,b⟩;go_must (obtain ⟨⟨⟨r0,o⟩,r,u⟩,g,s⟩:=yGi b;have f:Hid _:=qAp (x:=U8 p) (y:=U8 q) r0 o;clear b))
 refine bodyPost_ret (v:=.tuple #[.agg #[U8 p,U8 q],.bool c]) ?_ rfl ⟨rfl,qAb (qAb g (by omega)) (by omega)⟩;rw [results_cell_tmp rfl]
 simp [asAddr,Result.andThen]
 rw [qAe f.out.1 f.out.2]
theorem yEp (a A:Int)(w:World) :
  Cl 155 #[.agg #[U8 a,U8 A],U8 0,.bool true] w fun e b=>e=.returned (qBh none)/\Bw w b:=by
 go_enter Tryz.func155,Tryz.ntmps155;go_wp2;refine bodyPost_ret (v:=qBh none) ?_ rfl ⟨rfl,by go_grown⟩;rw [results_cell_tmp rfl]
 simp [asAddr,Result.andThen]
 rw [qAe (a:=0) (A:=0)]
 ·rfl
 all_goals go_cell
theorem yFp (a A n:Int)(w:World)(o:W64 a)(hA:W64 A)(r:W64 n)(g:(n==0)=false) :
  Cl 155 #[.agg #[U8 a,U8 A],U8 n,.bool true] w fun e l=>e=.returned (qBh (qIn a A 0 (n-1)))/\Bw w l:=by
 obtain ⟨p,q,c,d⟩:=qLv (qIn a A 0 (n-1));rw [d.out]
 have u:n≠0:=by simpa using g
 have z:0<=n/\n<=18446744073709551615:=r;have D:IntKind.u64.wrap (n-1)=n-1:=qGl (by omega) (by omega);have k:Hid (W64 (n-1)):=⟨by omega,by omega⟩;go_enter Tryz.func155,Tryz.ntmps155
 go_wp2_with (go_at_call 164;go_must (refine (qUg d _ _ (qBu _ _ a A 0 (n-1) _ (by simp)) o hA ⟨by decide,by decide⟩ k.out).mono ?_);rintro e G ⟨rfl,b⟩;go_must (obtain ⟨⟨⟨r0,s⟩,B,F⟩,i,E⟩:=yGi b;have f:Hid _:=qAp (x:=U8 p) (y:=U8 q) r0 s;clear b))
 refine bodyPost_ret (v:=.tuple #[.agg #[U8 p,U8 q],.bool c]) ?_ rfl ⟨rfl,qAb (qAb i (by omega)) (by omega)⟩;rw [results_cell_tmp rfl]
 simp [asAddr,Result.andThen]
 rw [qAe f.out.1 f.out.2]
theorem qNm {B:Nat}{w Z:World}(h:Below B w.drew Z):Below B w Z:=⟨h.os,h.tape,h.output,h.size,h.block⟩
theorem yCv {w c:World}{a A:Int}(b:Below ((w.alloc (spO a A)).alloc (spO 0 0)).heap.size ((w.alloc (spO a A)).alloc (spO 0 0)) c):(Bx c w.heap.size a A/\Bx c (w.heap.size+1) 0 0)/\Bw w c/\w.heap.size+1<c.heap.size :=
 ⟨⟨Bx.below ⟨⟨by go_cell,by go_cell⟩,by go_simp,by go_simp⟩ b (by simp;omega),Bx.below ⟨⟨by go_cell,by go_cell⟩,by go_simp,by go_simp⟩ b (by simp)⟩,qCf (qCf b),Nat.lt_of_lt_of_le (by simp) b.size⟩
theorem yHw (a A n:Int)(w:World)(D:W64 a)(hA:W64 A)(r:W64 n) :
  Cl 154 #[.agg #[U8 a,U8 A],U8 n,.bool true] w fun e u=>e=.returned (qBh (qIn a A n n))/\Bw w u:=by
 obtain ⟨p,q,c,i⟩:=qLv (qIn a A n n);rw [i.out];go_enter Tryz.func154,Tryz.ntmps154
 go_wp2_with (go_at_call 134;fail)
 go_region_with (first
  | (go_at_call 134;go_must (refine (qGz n _).mono ?_);rintro e k ⟨rfl,g⟩;go_must (have F:=yCv (qNm g);clear g;obtain ⟨⟨⟨⟨J,I⟩,_,_⟩,l⟩,o,E⟩:=F;have s:Hid (Bx k (w.heap.size+1) 0 0):=l;have G:w.heap.size<k.heap.size:=(by omega);clear l))
  | (go_at_call 164;go_must (refine (qUg i _ _ (qBu _ _ a A n n _ (by simp)) D hA r r).mono ?_);rintro e B ⟨rfl,d⟩;go_must (obtain ⟨⟨r0,z⟩,K,L⟩:=(s.out.al E).below d (by simp;omega);have f:Hid _:=qAp (x:=U8 p) (y:=U8 q) r0 z;have b:Bw w B:=o.trans ((qCf d).mono (by omega));clear d)))
 all_goals go_wp2
 all_goals refine bodyPost_ret (v:=.tuple #[.agg #[U8 p,U8 q],.bool c]) ?_ rfl ⟨rfl,by first|exact qAb (qAb b (by omega)) (by omega)|exact qHd (qAb (qAb b (by omega)) (by omega))⟩
 all_goals rw [results_cell_tmp rfl]
 all_goals simp [asAddr,Result.andThen,Act.put]
 all_goals first|rw [qAe f.out.1 f.out.2]|rw [qGq f.out.1 f.out.2]
theorem yEg (n:Int)(w:World) :
  Cl 154 #[.agg #[U8 n,U8 n],U8 n,.bool false] w fun e d=>e=.returned (qBh none)/\Bw w d:=by
 go_enter Tryz.func154,Tryz.ntmps154
 go_wp2_with (go_at_call 134;fail)
 go_region_with (first
  | (go_at_call 134;go_must (refine (qGz n _).mono ?_);rintro e i ⟨rfl,c⟩;go_must (have f:=yCv (qNm c);clear c;obtain ⟨⟨⟨⟨l,r⟩,_,_⟩,⟨⟨r0,g⟩,o,u⟩⟩,b,s⟩:=f;have a:Hid _:=qAp (x:=U8 0) (y:=U8 0) r0 g;have k:w.heap.size<i.heap.size:=(by omega))))
 all_goals go_wp2
 all_goals refine bodyPost_ret (v:=qBh none) ?_ rfl ⟨rfl,by first|exact qAb (qAb b (by omega)) (by omega)|exact qHd (qAb (qAb b (by omega)) (by omega))⟩
 all_goals rw [results_cell_tmp rfl]
 all_goals simp [asAddr,Result.andThen]
 all_goals first|rw [qAe a.out.1 a.out.2]|rw [qGq a.out.1 a.out.2]
 all_goals rfl
theorem yMh (A n:Int)(w:World)(hA:(A==n)=false)(z:IntKind.u64.wrap (n+1)=n+1) :
  Cl 154 #[.agg #[U8 n,U8 A],U8 n,.bool false] w fun e l=>e=.returned (qBh (some (n+1,A)))/\Bw w l:=by
 go_enter Tryz.func154,Tryz.ntmps154
 go_wp2_with (go_at_call 134;fail)
 go_region_with (first
  | (go_at_call 134;go_must (refine (qGz n _).mono ?_);rintro e b ⟨rfl,a⟩;go_must (have r:=yCv (qNm a);clear a;obtain ⟨⟨⟨⟨B,g⟩,g0,E⟩,c⟩,f,F⟩:=r;have u:w.heap.size<b.heap.size:=(by omega);obtain ⟨⟨r0,o⟩,D,G⟩:=Bx.far (m:=w.heap.size) (i:=0) (v:=U8 (n+1)) c (by omega);clear c;have s:(b.setCell ⟨w.heap.size,0,none⟩ (U8 (n+1))).cell? ⟨w.heap.size,1,none⟩=some (U8 A):=(World.cell?_setCell_other _ _ _ _ (fun e=>by injection e with I k;simp at k)).trans g;have d:Hid _:=qAp (x:=U8 (n+1)) (y:=U8 A) r0 o)))
 all_goals go_wp2
 all_goals refine bodyPost_ret (v:=qBh (some (n+1,A))) ?_ rfl ⟨rfl,qAb (qAb (qAb f (by omega)) (by omega)) (by omega)⟩
 all_goals rw [results_cell_tmp rfl]
 all_goals simp [asAddr,Result.andThen]
 all_goals rw [qAe d.out.1 d.out.2]
 all_goals rfl
theorem yPx (a n:Int)(w:World)(E:(a==n)=false)(B:IntKind.u64.wrap (n-1)=n-1) :
  Cl 154 #[.agg #[U8 a,U8 n],U8 n,.bool false] w fun e o=>e=.returned (qBh (some (a,n-1)))/\Bw w o:=by
 go_enter Tryz.func154,Tryz.ntmps154
 go_wp2_with (go_at_call 134;fail)
 go_region_with (first
  | (go_at_call 134;go_must (refine (qGz n _).mono ?_);rintro e c ⟨rfl,b⟩;go_must (have s:=yCv (qNm b);clear b;obtain ⟨⟨⟨⟨l,A⟩,g0,G⟩,d⟩,g,F⟩:=s;have z:w.heap.size<c.heap.size:=(by omega);obtain ⟨⟨r0,r⟩,D,I⟩:=Bx.far (m:=w.heap.size) (i:=1) (v:=U8 (n-1)) d (by omega);clear d;have u:(c.setCell ⟨w.heap.size,1,none⟩ (U8 (n-1))).cell? ⟨w.heap.size,0,none⟩=some (U8 a):=(World.cell?_setCell_other _ _ _ _ (fun e=>by injection e with J k;simp at k)).trans l;have f:Hid _:=qAp (x:=U8 a) (y:=U8 (n-1)) r0 r)))
 all_goals go_wp2
 all_goals refine bodyPost_ret (v:=qBh (some (a,n-1))) ?_ rfl ⟨rfl,qAb (qAb (qAb g (by omega)) (by omega)) (by omega)⟩
 all_goals rw [results_cell_tmp rfl]
 all_goals simp [asAddr,Result.andThen]
 all_goals rw [qAe f.out.1 f.out.2]
 all_goals rfl
theorem yLm (a A n:Int)(w:World)(D:(a==n)=false)(hA:(A==n)=false) :
  Cl 154 #[.agg #[U8 a,U8 A],U8 n,.bool false] w fun e g=>e=.returned (qBh (some (a,A)))/\Bw w g:=by
 go_enter Tryz.func154,Tryz.ntmps154
 go_wp2_with (go_at_call 134;fail)
 go_region_with (first
  | (go_at_call 134;go_must (refine (qGz n _).mono ?_);rintro e l ⟨rfl,b⟩;go_must (have i:=yCv (qNm b);clear b;obtain ⟨⟨⟨⟨r,u⟩,g0,B⟩,k⟩,d,z⟩:=i;have o:w.heap.size<l.heap.size:=(by omega);obtain ⟨⟨r0,f⟩,s,E⟩:=k;have c:Hid _:=qAp (x:=U8 a) (y:=U8 A) r0 f)))
 all_goals go_wp2
 all_goals refine bodyPost_ret (v:=qBh (some (a,A))) ?_ rfl ⟨rfl,qAb (qAb d (by omega)) (by omega)⟩
 all_goals rw [results_cell_tmp rfl]
 all_goals simp [asAddr,Result.andThen]
 all_goals rw [qAe c.out.1 c.out.2]
 all_goals rfl
theorem yUj (op:Int)(a A b B:Int)(h:Bool)(w:World){m:Bool}(d:Hid (m=qCo op 0 0))(f:Hid (false=qFj op)) :
  Cl 141 #[I4 op,.agg #[U8 a,U8 A],.agg #[U8 b,U8 B],.bool h] w fun e c=>e=.returned (.tuple #[.agg #[U8 0,U8 0],.bool false])/\Bw w c:=by
 go_enter Tryz.func141,Tryz.ntmps141
 go_wp2_with (first
  | (go_at_call 61;go_must (refine (qIr d f _ (by omega) (by omega)).mono ?_);rintro e c ⟨rfl,rfl⟩))
 refine bodyPost_ret (v:=.tuple #[.agg #[U8 0,U8 0],.bool false]) ?_ rfl ⟨rfl,by go_grown⟩;rw [results_cell_tmp rfl]
 simp [asAddr,Result.andThen]
 rw [qAe (a:=0) (A:=0)]
 all_goals go_cell
theorem yWe (op:Int)(a A b B:Int)(h:Bool)(w:World){m:Bool}(k:Hid (m=qCo op 0 0))(l:Hid (true=qFj op))(o:Hid (false=(decide (a<=A)&&decide (b<=B)))) :
  Cl 141 #[I4 op,.agg #[U8 a,U8 A],.agg #[U8 b,U8 B],.bool h] w fun e g=>e=.returned (.tuple #[.agg #[U8 0,U8 0],.bool false])/\Bw w g:=by
 go_enter Tryz.func141,Tryz.ntmps141
 go_wp2_with (first
  | (go_at_call 61;go_must (refine (qIr k l _ (by omega) (by omega)).mono ?_);rintro e g ⟨rfl,rfl⟩)
  | (go_at_call 150;go_must (refine (qDk o _ _ (qBu _ _ a A b B _ (by simp))).mono ?_);rintro e d ⟨rfl,c⟩;go_must (have n:Hid (B3 d w.heap.size a A b B):=(qFp w a A b B).next c;obtain ⟨⟨⟨z,E⟩,_,_⟩,⟨⟨d0,F⟩,_,_⟩,⟨⟨r0,r⟩,D,I⟩,G⟩:=n.out;have u:w.heap.size+1<d.heap.size:=(by omega);have s:w.heap.size<d.heap.size:=(by omega);have i:Bw w d:=qHg c;clear c;have f:Hid _:=qAp (x:=U8 0) (y:=U8 0) r0 r)))
 refine bodyPost_ret (v:=.tuple #[.agg #[U8 0,U8 0],.bool false]) ?_ rfl ⟨rfl,qAb (qAb i (by omega)) (by omega)⟩;rw [results_cell_tmp rfl]
 simp [asAddr,Result.andThen]
 rw [qAe f.out.1 f.out.2]
theorem yNp (op:Int)(a A b B:Int)(h:Bool)(w:World){m:Bool}(N:Hid (m=qCo op 0 0))(M:Hid (true=qFj op))(L:Hid (true=(decide (a<=A)&&decide (b<=B))))(J:Hid (false=(b==B))) :
  Cl 141 #[I4 op,.agg #[U8 a,U8 A],.agg #[U8 b,U8 B],.bool h] w fun e z=>e=.returned (.tuple #[.agg #[U8 a,U8 A],.bool true])/\Bw w z:=by
 go_enter Tryz.func141,Tryz.ntmps141
 go_wp2_with (first
  | (go_at_call 61;go_must (refine (qIr N M _ (by omega) (by omega)).mono ?_);rintro e z ⟨rfl,rfl⟩)
  | (go_at_call 150;go_must (refine (qDk L _ _ (qBu _ _ a A b B _ (by simp))).mono ?_);rintro e f ⟨rfl,c⟩;go_must (have n:Hid (B3 f w.heap.size a A b B):=(qFp w a A b B).next c;obtain ⟨⟨⟨u,s⟩,_,_⟩,⟨⟨d0,E⟩,_,_⟩,⟨⟨r0,o⟩,D,G⟩,F⟩:=n.out;have k:w.heap.size+1<f.heap.size:=(by omega);have i:w.heap.size<f.heap.size:=(by omega);have l:Bw w f:=qHg c;clear c))
  | (go_at_call 153;go_must (refine (qJm J _ _ (qJf _ _ b B _ (by simp))).mono ?_);rintro e g ⟨rfl,d⟩;go_must (have K:Hid (B3 g w.heap.size a A b B):=n.out.next d;have r:Bw w g:=qHw l (by omega) d;clear d l n u s d0 E r0 o D G F i k;obtain ⟨⟨⟨u,s⟩,_,_⟩,⟨⟨d0,E⟩,_,_⟩,⟨⟨r0,o⟩,D,G⟩,F⟩:=K.out;have k:w.heap.size+1<g.heap.size:=(by omega);have i:w.heap.size<g.heap.size:=(by omega);have I:Hid _:=qAp (x:=U8 a) (y:=U8 A) r0 o)))
 refine bodyPost_ret (v:=.tuple #[.agg #[U8 a,U8 A],.bool true]) ?_ rfl ⟨rfl,qAb (qAb r (by omega)) (by omega)⟩;rw [results_cell_tmp rfl]
 simp [asAddr,Result.andThen]
 rw [qAe I.out.1 I.out.2]
theorem xAn (a A b B:Int)(h:Bool)(w:World){m:Bool}(S:Hid (m=qCo 16 0 0))(R:Hid (true=qFj 16))(Q:Hid (true=(decide (a<=A)&&decide (b<=B))))(P:Hid (true=(b==B)))(p q:Int)(c:Bool)(T:Hid (∀ w,Cl 154 #[.agg #[U8 a,U8 A],U8 b,.bool h] w fun e z=>e=.returned (.tuple #[.agg #[U8 p,U8 q],.bool c])/\Bw w z)) :
  Cl 141 #[I4 16,.agg #[U8 a,U8 A],.agg #[U8 b,U8 B],.bool h] w fun e z=>e=.returned (.tuple #[.agg #[U8 p,U8 q],.bool c])/\Bw w z:=by
 go_enter Tryz.func141,Tryz.ntmps141
 go_wp2_with (first
  | (go_at_call 61;go_must (refine (qIr S R _ (by omega) (by omega)).mono ?_);rintro e z ⟨rfl,rfl⟩)
  | (go_at_call 150;go_must (refine (qDk Q _ _ (qBu _ _ a A b B _ (by simp))).mono ?_);rintro e s ⟨rfl,g⟩;go_must (have L:Hid (B3 s w.heap.size a A b B):=(qFp w a A b B).next g;obtain ⟨⟨⟨u,r⟩,_,_⟩,⟨⟨d0,F⟩,_,_⟩,⟨⟨r0,i⟩,D,I⟩,G⟩:=L.out;have f:w.heap.size+1<s.heap.size:=(by omega);have d:w.heap.size<s.heap.size:=(by omega);have J:Bw w s:=qHg g;clear g))
  | (go_at_call 153;go_must (refine (qJm P _ _ (qJf _ _ b B _ (by simp))).mono ?_);rintro e E ⟨rfl,n⟩;go_must (have K:Hid (B3 E w.heap.size a A b B):=L.out.next n;have l:Bw w E:=qHw J (by omega) n;clear n J L u r d0 F r0 i D I G d f;obtain ⟨⟨⟨u,r⟩,_,_⟩,⟨⟨d0,F⟩,_,_⟩,⟨⟨r0,i⟩,D,I⟩,G⟩:=K.out;have f:w.heap.size+1<E.heap.size:=(by omega);have d:w.heap.size<E.heap.size:=(by omega)))
  | (go_at_call 154;go_must (refine (T.out _).mono ?_);rintro e o ⟨rfl,k⟩;go_must (have O:Hid (B3 o w.heap.size a A b B):=K.out.below k;have M:Bw w o:=l.trans (k.mono (by omega));clear k l K u r d0 F r0 i D I G d f;obtain ⟨⟨⟨u,r⟩,_,_⟩,⟨⟨d0,F⟩,_,_⟩,⟨⟨r0,i⟩,D,I⟩,G⟩:=O.out;have f:w.heap.size+1<o.heap.size:=(by omega);have d:w.heap.size<o.heap.size:=(by omega);have N:Hid _:=qAp (x:=U8 p) (y:=U8 q) r0 i)))
 refine bodyPost_ret (v:=.tuple #[.agg #[U8 p,U8 q],.bool c]) ?_ rfl ⟨rfl,qAb (qAb M (by omega)) (by omega)⟩;rw [results_cell_tmp rfl]
 simp [asAddr,Result.andThen]
 rw [qAe N.out.1 N.out.2]
theorem xAl (a A b B:Int)(h:Bool)(w:World){m:Bool}(S:Hid (m=qCo 17 0 0))(R:Hid (true=qFj 17))(Q:Hid (true=(decide (a<=A)&&decide (b<=B))))(P:Hid (true=(b==B)))(p q:Int)(c:Bool)(T:Hid (∀ w,Cl 154 #[.agg #[U8 a,U8 A],U8 b,.bool (!h)] w fun e z=>e=.returned (.tuple #[.agg #[U8 p,U8 q],.bool c])/\Bw w z)) :
  Cl 141 #[I4 17,.agg #[U8 a,U8 A],.agg #[U8 b,U8 B],.bool h] w fun e z=>e=.returned (.tuple #[.agg #[U8 p,U8 q],.bool c])/\Bw w z:=by
 go_enter Tryz.func141,Tryz.ntmps141
 go_wp2_with (first
  | (go_at_call 61;go_must (refine (qIr S R _ (by omega) (by omega)).mono ?_);rintro e z ⟨rfl,rfl⟩)
  | (go_at_call 150;go_must (refine (qDk Q _ _ (qBu _ _ a A b B _ (by simp))).mono ?_);rintro e s ⟨rfl,g⟩;go_must (have L:Hid (B3 s w.heap.size a A b B):=(qFp w a A b B).next g;obtain ⟨⟨⟨u,r⟩,_,_⟩,⟨⟨d0,F⟩,_,_⟩,⟨⟨r0,i⟩,D,I⟩,G⟩:=L.out;have f:w.heap.size+1<s.heap.size:=(by omega);have d:w.heap.size<s.heap.size:=(by omega);have J:Bw w s:=qHg g;clear g))
  | (go_at_call 153;go_must (refine (qJm P _ _ (qJf _ _ b B _ (by simp))).mono ?_);rintro e E ⟨rfl,n⟩;go_must (have K:Hid (B3 E w.heap.size a A b B):=L.out.next n;have l:Bw w E:=qHw J (by omega) n;clear n J L u r d0 F r0 i D I G d f;obtain ⟨⟨⟨u,r⟩,_,_⟩,⟨⟨d0,F⟩,_,_⟩,⟨⟨r0,i⟩,D,I⟩,G⟩:=K.out;have f:w.heap.size+1<E.heap.size:=(by omega);have d:w.heap.size<E.heap.size:=(by omega)))
  | (go_at_call 154;go_must (refine (T.out _).mono ?_);rintro e o ⟨rfl,k⟩;go_must (have O:Hid (B3 o w.heap.size a A b B):=K.out.below k;have M:Bw w o:=l.trans (k.mono (by omega));clear k l K u r d0 F r0 i D I G d f;obtain ⟨⟨⟨u,r⟩,_,_⟩,⟨⟨d0,F⟩,_,_⟩,⟨⟨r0,i⟩,D,I⟩,G⟩:=O.out;have f:w.heap.size+1<o.heap.size:=(by omega);have d:w.heap.size<o.heap.size:=(by omega);have N:Hid _:=qAp (x:=U8 p) (y:=U8 q) r0 i)))
 refine bodyPost_ret (v:=.tuple #[.agg #[U8 p,U8 q],.bool c]) ?_ rfl ⟨rfl,qAb (qAb M (by omega)) (by omega)⟩;rw [results_cell_tmp rfl]
 simp [asAddr,Result.andThen]
 rw [qAe N.out.1 N.out.2]
theorem yYh (a A b B:Int)(h:Bool)(w:World){m:Bool}(S:Hid (m=qCo 18 0 0))(R:Hid (true=qFj 18))(Q:Hid (true=(decide (a<=A)&&decide (b<=B))))(P:Hid (true=(b==B)))(p q:Int)(c:Bool)(T:Hid (∀ w,Cl 155 #[.agg #[U8 a,U8 A],U8 b,.bool h] w fun e z=>e=.returned (.tuple #[.agg #[U8 p,U8 q],.bool c])/\Bw w z)) :
  Cl 141 #[I4 18,.agg #[U8 a,U8 A],.agg #[U8 b,U8 B],.bool h] w fun e z=>e=.returned (.tuple #[.agg #[U8 p,U8 q],.bool c])/\Bw w z:=by
 go_enter Tryz.func141,Tryz.ntmps141
 go_wp2_with (first
  | (go_at_call 61;go_must (refine (qIr S R _ (by omega) (by omega)).mono ?_);rintro e z ⟨rfl,rfl⟩)
  | (go_at_call 150;go_must (refine (qDk Q _ _ (qBu _ _ a A b B _ (by simp))).mono ?_);rintro e s ⟨rfl,g⟩;go_must (have L:Hid (B3 s w.heap.size a A b B):=(qFp w a A b B).next g;obtain ⟨⟨⟨u,r⟩,_,_⟩,⟨⟨d0,F⟩,_,_⟩,⟨⟨r0,i⟩,D,I⟩,G⟩:=L.out;have f:w.heap.size+1<s.heap.size:=(by omega);have d:w.heap.size<s.heap.size:=(by omega);have J:Bw w s:=qHg g;clear g))
  | (go_at_call 153;go_must (refine (qJm P _ _ (qJf _ _ b B _ (by simp))).mono ?_);rintro e E ⟨rfl,n⟩;go_must (have K:Hid (B3 E w.heap.size a A b B):=L.out.next n;have l:Bw w E:=qHw J (by omega) n;clear n J L u r d0 F r0 i D I G d f;obtain ⟨⟨⟨u,r⟩,_,_⟩,⟨⟨d0,F⟩,_,_⟩,⟨⟨r0,i⟩,D,I⟩,G⟩:=K.out;have f:w.heap.size+1<E.heap.size:=(by omega);have d:w.heap.size<E.heap.size:=(by omega)))
  | (go_at_call 155;go_must (refine (T.out _).mono ?_);rintro e o ⟨rfl,k⟩;go_must (have O:Hid (B3 o w.heap.size a A b B):=K.out.below k;have M:Bw w o:=l.trans (k.mono (by omega));clear k l K u r d0 F r0 i D I G d f;obtain ⟨⟨⟨u,r⟩,_,_⟩,⟨⟨d0,F⟩,_,_⟩,⟨⟨r0,i⟩,D,I⟩,G⟩:=O.out;have f:w.heap.size+1<o.heap.size:=(by omega);have d:w.heap.size<o.heap.size:=(by omega);have N:Hid _:=qAp (x:=U8 p) (y:=U8 q) r0 i)))
 refine bodyPost_ret (v:=.tuple #[.agg #[U8 p,U8 q],.bool c]) ?_ rfl ⟨rfl,qAb (qAb M (by omega)) (by omega)⟩;rw [results_cell_tmp rfl]
 simp [asAddr,Result.andThen]
 rw [qAe N.out.1 N.out.2]
theorem xAs (a A b B:Int)(h:Bool)(w:World){m:Bool}(S:Hid (m=qCo 19 0 0))(R:Hid (true=qFj 19))(Q:Hid (true=(decide (a<=A)&&decide (b<=B))))(P:Hid (true=(b==B)))(p q:Int)(c:Bool)(T:Hid (∀ w,Cl 155 #[.agg #[U8 a,U8 A],U8 b,.bool (!h)] w fun e z=>e=.returned (.tuple #[.agg #[U8 p,U8 q],.bool c])/\Bw w z)) :
  Cl 141 #[I4 19,.agg #[U8 a,U8 A],.agg #[U8 b,U8 B],.bool h] w fun e z=>e=.returned (.tuple #[.agg #[U8 p,U8 q],.bool c])/\Bw w z:=by
 go_enter Tryz.func141,Tryz.ntmps141
 go_wp2_with (first
  | (go_at_call 61;go_must (refine (qIr S R _ (by omega) (by omega)).mono ?_);rintro e z ⟨rfl,rfl⟩)
  | (go_at_call 150;go_must (refine (qDk Q _ _ (qBu _ _ a A b B _ (by simp))).mono ?_);rintro e s ⟨rfl,g⟩;go_must (have L:Hid (B3 s w.heap.size a A b B):=(qFp w a A b B).next g;obtain ⟨⟨⟨u,r⟩,_,_⟩,⟨⟨d0,F⟩,_,_⟩,⟨⟨r0,i⟩,D,I⟩,G⟩:=L.out;have f:w.heap.size+1<s.heap.size:=(by omega);have d:w.heap.size<s.heap.size:=(by omega);have J:Bw w s:=qHg g;clear g))
  | (go_at_call 153;go_must (refine (qJm P _ _ (qJf _ _ b B _ (by simp))).mono ?_);rintro e E ⟨rfl,n⟩;go_must (have K:Hid (B3 E w.heap.size a A b B):=L.out.next n;have l:Bw w E:=qHw J (by omega) n;clear n J L u r d0 F r0 i D I G d f;obtain ⟨⟨⟨u,r⟩,_,_⟩,⟨⟨d0,F⟩,_,_⟩,⟨⟨r0,i⟩,D,I⟩,G⟩:=K.out;have f:w.heap.size+1<E.heap.size:=(by omega);have d:w.heap.size<E.heap.size:=(by omega)))
  | (go_at_call 155;go_must (refine (T.out _).mono ?_);rintro e o ⟨rfl,k⟩;go_must (have O:Hid (B3 o w.heap.size a A b B):=K.out.below k;have M:Bw w o:=l.trans (k.mono (by omega));clear k l K u r d0 F r0 i D I G d f;obtain ⟨⟨⟨u,r⟩,_,_⟩,⟨⟨d0,F⟩,_,_⟩,⟨⟨r0,i⟩,D,I⟩,G⟩:=O.out;have f:w.heap.size+1<o.heap.size:=(by omega);have d:w.heap.size<o.heap.size:=(by omega);have N:Hid _:=qAp (x:=U8 p) (y:=U8 q) r0 i)))
 refine bodyPost_ret (v:=.tuple #[.agg #[U8 p,U8 q],.bool c]) ?_ rfl ⟨rfl,qAb (qAb M (by omega)) (by omega)⟩;rw [results_cell_tmp rfl]
 simp [asAddr,Result.andThen]
 rw [qAe N.out.1 N.out.2]
theorem qYu (op:Int):qFj op=decide (16<=op/\op<=19):=rfl
theorem qUy (a A n:Int)(h:Bool)(w:World)(b:W64 a)(hA:W64 A)(c:W64 n)(g:a<=A) :
  Cl 154 #[.agg #[U8 a,U8 A],U8 n,.bool h] w fun e d=>e=.returned (qBh (if h=true then (if a<=n/\n<=A then some (n,n) else none) else if a=n/\A=n then none else if a=n then some (n+1,A) else if A=n then some (a,n-1) else some (a,A)))/\Bw w d:=by
 have k:0<=n/\n<=18446744073709551615:=c;have i:0<=a/\a<=18446744073709551615:=b;have f:0<=A/\A<=18446744073709551615:=hA
 cases h
 ·rw [if_neg (by simp)]
  by_cases h1:a=n/\A=n
  ·rw [if_pos h1];obtain ⟨rfl,rfl⟩:=h1;exact yEg _ w
  rw [if_neg h1]
  by_cases h2:a=n
  ·rw [if_pos h2];subst h2;exact yMh A a w (by simp;omega) (qGl (by omega) (by omega))
  rw [if_neg h2]
  by_cases h3:A=n
  ·rw [if_pos h3];subst h3;exact yPx a A w (by simpa using h2) (qGl (by omega) (by omega))
  ·rw [if_neg h3];exact yLm a A n w (by simpa using h2) (by simpa using h3)
 ·rw [if_pos rfl]
  have e:(if a<=n/\n<=A then some (n,n) else none)=qIn a A n n:=by
   unfold qIn
   by_cases hc:a<=n/\n<=A
   ·rw [if_pos hc,if_pos (by omega),Int.max_eq_right hc.1,Int.min_eq_right hc.2]
   ·rw [if_neg hc,if_neg (by omega)]
  rw [e];exact yHw a A n w b hA c
theorem qVs (a A n:Int)(h:Bool)(w:World)(c:W64 a)(hA:W64 A)(d:W64 n)(i:a<=A) :
  Cl 155 #[.agg #[U8 a,U8 A],U8 n,.bool h] w fun e g=>e=.returned (qBh (if h=true then (if n<=a then none else some (a,min A (n-1))) else if A<n then none else some (max a n,A)))/\Bw w g:=by
 have k:0<=n/\n<=18446744073709551615:=d;have b:0<=a/\a<=18446744073709551615:=c;have f:0<=A/\A<=18446744073709551615:=hA
 cases h
 ·rw [if_neg (by simp)]
  have e:(if A<n then none else some (max a n,A))=qIn a A n 18446744073709551615:=by
   unfold qIn;rw [Int.min_eq_left f.2]
   by_cases hc:A<n
   ·rw [if_pos hc,if_neg (by omega)]
   ·rw [if_neg hc,if_pos (by omega)]
  rw [e];exact yEb a A n w c hA d
 ·rw [if_pos rfl]
  by_cases h0:n=0
  ·subst h0;rw [if_pos b.1];exact yEp a A w
  ·have e:(if n<=a then none else some (a,min A (n-1)))=qIn a A 0 (n-1):=by
    unfold qIn;rw [Int.max_eq_left b.1]
    by_cases hc:n<=a
    ·rw [if_pos hc,if_neg (by omega)]
    ·rw [if_neg hc,if_pos (by omega)]
   rw [e];exact yFp a A n w c hA d (by simpa using h0)
theorem yFo:yZi:=by
 intro op a A b B h w n hA k o;obtain ⟨m,f⟩:∃ m,Hid (m=qCo op 0 0):=⟨_,rfl⟩;unfold qDb
 by_cases c1:16<=op/\op<=19
 case neg=>rw [if_neg (fun h=>c1 h.1)];exact yUj op a A b B h w f (by show _=_;rw [qYu,decide_eq_false c1])
 have g:Hid (true=qFj op):=by show _=_;rw [qYu,decide_eq_true c1]
 by_cases c2:a<=A/\b<=B
 case neg =>
  rw [if_neg (fun h=>c2 h.2)];exact yWe op a A b B h w f g (by show _=_;rw [<- Bool.decide_and,decide_eq_false c2])
 have i:Hid (true=(decide (a<=A)&&decide (b<=B))):=by show _=_;rw [<- Bool.decide_and,decide_eq_true c2]
 rw [if_pos ⟨c1,c2⟩]
 by_cases hs:b=B
 case neg =>
  have e:qEo op a A b B h=some (a,A):=by unfold qEo;rw [if_pos hs]
  rw [e];exact yNp op a A b B h w f g i (by show _=_;symm;simpa using hs)
 subst hs
 have l:Hid (true=(b==b)):=by show _=_;simp
 have c:op=16∨op=17∨op=18∨op=19:=by omega
 rcases c with rfl|rfl|rfl|rfl
 ·have e:qEo 16 a A b b h=(if h=true then (if a<=b/\b<=A then some (b,b) else none) else if a=b/\A=b then none else if a=b then some (b+1,A) else if A=b then some (a,b-1) else some (a,A)):=by
   unfold qEo;rw [if_neg (by simp)];cases h<;>rfl
  rw [e];obtain ⟨p,q,c,d⟩:=qLv (if h=true then (if a<=b/\b<=A then some (b,b) else none) else if a=b/\A=b then none else if a=b then some (b+1,A) else if A=b then some (a,b-1) else some (a,A));rw [d.out];exact xAn a A b b h w f g i l p q c (fun w=>by rw [<- d.out];exact qUy a A b h w n hA k c2.1)
 ·have e:qEo 17 a A b b h=(if (!h)=true then (if a<=b/\b<=A then some (b,b) else none) else if a=b/\A=b then none else if a=b then some (b+1,A) else if A=b then some (a,b-1) else some (a,A)):=by
   unfold qEo;rw [if_neg (by simp)];cases h<;>rfl
  rw [e];obtain ⟨p,q,c,d⟩:=qLv (if (!h)=true then (if a<=b/\b<=A then some (b,b) else none) else if a=b/\A=b then none else if a=b then some (b+1,A) else if A=b then some (a,b-1) else some (a,A));rw [d.out];exact xAl a A b b h w f g i l p q c (fun w=>by rw [<- d.out];exact qUy a A b (!h) w n hA k c2.1)
 ·have e:qEo 18 a A b b h=(if h=true then (if b<=a then none else some (a,min A (b-1))) else if A<b then none else some (max a b,A)):=by
   unfold qEo;rw [if_neg (by simp)];cases h<;>rfl
  rw [e];obtain ⟨p,q,c,d⟩:=qLv (if h=true then (if b<=a then none else some (a,min A (b-1))) else if A<b then none else some (max a b,A));rw [d.out];exact yYh a A b b h w f g i l p q c (fun w=>by rw [<- d.out];exact qVs a A b h w n hA k c2.1)
 ·have e:qEo 19 a A b b h=(if (!h)=true then (if b<=a then none else some (a,min A (b-1))) else if A<b then none else some (max a b,A)):=by
   unfold qEo;rw [if_neg (by simp)];cases h<;>rfl
  rw [e];obtain ⟨p,q,c,d⟩:=qLv (if (!h)=true then (if b<=a then none else some (a,min A (b-1))) else if A<b then none else some (max a b,A));rw [d.out];exact xAs a A b b h w f g i l p q c (fun w=>by rw [<- d.out];exact qVs a A b (!h) w n hA k c2.1)
end Go.Proofs.YtmdhljoicnommaaGreat
