/-
  J8More
  J8Own
-/
import Derived.Test.YtmdhljoicnommaaGreatMS11
import Derived.Test.YtmdhljoicnommaaGreatMS13
import Derived.Laws.ResultCell
namespace Go.Proofs.YtmdhljoicnommaaGreat
set_option maxHeartbeats 12800000
open Go.RowKit
set_option linter.unusedVariables false
set_option maxRecDepth 100000
def BxT (w:World) (n off:Nat) (t:Ty):Prop:=AtT w n off t/\w.frozen? ⟨n,off,none⟩=false/\w.frozen? ⟨n,off+1,none⟩=false/\w.frozen? ⟨n,off+2,none⟩=false/\w.frozen? ⟨n,off+3,none⟩=false
theorem BxT.below {w c:World}{n off B:Nat}{t:Ty}(h:BxT w n off t)(b:Below B w c)(a:n<B):BxT c n off t:=by
 refine ⟨h.1.below b a,?_⟩;rw [b.frozen (p:=⟨n,off,none⟩) a,b.frozen (p:=⟨n,off+1,none⟩) a,b.frozen (p:=⟨n,off+2,none⟩) a,b.frozen (p:=⟨n,off+3,none⟩) a];exact h.2
abbrev setT (w:World) (n off:Nat) (t:Ty):World:=(((w.setCell ⟨n,off,none⟩ (.int .i64 t.k)).setCell ⟨n,off+1,none⟩ (.int .u64 t.lo)).setCell ⟨n,off+2,none⟩ (.int .u64 t.hi)).setCell ⟨n,off+3,none⟩ (.int .i64 t.m)
theorem qCu {w:World}{n i j:Nat}{v:Value}(h:i≠j):(w.setCell ⟨n,i,none⟩ v).cell? ⟨n,j,none⟩=w.cell? ⟨n,j,none⟩:=World.cell?_setCell_other _ _ _ _ (fun e=>h (by injection e with a))
theorem cell_same {w:World}{n i:Nat}{u v:Value}(h:w.cell? ⟨n,i,none⟩=some u):(w.setCell ⟨n,i,none⟩ v).cell? ⟨n,i,none⟩=some v:=by simp [World.cell?_setCell_same',h]
theorem AtT.set {w:World}{n off:Nat}{t:Ty}(h:AtT w n off t)(a:Ty):AtT (setT w n off a) n off a:=by
 obtain ⟨h0,d,b,c⟩:=h;refine ⟨?_,?_,?_,?_⟩
 ·rw [qCu (by omega),qCu (by omega),qCu (by omega)];exact cell_same h0
 ·rw [qCu (by omega),qCu (by omega)];exact cell_same ((qCu (by omega)).trans d)
 ·rw [qCu (by omega)];exact cell_same ((qCu (by omega)).trans ((qCu (by omega)).trans b))
 ·exact cell_same ((qCu (by omega)).trans ((qCu (by omega)).trans ((qCu (by omega)).trans c)))
theorem BxT.set {w:World}{n off:Nat}{t:Ty}(h:BxT w n off t)(a:Ty):BxT (setT w n off a) n off a :=
 ⟨h.1.set a,by simpa using h.2.1,by simpa using h.2.2.1,by simpa using h.2.2.2.1,by simpa using h.2.2.2.2⟩
theorem qAn {B:Nat}{w Z:World}{n off:Nat}{t:Ty}(h:Below B w Z)(a:B<=n):Below B w (setT Z n off t):=qAa (qAa (qAa (qAa h a) a) a) a
theorem qBz {w a:World}(h:Below (w.alloc (tyO Ty.nil)).heap.size (w.alloc (tyO Ty.nil)) a):Bw w a/\w.heap.size<a.heap.size/\Hid (BxT a w.heap.size 0 Ty.nil) /\
  a.cell? ⟨w.heap.size,0,none⟩=some (I4 0)/\a.cell? ⟨w.heap.size,1,none⟩=some (U8 0)/\a.cell? ⟨w.heap.size,2,none⟩=some (U8 0)/\a.cell? ⟨w.heap.size,3,none⟩=some (I4 0) /\
  a.frozen? ⟨w.heap.size,0,none⟩=false/\a.frozen? ⟨w.heap.size,1,none⟩=false/\a.frozen? ⟨w.heap.size,2,none⟩=false/\a.frozen? ⟨w.heap.size,3,none⟩=false:=by
 have f:=h.size
 have d:w.heap.size<(w.alloc (tyO Ty.nil)).heap.size:=by simp
 have c:BxT (w.alloc (tyO Ty.nil)) w.heap.size 0 Ty.nil:=⟨⟨by go_cell,by go_cell,by go_cell,by go_cell⟩,by go_simp,by go_simp,by go_simp,by go_simp⟩;have b:=c.below h d;exact ⟨((Below.refl _ _).alloc (Nat.le_refl _) _).trans (h.mono (by simp)),by omega,b,b.1.1,b.1.2.1,b.1.2.2.1,b.1.2.2.2,b.2.1,b.2.2.1,b.2.2.2.1,b.2.2.2.2⟩
theorem box_new (w:World):BxT (w.alloc (tyO Ty.nil)) w.heap.size 0 Ty.nil:=⟨⟨by go_cell,by go_cell,by go_cell,by go_cell⟩,by go_simp,by go_simp,by go_simp,by go_simp⟩
theorem box_ret {d:Func}{p u:Tmp}{w c:World}{n B:Nat}{a:Array Value}{b:Bool}{s t:Ty}(i:d.results=#[.cell p 153,.tmp u])(f:a.getD p undef=.pointer (some ⟨n,0,none⟩))(k:a.getD u undef=.bool b)(o:BxT c n 0 s)(r:Below B w c)(g:B<=n):bodyPost Tryz.prog d (fun e l=>e=.returned (.tuple #[tyV t,.bool b])/\Below B w l) .ret ⟨a,[]⟩ (setT c n 0 t):=by
 refine bodyPost_ret (v:=.tuple #[tyV t,.bool b]) ?_ rfl ⟨rfl,qAn r g⟩;rw [results_cell_tmp i,f,k];simp only [asAddr,Sem.run_pure,Result.andThen];rw [qCm (o.1.set t)]
theorem result_any (h:Int)(w:World):Cl 156 #[I4 h] w fun e B=>e=.returned (.tuple #[tyV (resL h).1,.bool (resL h).2])/\Bw w B:=by
 rcases qDf h with rfl|rfl|rfl|rfl|rfl|rfl|rfl|c
 ·have f:Hid (resL 0=(numT topN,true)):=show resL 0=(numT topN,true) from rfl
  go_enter Tryz.func156,Tryz.ntmps156
  go_wp2_with (first
  | (go_at_call 133;go_must (refine (qBw _).mono ?_);rintro e A ⟨rfl,b⟩)
  | (go_at_call 140;go_must (refine (qCh _ _ _).mono ?_);rintro e s ⟨rfl,a⟩;go_must (obtain ⟨d,r,g,l,o,n,i,u,z,y,f3⟩:=qBz (b.trans (a.mono b.size));clear b a)))
  rw [f.out];exact box_ret rfl rfl rfl (t:=numT topN) g.out d (Nat.le_refl _)
 ·have f:Hid (resL 1=(numT 1,true)):=show resL 1=(numT 1,true) from rfl
  go_enter Tryz.func156,Tryz.ntmps156
  go_wp2_with (first
  | (go_at_call 140;go_must (refine (qCh _ _ _).mono ?_);rintro e s ⟨rfl,a⟩;go_must (obtain ⟨d,r,g,l,o,n,i,u,z,y,f3⟩:=qBz a;clear a)))
  rw [f.out];exact box_ret rfl rfl rfl (t:=numT 1) g.out d (Nat.le_refl _)
 ·have f:Hid (resL 2=(numT 1,true)):=show resL 2=(numT 1,true) from rfl
  go_enter Tryz.func156,Tryz.ntmps156
  go_wp2_with (first
  | (go_at_call 140;go_must (refine (qCh _ _ _).mono ?_);rintro e s ⟨rfl,a⟩;go_must (obtain ⟨d,r,g,l,o,n,i,u,z,y,f3⟩:=qBz a;clear a)))
  rw [f.out];exact box_ret rfl rfl rfl (t:=numT 1) g.out d (Nat.le_refl _)
 ·have f:Hid (resL 3=(numT 1,true)):=show resL 3=(numT 1,true) from rfl
  go_enter Tryz.func156,Tryz.ntmps156
  go_wp2_with (first
  | (go_at_call 140;go_must (refine (qCh _ _ _).mono ?_);rintro e s ⟨rfl,a⟩;go_must (obtain ⟨d,r,g,l,o,n,i,u,z,y,f3⟩:=qBz a;clear a)))
  rw [f.out];exact box_ret rfl rfl rfl (t:=numT 1) g.out d (Nat.le_refl _)
 ·have f:Hid (resL 4=(numT topN,true)):=show resL 4=(numT topN,true) from rfl
  go_enter Tryz.func156,Tryz.ntmps156
  go_wp2_with (first
  | (go_at_call 133;go_must (refine (qBw _).mono ?_);rintro e A ⟨rfl,b⟩)
  | (go_at_call 140;go_must (refine (qCh _ _ _).mono ?_);rintro e s ⟨rfl,a⟩;go_must (obtain ⟨d,r,g,l,o,n,i,u,z,y,f3⟩:=qBz (b.trans (a.mono b.size));clear b a)))
  rw [f.out];exact box_ret rfl rfl rfl (t:=numT topN) g.out d (Nat.le_refl _)
 ·have f:Hid (resL 5=(numT topN,true)):=show resL 5=(numT topN,true) from rfl
  go_enter Tryz.func156,Tryz.ntmps156
  go_wp2_with (first
  | (go_at_call 133;go_must (refine (qBw _).mono ?_);rintro e A ⟨rfl,b⟩)
  | (go_at_call 140;go_must (refine (qCh _ _ _).mono ?_);rintro e s ⟨rfl,a⟩;go_must (obtain ⟨d,r,g,l,o,n,i,u,z,y,f3⟩:=qBz (b.trans (a.mono b.size));clear b a)))
  rw [f.out];exact box_ret rfl rfl rfl (t:=numT topN) g.out d (Nat.le_refl _)
 ·have f:Hid (resL 6=(numT 0,true)):=show resL 6=(numT 0,true) from rfl
  go_enter Tryz.func156,Tryz.ntmps156
  go_wp2_with (first
  | (go_at_call 134;go_must (refine (qCz _ _).mono ?_);rintro e A ⟨rfl,b⟩)
  | (go_at_call 140;go_must (refine (qCh _ _ _).mono ?_);rintro e s ⟨rfl,a⟩;go_must (obtain ⟨d,r,g,l,o,n,i,u,z,y,f3⟩:=qBz (b.trans (a.mono b.size));clear b a)))
  rw [f.out];exact box_ret rfl rfl rfl (t:=numT 0) g.out d (Nat.le_refl _)
 ·have f:Hid (resL h=(Ty.nil,false)):=res_none c;obtain ⟨l,o,n,i,E,D,F⟩:=c;go_enter Tryz.func156,Tryz.ntmps156;go_wp2;rw [f.out];refine bodyPost_ret (v:=.tuple #[tyV Ty.nil,.bool false]) ?_ rfl ⟨rfl,by go_grown⟩;rw [results_cell_tmp rfl]
  simp [asAddr,Result.andThen]
  rw [qCm (k:=0) (lo:=0) (hi:=0) (m:=0)]
  ·rfl
  ·refine ⟨?_,?_,?_,?_⟩<;>go_cell
theorem rresult_any (h:Int)(w:World):Cl 144 #[I4 h] w fun e z=>e=.returned (.tuple #[tyV (resL h).1,.bool (resL h).2])/\Bw w z:=by
 rcases qDf h with rfl|rfl|rfl|rfl|rfl|rfl|rfl|c
 ·have d:Hid (resL 0=(numT topN,true)):=show resL 0=(numT topN,true) from rfl
  go_enter Tryz.func144,Tryz.ntmps144
  go_wp2_with (first
  | (go_at_call 124;go_must (refine (qCn _ _).mono ?_);rintro e o ⟨rfl,a⟩;go_must (obtain ⟨b,u,f,i,n,l,g,r,y,s,f3⟩:=qBz a;clear a)))
  rw [d.out];exact box_ret rfl rfl rfl (t:=numT topN) f.out b (Nat.le_refl _)
 ·have d:Hid (resL 1=(numT 1,true)):=show resL 1=(numT 1,true) from rfl
  go_enter Tryz.func144,Tryz.ntmps144
  go_wp2_with (first
  | (go_at_call 124;go_must (refine (qCn _ _).mono ?_);rintro e o ⟨rfl,a⟩;go_must (obtain ⟨b,u,f,i,n,l,g,r,y,s,f3⟩:=qBz a;clear a)))
  rw [d.out];exact box_ret rfl rfl rfl (t:=numT 1) f.out b (Nat.le_refl _)
 ·have d:Hid (resL 2=(numT 1,true)):=show resL 2=(numT 1,true) from rfl
  go_enter Tryz.func144,Tryz.ntmps144
  go_wp2_with (first
  | (go_at_call 124;go_must (refine (qCn _ _).mono ?_);rintro e o ⟨rfl,a⟩;go_must (obtain ⟨b,u,f,i,n,l,g,r,y,s,f3⟩:=qBz a;clear a)))
  rw [d.out];exact box_ret rfl rfl rfl (t:=numT 1) f.out b (Nat.le_refl _)
 ·have d:Hid (resL 3=(numT 1,true)):=show resL 3=(numT 1,true) from rfl
  go_enter Tryz.func144,Tryz.ntmps144
  go_wp2_with (first
  | (go_at_call 124;go_must (refine (qCn _ _).mono ?_);rintro e o ⟨rfl,a⟩;go_must (obtain ⟨b,u,f,i,n,l,g,r,y,s,f3⟩:=qBz a;clear a)))
  rw [d.out];exact box_ret rfl rfl rfl (t:=numT 1) f.out b (Nat.le_refl _)
 ·have d:Hid (resL 4=(numT topN,true)):=show resL 4=(numT topN,true) from rfl
  go_enter Tryz.func144,Tryz.ntmps144
  go_wp2_with (first
  | (go_at_call 124;go_must (refine (qCn _ _).mono ?_);rintro e o ⟨rfl,a⟩;go_must (obtain ⟨b,u,f,i,n,l,g,r,y,s,f3⟩:=qBz a;clear a)))
  rw [d.out];exact box_ret rfl rfl rfl (t:=numT topN) f.out b (Nat.le_refl _)
 ·have d:Hid (resL 5=(numT topN,true)):=show resL 5=(numT topN,true) from rfl
  go_enter Tryz.func144,Tryz.ntmps144
  go_wp2_with (first
  | (go_at_call 124;go_must (refine (qCn _ _).mono ?_);rintro e o ⟨rfl,a⟩;go_must (obtain ⟨b,u,f,i,n,l,g,r,y,s,f3⟩:=qBz a;clear a)))
  rw [d.out];exact box_ret rfl rfl rfl (t:=numT topN) f.out b (Nat.le_refl _)
 ·have d:Hid (resL 6=(numT 0,true)):=show resL 6=(numT 0,true) from rfl
  go_enter Tryz.func144,Tryz.ntmps144
  go_wp2_with (first
  | (go_at_call 124;go_must (refine (qCn _ _).mono ?_);rintro e o ⟨rfl,a⟩;go_must (obtain ⟨b,u,f,i,n,l,g,r,y,s,f3⟩:=qBz a;clear a)))
  rw [d.out];exact box_ret rfl rfl rfl (t:=numT 0) f.out b (Nat.le_refl _)
 ·have d:Hid (resL h=(Ty.nil,false)):=res_none c;obtain ⟨i,n,l,g,B,A,D⟩:=c;go_enter Tryz.func144,Tryz.ntmps144;go_wp2;rw [d.out];refine bodyPost_ret (v:=.tuple #[tyV Ty.nil,.bool false]) ?_ rfl ⟨rfl,by go_grown⟩;rw [results_cell_tmp rfl]
  simp [asAddr,Result.andThen]
  rw [qCm (k:=0) (lo:=0) (hi:=0) (m:=0)]
  ·rfl
  ·refine ⟨?_,?_,?_,?_⟩<;>go_cell
theorem qCl {w:World}{base g n cap k:Nat}{e:TypeId}{l:List Value}(h:w.ownsRow base e 4 (.slice (some ⟨g,0,none⟩) n cap) n l)(y:k<n):∃ b f d c,w.cell? ⟨g,k*4,none⟩=some b/\w.cell? ⟨g,k*4+1,none⟩=some f/\w.cell? ⟨g,k*4+2,none⟩=some d/\w.cell? ⟨g,k*4+3,none⟩=some c:=by
 have u:l.length=n*4:=h.1
 have a:∀ j,j<4->∃ z,w.cell? ⟨g,k*4+j,none⟩=some z:=fun j A=>by
  have i:k*4+j<l.length:=by omega
  exact ⟨l[k*4+j],by rw [h.cellAt (k*4+j) (by omega)];exact List.getElem?_eq_getElem i⟩
 obtain ⟨b,h0⟩:=a 0 (by omega);obtain ⟨f,r⟩:=a 1 (by omega);obtain ⟨d,s⟩:=a 2 (by omega);obtain ⟨c,o⟩:=a 3 (by omega);exact ⟨b,f,d,c,h0,r,s,o⟩
theorem own_shapeT {w:World}{base size n:Nat}{e:TypeId}{v:Value}{xs:List Value}(h:w.ownsRow base e size v n xs):∃ a c,v=.slice a n c:=by
 obtain ⟨_,⟨rfl,rfl⟩|⟨g,cap,b,rfl,_⟩⟩:=h
 ·exact ⟨none,0,rfl⟩
 ·exact ⟨_,cap,rfl⟩
theorem flatT_set:∀ (xs:List Ty)(k:Nat)(t:Ty),k<xs.length->((((flatT xs).set (k*4) (I4 t.k)).set (k*4+1) (U8 t.lo)).set (k*4+2) (U8 t.hi)).set (k*4+3) (I4 t.m)=flatT (xs.set k t)
 | [],k,t,hk=>by simp at hk
 | x :: xs,0,t,_=>by simp [flatT]
 | x :: xs,k+1,t,hk=>by
  have e:flatT (x :: xs)=I4 x.k :: U8 x.lo :: U8 x.hi :: I4 x.m :: flatT xs:=rfl;have a:flatT ((x :: xs).set (k+1) t)=I4 x.k :: U8 x.lo :: U8 x.hi :: I4 x.m :: flatT (xs.set k t):=rfl;rw [e,a,<- flatT_set xs k t (by simpa using hk),show (k+1)*4=k*4+1+1+1+1 by omega]
  rfl
theorem qCv {w:World}{base g n cap:Nat}{e:TypeId}{xs:List Ty}(h:w.ownsRow base e 4 (.slice (some ⟨g,0,none⟩) n cap) n (flatT xs))(k:Nat)(d:k<xs.length)(t:Ty) :
  (setT w g (k*4) t).ownsRow base e 4 (.slice (some ⟨g,0,none⟩) n cap) n (flatT (xs.set k t))/\w.grownBy (setT w g (k*4) t) (some g):=by
 have r0:=h.stored (k*4) (I4 t.k);have c:=r0.1.stored (k*4+1) (U8 t.lo);have b:=c.1.stored (k*4+2) (U8 t.hi);have a:=b.1.stored (k*4+3) (I4 t.m);rw [flatT_set xs k t d] at a;exact ⟨a.1,grown_trans r0.2 (grown_trans c.2 (grown_trans b.2 a.2))⟩
theorem qAs {w:World}{n off b j:Nat}{t:Ty}(h:n≠b):(setT w n off t).cell? ⟨b,j,none⟩=w.cell? ⟨b,j,none⟩:=by
 have a:∀ (c:World) (i:Nat) (v:Value),(c.setCell ⟨n,i,none⟩ v).cell? ⟨b,j,none⟩=c.cell? ⟨b,j,none⟩:=fun c i v=>World.cell?_setCell_other _ _ _ _ (fun e=>h (by injection e with d))
 rw [a,a,a,a]
theorem qCy (w:World)(base g:Nat)(b:base<=w.heap.size)(a:g=w.heap.size):(w.alloc (.cells #[] 153)).ownsRow base 153 4 (.slice (some ⟨g,0,none⟩) 0 0) ([]:List Ty).length (flatT []):=by
 subst a;exact qAx (ownT_empty w 153) b
end Go.Proofs.YtmdhljoicnommaaGreat
