/-
  J8More
  J8Own
-/
import Derived.Test.YtmdhljoicnommaaGreatME11
import Derived.Test.YtmdhljoicnommaaGreatME13
import Derived.Laws.ResultCell
namespace Go.Proofs.YtmdhljoicnommaaGreat
set_option maxHeartbeats 12800000
open Go.RowKit
set_option linter.unusedVariables false
set_option maxRecDepth 100000
def BxT (w:World) (n off:Nat) (t:Ty):Prop:=AtT w n off t/\w.frozen? ⟨n,off,none⟩=false/\w.frozen? ⟨n,off+1,none⟩=false/\w.frozen? ⟨n,off+2,none⟩=false/\w.frozen? ⟨n,off+3,none⟩=false
theorem BxT.below {w c:World}{n off B:Nat}{t:Ty}(h:BxT w n off t)(a:Below B w c)(b:n<B):BxT c n off t:=by
 refine ⟨h.1.below a b,?_⟩;rw [a.frozen (p:=⟨n,off,none⟩) b,a.frozen (p:=⟨n,off+1,none⟩) b,a.frozen (p:=⟨n,off+2,none⟩) b,a.frozen (p:=⟨n,off+3,none⟩) b];exact h.2
abbrev setT (w:World) (n off:Nat) (t:Ty):World:=(((w.setCell ⟨n,off,none⟩ (.int .i64 t.k)).setCell ⟨n,off+1,none⟩ (.int .u64 t.lo)).setCell ⟨n,off+2,none⟩ (.int .u64 t.hi)).setCell ⟨n,off+3,none⟩ (.int .i64 t.m)
theorem qGo {w:World}{n i j:Nat}{v:Value}(h:i≠j):(w.setCell ⟨n,i,none⟩ v).cell? ⟨n,j,none⟩=w.cell? ⟨n,j,none⟩:=World.cell?_setCell_other _ _ _ _ (fun e=>h (by injection e with a))
theorem qOn {w:World}{n i:Nat}{u v:Value}(h:w.cell? ⟨n,i,none⟩=some u):(w.setCell ⟨n,i,none⟩ v).cell? ⟨n,i,none⟩=some v:=by simp [World.cell?_setCell_same',h]
theorem AtT.set {w:World}{n off:Nat}{t:Ty}(h:AtT w n off t)(a:Ty):AtT (setT w n off a) n off a:=by
 obtain ⟨h0,d,c,b⟩:=h;refine ⟨?_,?_,?_,?_⟩
 ·rw [qGo (by omega),qGo (by omega),qGo (by omega)];exact qOn h0
 ·rw [qGo (by omega),qGo (by omega)];exact qOn ((qGo (by omega)).trans d)
 ·rw [qGo (by omega)];exact qOn ((qGo (by omega)).trans ((qGo (by omega)).trans c))
 ·exact qOn ((qGo (by omega)).trans ((qGo (by omega)).trans ((qGo (by omega)).trans b)))
theorem BxT.set {w:World}{n off:Nat}{t:Ty}(h:BxT w n off t)(a:Ty):BxT (setT w n off a) n off a :=
 ⟨h.1.set a,by simpa using h.2.1,by simpa using h.2.2.1,by simpa using h.2.2.2.1,by simpa using h.2.2.2.2⟩
theorem qAz {B:Nat}{w Z:World}{n off:Nat}{t:Ty}(h:Below B w Z)(a:B<=n):Below B w (setT Z n off t):=qAb (qAb (qAb (qAb h a) a) a) a
theorem qEi {w a:World}(h:Below (w.alloc (tyO Ty.nil)).heap.size (w.alloc (tyO Ty.nil)) a):Bw w a/\w.heap.size<a.heap.size/\Hid (BxT a w.heap.size 0 Ty.nil) /\
  a.cell? ⟨w.heap.size,0,none⟩=some (I4 0)/\a.cell? ⟨w.heap.size,1,none⟩=some (U8 0)/\a.cell? ⟨w.heap.size,2,none⟩=some (U8 0)/\a.cell? ⟨w.heap.size,3,none⟩=some (I4 0) /\
  a.frozen? ⟨w.heap.size,0,none⟩=false/\a.frozen? ⟨w.heap.size,1,none⟩=false/\a.frozen? ⟨w.heap.size,2,none⟩=false/\a.frozen? ⟨w.heap.size,3,none⟩=false:=by
 have f:=h.size
 have d:w.heap.size<(w.alloc (tyO Ty.nil)).heap.size:=by simp
 have c:BxT (w.alloc (tyO Ty.nil)) w.heap.size 0 Ty.nil:=⟨⟨by go_cell,by go_cell,by go_cell,by go_cell⟩,by go_simp,by go_simp,by go_simp,by go_simp⟩;have b:=c.below h d;exact ⟨((Below.refl _ _).alloc (Nat.le_refl _) _).trans (h.mono (by simp)),by omega,b,b.1.1,b.1.2.1,b.1.2.2.1,b.1.2.2.2,b.2.1,b.2.2.1,b.2.2.2.1,b.2.2.2.2⟩
theorem yGv (w:World):BxT (w.alloc (tyO Ty.nil)) w.heap.size 0 Ty.nil:=⟨⟨by go_cell,by go_cell,by go_cell,by go_cell⟩,by go_simp,by go_simp,by go_simp,by go_simp⟩
theorem qGi {d:Func}{p u:Tmp}{w c:World}{n B:Nat}{a:Array Value}{b:Bool}{k t:Ty}(g:d.results=#[.cell p 153,.tmp u])(f:a.getD p undef=.pointer (some ⟨n,0,none⟩))(s:a.getD u undef=.bool b)(l:BxT c n 0 k)(r:Below B w c)(o:B<=n):bodyPost Tryz.prog d (fun e i=>e=.returned (.tuple #[tyV t,.bool b])/\Below B w i) .ret ⟨a,[]⟩ (setT c n 0 t):=by
 refine bodyPost_ret (v:=.tuple #[tyV t,.bool b]) ?_ rfl ⟨rfl,qAz r o⟩;rw [results_cell_tmp g,f,s];simp only [asAddr,Sem.run_pure,Result.andThen];rw [qFl (l.1.set t)]
theorem yId (h:Int)(w:World):Cl 156 #[I4 h] w fun e D=>e=.returned (.tuple #[tyV (qCs h).1,.bool (qCs h).2])/\Bw w D:=by
 rcases qIh h with rfl|rfl|rfl|rfl|rfl|rfl|rfl|c
 ·have f:Hid (qCs 0=(qBl qDz,true)):=show qCs 0=(qBl qDz,true) from rfl
  go_enter Tryz.func156,Tryz.ntmps156
  go_wp2_with (first
  | (go_at_call 133;go_must (refine (qDy _).mono ?_);rintro e B ⟨rfl,b⟩)
  | (go_at_call 140;go_must (refine (qEu _ _ _).mono ?_);rintro e u ⟨rfl,a⟩;go_must (obtain ⟨d,y,g,n,i,l,o,s,z,A,r⟩:=qEi (b.trans (a.mono b.size));clear b a)))
  rw [f.out];exact qGi rfl rfl rfl (t:=qBl qDz) g.out d (Nat.le_refl _)
 ·have f:Hid (qCs 1=(qBl 1,true)):=show qCs 1=(qBl 1,true) from rfl
  go_enter Tryz.func156,Tryz.ntmps156
  go_wp2_with (first
  | (go_at_call 140;go_must (refine (qEu _ _ _).mono ?_);rintro e u ⟨rfl,a⟩;go_must (obtain ⟨d,y,g,n,i,l,o,s,z,A,r⟩:=qEi a;clear a)))
  rw [f.out];exact qGi rfl rfl rfl (t:=qBl 1) g.out d (Nat.le_refl _)
 ·have f:Hid (qCs 2=(qBl 1,true)):=show qCs 2=(qBl 1,true) from rfl
  go_enter Tryz.func156,Tryz.ntmps156
  go_wp2_with (first
  | (go_at_call 140;go_must (refine (qEu _ _ _).mono ?_);rintro e u ⟨rfl,a⟩;go_must (obtain ⟨d,y,g,n,i,l,o,s,z,A,r⟩:=qEi a;clear a)))
  rw [f.out];exact qGi rfl rfl rfl (t:=qBl 1) g.out d (Nat.le_refl _)
 ·have f:Hid (qCs 3=(qBl 1,true)):=show qCs 3=(qBl 1,true) from rfl
  go_enter Tryz.func156,Tryz.ntmps156
  go_wp2_with (first
  | (go_at_call 140;go_must (refine (qEu _ _ _).mono ?_);rintro e u ⟨rfl,a⟩;go_must (obtain ⟨d,y,g,n,i,l,o,s,z,A,r⟩:=qEi a;clear a)))
  rw [f.out];exact qGi rfl rfl rfl (t:=qBl 1) g.out d (Nat.le_refl _)
 ·have f:Hid (qCs 4=(qBl qDz,true)):=show qCs 4=(qBl qDz,true) from rfl
  go_enter Tryz.func156,Tryz.ntmps156
  go_wp2_with (first
  | (go_at_call 133;go_must (refine (qDy _).mono ?_);rintro e B ⟨rfl,b⟩)
  | (go_at_call 140;go_must (refine (qEu _ _ _).mono ?_);rintro e u ⟨rfl,a⟩;go_must (obtain ⟨d,y,g,n,i,l,o,s,z,A,r⟩:=qEi (b.trans (a.mono b.size));clear b a)))
  rw [f.out];exact qGi rfl rfl rfl (t:=qBl qDz) g.out d (Nat.le_refl _)
 ·have f:Hid (qCs 5=(qBl qDz,true)):=show qCs 5=(qBl qDz,true) from rfl
  go_enter Tryz.func156,Tryz.ntmps156
  go_wp2_with (first
  | (go_at_call 133;go_must (refine (qDy _).mono ?_);rintro e B ⟨rfl,b⟩)
  | (go_at_call 140;go_must (refine (qEu _ _ _).mono ?_);rintro e u ⟨rfl,a⟩;go_must (obtain ⟨d,y,g,n,i,l,o,s,z,A,r⟩:=qEi (b.trans (a.mono b.size));clear b a)))
  rw [f.out];exact qGi rfl rfl rfl (t:=qBl qDz) g.out d (Nat.le_refl _)
 ·have f:Hid (qCs 6=(qBl 0,true)):=show qCs 6=(qBl 0,true) from rfl
  go_enter Tryz.func156,Tryz.ntmps156
  go_wp2_with (first
  | (go_at_call 134;go_must (refine (qGz _ _).mono ?_);rintro e B ⟨rfl,b⟩)
  | (go_at_call 140;go_must (refine (qEu _ _ _).mono ?_);rintro e u ⟨rfl,a⟩;go_must (obtain ⟨d,y,g,n,i,l,o,s,z,A,r⟩:=qEi (b.trans (a.mono b.size));clear b a)))
  rw [f.out];exact qGi rfl rfl rfl (t:=qBl 0) g.out d (Nat.le_refl _)
 ·have f:Hid (qCs h=(Ty.nil,false)):=yDg c;obtain ⟨n,i,l,o,G,F,E⟩:=c;go_enter Tryz.func156,Tryz.ntmps156;go_wp2;rw [f.out];refine bodyPost_ret (v:=.tuple #[tyV Ty.nil,.bool false]) ?_ rfl ⟨rfl,by go_grown⟩;rw [results_cell_tmp rfl]
  simp [asAddr,Result.andThen]
  rw [qFl (k:=0) (lo:=0) (hi:=0) (m:=0)]
  ·rfl
  ·refine ⟨?_,?_,?_,?_⟩<;>go_cell
theorem yFq (h:Int)(w:World):Cl 144 #[I4 h] w fun e A=>e=.returned (.tuple #[tyV (qCs h).1,.bool (qCs h).2])/\Bw w A:=by
 rcases qIh h with rfl|rfl|rfl|rfl|rfl|rfl|rfl|c
 ·have d:Hid (qCs 0=(qBl qDz,true)):=show qCs 0=(qBl qDz,true) from rfl
  go_enter Tryz.func144,Tryz.ntmps144
  go_wp2_with (first
  | (go_at_call 124;go_must (refine (qFm _ _).mono ?_);rintro e s ⟨rfl,a⟩;go_must (obtain ⟨b,u,f,l,n,g,i,r,z,o,y⟩:=qEi a;clear a)))
  rw [d.out];exact qGi rfl rfl rfl (t:=qBl qDz) f.out b (Nat.le_refl _)
 ·have d:Hid (qCs 1=(qBl 1,true)):=show qCs 1=(qBl 1,true) from rfl
  go_enter Tryz.func144,Tryz.ntmps144
  go_wp2_with (first
  | (go_at_call 124;go_must (refine (qFm _ _).mono ?_);rintro e s ⟨rfl,a⟩;go_must (obtain ⟨b,u,f,l,n,g,i,r,z,o,y⟩:=qEi a;clear a)))
  rw [d.out];exact qGi rfl rfl rfl (t:=qBl 1) f.out b (Nat.le_refl _)
 ·have d:Hid (qCs 2=(qBl 1,true)):=show qCs 2=(qBl 1,true) from rfl
  go_enter Tryz.func144,Tryz.ntmps144
  go_wp2_with (first
  | (go_at_call 124;go_must (refine (qFm _ _).mono ?_);rintro e s ⟨rfl,a⟩;go_must (obtain ⟨b,u,f,l,n,g,i,r,z,o,y⟩:=qEi a;clear a)))
  rw [d.out];exact qGi rfl rfl rfl (t:=qBl 1) f.out b (Nat.le_refl _)
 ·have d:Hid (qCs 3=(qBl 1,true)):=show qCs 3=(qBl 1,true) from rfl
  go_enter Tryz.func144,Tryz.ntmps144
  go_wp2_with (first
  | (go_at_call 124;go_must (refine (qFm _ _).mono ?_);rintro e s ⟨rfl,a⟩;go_must (obtain ⟨b,u,f,l,n,g,i,r,z,o,y⟩:=qEi a;clear a)))
  rw [d.out];exact qGi rfl rfl rfl (t:=qBl 1) f.out b (Nat.le_refl _)
 ·have d:Hid (qCs 4=(qBl qDz,true)):=show qCs 4=(qBl qDz,true) from rfl
  go_enter Tryz.func144,Tryz.ntmps144
  go_wp2_with (first
  | (go_at_call 124;go_must (refine (qFm _ _).mono ?_);rintro e s ⟨rfl,a⟩;go_must (obtain ⟨b,u,f,l,n,g,i,r,z,o,y⟩:=qEi a;clear a)))
  rw [d.out];exact qGi rfl rfl rfl (t:=qBl qDz) f.out b (Nat.le_refl _)
 ·have d:Hid (qCs 5=(qBl qDz,true)):=show qCs 5=(qBl qDz,true) from rfl
  go_enter Tryz.func144,Tryz.ntmps144
  go_wp2_with (first
  | (go_at_call 124;go_must (refine (qFm _ _).mono ?_);rintro e s ⟨rfl,a⟩;go_must (obtain ⟨b,u,f,l,n,g,i,r,z,o,y⟩:=qEi a;clear a)))
  rw [d.out];exact qGi rfl rfl rfl (t:=qBl qDz) f.out b (Nat.le_refl _)
 ·have d:Hid (qCs 6=(qBl 0,true)):=show qCs 6=(qBl 0,true) from rfl
  go_enter Tryz.func144,Tryz.ntmps144
  go_wp2_with (first
  | (go_at_call 124;go_must (refine (qFm _ _).mono ?_);rintro e s ⟨rfl,a⟩;go_must (obtain ⟨b,u,f,l,n,g,i,r,z,o,y⟩:=qEi a;clear a)))
  rw [d.out];exact qGi rfl rfl rfl (t:=qBl 0) f.out b (Nat.le_refl _)
 ·have d:Hid (qCs h=(Ty.nil,false)):=yDg c;obtain ⟨l,n,g,i,B,E,D⟩:=c;go_enter Tryz.func144,Tryz.ntmps144;go_wp2;rw [d.out];refine bodyPost_ret (v:=.tuple #[tyV Ty.nil,.bool false]) ?_ rfl ⟨rfl,by go_grown⟩;rw [results_cell_tmp rfl]
  simp [asAddr,Result.andThen]
  rw [qFl (k:=0) (lo:=0) (hi:=0) (m:=0)]
  ·rfl
  ·refine ⟨?_,?_,?_,?_⟩<;>go_cell
theorem qFk {w:World}{base g n cap k:Nat}{e:TypeId}{l:List Value}(h:w.ownsRow base e 4 (.slice (some ⟨g,0,none⟩) n cap) n l)(u:k<n):∃ c d b f,w.cell? ⟨g,k*4,none⟩=some c/\w.cell? ⟨g,k*4+1,none⟩=some d/\w.cell? ⟨g,k*4+2,none⟩=some b/\w.cell? ⟨g,k*4+3,none⟩=some f:=by
 have A:l.length=n*4:=h.1
 have a:∀ j,j<4->∃ z,w.cell? ⟨g,k*4+j,none⟩=some z:=fun j y=>by
  have i:k*4+j<l.length:=by omega
  exact ⟨l[k*4+j],by rw [h.cellAt (k*4+j) (by omega)];exact List.getElem?_eq_getElem i⟩
 obtain ⟨c,h0⟩:=a 0 (by omega);obtain ⟨d,s⟩:=a 1 (by omega);obtain ⟨b,r⟩:=a 2 (by omega);obtain ⟨f,o⟩:=a 3 (by omega);exact ⟨c,d,b,f,h0,s,r,o⟩
theorem qIo {w:World}{base size n:Nat}{e:TypeId}{v:Value}{xs:List Value}(h:w.ownsRow base e size v n xs):∃ a c,v=.slice a n c:=by
 obtain ⟨_,⟨rfl,rfl⟩|⟨g,cap,b,rfl,_⟩⟩:=h
 ·exact ⟨none,0,rfl⟩
 ·exact ⟨_,cap,rfl⟩
theorem qYt:∀ (xs:List Ty)(k:Nat)(t:Ty),k<xs.length->((((qAo xs).set (k*4) (I4 t.k)).set (k*4+1) (U8 t.lo)).set (k*4+2) (U8 t.hi)).set (k*4+3) (I4 t.m)=qAo (xs.set k t)
 | [],k,t,hk=>by simp at hk
 | x :: xs,0,t,_=>by simp [qAo]
 | x :: xs,k+1,t,hk=>by
  have e:qAo (x :: xs)=I4 x.k :: U8 x.lo :: U8 x.hi :: I4 x.m :: qAo xs:=rfl;have a:qAo ((x :: xs).set (k+1) t)=I4 x.k :: U8 x.lo :: U8 x.hi :: I4 x.m :: qAo (xs.set k t):=rfl;rw [e,a,<- qYt xs k t (by simpa using hk),show (k+1)*4=k*4+1+1+1+1 by omega]
  rfl
theorem qGp {w:World}{base g n cap:Nat}{e:TypeId}{xs:List Ty}(h:w.ownsRow base e 4 (.slice (some ⟨g,0,none⟩) n cap) n (qAo xs))(k:Nat)(d:k<xs.length)(t:Ty) :
  (setT w g (k*4) t).ownsRow base e 4 (.slice (some ⟨g,0,none⟩) n cap) n (qAo (xs.set k t))/\w.grownBy (setT w g (k*4) t) (some g):=by
 have r0:=h.stored (k*4) (I4 t.k);have c:=r0.1.stored (k*4+1) (U8 t.lo);have b:=c.1.stored (k*4+2) (U8 t.hi);have a:=b.1.stored (k*4+3) (I4 t.m);rw [qYt xs k t d] at a;exact ⟨a.1,qOz r0.2 (qOz c.2 (qOz b.2 a.2))⟩
theorem qBq {w:World}{n off b j:Nat}{t:Ty}(h:n≠b):(setT w n off t).cell? ⟨b,j,none⟩=w.cell? ⟨b,j,none⟩:=by
 have a:∀ (c:World) (i:Nat) (v:Value),(c.setCell ⟨n,i,none⟩ v).cell? ⟨b,j,none⟩=c.cell? ⟨b,j,none⟩:=fun c i v=>World.cell?_setCell_other _ _ _ _ (fun e=>h (by injection e with d))
 rw [a,a,a,a]
theorem qGw (w:World)(base g:Nat)(a:base<=w.heap.size)(b:g=w.heap.size):(w.alloc (.cells #[] 153)).ownsRow base 153 4 (.slice (some ⟨g,0,none⟩) 0 0) ([]:List Ty).length (qAo []):=by
 subst b;exact qCe (yHx w 153) a
end Go.Proofs.YtmdhljoicnommaaGreat
