/-
  JSt
  J9Fits
  JHp
  J9LeavesA
  J9LeavesB
  J9Joined
-/
import Derived.Test.YtmdhljoicnommaaGreatME23
import Derived.Test.YtmdhljoicnommaaGreatME14
import Derived.Test.YtmdhljoicnommaaGreatME24
import Derived.Test.YtmdhljoicnommaaGreatME21
namespace Go.Proofs.YtmdhljoicnommaaGreat
set_option maxHeartbeats 12800000
open Go.RowKit
set_option linter.unusedVariables false
set_option maxRecDepth 100000
def stC (r:Bool) (s:St):List Value:=.bool r :: qAo s
theorem qKs (r:Bool){s:St}(h:s.length=8):(stC r s).length=33:=by simp [stC,qIj,h]
theorem qGn (r:Bool){s:St}(h:s.length=8):(stC r s).toArray.size=33:=by rw [List.size_toArray];exact qKs r h
theorem xAa (r:Bool)(s:St):∀ u∈stC r s,u.oneCell'=true:=by
 intro u a
 rcases List.mem_cons.1 a with rfl|h
 ·rfl
 ·exact qXx s u h
theorem qIw (r:Bool)(s:St):(stC r s).toArray.all (·.oneCell')=true:=all_oneCell_toArray (xAa r s)
theorem yNf (r:Bool)(s:St)(k j:Nat)(b:k<s.length)(a:j<4):(stC r s)[1+k*4+j]? = (tyC (s.getD k Ty.nil))[j]? := by
 rw [show 1+k*4+j=(k*4+j)+1 by omega];unfold stC;rw [List.getElem?_cons_succ];exact qHu s k j b a
abbrev stV (r:Bool) (s:St):Value:=.agg (stC r s).toArray
abbrev stO (r:Bool) (s:St):Obj:=.cells (stC r s).toArray 156
def stZ:St:=List.replicate 8 Ty.nil
theorem qNj:stZ.length=8:=rfl
def StAt (w:World) (b o:Nat) (r:Bool) (s:St):Prop:=w.rangeAt b o (stC r s)
theorem StAt.cell {w:World}{b o:Nat}{r:Bool}{s:St}(h:StAt w b o r s):w.cell? ⟨b,o,none⟩=some (.bool r):=h 0 _ rfl
theorem StAt.typ {w:World}{b o:Nat}{r:Bool}{s:St}(h:StAt w b o r s)(f:s.length=8){k:Nat}(g:k<8):AtT w b (o+1+k*4) (s.getD k Ty.nil):=by
 refine qYo fun j d=>?_
 have a:=yNf r s k j (by omega) d
 have c:j=0∨j=1∨j=2∨j=3:=by omega
 rcases c with rfl|rfl|rfl|rfl<;>(rw [show (tyC (s.getD k Ty.nil))[_]? = some _ from rfl] at a ⊢;have:=h _ _ a;rw [<- this];congr 2;omega)
theorem StAt.below {w a:World}{b o B:Nat}{r:Bool}{s:St}(h:StAt w b o r s)(c:Below B w a)(d:b<B):StAt a b o r s:=fun j v f=>by
 rw [c.cell (p:=⟨b,o+j,none⟩) d];exact h j v f
theorem qQc (w:World)(r:Bool)(s:St):StAt (w.alloc (stO r s)) w.heap.size 0 r s:=fun j v a=>by
 rw [cell_of_row _ _ _ _ _ _ (heap_alloc_new w (stO r s))]
 simpa using a
theorem qIm (lo hi:Int)(w:World):Cl 123 #[U8 lo,U8 hi] w fun e a=>e=.returned (tyV ⟨1,lo,hi,0⟩)/\Bw w a:=by
 go_enter Tryz.func123,Tryz.ntmps123;go_wp2;refine bodyPost_ret (v:=tyV ⟨1,lo,hi,0⟩) ?_ rfl ⟨rfl,by go_grown⟩;rw [qAw rfl]
 simp [asAddr,Result.andThen]
 rw [qFl (k:=1) (lo:=lo) (hi:=hi) (m:=0)]
 refine ⟨?_,?_,?_,?_⟩<;>go_cell
theorem qEg {c:Func}{p:Tmp}{w b:World}{n B:Nat}{a:Array Value}{i t:Ty}(f:c.results=#[.cell p 153])(d:a.getD p undef=.pointer (some ⟨n,0,none⟩))(k:BxT b n 0 i)(o:Below B w b)(l:B<=n):bodyPost Tryz.prog c (fun e g=>e=.returned (tyV t)/\Below B w g) .ret ⟨a,[]⟩ (setT b n 0 t):=by
 refine bodyPost_ret (v:=tyV t) ?_ rfl ⟨rfl,qAz o l⟩;rw [qAw f,d];simp only [asAddr,Sem.run_pure,Result.andThen];rw [qFl (k.1.set t)]
theorem qRl {w a:World}(n:Nat)(b:n=w.heap.size)(h:Below (w.alloc (tyO Ty.nil)).heap.size (w.alloc (tyO Ty.nil)) a):Below n w a/\n<a.heap.size/\Hid (BxT a n 0 Ty.nil) /\
  a.cell? ⟨n,0,none⟩=some (I4 0)/\a.cell? ⟨n,1,none⟩=some (U8 0)/\a.cell? ⟨n,2,none⟩=some (U8 0)/\a.cell? ⟨n,3,none⟩=some (I4 0) /\
  a.frozen? ⟨n,0,none⟩=false/\a.frozen? ⟨n,1,none⟩=false/\a.frozen? ⟨n,2,none⟩=false/\a.frozen? ⟨n,3,none⟩=false:=by
 subst b;exact qEi h
theorem yGr {w a:World}{o:Obj}{n:Nat}(b:n=(w.alloc o).heap.size)(h:Below n (w.alloc o) a):Bw w a:=by
 subst b;exact ((Below.refl _ _).alloc (Nat.le_refl _) o).trans (h.mono (by simp))
theorem qSq (w:World):Cl 85 #[] w fun e c=>e=.returned (tyV qEe)/\Bw w c:=by
 go_enter Tryz.func85,Tryz.ntmps85
 go_wp2_with (go_at_call 123;go_must (refine (qIm _ _ _).mono ?_);rintro e u ⟨rfl,a⟩;go_must (obtain ⟨b,o,d,k,n,f,g,l,s,i,r⟩:=qEi a;clear a))
 exact qEg rfl rfl (t:=qEe) d.out b (Nat.le_refl _)
theorem yMp (a b:Ty)(w:World):Cl 90 #[tyV a,tyV b] w fun e s=>e=.returned (.bool (qGt a b))/\Bw w s:=by
 obtain ⟨ak,i,g,am⟩:=a;obtain ⟨l,d,f,k⟩:=b
 by_cases h0:l=0
 ·subst h0
  have c:Hid (qGt ⟨ak,i,g,am⟩ ⟨0,d,f,k⟩=true):=by show _=_;unfold qGt;simp
  go_enter Tryz.func90,Tryz.ntmps90;go_wp2;go_ret;exact ⟨rb c.out.symm,by go_grown⟩
 by_cases hk:ak=l
 case neg =>
  have c:Hid (qGt ⟨ak,i,g,am⟩ ⟨l,d,f,k⟩=false):=by show _=_;unfold qGt;simp [h0,hk]
  go_enter Tryz.func90,Tryz.ntmps90;go_wp2;go_ret;exact ⟨rb c.out.symm,by go_grown⟩
 subst hk
 by_cases h1:ak=1
 ·subst h1;obtain ⟨r,o⟩:∃ r,Hid (r=qDs i g d f):=⟨_,rfl⟩
  have c:Hid (qGt ⟨1,i,g,am⟩ ⟨1,d,f,k⟩=r):=by show _=_;unfold qGt;simp [<- o.out]
  go_enter Tryz.func90,Tryz.ntmps90
  go_wp2_with (go_at_call 125;go_must (refine (qTh _ _ _ _ _).mono ?_);rintro e u ⟨rfl,n⟩;rw [<- o.out])
  go_ret;exact ⟨rb c.out.symm,qNr n⟩
 ·have c:Hid (qGt ⟨ak,i,g,am⟩ ⟨ak,d,f,k⟩=decide (am=k)):=by show _=_;unfold qGt;simp [h0,h1]
  go_enter Tryz.func90,Tryz.ntmps90;go_wp2;go_ret;exact ⟨rb (by rw [c.out];rfl),by go_grown⟩
theorem yAo {a b:Ty}{r:Bool}(h:Hid (r=qGt a b))(w:World):Cl 90 #[tyV a,tyV b] w fun e c=>e=.returned (.bool r)/\Bw w c:=by
 rw [h.out];exact yMp a b w
theorem yEx (i:In)(v:Value)(s:St)(w:World)(E:SeesT w v s)(A:s.length=8)(I:i.b=8∨(0<=i.b/\i.b<=7)) :
  Cl 87 #[i.v,v] w fun e L=>e=.returned (tyV (qBa i s))/\Bw w L:=by
 obtain ⟨op,d,a,b,c⟩:=i;simp only at I
 by_cases h8:b=8
 ·subst h8
  have X:IntKind.u64.wrap c=u64 c:=by rw [IntKind.wrap_u64];rfl
  have o:Hid (qBa ⟨op,d,a,8,c⟩ s=qHk (u64 c) (u64 c)):=by show _=_;unfold qBa;rw [if_pos rfl]
  clear E;go_enter Tryz.func87,Tryz.ntmps87
  go_wp2_with (go_at_call 123;go_must (refine (qIm _ _ _).mono ?_);rintro e S ⟨rfl,g⟩;go_must (obtain ⟨F,Z,K,U,P,T,c3,Y,f1,f2,R⟩:=qRl (w.heap.size+1) (by simp) g;clear g))
  rw [o.out];exact qEg rfl rfl (t:=qHk (u64 c) (u64 c)) K.out (yGr (by simp) F) (by omega)
 ·obtain ⟨r,rfl⟩:=Int.eq_ofNat_of_zero_le (show 0<=b by omega)
  have V:r<8:=by omega
  obtain ⟨ad,cap,rfl,z,y,_,f⟩:=E;obtain ⟨Q,off,rfl,O,l⟩:=f (fun e=>by rw [e] at A;simp at A);obtain ⟨n,B,u,D,G⟩:∃ k lo hi m,Hid (s.getD r Ty.nil=⟨k,lo,hi,m⟩):=⟨_,_,_,_,rfl⟩;have hA:=l r (by omega);rw [G.out] at hA
  have o:Hid (qBa ⟨op,d,a,r,c⟩ s=⟨n,B,u,D⟩):=by show _=_;unfold qBa qBg;rw [if_neg h8];exact G.out
  unfold maxLen at y;rw [A] at z ⊢;obtain ⟨g0,M,J,N⟩:=hA;simp only at g0 M J N;clear l f;go_enter Tryz.func87,Tryz.ntmps87;go_wp2;rw [o.out];refine bodyPost_ret (v:=tyV ⟨n,B,u,D⟩) ?_ rfl ⟨rfl,by go_grown⟩;rw [qAw rfl]
  simp [asAddr,Result.andThen]
  rw [qFl (k:=n) (lo:=B) (hi:=u) (m:=D)]
  refine ⟨?_,?_,?_,?_⟩<;>go_cell
theorem qDh {i:In}{v:Value}{s:St}{w:World}(f:SeesT w v s)(d:s.length=8)(c:i.b=8∨(0<=i.b/\i.b<=7)){k lo hi m:Int}(h:Hid (qBa i s=⟨k,lo,hi,m⟩)) :
  Cl 87 #[i.v,v] w fun e a=>e=.returned (.agg #[I4 k,U8 lo,U8 hi,I4 m])/\Bw w a:=by
 have:=yEx i v s w f d c;rw [h.out] at this;exact this
theorem qOv {α β:Type}{f:α->List β}{n:Nat}{y:α}{vs:List β}{o:Nat}:∀ (l:List α) (k:Nat) (d:α),(∀ x∈l,(f x).length=n)->k<l.length->o+vs.length<=n->qEr (f (l.getD k d)) o vs=f y->qEr (l.flatMap f) (k*n+o) vs=(l.set k y).flatMap f:=by
 intro l
 induction l with
 | nil=>intro k d _ h;simp at h
 | cons x l ih =>
  intro k d a g b h;have c:(f x).length=n:=a x (by simp)
  cases k with
  | zero =>
   simp only [List.flatMap_cons,List.set_cons_zero,Nat.zero_mul,Nat.zero_add];rw [qSc _ _ _ _ (by omega)];rw [show (x :: l).getD 0 d=x from rfl] at h;rw [h]
  | succ k =>
   simp only [List.flatMap_cons,List.set_cons_succ];rw [show (k+1)*n+o=(f x).length+(k*n+o) by rw [c,Nat.succ_mul];omega,qRa];rw [ih k d (fun z i=>a z (by simp [i])) (by simpa using g) b (by simpa using h)]
theorem yNv {α β:Type}{f:α->List β}{n:Nat}:∀ (l:List α),(∀ x∈l,(f x).length=n)->(l.flatMap f).length=l.length*n:=by
 intro l
 induction l with
 | nil=>intro _;simp
 | cons x l ih =>
  intro h;rw [List.flatMap_cons,List.length_append,h x (by simp),ih (fun z a=>h z (by simp [a])),List.length_cons,Nat.succ_mul]
  omega
theorem yVh {α β:Type}{f:α->List β}{n:Nat}:∀ (l:List α) (k j:Nat) (d:α),(∀ x∈l,(f x).length=n)->k<l.length->j<n->(l.flatMap f)[k*n+j]? = (f (l.getD k d))[j]? := by
 intro l
 induction l with
 | nil=>intro k j d _ h;simp at h
 | cons x l ih =>
  intro k j d a c i;have b:(f x).length=n:=a x (by simp)
  cases k with
  | zero =>
   simp only [List.flatMap_cons,Nat.zero_mul,Nat.zero_add];rw [List.getElem?_append_left (by omega)]
   rfl
  | succ k =>
   simp only [List.flatMap_cons];rw [show (k+1)*n+j=(f x).length+(k*n+j) by rw [b,Nat.succ_mul];omega,List.getElem?_append_right (by omega),show (f x).length+(k*n+j)-(f x).length=k*n+j by omega];rw [ih k j d (fun z g=>a z (by simp [g])) (by simpa using c) i]
   simp

abbrev Kn:=List (Bool×St)
def kn0:Bool×St:=(false,stZ)
def qDw (K:Kn):List Value:=K.flatMap fun p=>stC p.1 p.2
def Eight (K:Kn):Prop:=∀ p∈K,p.2.length=8
theorem Eight.cells {K:Kn}(h:Eight K):∀ p∈K,(stC p.1 p.2).length=33:=fun p a=>qKs p.1 (h p a)
theorem Eight.at {K:Kn}(h:Eight K)(k:Nat):(K.getD k kn0).2.length=8:=by
 by_cases hk:k<K.length
 ·rw [show K.getD k kn0=K[k] by simp [List.getD,List.getElem?_eq_getElem hk]];exact h _ (List.getElem_mem hk)
 ·rw [show K.getD k kn0=kn0 by simp [List.getD,List.getElem?_eq_none (show K.length<=k by omega)]];rfl
theorem Eight.set {K:Kn}(h:Eight K)(k:Nat){p:Bool×St}(c:p.2.length=8):Eight (K.set k p):=fun q b=>by
 rcases List.mem_or_eq_of_mem_set b with a|a
 ·exact h q a
 ·rw [a];exact c
theorem qXn {K:Kn}(h:Eight K):(qDw K).length=K.length*33:=yNv K h.cells
theorem yDn {K:Kn}(h:Eight K){k j:Nat}(b:k<K.length)(a:j<33):(qDw K)[k*33+j]? = (stC (K.getD k kn0).1 (K.getD k kn0).2)[j]? := yVh K k j kn0 h.cells b a
theorem Hp.state {w:World}{b:Nat}{t:TypeId}{K:Kn}(h:Hp w b t (qDw K))(c:Eight K){k:Nat}(g:k<K.length){r:Bool}{s:St}(a:K.getD k kn0=(r,s)):StAt w b (k*33) r s:=by
 have d:=c.at k;rw [a] at d
 refine h.range fun j f=>?_
 rw [qKs r d] at f;rw [yDn c g f,a]
theorem Hp.put {w:World}{b:Nat}{t:TypeId}{K:Kn}(h:Hp w b t (qDw K))(c:Eight K){k:Nat}(d:k<K.length)(r:Bool){s:St}(a:s.length=8):Hp (w.setCells b (k*33) (stC r s)) b t (qDw (K.set k (r,s))):=by
 have:=h.sets (stC r s) (k*33);rw [show qEr (qDw K) (k*33) (stC r s)=qDw (K.set k (r,s)) from ?_] at this
 ·exact this
 ·have e:=qOv (f:=fun p:Bool×St=>stC p.1 p.2) (n:=33) (y:=(r,s)) (vs:=stC r s) (o:=0) K k kn0 c.cells d (by rw [qKs r a];omega) (qBo _ _ (by rw [qKs r a,qKs _ (c.at k)]));rw [Nat.add_zero] at e;exact e
theorem yGq {r:Bool}{s:St}{k:Nat}(t:Ty)(b:s.length=8)(c:k<8):qEr (stC r s) (1+k*4) (tyC t)=stC r (s.set k t):=by
 have e:=qRa (tyC t) [Value.bool r] (qAo s) (k*4);have a:=qOv (f:=tyC) (n:=4) (y:=t) (vs:=tyC t) (o:=0) s k Ty.nil (fun x _=>rfl) (by omega) (Nat.le_refl _) (qBo _ _ rfl);rw [Nat.add_zero] at a
 show qEr ([Value.bool r]++qAo s) (1+k*4) (tyC t)=_
 rw [show (1+k*4)=[Value.bool r].length+k*4 from rfl,e]
 show _=[Value.bool r]++qAo (s.set k t)
 unfold qAo;rw [a]
theorem Hp.putT {w:World}{b:Nat}{t:TypeId}{K:Kn}(h:Hp w b t (qDw K))(c:Eight K){k n:Nat}(g:k<K.length){r:Bool}{s:St}(a:K.getD k kn0=(r,s))(i:n<8)(u:Ty):Hp (setT w b (k*33+1+n*4) u) b t (qDw (K.set k (r,s.set n u))):=by
 have d:=c.at k;rw [a] at d;have:=h.sets (tyC u) (k*33+(1+n*4));rw [show qEr (qDw K) (k*33+(1+n*4)) (tyC u)=qDw (K.set k (r,s.set n u)) from ?_] at this
 ·rw [show k*33+1+n*4=k*33+(1+n*4) by omega];exact this
 ·exact qOv (f:=fun p:Bool×St=>stC p.1 p.2) (n:=33) (y:=(r,s.set n u)) (vs:=tyC u) (o:=1+n*4) K k kn0 c.cells g (by show 1+n*4+4<=33;omega) (by rw [a];exact yGq u d i)
theorem Hp.boxT {w:World}{b:Nat}{t:TypeId}{r:Bool}{s:St}(h:Hp w b t (stC r s))(a:s.length=8){n:Nat}(c:n<8)(u:Ty):Hp (setT w b (1+n*4) u) b t (stC r (s.set n u)):=by
 have:=h.sets (tyC u) (1+n*4);rw [yGq u a c] at this;exact this
theorem Hp.box {w:World}{b:Nat}{t:TypeId}{cs:List Value}{r:Bool}{s:St}(h:Hp w b t cs)(c:cs.length=33)(a:s.length=8):Hp (w.setCells b 0 (stC r s)) b t (stC r s):=by
 have:=h.sets (stC r s) 0;rw [qBo _ _ (by rw [qKs r a,c])] at this;exact this
theorem Hp.one {w:World}{b:Nat}{t:TypeId}{r:Bool}{s:St}(h:Hp w b t (stC r s)):StAt w b 0 r s:=h.range fun j _=>by rw [Nat.zero_add]
theorem qEm {w:World}{base:Nat}{e:TypeId}{v:Value}{xs:List Value}(h:w.ownsRow base e 4 v 8 xs):∃ g c,v=.slice (some ⟨g,0,none⟩) 8 c/\(base<=g/\g<w.heap.size)/\8<=c/\c<=9223372036854775807:=by
 have a:=h.lt
 rcases h.2 with ⟨_,h0⟩|⟨g,cap,f,rfl,_,_,d,b,_⟩
 ·omega
 ·exact ⟨g,cap,rfl,a g rfl,d,by unfold maxLen at b;omega⟩
theorem yKm (vm:Value)(cb co N ccap p:Nat)(d a b l:Int)(sb L o:Nat)(s:St)(M:Bool)(w:World)(aa:cb<w.heap.size)(a5:At w cb (co+p*5) ⟨0,d,a,b,l⟩)(af:p<N)(hN:N<=ccap)(ae:ccap<=9223372036854775807)(Y:SeesT w (.slice (some ⟨sb,L,none⟩) 8 o) s)(y:s.length=8)(hd:0<=d/\d<=7)(hb:b=8∨(0<=b/\b<=7)) :
  Cl 121 #[.agg #[vm,.slice (some ⟨cb,co,none⟩) N ccap],I4 p,.slice (some ⟨sb,L,none⟩) 8 o,.bool M] w fun e r=>∃ u,e=.returned (.tuple #[u,.bool true])/\r.ownsRow w.heap.size 153 4 u 8 (qAo (s.set d.toNat (qBa ⟨0,d,a,b,l⟩ s)))/\Bw w r:=by
 obtain ⟨c,rfl⟩:=Int.eq_ofNat_of_zero_le hd.1
 have R:c<8:=by omega
 have ac:(c:Int)<8:=by omega
 have ab:(0:Int)<=c:=by omega
 obtain ⟨i0,hi,a6,a7,a3⟩:=qEk;obtain ⟨m0,m1,m2,m3,m4⟩:=a5;simp only at m0 m1 m2 m3 m4;obtain ⟨Z,HZ,Q,V,ag⟩:∃ Z,Hid (Z=(w.alloc (.cells #[vm,.slice (some ⟨cb,co,none⟩) N ccap] 25)).alloc (qBr 0 c a b l))/\Box Z (w.heap.size+1) 0 c a b l/\Bw w Z/\Z.heap.size=w.heap.size+2 :=
  ⟨_,rfl,⟨by go_cell,by go_cell,by go_cell,by go_cell,by go_cell⟩,by go_grown,by simp⟩
 have T:Hid (SeesT Z (.slice (some ⟨sb,L,none⟩) 8 o) s):=Y.below V
 have ai:s≠[]:=fun e=>by rw [e] at y;simp at y
 clear Y;obtain ⟨A,I,F,J,HT⟩:∃ k lo hi m,Hid (qBa ⟨0,c,a,b,l⟩ s=⟨k,lo,hi,m⟩):=⟨_,_,_,_,rfl⟩;rw [HT.out];go_enter Tryz.func121,Tryz.ntmps121
 go_wp2_with (at_builtin;rw [<- HZ.out];go_must (refine qCc rfl (.tmp 26) (.tmp 27) 124 rfl Z.heap.size 153 i0 (tyV Ty.nil) Tryz.underlying124 hi a6 a7 a3 rfl _ [] rfl (qGw Z Z.heap.size (w.heap.size+1+1) (Nat.le_refl _) (by omega)) _ s rfl (T.out.below ((Below.refl _ _).alloc (Nat.le_refl _) _)) (by rw [y];unfold maxLen;simp) (by rw [y];simp) (by simp) ?_);intro v3 E n S;go_must (have z:Bw Z E:=((Below.refl _ _).alloc (Nat.le_refl _) _).grown S (by simp) (fun j hj=>by (have a9:w.heap.size+1+1=j:=Option.some.inj hj);omega);rw [List.nil_append,y] at n;obtain ⟨g,c3,rfl,a4,ad,ah⟩:=qEm n;have G:=Box.below Q z (by omega);obtain ⟨x0,x1,x2,x3,x4⟩:=id G;have a8:Hid (SeesT E (.slice (some ⟨sb,L,none⟩) 8 o) s):=T.out.below z;have a1:=z.size;clear S))
 go_region_held3 (fun r=>r.cell? ⟨w.heap.size+1,0,none⟩=some (I4 0)/\r.cell? ⟨w.heap.size+1,1,none⟩=some (I4 c)/\r.cell? ⟨w.heap.size+1,2,none⟩=some (I4 a)/\r.cell? ⟨w.heap.size+1,3,none⟩=some (I4 b)/\r.cell? ⟨w.heap.size+1,4,none⟩=some (I4 l))
  (first|with_reducible exact U|with_reducible exact P.out O U|exact G)
  (first
   | (go_at_call 87;go_must (refine (qDh (i:=⟨0,c,a,b,l⟩) (w:=E.drew) a8.out y hb HT).mono ?_);rintro e O ⟨rfl,D⟩;go_must (have K:Bw E O:=qAg D;have U:=Box.below G K (by omega);have f:=qCn n K (Nat.le_refl _);obtain ⟨y0,y1,y2,y3,q0,q1,q2,q3⟩:=qFk f R;have f0:=f.frozenAt (c*4);have f1:=f.frozenAt (c*4+1);have f2:=f.frozenAt (c*4+2);have f3:=f.frozenAt (c*4+3);(have a0:Hid ((setT O g (c*4) ⟨A,I,F,J⟩).ownsRow Z.heap.size 153 4 (.slice (some ⟨g,0,none⟩) 8 c3) 8 (qAo (s.set c ⟨A,I,F,J⟩))):=(qGp f c (by rw [y];exact R) ⟨A,I,F,J⟩).1);(have a2:Hid (Bw Z (setT O g (c*4) ⟨A,I,F,J⟩)):=qAz (z.trans (K.mono a1)) a4.1);(have P:Hid (∀ X:World,Box X (w.heap.size+1) 0 c a b l->Box (setT X g (c*4) ⟨A,I,F,J⟩) (w.heap.size+1) 0 c a b l):=fun X B=>⟨(qBq (by omega)).trans B.1,(qBq (by omega)).trans B.2.1,(qBq (by omega)).trans B.2.2.1,(qBq (by omega)).trans B.2.2.2.1,(qBq (by omega)).trans B.2.2.2.2⟩);clear D f)))
 go_wp2;go_ret2;exact ⟨_,rfl,qCe a0.out (by omega),V.trans (a2.out.mono (by omega))⟩
theorem yEz (vm:Value)(cb co N ccap p:Nat)(d a b i:Int)(sb E n:Nat)(s:St)(G:Bool)(w:World)(a7:cb<w.heap.size)(V:At w cb (co+p*5) ⟨11,d,a,b,i⟩)(a9:p<N)(hN:N<=ccap)(a3:ccap<=9223372036854775807)(S:SeesT w (.slice (some ⟨sb,E,none⟩) 8 n) s)(r:s.length=8)(hd:0<=d/\d<=7) :
  Cl 121 #[.agg #[vm,.slice (some ⟨cb,co,none⟩) N ccap],I4 p,.slice (some ⟨sb,E,none⟩) 8 n,.bool G] w fun e l=>∃ u,e=.returned (.tuple #[u,.bool true])/\l.ownsRow w.heap.size 153 4 u 8 (qAo (s.set d.toNat qEe))/\Bw w l:=by
 obtain ⟨f,rfl⟩:=Int.eq_ofNat_of_zero_le hd.1
 have O:f<8:=by omega
 have a6:(f:Int)<8:=by omega
 have aa:(0:Int)<=f:=by omega
 obtain ⟨i0,hi,Y,a0,a1⟩:=qEk;obtain ⟨m0,m1,m2,m3,m4⟩:=V;simp only at m0 m1 m2 m3 m4;obtain ⟨Z,HZ,J,M,ab⟩:∃ Z,Hid (Z=(w.alloc (.cells #[vm,.slice (some ⟨cb,co,none⟩) N ccap] 25)).alloc (qBr 11 f a b i))/\Box Z (w.heap.size+1) 11 f a b i/\Bw w Z/\Z.heap.size=w.heap.size+2 :=
  ⟨_,rfl,⟨by go_cell,by go_cell,by go_cell,by go_cell,by go_cell⟩,by go_grown,by simp⟩
 have K:Hid (SeesT Z (.slice (some ⟨sb,E,none⟩) 8 n) s):=S.below M
 have a8:s≠[]:=fun e=>by rw [e] at r;simp at r
 clear S;go_enter Tryz.func121,Tryz.ntmps121
 go_wp2_with (first
  | (at_builtin;rw [<- HZ.out];go_must (refine qCc rfl (.tmp 26) (.tmp 27) 124 rfl Z.heap.size 153 i0 (tyV Ty.nil) Tryz.underlying124 hi Y a0 a1 rfl _ [] rfl (qGw Z Z.heap.size (w.heap.size+1+1) (Nat.le_refl _) (by omega)) _ s rfl (K.out.below ((Below.refl _ _).alloc (Nat.le_refl _) _)) (by rw [r];unfold maxLen;simp) (by rw [r];simp) (by simp) ?_);intro v3 y k P;go_must (have o:Bw Z y:=((Below.refl _ _).alloc (Nat.le_refl _) _).grown P (by simp) (fun j hj=>by (have a4:w.heap.size+1+1=j:=Option.some.inj hj);omega);rw [List.nil_append,r] at k;obtain ⟨g,c3,rfl,R,a2,a5⟩:=qEm k;have z:=Box.below J o (by omega);obtain ⟨x0,x1,x2,x3,x4⟩:=id z;have ac:Hid (SeesT y (.slice (some ⟨sb,E,none⟩) 8 n) s):=K.out.below o;have U:=o.size;clear P))
  | (go_at_call 67;go_must (refine (qCu _ _).mono ?_);rintro e l ⟨rfl,rfl⟩;rw [show qAv 11=false from rfl]))
 go_region_held3 (fun l=>l.cell? ⟨w.heap.size+1,0,none⟩=some (I4 11)/\l.cell? ⟨w.heap.size+1,1,none⟩=some (I4 f)/\l.cell? ⟨w.heap.size+1,2,none⟩=some (I4 a)/\l.cell? ⟨w.heap.size+1,3,none⟩=some (I4 b)/\l.cell? ⟨w.heap.size+1,4,none⟩=some (I4 i))
  (first|with_reducible exact L|with_reducible exact I.out F L|exact z)
  (first
   | (go_at_call 85;go_must (refine (qSq y.drew).mono ?_);rintro e F ⟨rfl,A⟩;go_must (have D:Bw y F:=qAg A;have L:=Box.below z D (by omega);have c:=qCn k D (Nat.le_refl _);obtain ⟨y0,y1,y2,y3,q0,q1,q2,q3⟩:=qFk c O;have f0:=c.frozenAt (f*4);have f1:=c.frozenAt (f*4+1);have f2:=c.frozenAt (f*4+2);have f3:=c.frozenAt (f*4+3);(have T:Hid ((setT F g (f*4) qEe).ownsRow Z.heap.size 153 4 (.slice (some ⟨g,0,none⟩) 8 c3) 8 (qAo (s.set f qEe))):=(qGp c f (by rw [r];exact O) qEe).1);(have X:Hid (Bw Z (setT F g (f*4) qEe)):=qAz (o.trans (D.mono U)) R.1);(have I:Hid (∀ Q:World,Box Q (w.heap.size+1) 11 f a b i->Box (setT Q g (f*4) qEe) (w.heap.size+1) 11 f a b i):=fun Q B=>⟨(qBq (by omega)).trans B.1,(qBq (by omega)).trans B.2.1,(qBq (by omega)).trans B.2.2.1,(qBq (by omega)).trans B.2.2.2.1,(qBq (by omega)).trans B.2.2.2.2⟩);clear A c)))
 go_wp2;go_ret2;exact ⟨_,rfl,qCe T.out (by omega),M.trans (X.out.mono (by omega))⟩
theorem yCp (vm:Value)(cb co N ccap p:Nat)(d a b i:Int)(sb E n:Nat)(s:St)(G:Bool)(w:World)(a7:cb<w.heap.size)(V:At w cb (co+p*5) ⟨13,d,a,b,i⟩)(a9:p<N)(hN:N<=ccap)(a3:ccap<=9223372036854775807)(S:SeesT w (.slice (some ⟨sb,E,none⟩) 8 n) s)(r:s.length=8)(hd:0<=d/\d<=7) :
  Cl 121 #[.agg #[vm,.slice (some ⟨cb,co,none⟩) N ccap],I4 p,.slice (some ⟨sb,E,none⟩) 8 n,.bool G] w fun e l=>∃ u,e=.returned (.tuple #[u,.bool true])/\l.ownsRow w.heap.size 153 4 u 8 (qAo (s.set d.toNat qEe))/\Bw w l:=by
 obtain ⟨f,rfl⟩:=Int.eq_ofNat_of_zero_le hd.1
 have O:f<8:=by omega
 have a6:(f:Int)<8:=by omega
 have aa:(0:Int)<=f:=by omega
 obtain ⟨i0,hi,Y,a0,a1⟩:=qEk;obtain ⟨m0,m1,m2,m3,m4⟩:=V;simp only at m0 m1 m2 m3 m4;obtain ⟨Z,HZ,J,M,ab⟩:∃ Z,Hid (Z=(w.alloc (.cells #[vm,.slice (some ⟨cb,co,none⟩) N ccap] 25)).alloc (qBr 13 f a b i))/\Box Z (w.heap.size+1) 13 f a b i/\Bw w Z/\Z.heap.size=w.heap.size+2 :=
  ⟨_,rfl,⟨by go_cell,by go_cell,by go_cell,by go_cell,by go_cell⟩,by go_grown,by simp⟩
 have K:Hid (SeesT Z (.slice (some ⟨sb,E,none⟩) 8 n) s):=S.below M
 have a8:s≠[]:=fun e=>by rw [e] at r;simp at r
 clear S;go_enter Tryz.func121,Tryz.ntmps121
 go_wp2_with (first
  | (at_builtin;rw [<- HZ.out];go_must (refine qCc rfl (.tmp 26) (.tmp 27) 124 rfl Z.heap.size 153 i0 (tyV Ty.nil) Tryz.underlying124 hi Y a0 a1 rfl _ [] rfl (qGw Z Z.heap.size (w.heap.size+1+1) (Nat.le_refl _) (by omega)) _ s rfl (K.out.below ((Below.refl _ _).alloc (Nat.le_refl _) _)) (by rw [r];unfold maxLen;simp) (by rw [r];simp) (by simp) ?_);intro v3 y k P;go_must (have o:Bw Z y:=((Below.refl _ _).alloc (Nat.le_refl _) _).grown P (by simp) (fun j hj=>by (have a4:w.heap.size+1+1=j:=Option.some.inj hj);omega);rw [List.nil_append,r] at k;obtain ⟨g,c3,rfl,R,a2,a5⟩:=qEm k;have z:=Box.below J o (by omega);obtain ⟨x0,x1,x2,x3,x4⟩:=id z;have ac:Hid (SeesT y (.slice (some ⟨sb,E,none⟩) 8 n) s):=K.out.below o;have U:=o.size;clear P))
  | (go_at_call 67;go_must (refine (qCu _ _).mono ?_);rintro e l ⟨rfl,rfl⟩;rw [show qAv 13=false from rfl]))
 go_region_held3 (fun l=>l.cell? ⟨w.heap.size+1,0,none⟩=some (I4 13)/\l.cell? ⟨w.heap.size+1,1,none⟩=some (I4 f)/\l.cell? ⟨w.heap.size+1,2,none⟩=some (I4 a)/\l.cell? ⟨w.heap.size+1,3,none⟩=some (I4 b)/\l.cell? ⟨w.heap.size+1,4,none⟩=some (I4 i))
  (first|with_reducible exact L|with_reducible exact I.out F L|exact z)
  (first
   | (go_at_call 85;go_must (refine (qSq y.drew).mono ?_);rintro e F ⟨rfl,A⟩;go_must (have D:Bw y F:=qAg A;have L:=Box.below z D (by omega);have c:=qCn k D (Nat.le_refl _);obtain ⟨y0,y1,y2,y3,q0,q1,q2,q3⟩:=qFk c O;have f0:=c.frozenAt (f*4);have f1:=c.frozenAt (f*4+1);have f2:=c.frozenAt (f*4+2);have f3:=c.frozenAt (f*4+3);(have T:Hid ((setT F g (f*4) qEe).ownsRow Z.heap.size 153 4 (.slice (some ⟨g,0,none⟩) 8 c3) 8 (qAo (s.set f qEe))):=(qGp c f (by rw [r];exact O) qEe).1);(have X:Hid (Bw Z (setT F g (f*4) qEe)):=qAz (o.trans (D.mono U)) R.1);(have I:Hid (∀ Q:World,Box Q (w.heap.size+1) 13 f a b i->Box (setT Q g (f*4) qEe) (w.heap.size+1) 13 f a b i):=fun Q B=>⟨(qBq (by omega)).trans B.1,(qBq (by omega)).trans B.2.1,(qBq (by omega)).trans B.2.2.1,(qBq (by omega)).trans B.2.2.2.1,(qBq (by omega)).trans B.2.2.2.2⟩);clear A c)))
 go_wp2;go_ret2;exact ⟨_,rfl,qCe T.out (by omega),M.trans (X.out.mono (by omega))⟩
theorem yHp (vm:Value)(cb co N ccap p:Nat)(d a b i:Int)(sb r k:Nat)(s:St)(y:Bool)(w:World)(a6:cb<w.heap.size)(L:At w cb (co+p*5) ⟨14,d,a,b,i⟩)(a8:p<N)(hN:N<=ccap)(a1:ccap<=9223372036854775807)(I:SeesT w (.slice (some ⟨sb,r,none⟩) 8 k) s)(n:s.length=8)(X:0<=d/\d<=7) :
  Cl 121 #[.agg #[vm,.slice (some ⟨cb,co,none⟩) N ccap],I4 p,.slice (some ⟨sb,r,none⟩) 8 k,.bool y] w fun e F=>∃ u,e=.returned (.tuple #[u,.bool true])/\F.ownsRow w.heap.size 153 4 u 8 (qAo (s.set d.toNat ⟨2,0,0,i⟩))/\Bw w F:=by
 obtain ⟨f,rfl⟩:=Int.eq_ofNat_of_zero_le X.1
 have D:f<8:=by omega
 have a5:(f:Int)<8:=by omega
 have a9:(0:Int)<=f:=by omega
 obtain ⟨U,hi,O,P,Q⟩:=qEk;obtain ⟨m0,R,V,S,T⟩:=L;simp only at m0 R V S T;obtain ⟨Z,HZ,z,B,aa⟩:∃ Z,Hid (Z=(w.alloc (.cells #[vm,.slice (some ⟨cb,co,none⟩) N ccap] 25)).alloc (qBr 14 f a b i))/\Box Z (w.heap.size+1) 14 f a b i/\Bw w Z/\Z.heap.size=w.heap.size+2 :=
  ⟨_,rfl,⟨by go_cell,by go_cell,by go_cell,by go_cell,by go_cell⟩,by go_grown,by simp⟩
 have A:Hid (SeesT Z (.slice (some ⟨sb,r,none⟩) 8 k) s):=I.below B
 have a7:s≠[]:=fun e=>by rw [e] at n;simp at n
 clear I;go_enter Tryz.func121,Tryz.ntmps121
 go_wp2_with (first
  | (at_builtin;rw [<- HZ.out];go_must (refine qCc rfl (.tmp 26) (.tmp 27) 124 rfl Z.heap.size 153 U (tyV Ty.nil) Tryz.underlying124 hi O P Q rfl _ [] rfl (qGw Z Z.heap.size (w.heap.size+1+1) (Nat.le_refl _) (by omega)) _ s rfl (A.out.below ((Below.refl _ _).alloc (Nat.le_refl _) _)) (by rw [n];unfold maxLen;simp) (by rw [n];simp) (by simp) ?_);intro v3 o c E;go_must (have l:Bw Z o:=((Below.refl _ _).alloc (Nat.le_refl _) _).grown E (by simp) (fun j Y=>by (have a2:w.heap.size+1+1=j:=Option.some.inj Y);omega);rw [List.nil_append,n] at c;obtain ⟨g,c3,rfl,G,a0,a4⟩:=qEm c;have K:=Box.below z l (by omega);obtain ⟨x0,x1,x2,x3,x4⟩:=id K;have ab:Hid (SeesT o (.slice (some ⟨sb,r,none⟩) 8 k) s):=A.out.below l;have a3:=l.size;obtain ⟨y0,y1,y2,y3,q0,q1,q2,q3⟩:=qFk c D;have f0:=c.frozenAt (f*4);have f1:=c.frozenAt (f*4+1);have f2:=c.frozenAt (f*4+2);have f3:=c.frozenAt (f*4+3);(have J:Hid ((setT o g (f*4) ⟨2,0,0,i⟩).ownsRow Z.heap.size 153 4 (.slice (some ⟨g,0,none⟩) 8 c3) 8 (qAo (s.set f ⟨2,0,0,i⟩))):=(qGp c f (by rw [n];exact D) ⟨2,0,0,i⟩).1);(have M:Hid (Bw Z (setT o g (f*4) ⟨2,0,0,i⟩)):=qAz l G.1);clear E c))
  | (go_at_call 67;go_must (refine (qCu _ _).mono ?_);rintro e F ⟨rfl,rfl⟩;rw [show qAv 14=false from rfl]))
 go_ret2;exact ⟨_,rfl,qCe J.out (by omega),B.trans (M.out.mono (by omega))⟩
theorem yIy {h:Int}{k lo hi m:Int}{b:Bool}(c:Hid (qCs h=(⟨k,lo,hi,m⟩,b)))(w:World):Cl 144 #[I4 h] w fun e a=>e=.returned (.tuple #[.agg #[I4 k,U8 lo,U8 hi,I4 m],.bool b])/\Bw w a:=by
 have:=yFq h w;rw [c.out] at this;exact this
theorem yVa {w:World}{base g n cap:Nat}{e:TypeId}{xs:List Ty}(h:w.ownsRow base e 4 (.slice (some ⟨g,0,none⟩) n cap) n (qAo xs))(a:0<xs.length)(k lo hi m:Int) :
  ((((w.setCell ⟨g,0,none⟩ (I4 k)).setCell ⟨g,1,none⟩ (U8 lo)).setCell ⟨g,2,none⟩ (U8 hi)).setCell ⟨g,3,none⟩ (I4 m)).ownsRow base e 4 (.slice (some ⟨g,0,none⟩) n cap) n (qAo (xs.set 0 ⟨k,lo,hi,m⟩)):=by
 have:=(qGp h 0 a ⟨k,lo,hi,m⟩).1
 simpa only [setT,Nat.zero_mul,Nat.zero_add] using this
theorem yEr (vm:Value)(cb co N ccap p:Nat)(d a b l:Int)(sb E i:Nat)(s:St)(F:Bool)(w:World)(a4:cb<w.heap.size)(T:At w cb (co+p*5) ⟨21,d,a,b,l⟩)(a6:p<N)(hN:N<=ccap)(a1:ccap<=9223372036854775807)(O:SeesT w (.slice (some ⟨sb,E,none⟩) 8 i) s)(z:s.length=8) :
  Cl 121 #[.agg #[vm,.slice (some ⟨cb,co,none⟩) N ccap],I4 p,.slice (some ⟨sb,E,none⟩) 8 i,.bool F] w fun e M=>∃ u,e=.returned (.tuple #[u,.bool true])/\M.ownsRow w.heap.size 153 4 u 8 (qAo (s.set 0 (qCs l).1))/\Bw w M:=by
 obtain ⟨i0,hi,V,X,Y⟩:=qEk;obtain ⟨m0,m1,m2,m3,m4⟩:=T;simp only at m0 m1 m2 m3 m4;obtain ⟨Z,HZ,G,J,a7⟩:∃ Z,Hid (Z=(w.alloc (.cells #[vm,.slice (some ⟨cb,co,none⟩) N ccap] 25)).alloc (qBr 21 d a b l))/\Box Z (w.heap.size+1) 21 d a b l/\Bw w Z/\Z.heap.size=w.heap.size+2 :=
  ⟨_,rfl,⟨by go_cell,by go_cell,by go_cell,by go_cell,by go_cell⟩,by go_grown,by simp⟩
 have I:Hid (SeesT Z (.slice (some ⟨sb,E,none⟩) 8 i) s):=O.below J
 have a5:s≠[]:=fun e=>by rw [e] at z;simp at z
 clear O;obtain ⟨y,B,A,D,tb,HT⟩:∃ k lo hi m b,Hid (qCs l=(⟨k,lo,hi,m⟩,b)):=⟨_,_,_,_,_,rfl⟩;rw [HT.out];go_enter Tryz.func121,Tryz.ntmps121
 go_wp2_with (first
  | (at_builtin;rw [<- HZ.out];go_must (refine qCc rfl (.tmp 26) (.tmp 27) 124 rfl Z.heap.size 153 i0 (tyV Ty.nil) Tryz.underlying124 hi V X Y rfl _ [] rfl (qGw Z Z.heap.size (w.heap.size+1+1) (Nat.le_refl _) (by omega)) _ s rfl (I.out.below ((Below.refl _ _).alloc (Nat.le_refl _) _)) (by rw [z];unfold maxLen;simp) (by rw [z];simp) (by simp) ?_);intro v3 P c K;go_must (have o:Bw Z P:=((Below.refl _ _).alloc (Nat.le_refl _) _).grown K (by simp) (fun j hj=>by (have a2:w.heap.size+1+1=j:=Option.some.inj hj);omega);rw [List.nil_append,z] at c;obtain ⟨g,c3,rfl,n,a0,a3⟩:=qEm c;have S:=Box.below G o (by omega);obtain ⟨x0,x1,x2,x3,x4⟩:=id S;have a9:Hid (SeesT P (.slice (some ⟨sb,E,none⟩) 8 i) s):=I.out.below o;have R:=o.size;clear K))
  | (go_at_call 67;go_must (refine (qCu _ _).mono ?_);rintro e M ⟨rfl,rfl⟩;rw [show qAv 21=false from rfl])
  | (go_at_call 144;go_must (refine (yIy HT _).mono ?_);rintro e L ⟨rfl,f⟩;go_must (have a8:=f.size;have r:=qCn c f (Nat.le_refl _);have aa:g<L.heap.size:=(by omega);obtain ⟨y0,y1,y2,y3,q0,q1,q2,q3⟩:=qFk (qCn c f (Nat.le_refl _)) (k:=0) (by omega);have f0:=(qCn c f (Nat.le_refl _)).frozenAt 0;have f1:=(qCn c f (Nat.le_refl _)).frozenAt 1;have f2:=(qCn c f (Nat.le_refl _)).frozenAt 2;have f3:=(qCn c f (Nat.le_refl _)).frozenAt 3;simp only [Nat.zero_mul,Nat.zero_add] at q0 q1 q2 q3;(have Q:Hid ((((((L.setCell ⟨g,0,none⟩ (I4 y)).setCell ⟨g,1,none⟩ (U8 B)).setCell ⟨g,2,none⟩ (U8 A)).setCell ⟨g,3,none⟩ (I4 D)).alloc (tyO ⟨y,B,A,D⟩)).ownsRow Z.heap.size 153 4 (.slice (some ⟨g,0,none⟩) 8 c3) 8 (qAo (s.set 0 ⟨y,B,A,D⟩))):=(yVa r (by rw [z];omega) y B A D).alloc _);(have U:Hid (Bw Z (((((L.setCell ⟨g,0,none⟩ (I4 y)).setCell ⟨g,1,none⟩ (U8 B)).setCell ⟨g,2,none⟩ (U8 A)).setCell ⟨g,3,none⟩ (I4 D)).alloc (tyO ⟨y,B,A,D⟩))):=Below.alloc (qAb (qAb (qAb (qAb (o.trans (f.mono R)) n.1) n.1) n.1) n.1) (by simp [World.setCell];omega) _);clear r)))
 go_ret2;refine ⟨_,rfl,?_,?_⟩
 ·exact qCe Q.out (by omega)
 ·exact J.trans (U.out.mono (by omega))
theorem yCm (vm:Value)(cb co N ccap p:Nat)(op d a b l:Int)(sb n f:Nat)(s:St)(r:Bool)(w:World)(a3:cb<w.heap.size)(G:At w cb (co+p*5) ⟨op,d,a,b,l⟩)(a4:p<N)(hN:N<=ccap)(X:ccap<=9223372036854775807)(D:SeesT w (.slice (some ⟨sb,n,none⟩) 8 f) s)(k:s.length=8)(J:op=12∨op=15∨op=20∨op=22) :
  Cl 121 #[.agg #[vm,.slice (some ⟨cb,co,none⟩) N ccap],I4 p,.slice (some ⟨sb,n,none⟩) 8 f,.bool r] w fun e o=>∃ u,e=.returned (.tuple #[u,.bool true])/\o.ownsRow w.heap.size 153 4 u 8 (qAo s)/\Bw w o:=by
 obtain ⟨Q,hi,I,K,L⟩:=qEk;obtain ⟨m0,M,R,O,P⟩:=G;simp only at m0 M R O P;obtain ⟨Z,T,y,A,a5⟩:∃ Z,Hid (Z=(w.alloc (.cells #[vm,.slice (some ⟨cb,co,none⟩) N ccap] 25)).alloc (qBr op d a b l))/\Box Z (w.heap.size+1) op d a b l/\Bw w Z/\Z.heap.size=w.heap.size+2 :=
  ⟨_,rfl,⟨by go_cell,by go_cell,by go_cell,by go_cell,by go_cell⟩,by go_grown,by simp⟩
 have z:Hid (SeesT Z (.slice (some ⟨sb,n,none⟩) 8 f) s):=D.below A
 have a2:s≠[]:=fun e=>by rw [e] at k;simp at k
 clear D
 rcases J with rfl|rfl|rfl|rfl
 all_goals go_enter Tryz.func121,Tryz.ntmps121
 all_goals go_wp2_with (first
  | (at_builtin;rw [<- T.out];go_must (refine qCc rfl (.tmp 26) (.tmp 27) 124 rfl Z.heap.size 153 Q (tyV Ty.nil) Tryz.underlying124 hi I K L rfl _ [] rfl (qGw Z Z.heap.size (w.heap.size+1+1) (Nat.le_refl _) (by omega)) _ s rfl (z.out.below ((Below.refl _ _).alloc (Nat.le_refl _) _)) (by rw [k];unfold maxLen;simp) (by rw [k];simp) (by simp) ?_);intro v3 E c B;go_must (have i:Bw Z E:=((Below.refl _ _).alloc (Nat.le_refl _) _).grown B (by simp) (fun j S=>by (have Y:w.heap.size+1+1=j:=Option.some.inj S);omega);rw [List.nil_append,k] at c;obtain ⟨g,c3,rfl,U,V,a1⟩:=qEm c;have F:=Box.below y i (by omega);obtain ⟨x0,x1,x2,x3,x4⟩:=id F;have a6:Hid (SeesT E (.slice (some ⟨sb,n,none⟩) 8 f) s):=z.out.below i;have a0:=i.size;clear B))
  | (go_at_call 67;go_must (refine (qCu _ _).mono ?_);rintro e o ⟨rfl,rfl⟩;first|rw [show qAv 12=false from rfl]|rw [show qAv 15=false from rfl]|rw [show qAv 20=false from rfl]|rw [show qAv 22=false from rfl])
  | (go_at_call 64;go_must (refine (qCx _ _).mono ?_);rintro e o ⟨rfl,rfl⟩;first|rw [show qBw 12=false from rfl]|rw [show qBw 15=false from rfl]|rw [show qBw 20=false from rfl]|rw [show qBw 22=false from rfl]))
 all_goals go_ret2
 all_goals exact ⟨_,rfl,qCe c (by omega),A.trans (i.mono (by omega))⟩
theorem Tryz.infoSpan9:(Tryz.prog.info? 151).map (fun i=>(i.zero,i.size,i.bytes))=some (some (.agg #[U8 0,U8 0]),2,16):=by kernel_rfl
theorem yFn:∃ i,Tryz.prog.info? 151=some i/\i.zero=some (.agg #[U8 0,U8 0])/\i.size=2/\i.bytes=16:=by
 have h:=Tryz.infoSpan9;simp only [Option.map_eq_some_iff,Prod.mk.injEq] at h;obtain ⟨i,d,c,a,b⟩:=h;exact ⟨i,d,c,a,b⟩
theorem yPt (ss:List (Int×Int)):qBh (if qCj ss=true then some (qDe ss) else none)=.tuple #[.agg #[U8 (qDe ss).1,U8 (qDe ss).2],.bool (qCj ss)]:=by
 by_cases h:qCj ss=true
 ·rw [if_pos h,h];rfl
 ·have a:qCj ss=false:=by simpa using h
  rw [if_neg h,a];unfold qDe;rw [if_neg h];rfl
theorem yYm {v:Value}{ss:List (Int×Int)}{w:World}(c:SeesS w v ss)(a:∀ s∈ss,wfS s){lo hi:Int}{b:Bool}(f:Hid (qDe ss=(lo,hi)))(g:Hid (qCj ss=b)) :
  Cl 122 #[v] w fun e d=>e=.returned (.tuple #[.agg #[U8 lo,U8 hi],.bool b])/\Bw w d:=by
 have:=yNi v ss w c a;rw [yPt,f.out,g.out] at this;exact this
theorem yBp (w:World)(e:TypeId)(g:Nat)(b:g=w.heap.size)(lo hi:Int):∀ j u,(qFe [(lo,hi)])[j]? = some u->(w.alloc (.cells #[U8 lo,U8 hi] e)).cell? ((⟨g,0,none⟩:Addr).add j)=some u:=by
 subst b;intro j u a
 have c:qFe [(lo,hi)]=[U8 lo,U8 hi]:=by simp [qFe]
 rw [c] at a;rw [Addr.add_mid,Nat.zero_add,World.cell?_alloc_at _ _ _ _ rfl]
 simpa using a
theorem qXe (l:List Ty)(k:Nat)(h:k<l.length):l.take (k+1)=l.take k++[l.getD k Ty.nil]:=by
 rw [List.take_succ_eq_append_getElem h];simp [List.getD,h]
theorem yKy {l:List Ty}{k:Nat}(b:k<l.length)(h:qFc (l.getD 0 Ty.nil) (l.getD k Ty.nil)=false):qEn l=Ty.nil:=by
 unfold qEn;rw [if_neg];intro a;have:=(List.all_eq_true.1 a) (l.getD k Ty.nil) (by simp [List.getD,b]);rw [h] at this;cases this
theorem BxT.parts {w:World}{n:Nat}{t:Ty}(h:BxT w n 0 t):w.cell? ⟨n,0,none⟩=some (I4 t.k)/\w.cell? ⟨n,1,none⟩=some (U8 t.lo)/\w.cell? ⟨n,2,none⟩=some (U8 t.hi)/\w.cell? ⟨n,3,none⟩=some (I4 t.m) /\
  w.frozen? ⟨n,0,none⟩=false/\w.frozen? ⟨n,1,none⟩=false/\w.frozen? ⟨n,2,none⟩=false/\w.frozen? ⟨n,3,none⟩=false:=⟨h.1.1,h.1.2.1,h.1.2.2.1,h.1.2.2.2,h.2.1,h.2.2.1,h.2.2.2.1,h.2.2.2.2⟩
theorem BxT.grown {w a:World}{n off:Nat}{t:Ty}{r:Option Nat}(h:BxT w n off t)(i:w.grownBy a r)(g:n<w.heap.size)(d:some n≠r):BxT a n off t:=by
 have f:a.heap[n]? = w.heap[n]? := i.block n g d
 have b:∀ j,a.cell? ⟨n,j,none⟩=w.cell? ⟨n,j,none⟩:=fun j=>by simp only [World.cell?,f]
 have c:∀ j,a.frozen? ⟨n,j,none⟩=w.frozen? ⟨n,j,none⟩:=fun j=>by simp only [World.frozen?,f]
 unfold BxT AtT;rw [b,b,b,b,c,c,c,c];exact h
theorem yIq (v:Value)(l:List Ty)(w:World)(hs:SeesT w v l)(a1:l≠[])(hw:∀ t∈l,(0<=t.lo/\t.lo<=18446744073709551615)/\(0<=t.hi/\t.hi<=18446744073709551615))(ab:l.length<=1048576) :
  Cl 83 #[v] w fun e w'=>e=.returned (tyV (qEn l))/\Bw w w':=by
 obtain ⟨i0,hi,a4,a6,a3⟩:=yFn;obtain ⟨a,cap,rfl,a9,aa,_,O⟩:=hs;obtain ⟨bk,off,rfl,a5,Y⟩:=O a1;unfold maxLen at aa;obtain ⟨n,S⟩:∃ n,Hid (l.length=n):=⟨_,rfl⟩
 have aj:0<n:=by rw [<- S.out];exact List.length_pos_iff.2 a1
 obtain ⟨u,A,D,y,Q⟩:∃ k lo hi m,Hid (l.getD 0 Ty.nil=⟨k,lo,hi,m⟩):=⟨_,_,_,_,rfl⟩;have HW:Hid (∀ t∈l,(0<=t.lo/\t.lo<=18446744073709551615)/\(0<=t.hi/\t.hi<=18446744073709551615)):=hw
 have ag:Hid (AtT w bk off ⟨u,A,D,y⟩):=by
  have:=Y 0 (by rw [S.out];exact aj);rw [Q.out,Nat.zero_mul,Nat.add_zero] at this;exact this
 rw [S.out] at a9 ab ⊢;have ak:Hid (∀ k,k<l.length->AtT w bk (off+k*4) (l.getD k Ty.nil)):=Y;clear Y O hw;go_enter Tryz.func83,Tryz.ntmps83;go_wp2
 go_loopw [3,4] (fun sp i wr=>∃ k:Nat,k<=n/\i=I4 k/\wr.ownsRow (w.heap.size+1) 151 2 sp k (qFe (qCm (l.take k)))/\Hid ((l.take k).all (qFc ⟨u,A,D,y⟩)=true)/\BxT wr w.heap.size 0 Ty.nil/\Bw w wr/\w.heap.size<wr.heap.size) (fun _ i _=>n-(intOf i).toNat)
 case atStart=>exact ⟨0,by omega,rfl,⟨rfl,.inl ⟨rfl,rfl⟩⟩,rfl,yGv w,(Below.refl _ _).alloc (Nat.le_refl _) _,by simp⟩
 case round =>
  obtain ⟨k,hk,rfl,c,a0,hX,d,Z⟩:=hrel;have R:Hid (BxT wr w.heap.size 0 Ty.nil):=hX;obtain ⟨c0,c1,c2,c3,f0,f1,f2,f3⟩:=hX.parts;obtain ⟨x0,x1,x2,x3⟩:=ag.out.below d a5;simp only at x0 x1 x2 x3;clear hX
  by_cases hkn:k<n
  ·have P:k<l.length:=by rw [S.out];exact hkn
   obtain ⟨F,I,G,T,HT⟩:∃ k' lo hi m,Hid (l.getD k Ty.nil=⟨k',lo,hi,m⟩):=⟨_,_,_,_,rfl⟩;have hA:=(ak.out k P).below d a5;rw [HT.out] at hA;obtain ⟨t0,t1,t2,t3⟩:=hA;simp only at t0 t1 t2 t3
   have o:Hid (qFc ⟨u,A,D,y⟩ ⟨F,I,G,T⟩=false->qEn l=Ty.nil):=fun e=>yKy P (by rw [Q.out,HT.out];exact e)
   have g:Hid (qFc ⟨u,A,D,y⟩ ⟨F,I,G,T⟩=true->(l.take (k+1)).all (qFc ⟨u,A,D,y⟩)=true):=fun e=>by
    rw [qXe l k P,List.all_append,a0.out,HT.out];simp [e]
   have a2:Hid (qCm (l.take (k+1))=qCm (l.take k)++[(I,G)]):=by show _=_;rw [qXe l k P,HT.out];simp [qCm]
   by_cases hkk:F=u
   case neg =>
    have af:(F != u)=true:=by simp [hkk]
    have M:Hid (qEn l=Ty.nil):=o.out (by simp [qFc,hkk]);clear o g hkk;go_wp2;go_region;go_wp2;rw [M.out];exact qEg rfl rfl (t:=Ty.nil) (show BxT wr.drew w.heap.size 0 Ty.nil from R.out) (qIv d 1) (Nat.le_refl _)
   subst hkk
   have al:Hid (qFc ⟨F,A,D,y⟩ ⟨F,I,G,T⟩=true->True):=fun _=>trivial
   by_cases h2:F=2
   ·subst h2
    by_cases hmm:T=y
    case neg =>
     have ad:(T != y)=true:=by simp [hmm]
     have M:Hid (qEn l=Ty.nil):=o.out (by simp [qFc,hmm]);clear o g hmm;go_wp2;go_region;go_wp2;rw [M.out];exact qEg rfl rfl (t:=Ty.nil) (show BxT wr.drew w.heap.size 0 Ty.nil from R.out) (qIv d 1) (Nat.le_refl _)
    subst hmm;have z:=g.out (by simp [qFc]);have J:Hid ((l.take (k+1)).all (qFc ⟨2,A,D,T⟩)=true):=z;clear z g o;go_wp2;go_region
    go_wp2_with (at_builtin;go_must (refine wpList_append_own _ rfl (.tmp 44) (.tmp 50) 198 rfl (w.heap.size+1) 151 i0 (.agg #[U8 0,U8 0]) 2 16 Tryz.underlying198 hi a4 a6 a3 rfl (by decide) _ _ _ rfl (c.drew.alloc _) ⟨_,0,none⟩ 1 1 (qFe [(I,G)]) rfl rfl (yBp _ _ _ (by first|rfl|simp) I G) (qXp _) (by unfold maxLen;omega) (by omega) (by simp;omega) ?_);intro v6 B r f _;go_must (have L:=f;have V:Hid (Bw w B):=((qIv d 1).alloc d.size _).grown f (by have:=d.size;first|omega|(simp;done)|(simp;omega)) (fun j hj=>by have:=(c.lt j hj).1;omega);have E:Hid (BxT B w.heap.size 0 Ty.nil):=BxT.grown (BxT.below (show BxT wr.drew w.heap.size 0 Ty.nil from R.out) ((Below.refl _ _).alloc (Nat.le_refl _) _) Z) f (by first|omega|(simp;done)|(simp;omega)) (fun e=>by have:=(c.lt _ e.symm).1;omega);(have X:w.heap.size<B.heap.size:=by (have:=f.size);simp at this;omega);rw [qXc,<- a2.out] at r;clear f L))
    go_roundw
    case rel=>exact ⟨k+1,by omega,by go_num,r,J,E.out,V.out,X⟩
    case measure=>simp [intOf];omega
   ·have ad:(F==2)=false:=by simp [h2]
    have z:=g.out (by simp [qFc,h2]);have J:Hid ((l.take (k+1)).all (qFc ⟨F,A,D,y⟩)=true):=z;clear z g o;go_wp2;go_region
    go_wp2_with (at_builtin;go_must (refine wpList_append_own _ rfl (.tmp 44) (.tmp 50) 198 rfl (w.heap.size+1) 151 i0 (.agg #[U8 0,U8 0]) 2 16 Tryz.underlying198 hi a4 a6 a3 rfl (by decide) _ _ _ rfl (c.drew.alloc _) ⟨_,0,none⟩ 1 1 (qFe [(I,G)]) rfl rfl (yBp _ _ _ (by first|rfl|simp) I G) (qXp _) (by unfold maxLen;omega) (by omega) (by simp;omega) ?_);intro v6 B r f _;go_must (have L:=f;have V:Hid (Bw w B):=((qIv d 1).alloc d.size _).grown f (by have:=d.size;first|omega|(simp;done)|(simp;omega)) (fun j hj=>by have:=(c.lt j hj).1;omega);have E:Hid (BxT B w.heap.size 0 Ty.nil):=BxT.grown (BxT.below (show BxT wr.drew w.heap.size 0 Ty.nil from R.out) ((Below.refl _ _).alloc (Nat.le_refl _) _) Z) f (by first|omega|(simp;done)|(simp;omega)) (fun e=>by have:=(c.lt _ e.symm).1;omega);(have X:w.heap.size<B.heap.size:=by (have:=f.size);simp at this;omega);rw [qXc,<- a2.out] at r;clear f L))
    go_roundw
    case rel=>exact ⟨k+1,by omega,by go_num,r,J,E.out,V.out,X⟩
    case measure=>simp [intOf];omega
  ·obtain rfl:k=n:=by omega
   have e:l.take k=l:=by rw [<- S.out];exact List.take_length
   have U:Hid (l.all (qFc ⟨u,A,D,y⟩)=true):=by have:=a0.out;rw [e] at this;exact this
   rw [e] at c
   by_cases h1:u=1
   ·subst h1
    have e2:(qCm l).length=k:=by rw [qCm,List.length_map];exact S.out
    have N:wr.ownsRow (w.heap.size+1) 151 2 u3 (qCm l).length (qFe (qCm l)):=by rw [e2];exact c
    have ac:Hid (SeesS wr u3 (qCm l)):=qXb N;clear e2 N
    have ae:Hid (∀ s∈qCm l,wfS s):=fun s hs=>by
     obtain ⟨t,ht,rfl⟩:=List.mem_map.1 hs;exact HW.out t ht
    obtain ⟨jl,jh,HJ⟩:∃ a b,Hid (qDe (qCm l)=(a,b)):=⟨_,_,rfl⟩;obtain ⟨jb,HB⟩:∃ b,Hid (qCj (qCm l)=b):=⟨_,rfl⟩
    have M:Hid (qEn l=qHk jl jh):=by
     show _=_
     unfold qEn;rw [Q.out,if_pos U.out,if_pos rfl,HJ.out]
    clear c
    go_wp2_with (first
     | (go_at_call 122;go_must (refine (yYm ac.out ae.out HJ HB).mono ?_);rintro e w5 ⟨rfl,a8⟩;go_must (have ah:=a8.size))
     | (go_at_call 123;go_must (refine (qIm _ _ _).mono ?_);rintro e B ⟨rfl,a7⟩;go_must (have K:Bw wr B:=(a8.alloc ah _).trans (a7.mono (by simp;omega));have E:Hid (BxT B w.heap.size 0 Ty.nil):=R.out.below K Z;have ai:Bw w B:=d.trans (K.mono d.size);obtain ⟨c0,c1,c2,c3,f0,f1,f2,f3⟩:=E.out.parts;clear a7 K)))
    rw [M.out];exact qEg rfl rfl (t:=qHk jl jh) E.out ai (Nat.le_refl _)
   ·have af:(u==1)=false:=by simp [h1]
    have M:Hid (qEn l=⟨u,A,D,y⟩):=by
     show _=_
     unfold qEn;rw [Q.out,if_pos U.out,if_neg h1]
    clear c h1;go_wp2;rw [M.out];exact qEg rfl rfl (t:=⟨u,A,D,y⟩) R.out d (Nat.le_refl _)
end Go.Proofs.YtmdhljoicnommaaGreat
