/-
  JSt
  J9Fits
  JHp
  J9LeavesA
  J9LeavesB
  J9Joined
-/
import Derived.Test.YtmdhljoicnommaaGreatMS23
import Derived.Test.YtmdhljoicnommaaGreatMS14
import Derived.Test.YtmdhljoicnommaaGreatMS24
import Derived.Test.YtmdhljoicnommaaGreatMS21
namespace Go.Proofs.YtmdhljoicnommaaGreat
set_option maxHeartbeats 12800000
open Go.RowKit
set_option linter.unusedVariables false
set_option maxRecDepth 100000
def stC (r:Bool) (s:St):List Value:=.bool r :: flatT s
theorem stC_len (r:Bool){s:St}(h:s.length=8):(stC r s).length=33:=by simp [stC,flatT_len,h]
theorem qCw (r:Bool){s:St}(h:s.length=8):(stC r s).toArray.size=33:=by rw [List.size_toArray];exact stC_len r h
theorem stC_one (r:Bool)(s:St):∀ u∈stC r s,u.oneCell'=true:=by
 intro u a
 rcases List.mem_cons.1 a with rfl|h
 ·rfl
 ·exact flatT_one s u h
theorem stC_all (r:Bool)(s:St):(stC r s).toArray.all (·.oneCell')=true:=all_oneCell_toArray (stC_one r s)
theorem stC_at (r:Bool)(s:St)(k j:Nat)(a:k<s.length)(b:j<4):(stC r s)[1+k*4+j]? = (tyC (s.getD k Ty.nil))[j]? := by
 rw [show 1+k*4+j=(k*4+j)+1 by omega];unfold stC;rw [List.getElem?_cons_succ];exact flatT_at s k j a b
abbrev stV (r:Bool) (s:St):Value:=.agg (stC r s).toArray
abbrev stO (r:Bool) (s:St):Obj:=.cells (stC r s).toArray 156
def stZ:St:=List.replicate 8 Ty.nil
theorem stZ_len:stZ.length=8:=rfl
def StAt (w:World) (b o:Nat) (r:Bool) (s:St):Prop:=w.rangeAt b o (stC r s)
theorem StAt.cell {w:World}{b o:Nat}{r:Bool}{s:St}(h:StAt w b o r s):w.cell? ⟨b,o,none⟩=some (.bool r):=h 0 _ rfl
theorem StAt.typ {w:World}{b o:Nat}{r:Bool}{s:St}(h:StAt w b o r s)(g:s.length=8){k:Nat}(f:k<8):AtT w b (o+1+k*4) (s.getD k Ty.nil):=by
 refine cells_atT fun j d=>?_
 have a:=stC_at r s k j (by omega) d
 have c:j=0∨j=1∨j=2∨j=3:=by omega
 rcases c with rfl|rfl|rfl|rfl<;>(rw [show (tyC (s.getD k Ty.nil))[_]? = some _ from rfl] at a ⊢;have:=h _ _ a;rw [<- this];congr 2;omega)
theorem StAt.below {w a:World}{b o B:Nat}{r:Bool}{s:St}(h:StAt w b o r s)(d:Below B w a)(c:b<B):StAt a b o r s:=fun j v f=>by
 rw [d.cell (p:=⟨b,o+j,none⟩) c];exact h j v f
theorem stAt_new (w:World)(r:Bool)(s:St):StAt (w.alloc (stO r s)) w.heap.size 0 r s:=fun j v a=>by
 rw [cell_of_row _ _ _ _ _ _ (heap_alloc_new w (stO r s))]
 simpa using a
theorem jnum_any (lo hi:Int)(w:World):Cl 123 #[U8 lo,U8 hi] w fun e a=>e=.returned (tyV ⟨1,lo,hi,0⟩)/\Bw w a:=by
 go_enter Tryz.func123,Tryz.ntmps123;go_wp2;refine bodyPost_ret (v:=tyV ⟨1,lo,hi,0⟩) ?_ rfl ⟨rfl,by go_grown⟩;rw [qAm rfl]
 simp [asAddr,Result.andThen]
 rw [qCm (k:=1) (lo:=lo) (hi:=hi) (m:=0)]
 refine ⟨?_,?_,?_,?_⟩<;>go_cell
theorem qBx {c:Func}{p:Tmp}{w b:World}{n B:Nat}{a:Array Value}{o t:Ty}(g:c.results=#[.cell p 153])(d:a.getD p undef=.pointer (some ⟨n,0,none⟩))(k:BxT b n 0 o)(l:Below B w b)(f:B<=n):bodyPost Tryz.prog c (fun e i=>e=.returned (tyV t)/\Below B w i) .ret ⟨a,[]⟩ (setT b n 0 t):=by
 refine bodyPost_ret (v:=tyV t) ?_ rfl ⟨rfl,qAn l f⟩;rw [qAm g,d];simp only [asAddr,Sem.run_pure,Result.andThen];rw [qCm (k.1.set t)]
theorem box_keptN {w a:World}(n:Nat)(b:n=w.heap.size)(h:Below (w.alloc (tyO Ty.nil)).heap.size (w.alloc (tyO Ty.nil)) a):Below n w a/\n<a.heap.size/\Hid (BxT a n 0 Ty.nil) /\
  a.cell? ⟨n,0,none⟩=some (I4 0)/\a.cell? ⟨n,1,none⟩=some (U8 0)/\a.cell? ⟨n,2,none⟩=some (U8 0)/\a.cell? ⟨n,3,none⟩=some (I4 0) /\
  a.frozen? ⟨n,0,none⟩=false/\a.frozen? ⟨n,1,none⟩=false/\a.frozen? ⟨n,2,none⟩=false/\a.frozen? ⟨n,3,none⟩=false:=by
 subst b;exact qBz h
theorem box_one {w a:World}{o:Obj}{n:Nat}(b:n=(w.alloc o).heap.size)(h:Below n (w.alloc o) a):Bw w a:=by
 subst b;exact ((Below.refl _ _).alloc (Nat.le_refl _) o).trans (h.mono (by simp))
theorem jfull_any (w:World):Cl 85 #[] w fun e c=>e=.returned (tyV fullT)/\Bw w c:=by
 go_enter Tryz.func85,Tryz.ntmps85
 go_wp2_with (go_at_call 123;go_must (refine (jnum_any _ _ _).mono ?_);rintro e i ⟨rfl,a⟩;go_must (obtain ⟨b,o,d,g,s,l,f,k,r,n,f3⟩:=qBz a;clear a))
 exact qBx rfl rfl (t:=fullT) d.out b (Nat.le_refl _)
theorem jfits_any (a b:Ty)(w:World):Cl 90 #[tyV a,tyV b] w fun e s=>e=.returned (.bool (fitsJ a b))/\Bw w s:=by
 obtain ⟨ak,g,d,am⟩:=a;obtain ⟨l,f,k,i⟩:=b
 by_cases h0:l=0
 ·subst h0
  have c:Hid (fitsJ ⟨ak,g,d,am⟩ ⟨0,f,k,i⟩=true):=by show _=_;unfold fitsJ;simp
  go_enter Tryz.func90,Tryz.ntmps90;go_wp2;go_ret;exact ⟨rb c.out.symm,by go_grown⟩
 by_cases hk:ak=l
 case neg =>
  have c:Hid (fitsJ ⟨ak,g,d,am⟩ ⟨l,f,k,i⟩=false):=by show _=_;unfold fitsJ;simp [h0,hk]
  go_enter Tryz.func90,Tryz.ntmps90;go_wp2;go_ret;exact ⟨rb c.out.symm,by go_grown⟩
 subst hk
 by_cases h1:ak=1
 ·subst h1;obtain ⟨r,n⟩:∃ r,Hid (r=withinB g d f k):=⟨_,rfl⟩
  have c:Hid (fitsJ ⟨1,g,d,am⟩ ⟨1,f,k,i⟩=r):=by show _=_;unfold fitsJ;simp [<- n.out]
  go_enter Tryz.func90,Tryz.ntmps90
  go_wp2_with (go_at_call 125;go_must (refine (rwithin_any _ _ _ _ _).mono ?_);rintro e u ⟨rfl,o⟩;rw [<- n.out])
  go_ret;exact ⟨rb c.out.symm,grow2b o⟩
 ·have c:Hid (fitsJ ⟨ak,g,d,am⟩ ⟨ak,f,k,i⟩=decide (am=i)):=by show _=_;unfold fitsJ;simp [h0,h1]
  go_enter Tryz.func90,Tryz.ntmps90;go_wp2;go_ret;exact ⟨rb (by rw [c.out];rfl),by go_grown⟩
theorem jfits_as {a b:Ty}{r:Bool}(h:Hid (r=fitsJ a b))(w:World):Cl 90 #[tyV a,tyV b] w fun e c=>e=.returned (.bool r)/\Bw w c:=by
 rw [h.out];exact jfits_any a b w
theorem jsource_any (i:In)(v:Value)(s:St)(w:World)(G:SeesT w v s)(o:s.length=8)(M:i.b=8∨(0<=i.b/\i.b<=7)) :
  Cl 87 #[i.v,v] w fun e N=>e=.returned (tyV (srcT i s))/\Bw w N:=by
 obtain ⟨op,d,a,b,c⟩:=i;simp only at M
 by_cases h8:b=8
 ·subst h8
  have hw:IntKind.u64.wrap c=u64 c:=by rw [IntKind.wrap_u64];rfl
  have B:Hid (srcT ⟨op,d,a,8,c⟩ s=num2 (u64 c) (u64 c)):=by show _=_;unfold srcT;rw [if_pos rfl]
  clear G;go_enter Tryz.func87,Tryz.ntmps87
  go_wp2_with (go_at_call 123;go_must (refine (jnum_any _ _ _).mono ?_);rintro e w1 ⟨rfl,g⟩;go_must (obtain ⟨E,S,L,Q,T,R,P,V,Z,X,f3⟩:=box_keptN (w.heap.size+1) (by simp) g;clear g))
  rw [B.out];exact qBx rfl rfl (t:=num2 (u64 c) (u64 c)) L.out (box_one (by simp) E) (by omega)
 ·obtain ⟨r,rfl⟩:=Int.eq_ofNat_of_zero_le (show 0<=b by omega)
  have U:r<8:=by omega
  obtain ⟨ad,cap,rfl,D,y,_,f⟩:=G;obtain ⟨Y,off,rfl,O,l⟩:=f (fun e=>by rw [e] at o;simp at o);obtain ⟨n,z,A,u,F⟩:∃ k lo hi m,Hid (s.getD r Ty.nil=⟨k,lo,hi,m⟩):=⟨_,_,_,_,rfl⟩;have hA:=l r (by omega);rw [F.out] at hA
  have B:Hid (srcT ⟨op,d,a,r,c⟩ s=⟨n,z,A,u⟩):=by show _=_;unfold srcT regT;rw [if_neg h8];exact F.out
  unfold maxLen at y;rw [o] at D ⊢;obtain ⟨g0,J,K,I⟩:=hA;simp only at g0 J K I;clear l f;go_enter Tryz.func87,Tryz.ntmps87;go_wp2;rw [B.out];refine bodyPost_ret (v:=tyV ⟨n,z,A,u⟩) ?_ rfl ⟨rfl,by go_grown⟩;rw [qAm rfl]
  simp [asAddr,Result.andThen]
  rw [qCm (k:=n) (lo:=z) (hi:=A) (m:=u)]
  refine ⟨?_,?_,?_,?_⟩<;>go_cell
theorem qBl {i:In}{v:Value}{s:St}{w:World}(d:SeesT w v s)(c:s.length=8)(f:i.b=8∨(0<=i.b/\i.b<=7)){k lo hi m:Int}(h:Hid (srcT i s=⟨k,lo,hi,m⟩)) :
  Cl 87 #[i.v,v] w fun e a=>e=.returned (.agg #[I4 k,U8 lo,U8 hi,I4 m])/\Bw w a:=by
 have:=jsource_any i v s w d c f;rw [h.out] at this;exact this
theorem splice_flat {α β:Type}{f:α->List β}{n:Nat}{y:α}{vs:List β}{o:Nat}:∀ (l:List α) (k:Nat) (d:α),(∀ x∈l,(f x).length=n)->k<l.length->o+vs.length<=n->splice (f (l.getD k d)) o vs=f y->splice (l.flatMap f) (k*n+o) vs=(l.set k y).flatMap f:=by
 intro l
 induction l with
 | nil=>intro k d _ h;simp at h
 | cons x l ih =>
  intro k d a i b h;have g:(f x).length=n:=a x (by simp)
  cases k with
  | zero =>
   simp only [List.flatMap_cons,List.set_cons_zero,Nat.zero_mul,Nat.zero_add];rw [splice_ahead _ _ _ _ (by omega)];rw [show (x :: l).getD 0 d=x from rfl] at h;rw [h]
  | succ k =>
   simp only [List.flatMap_cons,List.set_cons_succ];rw [show (k+1)*n+o=(f x).length+(k*n+o) by rw [g,Nat.succ_mul];omega,splice_behind];rw [ih k d (fun z c=>a z (by simp [c])) (by simpa using i) b (by simpa using h)]
theorem flatN_len {α β:Type}{f:α->List β}{n:Nat}:∀ (l:List α),(∀ x∈l,(f x).length=n)->(l.flatMap f).length=l.length*n:=by
 intro l
 induction l with
 | nil=>intro _;simp
 | cons x l ih =>
  intro h;rw [List.flatMap_cons,List.length_append,h x (by simp),ih (fun z a=>h z (by simp [a])),List.length_cons,Nat.succ_mul]
  omega
theorem flatN_at {α β:Type}{f:α->List β}{n:Nat}:∀ (l:List α) (k j:Nat) (d:α),(∀ x∈l,(f x).length=n)->k<l.length->j<n->(l.flatMap f)[k*n+j]? = (f (l.getD k d))[j]? := by
 intro l
 induction l with
 | nil=>intro k j d _ h;simp at h
 | cons x l ih =>
  intro k j d a i g;have c:(f x).length=n:=a x (by simp)
  cases k with
  | zero =>
   simp only [List.flatMap_cons,Nat.zero_mul,Nat.zero_add];rw [List.getElem?_append_left (by omega)]
   rfl
  | succ k =>
   simp only [List.flatMap_cons];rw [show (k+1)*n+j=(f x).length+(k*n+j) by rw [c,Nat.succ_mul];omega,List.getElem?_append_right (by omega),show (f x).length+(k*n+j)-(f x).length=k*n+j by omega];rw [ih k j d (fun z b=>a z (by simp [b])) (by simpa using i) g]
   simp

abbrev Kn:=List (Bool×St)
def kn0:Bool×St:=(false,stZ)
def flatK (K:Kn):List Value:=K.flatMap fun p=>stC p.1 p.2
def Eight (K:Kn):Prop:=∀ p∈K,p.2.length=8
theorem Eight.cells {K:Kn}(h:Eight K):∀ p∈K,(stC p.1 p.2).length=33:=fun p a=>stC_len p.1 (h p a)
theorem Eight.at {K:Kn}(h:Eight K)(k:Nat):(K.getD k kn0).2.length=8:=by
 by_cases hk:k<K.length
 ·rw [show K.getD k kn0=K[k] by simp [List.getD,List.getElem?_eq_getElem hk]];exact h _ (List.getElem_mem hk)
 ·rw [show K.getD k kn0=kn0 by simp [List.getD,List.getElem?_eq_none (show K.length<=k by omega)]];rfl
theorem Eight.set {K:Kn}(h:Eight K)(k:Nat){p:Bool×St}(b:p.2.length=8):Eight (K.set k p):=fun q c=>by
 rcases List.mem_or_eq_of_mem_set c with a|a
 ·exact h q a
 ·rw [a];exact b
theorem flatK_len {K:Kn}(h:Eight K):(flatK K).length=K.length*33:=flatN_len K h.cells
theorem flatK_at {K:Kn}(h:Eight K){k j:Nat}(a:k<K.length)(b:j<33):(flatK K)[k*33+j]? = (stC (K.getD k kn0).1 (K.getD k kn0).2)[j]? := flatN_at K k j kn0 h.cells a b
theorem Hp.state {w:World}{b:Nat}{t:TypeId}{K:Kn}(h:Hp w b t (flatK K))(d:Eight K){k:Nat}(g:k<K.length){r:Bool}{s:St}(c:K.getD k kn0=(r,s)):StAt w b (k*33) r s:=by
 have a:=d.at k;rw [c] at a
 refine h.range fun j f=>?_
 rw [stC_len r a] at f;rw [flatK_at d g f,c]
theorem Hp.put {w:World}{b:Nat}{t:TypeId}{K:Kn}(h:Hp w b t (flatK K))(a:Eight K){k:Nat}(d:k<K.length)(r:Bool){s:St}(c:s.length=8):Hp (w.setCells b (k*33) (stC r s)) b t (flatK (K.set k (r,s))):=by
 have:=h.sets (stC r s) (k*33);rw [show splice (flatK K) (k*33) (stC r s)=flatK (K.set k (r,s)) from ?_] at this
 ·exact this
 ·have e:=splice_flat (f:=fun p:Bool×St=>stC p.1 p.2) (n:=33) (y:=(r,s)) (vs:=stC r s) (o:=0) K k kn0 a.cells d (by rw [stC_len r c];omega) (qAr _ _ (by rw [stC_len r c,stC_len _ (a.at k)]));rw [Nat.add_zero] at e;exact e
theorem stC_put {r:Bool}{s:St}{k:Nat}(t:Ty)(b:s.length=8)(c:k<8):splice (stC r s) (1+k*4) (tyC t)=stC r (s.set k t):=by
 have e:=splice_behind (tyC t) [Value.bool r] (flatT s) (k*4);have a:=splice_flat (f:=tyC) (n:=4) (y:=t) (vs:=tyC t) (o:=0) s k Ty.nil (fun x _=>rfl) (by omega) (Nat.le_refl _) (qAr _ _ rfl);rw [Nat.add_zero] at a
 show splice ([Value.bool r]++flatT s) (1+k*4) (tyC t)=_
 rw [show (1+k*4)=[Value.bool r].length+k*4 from rfl,e]
 show _=[Value.bool r]++flatT (s.set k t)
 unfold flatT;rw [a]
theorem Hp.putT {w:World}{b:Nat}{t:TypeId}{K:Kn}(h:Hp w b t (flatK K))(d:Eight K){k n:Nat}(i:k<K.length){r:Bool}{s:St}(a:K.getD k kn0=(r,s))(g:n<8)(u:Ty):Hp (setT w b (k*33+1+n*4) u) b t (flatK (K.set k (r,s.set n u))):=by
 have c:=d.at k;rw [a] at c;have:=h.sets (tyC u) (k*33+(1+n*4));rw [show splice (flatK K) (k*33+(1+n*4)) (tyC u)=flatK (K.set k (r,s.set n u)) from ?_] at this
 ·rw [show k*33+1+n*4=k*33+(1+n*4) by omega];exact this
 ·exact splice_flat (f:=fun p:Bool×St=>stC p.1 p.2) (n:=33) (y:=(r,s.set n u)) (vs:=tyC u) (o:=1+n*4) K k kn0 d.cells i (by show 1+n*4+4<=33;omega) (by rw [a];exact stC_put u c g)
theorem Hp.boxT {w:World}{b:Nat}{t:TypeId}{r:Bool}{s:St}(h:Hp w b t (stC r s))(c:s.length=8){n:Nat}(a:n<8)(u:Ty):Hp (setT w b (1+n*4) u) b t (stC r (s.set n u)):=by
 have:=h.sets (tyC u) (1+n*4);rw [stC_put u c a] at this;exact this
theorem Hp.box {w:World}{b:Nat}{t:TypeId}{cs:List Value}{r:Bool}{s:St}(h:Hp w b t cs)(a:cs.length=33)(c:s.length=8):Hp (w.setCells b 0 (stC r s)) b t (stC r s):=by
 have:=h.sets (stC r s) 0;rw [qAr _ _ (by rw [stC_len r c,a])] at this;exact this
theorem Hp.one {w:World}{b:Nat}{t:TypeId}{r:Bool}{s:St}(h:Hp w b t (stC r s)):StAt w b 0 r s:=h.range fun j _=>by rw [Nat.zero_add]
theorem qCe {w:World}{base:Nat}{e:TypeId}{v:Value}{xs:List Value}(h:w.ownsRow base e 4 v 8 xs):∃ g c,v=.slice (some ⟨g,0,none⟩) 8 c/\(base<=g/\g<w.heap.size)/\8<=c/\c<=9223372036854775807:=by
 have a:=h.lt
 rcases h.2 with ⟨_,h0⟩|⟨g,cap,f,rfl,_,_,d,b,_⟩
 ·omega
 ·exact ⟨g,cap,rfl,a g rfl,d,by unfold maxLen at b;omega⟩
theorem leaves_set (vm:Value)(S co N o p:Nat)(d a b l:Int)(sb P r:Nat)(s:St)(Q:Bool)(w:World)(aa:S<w.heap.size)(a4:At w S (co+p*5) ⟨0,d,a,b,l⟩)(ad:p<N)(hN:N<=o)(a9:o<=9223372036854775807)(hs:SeesT w (.slice (some ⟨sb,P,none⟩) 8 r) s)(z:s.length=8)(hd:0<=d/\d<=7)(hb:b=8∨(0<=b/\b<=7)) :
  Cl 121 #[.agg #[vm,.slice (some ⟨S,co,none⟩) N o],I4 p,.slice (some ⟨sb,P,none⟩) 8 r,.bool Q] w fun e y=>∃ u,e=.returned (.tuple #[u,.bool true])/\y.ownsRow w.heap.size 153 4 u 8 (flatT (s.set d.toNat (srcT ⟨0,d,a,b,l⟩ s)))/\Bw w y:=by
 obtain ⟨c,rfl⟩:=Int.eq_ofNat_of_zero_le hd.1
 have Y:c<8:=by omega
 have af:(c:Int)<8:=by omega
 have ah:(0:Int)<=c:=by omega
 obtain ⟨i0,hi,a0,a1,a3⟩:=qCb;obtain ⟨m0,m1,m2,m3,m4⟩:=a4;simp only at m0 m1 m2 m3 m4;obtain ⟨Z,HZ,R,U,ae⟩:∃ Z,Hid (Z=(w.alloc (.cells #[vm,.slice (some ⟨S,co,none⟩) N o] 25)).alloc (instO 0 c a b l))/\Box Z (w.heap.size+1) 0 c a b l/\Bw w Z/\Z.heap.size=w.heap.size+2 :=
  ⟨_,rfl,⟨by go_cell,by go_cell,by go_cell,by go_cell,by go_cell⟩,by go_grown,by simp⟩
 have X:Hid (SeesT Z (.slice (some ⟨sb,P,none⟩) 8 r) s):=hs.below U
 have ab:s≠[]:=fun e=>by rw [e] at z;simp at z
 clear hs;obtain ⟨F,J,K,D,HT⟩:∃ k lo hi m,Hid (srcT ⟨0,c,a,b,l⟩ s=⟨k,lo,hi,m⟩):=⟨_,_,_,_,rfl⟩;rw [HT.out];go_enter Tryz.func121,Tryz.ntmps121
 go_wp2_with (at_builtin;rw [<- HZ.out];go_must (refine qAw rfl (.tmp 26) (.tmp 27) 124 rfl Z.heap.size 153 i0 (tyV Ty.nil) Tryz.underlying124 hi a0 a1 a3 rfl _ [] rfl (qCy Z Z.heap.size (w.heap.size+1+1) (Nat.le_refl _) (by omega)) _ s rfl (X.out.below ((Below.refl _ _).alloc (Nat.le_refl _) _)) (by rw [z];unfold maxLen;simp) (by rw [z];simp) (by simp) ?_);intro v3 L n T;go_must (have A:Bw Z L:=((Below.refl _ _).alloc (Nat.le_refl _) _).grown T (by simp) (fun j hj=>by (have ac:w.heap.size+1+1=j:=Option.some.inj hj);omega);rw [List.nil_append,z] at n;obtain ⟨g,c3,rfl,a6,ai,ag⟩:=qCe n;have G:=Box.below R A (by omega);obtain ⟨x0,x1,x2,x3,x4⟩:=id G;have a5:Hid (SeesT L (.slice (some ⟨sb,P,none⟩) 8 r) s):=X.out.below A;have a7:=A.size;clear T))
 go_region_held3 (fun y=>y.cell? ⟨w.heap.size+1,0,none⟩=some (I4 0)/\y.cell? ⟨w.heap.size+1,1,none⟩=some (I4 c)/\y.cell? ⟨w.heap.size+1,2,none⟩=some (I4 a)/\y.cell? ⟨w.heap.size+1,3,none⟩=some (I4 b)/\y.cell? ⟨w.heap.size+1,4,none⟩=some (I4 l))
  (first|with_reducible exact V|with_reducible exact O.out M V|exact G)
  (first
   | (go_at_call 87;go_must (refine (qBl (i:=⟨0,c,a,b,l⟩) (w:=L.drew) a5.out z hb HT).mono ?_);rintro e M ⟨rfl,B⟩;go_must (have I:Bw L M:=qAf B;have V:=Box.below G I (by omega);have f:=qBa n I (Nat.le_refl _);obtain ⟨y0,y1,y2,y3,q0,q1,q2,q3⟩:=qCl f Y;have f0:=f.frozenAt (c*4);have f1:=f.frozenAt (c*4+1);have f2:=f.frozenAt (c*4+2);have f3:=f.frozenAt (c*4+3);(have a2:Hid ((setT M g (c*4) ⟨F,J,K,D⟩).ownsRow Z.heap.size 153 4 (.slice (some ⟨g,0,none⟩) 8 c3) 8 (flatT (s.set c ⟨F,J,K,D⟩))):=(qCv f c (by rw [z];exact Y) ⟨F,J,K,D⟩).1);(have a8:Hid (Bw Z (setT M g (c*4) ⟨F,J,K,D⟩)):=qAn (A.trans (I.mono a7)) a6.1);(have O:Hid (∀ wx:World,Box wx (w.heap.size+1) 0 c a b l->Box (setT wx g (c*4) ⟨F,J,K,D⟩) (w.heap.size+1) 0 c a b l):=fun wx E=>⟨(qAs (by omega)).trans E.1,(qAs (by omega)).trans E.2.1,(qAs (by omega)).trans E.2.2.1,(qAs (by omega)).trans E.2.2.2.1,(qAs (by omega)).trans E.2.2.2.2⟩);clear B f)))
 go_wp2;go_ret2;exact ⟨_,rfl,qAx a2.out (by omega),U.trans (a8.out.mono (by omega))⟩
theorem leaves_load (Y:Value)(L T N l p:Nat)(d a b i:Int)(sb J n:Nat)(s:St)(G:Bool)(w:World)(a8:L<w.heap.size)(V:At w L (T+p*5) ⟨11,d,a,b,i⟩)(ab:p<N)(hN:N<=l)(af:l<=9223372036854775807)(hs:SeesT w (.slice (some ⟨sb,J,none⟩) 8 n) s)(y:s.length=8)(hd:0<=d/\d<=7) :
  Cl 121 #[.agg #[Y,.slice (some ⟨L,T,none⟩) N l],I4 p,.slice (some ⟨sb,J,none⟩) 8 n,.bool G] w fun e o=>∃ u,e=.returned (.tuple #[u,.bool true])/\o.ownsRow w.heap.size 153 4 u 8 (flatT (s.set d.toNat fullT))/\Bw w o:=by
 obtain ⟨f,rfl⟩:=Int.eq_ofNat_of_zero_le hd.1
 have Q:f<8:=by omega
 have a6:(f:Int)<8:=by omega
 have ac:(0:Int)<=f:=by omega
 obtain ⟨i0,hi,U,X,a3⟩:=qCb;obtain ⟨m0,m1,m2,m3,m4⟩:=V;simp only at m0 m1 m2 m3 m4;obtain ⟨Z,HZ,K,O,a5⟩:∃ Z,Hid (Z=(w.alloc (.cells #[Y,.slice (some ⟨L,T,none⟩) N l] 25)).alloc (instO 11 f a b i))/\Box Z (w.heap.size+1) 11 f a b i/\Bw w Z/\Z.heap.size=w.heap.size+2 :=
  ⟨_,rfl,⟨by go_cell,by go_cell,by go_cell,by go_cell,by go_cell⟩,by go_grown,by simp⟩
 have R:Hid (SeesT Z (.slice (some ⟨sb,J,none⟩) 8 n) s):=hs.below O
 have a9:s≠[]:=fun e=>by rw [e] at y;simp at y
 clear hs;go_enter Tryz.func121,Tryz.ntmps121
 go_wp2_with (first
  | (at_builtin;rw [<- HZ.out];go_must (refine qAw rfl (.tmp 26) (.tmp 27) 124 rfl Z.heap.size 153 i0 (tyV Ty.nil) Tryz.underlying124 hi U X a3 rfl _ [] rfl (qCy Z Z.heap.size (w.heap.size+1+1) (Nat.le_refl _) (by omega)) _ s rfl (R.out.below ((Below.refl _ _).alloc (Nat.le_refl _) _)) (by rw [y];unfold maxLen;simp) (by rw [y];simp) (by simp) ?_);intro v3 E k M;go_must (have r:Bw Z E:=((Below.refl _ _).alloc (Nat.le_refl _) _).grown M (by simp) (fun j hj=>by (have aa:w.heap.size+1+1=j:=Option.some.inj hj);omega);rw [List.nil_append,y] at k;obtain ⟨g,c3,rfl,a1,ae,a7⟩:=qCe k;have B:=Box.below K r (by omega);obtain ⟨x0,x1,x2,x3,x4⟩:=id B;have ad:Hid (SeesT E (.slice (some ⟨sb,J,none⟩) 8 n) s):=R.out.below r;have a2:=r.size;clear M))
  | (go_at_call 67;go_must (refine (qBe _ _).mono ?_);rintro e o ⟨rfl,rfl⟩;rw [show threeB 11=false from rfl]))
 go_region_held3 (fun o=>o.cell? ⟨w.heap.size+1,0,none⟩=some (I4 11)/\o.cell? ⟨w.heap.size+1,1,none⟩=some (I4 f)/\o.cell? ⟨w.heap.size+1,2,none⟩=some (I4 a)/\o.cell? ⟨w.heap.size+1,3,none⟩=some (I4 b)/\o.cell? ⟨w.heap.size+1,4,none⟩=some (I4 i))
  (first|with_reducible exact P|with_reducible exact I.out F P|exact B)
  (first
   | (go_at_call 85;go_must (refine (jfull_any E.drew).mono ?_);rintro e F ⟨rfl,A⟩;go_must (have z:Bw E F:=qAf A;have P:=Box.below B z (by omega);have c:=qBa k z (Nat.le_refl _);obtain ⟨y0,y1,y2,y3,q0,q1,q2,q3⟩:=qCl c Q;have f0:=c.frozenAt (f*4);have f1:=c.frozenAt (f*4+1);have f2:=c.frozenAt (f*4+2);have f3:=c.frozenAt (f*4+3);(have a0:Hid ((setT F g (f*4) fullT).ownsRow Z.heap.size 153 4 (.slice (some ⟨g,0,none⟩) 8 c3) 8 (flatT (s.set f fullT))):=(qCv c f (by rw [y];exact Q) fullT).1);(have a4:Hid (Bw Z (setT F g (f*4) fullT)):=qAn (r.trans (z.mono a2)) a1.1);(have I:Hid (∀ S:World,Box S (w.heap.size+1) 11 f a b i->Box (setT S g (f*4) fullT) (w.heap.size+1) 11 f a b i):=fun S D=>⟨(qAs (by omega)).trans D.1,(qAs (by omega)).trans D.2.1,(qAs (by omega)).trans D.2.2.1,(qAs (by omega)).trans D.2.2.2.1,(qAs (by omega)).trans D.2.2.2.2⟩);clear A c)))
 go_wp2;go_ret2;exact ⟨_,rfl,qAx a0.out (by omega),O.trans (a4.out.mono (by omega))⟩
theorem leaves_field (Y:Value)(L T N l p:Nat)(d a b i:Int)(sb J n:Nat)(s:St)(G:Bool)(w:World)(a8:L<w.heap.size)(V:At w L (T+p*5) ⟨13,d,a,b,i⟩)(ab:p<N)(hN:N<=l)(af:l<=9223372036854775807)(hs:SeesT w (.slice (some ⟨sb,J,none⟩) 8 n) s)(y:s.length=8)(hd:0<=d/\d<=7) :
  Cl 121 #[.agg #[Y,.slice (some ⟨L,T,none⟩) N l],I4 p,.slice (some ⟨sb,J,none⟩) 8 n,.bool G] w fun e o=>∃ u,e=.returned (.tuple #[u,.bool true])/\o.ownsRow w.heap.size 153 4 u 8 (flatT (s.set d.toNat fullT))/\Bw w o:=by
 obtain ⟨f,rfl⟩:=Int.eq_ofNat_of_zero_le hd.1
 have Q:f<8:=by omega
 have a6:(f:Int)<8:=by omega
 have ac:(0:Int)<=f:=by omega
 obtain ⟨i0,hi,U,X,a3⟩:=qCb;obtain ⟨m0,m1,m2,m3,m4⟩:=V;simp only at m0 m1 m2 m3 m4;obtain ⟨Z,HZ,K,O,a5⟩:∃ Z,Hid (Z=(w.alloc (.cells #[Y,.slice (some ⟨L,T,none⟩) N l] 25)).alloc (instO 13 f a b i))/\Box Z (w.heap.size+1) 13 f a b i/\Bw w Z/\Z.heap.size=w.heap.size+2 :=
  ⟨_,rfl,⟨by go_cell,by go_cell,by go_cell,by go_cell,by go_cell⟩,by go_grown,by simp⟩
 have R:Hid (SeesT Z (.slice (some ⟨sb,J,none⟩) 8 n) s):=hs.below O
 have a9:s≠[]:=fun e=>by rw [e] at y;simp at y
 clear hs;go_enter Tryz.func121,Tryz.ntmps121
 go_wp2_with (first
  | (at_builtin;rw [<- HZ.out];go_must (refine qAw rfl (.tmp 26) (.tmp 27) 124 rfl Z.heap.size 153 i0 (tyV Ty.nil) Tryz.underlying124 hi U X a3 rfl _ [] rfl (qCy Z Z.heap.size (w.heap.size+1+1) (Nat.le_refl _) (by omega)) _ s rfl (R.out.below ((Below.refl _ _).alloc (Nat.le_refl _) _)) (by rw [y];unfold maxLen;simp) (by rw [y];simp) (by simp) ?_);intro v3 E k M;go_must (have r:Bw Z E:=((Below.refl _ _).alloc (Nat.le_refl _) _).grown M (by simp) (fun j hj=>by (have aa:w.heap.size+1+1=j:=Option.some.inj hj);omega);rw [List.nil_append,y] at k;obtain ⟨g,c3,rfl,a1,ae,a7⟩:=qCe k;have B:=Box.below K r (by omega);obtain ⟨x0,x1,x2,x3,x4⟩:=id B;have ad:Hid (SeesT E (.slice (some ⟨sb,J,none⟩) 8 n) s):=R.out.below r;have a2:=r.size;clear M))
  | (go_at_call 67;go_must (refine (qBe _ _).mono ?_);rintro e o ⟨rfl,rfl⟩;rw [show threeB 13=false from rfl]))
 go_region_held3 (fun o=>o.cell? ⟨w.heap.size+1,0,none⟩=some (I4 13)/\o.cell? ⟨w.heap.size+1,1,none⟩=some (I4 f)/\o.cell? ⟨w.heap.size+1,2,none⟩=some (I4 a)/\o.cell? ⟨w.heap.size+1,3,none⟩=some (I4 b)/\o.cell? ⟨w.heap.size+1,4,none⟩=some (I4 i))
  (first|with_reducible exact P|with_reducible exact I.out F P|exact B)
  (first
   | (go_at_call 85;go_must (refine (jfull_any E.drew).mono ?_);rintro e F ⟨rfl,A⟩;go_must (have z:Bw E F:=qAf A;have P:=Box.below B z (by omega);have c:=qBa k z (Nat.le_refl _);obtain ⟨y0,y1,y2,y3,q0,q1,q2,q3⟩:=qCl c Q;have f0:=c.frozenAt (f*4);have f1:=c.frozenAt (f*4+1);have f2:=c.frozenAt (f*4+2);have f3:=c.frozenAt (f*4+3);(have a0:Hid ((setT F g (f*4) fullT).ownsRow Z.heap.size 153 4 (.slice (some ⟨g,0,none⟩) 8 c3) 8 (flatT (s.set f fullT))):=(qCv c f (by rw [y];exact Q) fullT).1);(have a4:Hid (Bw Z (setT F g (f*4) fullT)):=qAn (r.trans (z.mono a2)) a1.1);(have I:Hid (∀ S:World,Box S (w.heap.size+1) 13 f a b i->Box (setT S g (f*4) fullT) (w.heap.size+1) 13 f a b i):=fun S D=>⟨(qAs (by omega)).trans D.1,(qAs (by omega)).trans D.2.1,(qAs (by omega)).trans D.2.2.1,(qAs (by omega)).trans D.2.2.2.1,(qAs (by omega)).trans D.2.2.2.2⟩);clear A c)))
 go_wp2;go_ret2;exact ⟨_,rfl,qAx a0.out (by omega),O.trans (a4.out.mono (by omega))⟩
theorem leaves_map (P:Value)(A I N k p:Nat)(d a b i:Int)(sb y l:Nat)(s:St)(r:Bool)(w:World)(a3:A<w.heap.size)(L:At w A (I+p*5) ⟨14,d,a,b,i⟩)(a6:p<N)(hN:N<=k)(ab:k<=9223372036854775807)(S:SeesT w (.slice (some ⟨sb,y,none⟩) 8 l) s)(o:s.length=8)(Y:0<=d/\d<=7) :
  Cl 121 #[.agg #[P,.slice (some ⟨A,I,none⟩) N k],I4 p,.slice (some ⟨sb,y,none⟩) 8 l,.bool r] w fun e J=>∃ u,e=.returned (.tuple #[u,.bool true])/\J.ownsRow w.heap.size 153 4 u 8 (flatT (s.set d.toNat ⟨2,0,0,i⟩))/\Bw w J:=by
 obtain ⟨f,rfl⟩:=Int.eq_ofNat_of_zero_le Y.1
 have F:f<8:=by omega
 have a1:(f:Int)<8:=by omega
 have a7:(0:Int)<=f:=by omega
 obtain ⟨i0,hi,K,M,T⟩:=qCb;obtain ⟨m0,m1,X,m3,m4⟩:=L;simp only at m0 m1 X m3 m4;obtain ⟨Z,HZ,z,E,a0⟩:∃ Z,Hid (Z=(w.alloc (.cells #[P,.slice (some ⟨A,I,none⟩) N k] 25)).alloc (instO 14 f a b i))/\Box Z (w.heap.size+1) 14 f a b i/\Bw w Z/\Z.heap.size=w.heap.size+2 :=
  ⟨_,rfl,⟨by go_cell,by go_cell,by go_cell,by go_cell,by go_cell⟩,by go_grown,by simp⟩
 have G:Hid (SeesT Z (.slice (some ⟨sb,y,none⟩) 8 l) s):=S.below E
 have a4:s≠[]:=fun e=>by rw [e] at o;simp at o
 clear S;go_enter Tryz.func121,Tryz.ntmps121
 go_wp2_with (first
  | (at_builtin;rw [<- HZ.out];go_must (refine qAw rfl (.tmp 26) (.tmp 27) 124 rfl Z.heap.size 153 i0 (tyV Ty.nil) Tryz.underlying124 hi K M T rfl _ [] rfl (qCy Z Z.heap.size (w.heap.size+1+1) (Nat.le_refl _) (by omega)) _ s rfl (G.out.below ((Below.refl _ _).alloc (Nat.le_refl _) _)) (by rw [o];unfold maxLen;simp) (by rw [o];simp) (by simp) ?_);intro v3 B c D;go_must (have n:Bw Z B:=((Below.refl _ _).alloc (Nat.le_refl _) _).grown D (by simp) (fun j hj=>by (have a5:w.heap.size+1+1=j:=Option.some.inj hj);omega);rw [List.nil_append,o] at c;obtain ⟨g,V,rfl,R,a9,a2⟩:=qCe c;have O:=Box.below z n (by omega);obtain ⟨x0,x1,x2,x3,x4⟩:=id O;have a8:Hid (SeesT B (.slice (some ⟨sb,y,none⟩) 8 l) s):=G.out.below n;have aa:=n.size;obtain ⟨y0,y1,y2,y3,q0,q1,q2,q3⟩:=qCl c F;have f0:=c.frozenAt (f*4);have f1:=c.frozenAt (f*4+1);have f2:=c.frozenAt (f*4+2);have f3:=c.frozenAt (f*4+3);(have Q:Hid ((setT B g (f*4) ⟨2,0,0,i⟩).ownsRow Z.heap.size 153 4 (.slice (some ⟨g,0,none⟩) 8 V) 8 (flatT (s.set f ⟨2,0,0,i⟩))):=(qCv c f (by rw [o];exact F) ⟨2,0,0,i⟩).1);(have U:Hid (Bw Z (setT B g (f*4) ⟨2,0,0,i⟩)):=qAn n R.1);clear D c))
  | (go_at_call 67;go_must (refine (qBe _ _).mono ?_);rintro e J ⟨rfl,rfl⟩;rw [show threeB 14=false from rfl]))
 go_ret2;exact ⟨_,rfl,qAx Q.out (by omega),E.trans (U.out.mono (by omega))⟩
theorem rresult_as {h:Int}{k lo hi m:Int}{b:Bool}(c:Hid (resL h=(⟨k,lo,hi,m⟩,b)))(w:World):Cl 144 #[I4 h] w fun e a=>e=.returned (.tuple #[.agg #[I4 k,U8 lo,U8 hi,I4 m],.bool b])/\Bw w a:=by
 have:=rresult_any h w;rw [c.out] at this;exact this
theorem own_set0 {w:World}{base g n cap:Nat}{e:TypeId}{xs:List Ty}(h:w.ownsRow base e 4 (.slice (some ⟨g,0,none⟩) n cap) n (flatT xs))(a:0<xs.length)(k lo hi m:Int) :
  ((((w.setCell ⟨g,0,none⟩ (I4 k)).setCell ⟨g,1,none⟩ (U8 lo)).setCell ⟨g,2,none⟩ (U8 hi)).setCell ⟨g,3,none⟩ (I4 m)).ownsRow base e 4 (.slice (some ⟨g,0,none⟩) n cap) n (flatT (xs.set 0 ⟨k,lo,hi,m⟩)):=by
 have:=(qCv h 0 a ⟨k,lo,hi,m⟩).1
 simpa only [setT,Nat.zero_mul,Nat.zero_add] using this
theorem leaves_call (X:Value)(J P N i p:Nat)(d a b n:Int)(sb G l:Nat)(s:St)(F:Bool)(w:World)(a5:J<w.heap.size)(S:At w J (P+p*5) ⟨21,d,a,b,n⟩)(a8:p<N)(hN:N<=i)(ac:i<=9223372036854775807)(hs:SeesT w (.slice (some ⟨sb,G,none⟩) 8 l) s)(E:s.length=8) :
  Cl 121 #[.agg #[X,.slice (some ⟨J,P,none⟩) N i],I4 p,.slice (some ⟨sb,G,none⟩) 8 l,.bool F] w fun e Q=>∃ u,e=.returned (.tuple #[u,.bool true])/\Q.ownsRow w.heap.size 153 4 u 8 (flatT (s.set 0 (resL n).1))/\Bw w Q:=by
 obtain ⟨i0,hi,R,T,a1⟩:=qCb;obtain ⟨m0,m1,m2,m3,m4⟩:=S;simp only at m0 m1 m2 m3 m4;obtain ⟨Z,HZ,I,L,a3⟩:∃ Z,Hid (Z=(w.alloc (.cells #[X,.slice (some ⟨J,P,none⟩) N i] 25)).alloc (instO 21 d a b n))/\Box Z (w.heap.size+1) 21 d a b n/\Bw w Z/\Z.heap.size=w.heap.size+2 :=
  ⟨_,rfl,⟨by go_cell,by go_cell,by go_cell,by go_cell,by go_cell⟩,by go_grown,by simp⟩
 have M:Hid (SeesT Z (.slice (some ⟨sb,G,none⟩) 8 l) s):=hs.below L
 have a6:s≠[]:=fun e=>by rw [e] at E;simp at E
 clear hs;obtain ⟨z,B,D,A,tb,U⟩:∃ k lo hi m b,Hid (resL n=(⟨k,lo,hi,m⟩,b)):=⟨_,_,_,_,_,rfl⟩;rw [U.out];go_enter Tryz.func121,Tryz.ntmps121
 go_wp2_with (first
  | (at_builtin;rw [<- HZ.out];go_must (refine qAw rfl (.tmp 26) (.tmp 27) 124 rfl Z.heap.size 153 i0 (tyV Ty.nil) Tryz.underlying124 hi R T a1 rfl _ [] rfl (qCy Z Z.heap.size (w.heap.size+1+1) (Nat.le_refl _) (by omega)) _ s rfl (M.out.below ((Below.refl _ _).alloc (Nat.le_refl _) _)) (by rw [E];unfold maxLen;simp) (by rw [E];simp) (by simp) ?_);intro v3 w3 c K;go_must (have y:Bw Z w3:=((Below.refl _ _).alloc (Nat.le_refl _) _).grown K (by simp) (fun j hj=>by (have a7:w.heap.size+1+1=j:=Option.some.inj hj);omega);rw [List.nil_append,E] at c;obtain ⟨g,c3,rfl,r,ab,a4⟩:=qCe c;have V:=Box.below I y (by omega);obtain ⟨x0,x1,x2,x3,x4⟩:=id V;have aa:Hid (SeesT w3 (.slice (some ⟨sb,G,none⟩) 8 l) s):=M.out.below y;have a0:=y.size;clear K))
  | (go_at_call 67;go_must (refine (qBe _ _).mono ?_);rintro e Q ⟨rfl,rfl⟩;rw [show threeB 21=false from rfl])
  | (go_at_call 144;go_must (refine (rresult_as U _).mono ?_);rintro e O ⟨rfl,f⟩;go_must (have a9:=f.size;have o:=qBa c f (Nat.le_refl _);have ad:g<O.heap.size:=(by omega);obtain ⟨y0,y1,y2,y3,q0,q1,q2,q3⟩:=qCl (qBa c f (Nat.le_refl _)) (k:=0) (by omega);have f0:=(qBa c f (Nat.le_refl _)).frozenAt 0;have f1:=(qBa c f (Nat.le_refl _)).frozenAt 1;have f2:=(qBa c f (Nat.le_refl _)).frozenAt 2;have f3:=(qBa c f (Nat.le_refl _)).frozenAt 3;simp only [Nat.zero_mul,Nat.zero_add] at q0 q1 q2 q3;(have Y:Hid ((((((O.setCell ⟨g,0,none⟩ (I4 z)).setCell ⟨g,1,none⟩ (U8 B)).setCell ⟨g,2,none⟩ (U8 D)).setCell ⟨g,3,none⟩ (I4 A)).alloc (tyO ⟨z,B,D,A⟩)).ownsRow Z.heap.size 153 4 (.slice (some ⟨g,0,none⟩) 8 c3) 8 (flatT (s.set 0 ⟨z,B,D,A⟩))):=(own_set0 o (by rw [E];omega) z B D A).alloc _);(have a2:Hid (Bw Z (((((O.setCell ⟨g,0,none⟩ (I4 z)).setCell ⟨g,1,none⟩ (U8 B)).setCell ⟨g,2,none⟩ (U8 D)).setCell ⟨g,3,none⟩ (I4 A)).alloc (tyO ⟨z,B,D,A⟩))):=Below.alloc (qAa (qAa (qAa (qAa (y.trans (f.mono a0)) r.1) r.1) r.1) r.1) (by simp [World.setCell];omega) _);clear o)))
 go_ret2;refine ⟨_,rfl,?_,?_⟩
 ·exact qAx Y.out (by omega)
 ·exact L.trans (a2.out.mono (by omega))
theorem leaves_still (L:Value)(z F N f p:Nat)(op d a b l:Int)(sb r i:Nat)(s:St)(o:Bool)(w:World)(a2:z<w.heap.size)(I:At w z (F+p*5) ⟨op,d,a,b,l⟩)(a5:p<N)(hN:N<=f)(aa:f<=9223372036854775807)(O:SeesT w (.slice (some ⟨sb,r,none⟩) 8 i) s)(n:s.length=8)(M:op=12∨op=15∨op=20∨op=22) :
  Cl 121 #[.agg #[L,.slice (some ⟨z,F,none⟩) N f],I4 p,.slice (some ⟨sb,r,none⟩) 8 i,.bool o] w fun e A=>∃ u,e=.returned (.tuple #[u,.bool true])/\A.ownsRow w.heap.size 153 4 u 8 (flatT s)/\Bw w A:=by
 obtain ⟨S,hi,G,J,P⟩:=qCb;obtain ⟨m0,T,R,V,X⟩:=I;simp only at m0 T R V X;obtain ⟨Z,U,y,D,a0⟩:∃ Z,Hid (Z=(w.alloc (.cells #[L,.slice (some ⟨z,F,none⟩) N f] 25)).alloc (instO op d a b l))/\Box Z (w.heap.size+1) op d a b l/\Bw w Z/\Z.heap.size=w.heap.size+2 :=
  ⟨_,rfl,⟨by go_cell,by go_cell,by go_cell,by go_cell,by go_cell⟩,by go_grown,by simp⟩
 have E:Hid (SeesT Z (.slice (some ⟨sb,r,none⟩) 8 i) s):=O.below D
 have a3:s≠[]:=fun e=>by rw [e] at n;simp at n
 clear O
 rcases M with rfl|rfl|rfl|rfl
 all_goals go_enter Tryz.func121,Tryz.ntmps121
 all_goals go_wp2_with (first
  | (at_builtin;rw [<- U.out];go_must (refine qAw rfl (.tmp 26) (.tmp 27) 124 rfl Z.heap.size 153 S (tyV Ty.nil) Tryz.underlying124 hi G J P rfl _ [] rfl (qCy Z Z.heap.size (w.heap.size+1+1) (Nat.le_refl _) (by omega)) _ s rfl (E.out.below ((Below.refl _ _).alloc (Nat.le_refl _) _)) (by rw [n];unfold maxLen;simp) (by rw [n];simp) (by simp) ?_);intro v3 Q c B;go_must (have k:Bw Z Q:=((Below.refl _ _).alloc (Nat.le_refl _) _).grown B (by simp) (fun j Y=>by (have a4:w.heap.size+1+1=j:=Option.some.inj Y);omega);rw [List.nil_append,n] at c;obtain ⟨g,c3,rfl,a8,a7,a1⟩:=qCe c;have K:=Box.below y k (by omega);obtain ⟨x0,x1,x2,x3,x4⟩:=id K;have a6:Hid (SeesT Q (.slice (some ⟨sb,r,none⟩) 8 i) s):=E.out.below k;have a9:=k.size;clear B))
  | (go_at_call 67;go_must (refine (qBe _ _).mono ?_);rintro e A ⟨rfl,rfl⟩;first|rw [show threeB 12=false from rfl]|rw [show threeB 15=false from rfl]|rw [show threeB 20=false from rfl]|rw [show threeB 22=false from rfl])
  | (go_at_call 64;go_must (refine (qBf _ _).mono ?_);rintro e A ⟨rfl,rfl⟩;first|rw [show jumpB 12=false from rfl]|rw [show jumpB 15=false from rfl]|rw [show jumpB 20=false from rfl]|rw [show jumpB 22=false from rfl]))
 all_goals go_ret2
 all_goals exact ⟨_,rfl,qAx c (by omega),D.trans (k.mono (by omega))⟩
theorem Tryz.infoSpan9:(Tryz.prog.info? 151).map (fun i=>(i.zero,i.size,i.bytes))=some (some (.agg #[U8 0,U8 0]),2,16):=by kernel_rfl
theorem infoS_parts:∃ i,Tryz.prog.info? 151=some i/\i.zero=some (.agg #[U8 0,U8 0])/\i.size=2/\i.bytes=16:=by
 have h:=Tryz.infoSpan9;simp only [Option.map_eq_some_iff,Prod.mk.injEq] at h;obtain ⟨i,d,b,c,a⟩:=h;exact ⟨i,d,b,c,a⟩
theorem optV_join (ss:List (Int×Int)):optV (if joinB ss=true then some (joinL ss) else none)=.tuple #[.agg #[U8 (joinL ss).1,U8 (joinL ss).2],.bool (joinB ss)]:=by
 by_cases h:joinB ss=true
 ·rw [if_pos h,h];rfl
 ·have a:joinB ss=false:=by simpa using h
  rw [if_neg h,a];unfold joinL;rw [if_neg h];rfl
theorem join_as {v:Value}{ss:List (Int×Int)}{w:World}(c:SeesS w v ss)(a:∀ s∈ss,wfS s){lo hi:Int}{b:Bool}(d:Hid (joinL ss=(lo,hi)))(g:Hid (joinB ss=b)) :
  Cl 122 #[v] w fun e f=>e=.returned (.tuple #[.agg #[U8 lo,U8 hi],.bool b])/\Bw w f:=by
 have:=rjoin_any v ss w c a;rw [optV_join,d.out,g.out] at this;exact this
theorem one_span (w:World)(e:TypeId)(g:Nat)(b:g=w.heap.size)(lo hi:Int):∀ j u,(flatS [(lo,hi)])[j]? = some u->(w.alloc (.cells #[U8 lo,U8 hi] e)).cell? ((⟨g,0,none⟩:Addr).add j)=some u:=by
 subst b;intro j u a
 have c:flatS [(lo,hi)]=[U8 lo,U8 hi]:=by simp [flatS]
 rw [c] at a;rw [Addr.add_mid,Nat.zero_add,World.cell?_alloc_at _ _ _ _ rfl]
 simpa using a
theorem take_step (l:List Ty)(k:Nat)(h:k<l.length):l.take (k+1)=l.take k++[l.getD k Ty.nil]:=by
 rw [List.take_succ_eq_append_getElem h];simp [List.getD,h]
theorem like_fails {l:List Ty}{k:Nat}(b:k<l.length)(h:likeB (l.getD 0 Ty.nil) (l.getD k Ty.nil)=false):joinT l=Ty.nil:=by
 unfold joinT;rw [if_neg];intro a;have:=(List.all_eq_true.1 a) (l.getD k Ty.nil) (by simp [List.getD,b]);rw [h] at this;cases this
theorem BxT.parts {w:World}{n:Nat}{t:Ty}(h:BxT w n 0 t):w.cell? ⟨n,0,none⟩=some (I4 t.k)/\w.cell? ⟨n,1,none⟩=some (U8 t.lo)/\w.cell? ⟨n,2,none⟩=some (U8 t.hi)/\w.cell? ⟨n,3,none⟩=some (I4 t.m) /\
  w.frozen? ⟨n,0,none⟩=false/\w.frozen? ⟨n,1,none⟩=false/\w.frozen? ⟨n,2,none⟩=false/\w.frozen? ⟨n,3,none⟩=false:=⟨h.1.1,h.1.2.1,h.1.2.2.1,h.1.2.2.2,h.2.1,h.2.2.1,h.2.2.2.1,h.2.2.2.2⟩
theorem BxT.grown {w a:World}{n off:Nat}{t:Ty}{r:Option Nat}(h:BxT w n off t)(g:w.grownBy a r)(i:n<w.heap.size)(f:some n≠r):BxT a n off t:=by
 have d:a.heap[n]? = w.heap[n]? := g.block n i f
 have b:∀ j,a.cell? ⟨n,j,none⟩=w.cell? ⟨n,j,none⟩:=fun j=>by simp only [World.cell?,d]
 have c:∀ j,a.frozen? ⟨n,j,none⟩=w.frozen? ⟨n,j,none⟩:=fun j=>by simp only [World.frozen?,d]
 unfold BxT AtT;rw [b,b,b,b,c,c,c,c];exact h
theorem joined_any (v:Value)(l:List Ty)(w:World)(hs:SeesT w v l)(a4:l≠[])(hw:∀ t∈l,(0<=t.lo/\t.lo<=18446744073709551615)/\(0<=t.hi/\t.hi<=18446744073709551615))(a9:l.length<=1048576) :
  Cl 83 #[v] w fun e w'=>e=.returned (tyV (joinT l))/\Bw w w':=by
 obtain ⟨i0,hi,a0,a2,a3⟩:=infoS_parts;obtain ⟨a,cap,rfl,ab,aa,_,N⟩:=hs;obtain ⟨bk,off,rfl,a1,X⟩:=N a4;unfold maxLen at aa;obtain ⟨n,T⟩:∃ n,Hid (l.length=n):=⟨_,rfl⟩
 have ag:0<n:=by rw [<- T.out];exact List.length_pos_iff.2 a4
 obtain ⟨y,A,D,u,O⟩:∃ k lo hi m,Hid (l.getD 0 Ty.nil=⟨k,lo,hi,m⟩):=⟨_,_,_,_,rfl⟩;have HW:Hid (∀ t∈l,(0<=t.lo/\t.lo<=18446744073709551615)/\(0<=t.hi/\t.hi<=18446744073709551615)):=hw
 have ak:Hid (AtT w bk off ⟨y,A,D,u⟩):=by
  have:=X 0 (by rw [T.out];exact ag);rw [O.out,Nat.zero_mul,Nat.add_zero] at this;exact this
 rw [T.out] at ab a9 ⊢;have ai:Hid (∀ k,k<l.length->AtT w bk (off+k*4) (l.getD k Ty.nil)):=X;clear X N hw;go_enter Tryz.func83,Tryz.ntmps83;go_wp2
 go_loopw [3,4] (fun sp i wr=>∃ k:Nat,k<=n/\i=I4 k/\wr.ownsRow (w.heap.size+1) 151 2 sp k (flatS (spansT (l.take k)))/\Hid ((l.take k).all (likeB ⟨y,A,D,u⟩)=true)/\BxT wr w.heap.size 0 Ty.nil/\Bw w wr/\w.heap.size<wr.heap.size) (fun _ i _=>n-(intOf i).toNat)
 case atStart=>exact ⟨0,by omega,rfl,⟨rfl,.inl ⟨rfl,rfl⟩⟩,rfl,box_new w,(Below.refl _ _).alloc (Nat.le_refl _) _,by simp⟩
 case round =>
  obtain ⟨k,hk,rfl,c,a5,hX,d,U⟩:=hrel;have S:Hid (BxT wr w.heap.size 0 Ty.nil):=hX;obtain ⟨c0,c1,c2,c3,f0,f1,f2,f3⟩:=hX.parts;obtain ⟨x0,x1,x2,x3⟩:=ak.out.below d a1;simp only at x0 x1 x2 x3;clear hX
  by_cases hkn:k<n
  ·have P:k<l.length:=by rw [T.out];exact hkn
   obtain ⟨F,G,I,R,HT⟩:∃ k' lo hi m,Hid (l.getD k Ty.nil=⟨k',lo,hi,m⟩):=⟨_,_,_,_,rfl⟩;have hA:=(ai.out k P).below d a1;rw [HT.out] at hA;obtain ⟨t0,t1,t2,t3⟩:=hA;simp only at t0 t1 t2 t3
   have o:Hid (likeB ⟨y,A,D,u⟩ ⟨F,G,I,R⟩=false->joinT l=Ty.nil):=fun e=>like_fails P (by rw [O.out,HT.out];exact e)
   have g:Hid (likeB ⟨y,A,D,u⟩ ⟨F,G,I,R⟩=true->(l.take (k+1)).all (likeB ⟨y,A,D,u⟩)=true):=fun e=>by
    rw [take_step l k P,List.all_append,a5.out,HT.out];simp [e]
   have a8:Hid (spansT (l.take (k+1))=spansT (l.take k)++[(G,I)]):=by show _=_;rw [take_step l k P,HT.out];simp [spansT]
   by_cases hkk:F=y
   case neg =>
    have aj:(F != y)=true:=by simp [hkk]
    have L:Hid (joinT l=Ty.nil):=o.out (by simp [likeB,hkk]);clear o g hkk;go_wp2;go_region;go_wp2;rw [L.out];exact qBx rfl rfl (t:=Ty.nil) (show BxT wr.drew w.heap.size 0 Ty.nil from S.out) (below_drewN d 1) (Nat.le_refl _)
   subst hkk
   have al:Hid (likeB ⟨F,A,D,u⟩ ⟨F,G,I,R⟩=true->True):=fun _=>trivial
   by_cases h2:F=2
   ·subst h2
    by_cases hmm:R=u
    case neg =>
     have ah:(R != u)=true:=by simp [hmm]
     have L:Hid (joinT l=Ty.nil):=o.out (by simp [likeB,hmm]);clear o g hmm;go_wp2;go_region;go_wp2;rw [L.out];exact qBx rfl rfl (t:=Ty.nil) (show BxT wr.drew w.heap.size 0 Ty.nil from S.out) (below_drewN d 1) (Nat.le_refl _)
    subst hmm;have B:=g.out (by simp [likeB]);have M:Hid ((l.take (k+1)).all (likeB ⟨2,A,D,R⟩)=true):=B;clear B g o;go_wp2;go_region
    go_wp2_with (at_builtin;go_must (refine wpList_append_own _ rfl (.tmp 44) (.tmp 50) 198 rfl (w.heap.size+1) 151 i0 (.agg #[U8 0,U8 0]) 2 16 Tryz.underlying198 hi a0 a2 a3 rfl (by decide) _ _ _ rfl (c.drew.alloc _) ⟨_,0,none⟩ 1 1 (flatS [(G,I)]) rfl rfl (one_span _ _ _ (by first|rfl|simp) G I) (flatS_one _) (by unfold maxLen;omega) (by omega) (by simp;omega) ?_);intro v6 z r f _;go_must (have K:=f;have Z:Hid (Bw w z):=((below_drewN d 1).alloc d.size _).grown f (by have:=d.size;first|omega|(simp;done)|(simp;omega)) (fun j hj=>by have:=(c.lt j hj).1;omega);have E:Hid (BxT z w.heap.size 0 Ty.nil):=BxT.grown (BxT.below (show BxT wr.drew w.heap.size 0 Ty.nil from S.out) ((Below.refl _ _).alloc (Nat.le_refl _) _) U) f (by first|omega|(simp;done)|(simp;omega)) (fun e=>by have:=(c.lt _ e.symm).1;omega);(have V:w.heap.size<z.heap.size:=by (have:=f.size);simp at this;omega);rw [flatS_app,<- a8.out] at r;clear f K))
    go_roundw
    case rel=>exact ⟨k+1,by omega,by go_num,r,M,E.out,Z.out,V⟩
    case measure=>simp [intOf];omega
   ·have ah:(F==2)=false:=by simp [h2]
    have B:=g.out (by simp [likeB,h2]);have M:Hid ((l.take (k+1)).all (likeB ⟨F,A,D,u⟩)=true):=B;clear B g o;go_wp2;go_region
    go_wp2_with (at_builtin;go_must (refine wpList_append_own _ rfl (.tmp 44) (.tmp 50) 198 rfl (w.heap.size+1) 151 i0 (.agg #[U8 0,U8 0]) 2 16 Tryz.underlying198 hi a0 a2 a3 rfl (by decide) _ _ _ rfl (c.drew.alloc _) ⟨_,0,none⟩ 1 1 (flatS [(G,I)]) rfl rfl (one_span _ _ _ (by first|rfl|simp) G I) (flatS_one _) (by unfold maxLen;omega) (by omega) (by simp;omega) ?_);intro v6 z r f _;go_must (have K:=f;have Z:Hid (Bw w z):=((below_drewN d 1).alloc d.size _).grown f (by have:=d.size;first|omega|(simp;done)|(simp;omega)) (fun j hj=>by have:=(c.lt j hj).1;omega);have E:Hid (BxT z w.heap.size 0 Ty.nil):=BxT.grown (BxT.below (show BxT wr.drew w.heap.size 0 Ty.nil from S.out) ((Below.refl _ _).alloc (Nat.le_refl _) _) U) f (by first|omega|(simp;done)|(simp;omega)) (fun e=>by have:=(c.lt _ e.symm).1;omega);(have V:w.heap.size<z.heap.size:=by (have:=f.size);simp at this;omega);rw [flatS_app,<- a8.out] at r;clear f K))
    go_roundw
    case rel=>exact ⟨k+1,by omega,by go_num,r,M,E.out,Z.out,V⟩
    case measure=>simp [intOf];omega
  ·obtain rfl:k=n:=by omega
   have e:l.take k=l:=by rw [<- T.out];exact List.take_length
   have Y:Hid (l.all (likeB ⟨y,A,D,u⟩)=true):=by have:=a5.out;rw [e] at this;exact this
   rw [e] at c
   by_cases h1:y=1
   ·subst h1
    have e2:(spansT l).length=k:=by rw [spansT,List.length_map];exact T.out
    have Q:wr.ownsRow (w.heap.size+1) 151 2 u3 (spansT l).length (flatS (spansT l)):=by rw [e2];exact c
    have ae:Hid (SeesS wr u3 (spansT l)):=own_seesS Q;clear e2 Q
    have ac:Hid (∀ s∈spansT l,wfS s):=fun s hs=>by
     obtain ⟨t,ht,rfl⟩:=List.mem_map.1 hs;exact HW.out t ht
    obtain ⟨jl,jh,HJ⟩:∃ a b,Hid (joinL (spansT l)=(a,b)):=⟨_,_,rfl⟩;obtain ⟨jb,HB⟩:∃ b,Hid (joinB (spansT l)=b):=⟨_,rfl⟩
    have L:Hid (joinT l=num2 jl jh):=by
     show _=_
     unfold joinT;rw [O.out,if_pos Y.out,if_pos rfl,HJ.out]
    clear c
    go_wp2_with (first
     | (go_at_call 122;go_must (refine (join_as ae.out ac.out HJ HB).mono ?_);rintro e w5 ⟨rfl,a6⟩;go_must (have af:=a6.size))
     | (go_at_call 123;go_must (refine (jnum_any _ _ _).mono ?_);rintro e z ⟨rfl,a7⟩;go_must (have J:Bw wr z:=(a6.alloc af _).trans (a7.mono (by simp;omega));have E:Hid (BxT z w.heap.size 0 Ty.nil):=S.out.below J U;have ad:Bw w z:=d.trans (J.mono d.size);obtain ⟨c0,c1,c2,c3,f0,f1,f2,f3⟩:=E.out.parts;clear a7 J)))
    rw [L.out];exact qBx rfl rfl (t:=num2 jl jh) E.out ad (Nat.le_refl _)
   ·have aj:(y==1)=false:=by simp [h1]
    have L:Hid (joinT l=⟨y,A,D,u⟩):=by
     show _=_
     unfold joinT;rw [O.out,if_pos Y.out,if_neg h1]
    clear c h1;go_wp2;rw [L.out];exact qBx rfl rfl (t:=⟨y,A,D,u⟩) S.out d (Nat.le_refl _)
end Go.Proofs.YtmdhljoicnommaaGreat
