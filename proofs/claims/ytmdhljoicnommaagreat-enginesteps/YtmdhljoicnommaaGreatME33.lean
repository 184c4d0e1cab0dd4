/-
  JLit
  JLit2
  JFits
  JLit3
  JMaps
  RMaps
-/
import Derived.Test.YtmdhljoicnommaaGreatME32
import Derived.Test.YtmdhljoicnommaaGreatME15
namespace Go.Proofs.YtmdhljoicnommaaGreat
set_option maxHeartbeats 12800000
open Go.RowKit
set_option linter.unusedVariables false
set_option maxRecDepth 100000
set_option linter.unusedSimpArgs false
theorem qEt (lo hi:Int)(w:World):Cl 131 #[.agg #[U8 lo,U8 hi]] w fun e a=>e=.returned (tyV ⟨1,lo,hi,0⟩)/\Bw w a:=by
 go_enter Tryz.func131,Tryz.ntmps131;go_wp2;refine bodyPost_ret (v:=tyV ⟨1,lo,hi,0⟩) ?_ rfl ⟨rfl,by go_grown⟩;rw [qAw rfl]
 simp [asAddr,Result.andThen]
 rw [qFl (k:=1) (lo:=lo) (hi:=hi) (m:=0)]
 refine ⟨?_,?_,?_,?_⟩<;>go_cell
theorem qPd {r:Bool}{s:St}{n:Nat}{k lo hi m:Int}(d:s.length=8)(c:n<8)(h:s.getD n Ty.nil=⟨k,lo,hi,m⟩) :
  (stC r s)[1+n*4]? = some (I4 k)/\(stC r s)[1+n*4+1]? = some (U8 lo)/\(stC r s)[1+n*4+2]? = some (U8 hi)/\(stC r s)[1+n*4+3]? = some (I4 m):=by
 have a:=fun j b=>yNf r s n j (by omega) b
 rw [h] at a;exact ⟨a 0 (by omega),a 1 (by omega),a 2 (by omega),a 3 (by omega)⟩
theorem yOm {w c:World}{a b:Obj}{n:Nat}(d:n=((w.alloc a).alloc b).heap.size)(h:Below n ((w.alloc a).alloc b) c):Bw w c:=by
 subst d;exact qNr h
theorem yEl (i:In)(r:Bool)(s:St)(w:World)(E:s.length=8)(D:i.b=8∨(0<=i.b/\i.b<=7)) :
  Cl 110 #[stV r s,i.v] w fun e G=>e=.returned (tyV (qBa i s))/\Bw w G:=by
 obtain ⟨op,d,a,b,c⟩:=i;simp only at D
 by_cases hb8:b=8
 ·subst hb8
  have P:IntKind.u64.wrap c=u64 c:=by rw [IntKind.wrap_u64];rfl
  have o:Hid (qBa ⟨op,d,a,8,c⟩ s=qHk (u64 c) (u64 c)):=by show _=_;unfold qBa;rw [if_pos rfl]
  go_enter Tryz.func110,Tryz.ntmps110
  go_wp2_with (first
   | (go_at_call 134;go_must (refine (qGz _ _).mono ?_);rintro e M ⟨rfl,f⟩)
   | (go_at_call 131;go_must (refine (qEt _ _ _).mono ?_);rintro e R ⟨rfl,g⟩;go_must (obtain ⟨A,S,F,O,K,N,V,Q,U,X,L⟩:=qRl (w.heap.size+1+1) (by simp) (f.trans (g.mono f.size));clear f g)))
  rw [o.out];exact qEg rfl rfl (t:=qHk (u64 c) (u64 c)) F.out (yOm (by simp) A) (by omega)
 ·obtain ⟨n,rfl⟩:=Int.eq_ofNat_of_zero_le (show 0<=b by omega)
  have I:n<8:=by omega
  obtain ⟨l,y,u,z,B⟩:∃ k lo hi m,Hid (s.getD n Ty.nil=⟨k,lo,hi,m⟩):=⟨_,_,_,_,rfl⟩;obtain ⟨q0,T,Y,J⟩:=qPd (r:=r) E I B.out
  have o:Hid (qBa ⟨op,d,a,n,c⟩ s=⟨l,y,u,z⟩):=by show _=_;unfold qBa qBg;rw [if_neg hb8];exact B.out
  go_enter Tryz.func110,Tryz.ntmps110;go_wp2;rw [o.out];refine bodyPost_ret (v:=tyV ⟨l,y,u,z⟩) ?_ rfl ⟨rfl,by go_grown⟩;rw [qAw rfl]
  simp [asAddr,Result.andThen]
  rw [qFl (k:=l) (lo:=y) (hi:=u) (m:=z)]
  refine ⟨?_,?_,?_,?_⟩<;>go_cell
def qLj (b:Bool) (x:Int):Int:=if b=true then 0 else x
theorem qTq (b:Bool)(x:Int)(w:World):Cl 111 #[.bool b,I4 x] w fun e a=>e=.returned (I4 (qLj b x))/\Bw w a:=by
 cases b
 all_goals go_enter Tryz.func111,Tryz.ntmps111
 all_goals go_wp2
 all_goals go_ret
 ·exact ⟨rfl,by go_grown⟩
 ·exact ⟨rfl,by go_grown⟩
theorem xBb {B:Nat}{W a:World}(c:Below B W a):(∀ b o,b<B->a.cell? ⟨b,o,none⟩=W.cell? ⟨b,o,none⟩)/\(∀ b o,b<B->a.frozen? ⟨b,o,none⟩=W.frozen? ⟨b,o,none⟩) :=
 ⟨fun b o h=>c.cell (p:=⟨b,o,none⟩) h,fun b o h=>c.frozen (p:=⟨b,o,none⟩) h⟩
def qHy (a b:Ty):Bool:=if b.k=0 then true else if b.k=1 then decide (a.k=1)&&qDs a.lo a.hi b.lo b.hi else eqT a b
theorem yGm {nm:Nat}{a b:Ty}(f:Made nm a)(d:Made nm b):qHy a b=qGt a b:=by
 unfold qHy qGt
 by_cases h0:b.k=0
 ·rw [if_pos h0,if_pos h0]
 rw [if_neg h0,if_neg h0]
 by_cases h1:b.k=1
 ·rw [if_pos h1]
  by_cases hk:a.k=1
  ·rw [if_neg (by omega),if_pos h1,decide_eq_true hk,Bool.true_and]
  ·rw [if_pos (by omega),decide_eq_false hk,Bool.false_and]
 ·rw [if_neg h1]
  by_cases hk:a.k=b.k
  ·rw [if_neg (by omega),if_neg h1,Bool.eq_iff_iff,qKq,ty_eq,decide_eq_true_eq]
   rcases f with h|h|h<;>rcases d with c|c|c<;>omega
  ·rw [if_pos hk,Bool.eq_false_iff,Ne,qKq,ty_eq]
   omega
theorem qZn (a b:Ty)(w:World):Cl 136 #[tyV a,tyV b] w fun e s=>e=.returned (.bool (qHy a b))/\Bw w s:=by
 obtain ⟨ak,i,g,am⟩:=a;obtain ⟨n,d,f,l⟩:=b
 by_cases h0:n=0
 ·subst h0
  have c:Hid (qHy ⟨ak,i,g,am⟩ ⟨0,d,f,l⟩=true):=by show _=_;unfold qHy;simp
  go_enter Tryz.func136,Tryz.ntmps136;go_wp2;go_ret;exact ⟨rb c.out.symm,by go_grown⟩
 by_cases h1:n=1
 ·subst h1
  by_cases hk:ak=1
  ·subst hk;obtain ⟨r,k⟩:∃ r,Hid (r=qDs i g d f):=⟨_,rfl⟩
   have c:Hid (qHy ⟨1,i,g,am⟩ ⟨1,d,f,l⟩=r):=by show _=_;unfold qHy;simp [<- k.out]
   go_enter Tryz.func136,Tryz.ntmps136
   go_wp2_with (go_at_call 135;go_must (refine (qMx k _).mono ?_);rintro e u ⟨rfl,o⟩)
   go_ret;exact ⟨rb c.out.symm,qNr o⟩
  ·have c:Hid (qHy ⟨ak,i,g,am⟩ ⟨1,d,f,l⟩=false):=by show _=_;unfold qHy;simp [hk]
   go_enter Tryz.func136,Tryz.ntmps136;go_wp2;go_ret;exact ⟨rb c.out.symm,by go_grown⟩
 ·obtain ⟨r,k⟩:∃ r,Hid (r=eqT ⟨ak,i,g,am⟩ ⟨n,d,f,l⟩):=⟨_,rfl⟩
  have c:Hid (qHy ⟨ak,i,g,am⟩ ⟨n,d,f,l⟩=r):=by show _=_;unfold qHy;simp [h0,h1,k.out]
  go_enter Tryz.func136,Tryz.ntmps136;go_wp2
  all_goals go_ret
  all_goals refine ⟨rb ?_,by go_grown⟩
  all_goals rw [c.out,k.out]
  all_goals (simp [eqT];try omega)
def qKy (t:Ty):Ty:=if t.k=1 then qEe else Ty.nil
theorem yAn (t:Ty)(w:World):Cl 109 #[tyV t] w fun e f=>e=.returned (tyV (qKy t))/\Bw w f:=by
 obtain ⟨k,lo,hi,m⟩:=t
 by_cases h1:k=1
 ·subst h1
  have c:Hid (qKy ⟨1,lo,hi,m⟩=qEe):=by show _=_;unfold qKy;rw [if_pos rfl]
  go_enter Tryz.func109,Tryz.ntmps109
  go_wp2_with (first
   | (go_at_call 133;go_must (refine (qDy _).mono ?_);rintro e B ⟨rfl,a⟩)
   | (go_at_call 131;go_must (refine (qEt _ _ _).mono ?_);rintro e s ⟨rfl,b⟩;go_must (obtain ⟨d,y,g,n,u,i,l,r,A,o,z⟩:=qRl (w.heap.size+1) (by simp) (a.trans (b.mono a.size));clear a b)))
  rw [c.out];exact qEg rfl rfl (t:=qEe) g.out (yGr (by simp) d) (by omega)
 ·have c:Hid (qKy ⟨k,lo,hi,m⟩=Ty.nil):=by show _=_;unfold qKy;rw [if_neg h1]
  go_enter Tryz.func109,Tryz.ntmps109;go_wp2;rw [c.out];refine bodyPost_ret (v:=tyV Ty.nil) ?_ rfl ⟨rfl,by go_grown⟩;rw [qAw rfl]
  simp [asAddr,Result.andThen]
  rw [qFl (k:=0) (lo:=0) (hi:=0) (m:=0)]
  ·rfl
  ·refine ⟨?_,?_,?_,?_⟩<;>go_cell
def qFo (l:List Ty):Int:=if l.all (fun t=>decide (t.k=1))=true then 0 else 33
theorem qSr (v:Value)(l:List Ty)(w:World)(G:SeesT w v l):Cl 113 #[v] w fun e K=>e=.returned (I4 (qFo l))/\Bw w K:=by
 obtain ⟨N,cap,rfl,s,r,_,c⟩:=G;obtain ⟨R,o⟩:∃ R,Hid (R=qFo l):=⟨_,rfl⟩;rw [<- o.out];obtain ⟨n,d⟩:∃ n,Hid (n=l.length):=⟨_,rfl⟩;unfold maxLen at r;rw [<- d.out] at s ⊢;have J:Hid (l≠[]->∃ b off,N=some ⟨b,off,none⟩/\b<w.heap.size/\∀ k,k<l.length->AtT w b (off+k*4) (l.getD k Ty.nil)):=c;clear c;go_enter Tryz.func113,Tryz.ntmps113;go_wp2
 go_loopw [7] (fun i wr=>∃ k:Nat,k<=n/\i=I4 k/\Hid ((l.take k).all (fun t=>decide (t.k=1))=true)/\Bw w wr) (fun i _=>n-(intOf i).toNat)
 case atStart=>exact ⟨0,by omega,rfl,rfl,by go_grown⟩
 case round =>
  obtain ⟨k,T,rfl,B,a⟩:=hrel;have hsz:=a.size
  by_cases hlt:k<n
  ·obtain ⟨b,off,rfl,A,f⟩:=J.out (fun e=>by have:=d.out;rw [e] at this;simp at this;omega);obtain ⟨y,Q,P,S,z⟩:∃ k' lo hi m,Hid (l.getD k Ty.nil=⟨k',lo,hi,m⟩):=⟨_,_,_,_,rfl⟩;have hA:=(f k (by have:=d.out;omega)).below a A;rw [z.out] at hA;obtain ⟨e0,O,I,L⟩:=hA;simp only at e0 O I L;clear f
   have F:Hid ((l.take (k+1)).all (fun t=>decide (t.k=1))=decide (y=1)):=by
    show _=_
    have g:k<l.length:=by have:=d.out;omega
    have e:l.getD k Ty.nil=l[k]:=by simp [g]
    rw [List.take_succ_eq_append_getElem g,List.all_append,B.out,<- e,z.out]
    simp
   by_cases h1:y=1
   ·subst h1;go_wp2
    go_roundw
    case rel=>exact ⟨k+1,by omega,by go_num,F.out,a.alloc hsz _⟩
    case measure=>simp [intOf];omega
   ·have u:Hid (R=33):=by
     show _=_
     rw [o.out];unfold qFo;rw [if_neg];intro D
     have E:(l.take (k+1)).all (fun t=>decide (t.k=1))=true:=by
      rw [List.all_eq_true] at D ⊢
      exact fun x M=>D x (List.mem_of_mem_take M)
     rw [F.out] at E;exact h1 (of_decide_eq_true E)
    go_wp2;go_ret;exact ⟨qGu u.out.symm,a.alloc hsz _⟩
  ·obtain rfl:k=n:=by omega
   have u:Hid (R=0):=by
    show _=_
    rw [o.out];have:=B.out;rw [d.out,List.take_length] at this;unfold qFo;rw [if_pos this]
   go_wp2;go_ret;exact ⟨qGu u.out.symm,a⟩
theorem qJg (w:World)(t:TypeId)(x:Ty)(k:Nat)(a:k=w.heap.size):SeesT (w.alloc (.cells #[I4 x.k,U8 x.lo,U8 x.hi,I4 x.m] t)) (.slice (some ⟨k,0,none⟩) 1 1) [x]:=by
 subst a;exact SeesT.lit w t [x] _ 1 rfl rfl (by simp)
theorem yNb (w:World)(t:TypeId)(x y:Ty)(k:Nat)(a:k=w.heap.size):SeesT (w.alloc (.cells #[I4 x.k,U8 x.lo,U8 x.hi,I4 x.m,I4 y.k,U8 y.lo,U8 y.hi,I4 y.m] t)) (.slice (some ⟨k,0,none⟩) 2 2) [x,y]:=by
 subst a;exact SeesT.lit w t [x,y] _ 2 rfl rfl (by simp)
theorem xCg {w a:World}{k lo hi m:Int}{o:Obj}{T:TypeId}(h:Below ((w.alloc (.cells #[I4 k,U8 lo,U8 hi,I4 m] T)).alloc o).heap.size ((w.alloc (.cells #[I4 k,U8 lo,U8 hi,I4 m] T)).alloc o) a) :
  a.cell? ⟨w.heap.size,0,none⟩=some (I4 k)/\a.cell? ⟨w.heap.size,1,none⟩=some (U8 lo)/\a.cell? ⟨w.heap.size,2,none⟩=some (U8 hi)/\a.cell? ⟨w.heap.size,3,none⟩=some (I4 m):=by
 obtain ⟨b,_⟩:=xBb h
 refine ⟨?_,?_,?_,?_⟩<;>(rw [b _ _ (by simp;omega)];go_cell)
def qJx (t:Ty):Int:=if t.k≠1 then 33 else if qDs t.lo t.hi 0 15=true then 0 else 35
theorem yLu (t:Ty)(w:World):Cl 112 #[tyV t] w fun e o=>e=.returned (I4 (qJx t))/\Bw w o:=by
 obtain ⟨k,lo,hi,m⟩:=t
 by_cases h1:k=1
 ·subst h1;obtain ⟨r,l⟩:∃ r,Hid (r=qDs lo hi 0 15):=⟨_,rfl⟩
  have i:Hid (qFo [⟨1,lo,hi,m⟩]=0):=by show _=_;simp [qFo]
  have g:Hid (qJx ⟨1,lo,hi,m⟩=qLj r 35):=by show _=_;unfold qJx qLj;rw [l.out];simp
  go_enter Tryz.func112,Tryz.ntmps112
  go_wp2_with (first
   | (go_at_call 113;go_must (refine (qSr _ [⟨1,lo,hi,m⟩] _ (qJg _ _ ⟨1,lo,hi,m⟩ _ (by simp))).mono ?_);rintro e s ⟨rfl,a⟩;go_must (rw [i.out];obtain ⟨z,D,u,y⟩:=xCg a;have b:=qNr a;clear a))
   | (go_at_call 135;go_must (refine (qMx l _).mono ?_);rintro e B ⟨rfl,d⟩;go_must (have f:=b.trans (d.mono b.size);clear d))
   | (go_at_call 111;go_must (refine (qTq r 35 _).mono ?_);rintro e A ⟨rfl,c⟩;go_must (have n:=f.trans (c.mono f.size);clear c)))
  go_ret;exact ⟨qGu g.out.symm,n⟩
 ·have i:Hid (qFo [⟨k,lo,hi,m⟩]=33):=by show _=_;simp [qFo,h1]
  have g:Hid (qJx ⟨k,lo,hi,m⟩=33):=by show _=_;unfold qJx;rw [if_pos h1]
  go_enter Tryz.func112,Tryz.ntmps112
  go_wp2_with (first
   | (go_at_call 113;go_must (refine (qSr _ [⟨k,lo,hi,m⟩] _ (qJg _ _ ⟨k,lo,hi,m⟩ _ (by simp))).mono ?_);rintro e s ⟨rfl,a⟩;go_must (rw [i.out];have b:=qNr a;clear a)))
  go_ret;exact ⟨qGu g.out.symm,b⟩
theorem qAa {p:Prop}(h:p):Hid p:=h
theorem yKq {h:St}{k:Nat}{a b d c:Int}(g:k<h.length)(f:h.getD k Ty.nil=⟨a,b,d,c⟩):(qAo h).toArray.extract (k*4) (k*4+4)=#[I4 a,U8 b,U8 d,I4 c]:=by
 apply Array.ext_getElem?
 intro j;rw [Array.getElem?_extract]
 by_cases hj:j<4
 ·have:=qHu h k j g hj;rw [f] at this;have i:(qAo h).length=h.length*4:=qIj h;rw [if_pos (by simp [i];omega)];simp only [List.getElem?_toArray];rw [this]
 ·rw [if_neg (by simp;omega)];rw [Array.getElem?_eq_none (by simp;omega)]
theorem qWe {h:St}{k:Nat}{a b d c:Int}(r:h.length=8)(o:k<8)(i:h.getD k Ty.nil=⟨a,b,d,c⟩)(w:World) :
  (Instr.index 154 (.agg (qAo h).toArray) (I4 k)).run Tryz.prog w=.ok (.agg #[I4 a,U8 b,U8 d,I4 c]) w:=by
 have e:=yKq (h:=h) (k:=k) (by omega) i
 have n:(k:Int)<8:=by omega
 have f:(List.take 4 (List.drop (k*4) (qAo h))).toArray=#[I4 a,U8 b,U8 d,I4 c]:=by
  rw [<- e];simp
 have g:(Go.sizeOf 153).run Tryz.prog w=.ok 4 w:=by simp [Go.sizeOf];rfl
 have l:(isAgg 153).run Tryz.prog w=.ok true w:=by kernel_rfl
 simp [Instr.index,asIntOf,run_underlying Tryz.underlying154,part,g,l,n,o,f]
theorem StAt.types {w:World}{b o:Nat}{r:Bool}{s:St}(h:StAt w b o r s):w.rangeAt b (o+1) (qAo s):=fun j v a=>by
 have:=h (j+1) v (by unfold stC;rw [List.getElem?_cons_succ];exact a);rw [show o+1+j=o+(j+1) by omega];exact this
theorem yRi {s:St}(h:s.length=8):(Tryz.prog.info? 154).map (·.size)=some (qAo s).length:=by rw [qIj,h];kernel_rfl
def qKh (s h:St):Bool:=(List.range 8).all fun k=>qHy (s.getD k Ty.nil) (h.getD k Ty.nil)
theorem qRd {a b:Ty}{r:Bool}(h:Hid (r=qHy a b))(w:World):Cl 136 #[tyV a,tyV b] w fun e c=>e=.returned (.bool r)/\Bw w c:=by
 rw [h.out];exact qZn a b w
theorem qXq {p:Nat->Bool}(k:Nat):(List.range (k+1)).all p=((List.range k).all p&&p k):=by rw [List.range_succ,List.all_append];simp
theorem qKn {p:Nat->Bool}{k n:Nat}(a:k<n)(h:p k=false):(List.range n).all p=false:=by
 rw [List.all_eq_false];exact ⟨k,List.mem_range.2 a,by simp [h]⟩
theorem yRr (r z:Bool)(s h:St)(w:World)(h8:s.length=8)(hh:h.length=8):Cl 115 #[stV r s,stV z h] w fun e a=>e=.returned (.bool (qKh s h))/\Bw w a:=by
 obtain ⟨R,S⟩:∃ R,Hid (R=qKh s h):=⟨_,rfl⟩;rw [<- S.out]
 have HL:Hid (((w.alloc (stO r s)).alloc (stO z h)).rangeAt (w.heap.size+1) 1 (qAo h)):=by
  have:=(qQc (w.alloc (stO r s)) z h).types
  show World.rangeAt _ _ _ _
  simpa using this
 have hsz:=yRi hh;have HZ:Hid ((Tryz.prog.info? 154).map (·.size)=some (qAo h).length):=hsz;clear hsz
 have HA:Hid (∀ wr,Below ((w.alloc (stO r s)).alloc (stO z h)).heap.size ((w.alloc (stO r s)).alloc (stO z h)) wr->∀ k,k<8->AtT wr w.heap.size (0+1+k*4) (s.getD k Ty.nil)):=fun wr hb k hk =>
  ((qQc w r s).below ((Below.refl _ _).alloc (Nat.le_refl _) _) (by simp) |>.typ h8 hk).below hb (by simp;omega)
 go_enter Tryz.func115,Tryz.ntmps115
 go_wp2_with ((with_reducible refine wpList_load_mid ?qa 154 (.tmp 7) ?qb (w.heap.size+1) 1 ?qc (qAo h) _ HL.out Tryz.underlying154 ?qd HZ.out ?qe);(case qa=>rfl);(case qb=>rfl);(case qc=>rfl);(case qd=>rfl))
 obtain ⟨b,N,P,ab⟩:∃ b,Hid (b=(w.alloc (stO r s)).alloc (stO z h))/\Hid (Bw w b)/\b.heap.size<=w.heap.size+2/\w.heap.size+2<=b.heap.size:=⟨_,rfl,qAa (by go_grown),by simp,by simp⟩;rw [<- N.out] at HA ⊢;clear HL HZ N
 go_loopw [9] (fun i wr=>∃ k:Nat,k<=8/\i=I4 k/\Hid ((List.range k).all (fun k=>qHy (s.getD k Ty.nil) (h.getD k Ty.nil))=true)/\Bw b wr) (fun i _=>8-(intOf i).toNat)
 case atStart=>exact ⟨0,by omega,rfl,rfl,Below.refl _ _⟩
 case round =>
  obtain ⟨k,hk,rfl,Z,f⟩:=hrel;have O:=f.size
  by_cases hlt:k<8
  ·obtain ⟨g,o,l,u,HT⟩:∃ k' lo hi m,Hid (h.getD k Ty.nil=⟨k',lo,hi,m⟩):=⟨_,_,_,_,rfl⟩;obtain ⟨A,D,y,B,X⟩:∃ k' lo hi m,Hid (s.getD k Ty.nil=⟨k',lo,hi,m⟩):=⟨_,_,_,_,rfl⟩;have a6:=qWe hh hlt HT.out;obtain ⟨q,T⟩:∃ q,Hid (q=qHy ⟨A,D,y,B⟩ ⟨g,o,l,u⟩):=⟨_,rfl⟩
   have M:Hid (qHy (s.getD k Ty.nil) (h.getD k Ty.nil)=q):=by show _=_;rw [X.out,HT.out];exact T.out.symm
   have hA:=HA.out wr f k hlt;rw [X.out] at hA;obtain ⟨U,a1,a2,V⟩:=hA;simp only [Nat.zero_add] at U a1 a2 V
   have a8:(k:Int)<8:=by omega
   have aa:¬ w.heap.size=wr.heap.size:=by omega
   have ac:¬ wr.heap.size=w.heap.size:=by omega
   have a9:w.heap.size<wr.heap.size:=by omega
   go_wp2;obtain ⟨Y,HY,Q,a7,b0,G,b2,L,g0,J,I,K⟩:∃ Y,Hid (Y=wr.alloc (Obj.cells #[I4 g,U8 o,U8 l,I4 u] 153))/\Hid (Bw wr Y)/\wr.heap.size<Y.heap.size /\
    Y.cell? ⟨wr.heap.size,0,none⟩=some (I4 g)/\Y.cell? ⟨wr.heap.size,1,none⟩=some (U8 o)/\Y.cell? ⟨wr.heap.size,2,none⟩=some (U8 l)/\Y.cell? ⟨wr.heap.size,3,none⟩=some (I4 u) /\
    Y.cell? ⟨w.heap.size,1+k*4,none⟩=some (I4 A)/\Y.cell? ⟨w.heap.size,1+k*4+1,none⟩=some (U8 D)/\Y.cell? ⟨w.heap.size,1+k*4+2,none⟩=some (U8 y)/\Y.cell? ⟨w.heap.size,1+k*4+3,none⟩=some (I4 B) :=
    ⟨_,rfl,qAa (by go_grown),by simp,by go_cell,by go_cell,by go_cell,by go_cell,by go_cell,by go_cell,by go_cell,by go_cell⟩
   rw [<- HY.out];clear U a1 a2 V
   cases q with
   | true =>
    go_region_held3 (fun a=>(a.cell? ⟨w.heap.size,1+k*4,none⟩=some (I4 A)/\a.cell? ⟨w.heap.size,1+k*4+1,none⟩=some (U8 D)/\a.cell? ⟨w.heap.size,1+k*4+2,none⟩=some (U8 y)/\a.cell? ⟨w.heap.size,1+k*4+3,none⟩=some (I4 B))/\a.cell? ⟨wr.heap.size,0,none⟩=some (I4 g)/\a.cell? ⟨wr.heap.size,1,none⟩=some (U8 o)/\a.cell? ⟨wr.heap.size,2,none⟩=some (U8 l)/\a.cell? ⟨wr.heap.size,3,none⟩=some (I4 u))
     (first|exact n|exact ⟨⟨g0,J,I,K⟩,b0,G,b2,L⟩)
     (first|(go_at_call 136;go_must (refine (qRd T _).mono ?_);rintro e E ⟨rfl,c⟩;go_must (have d:Bw Y E:=qAg c;have n:=At2.below (⟨⟨g0,J,I,K⟩,b0,G,b2,L⟩:At2 Y w.heap.size (1+k*4) ⟨A,D,y,B⟩ wr.heap.size 0 ⟨g,o,l,u⟩) d (by omega) (by omega);have F:Bw b E:=(f.trans (Q.out.mono O)).trans (d.mono (by omega));clear c)))
    go_wp2
    go_roundw
    case rel=>exact ⟨k+1,by omega,by go_num,by show _=_;rw [qXq,Z.out,M.out];rfl,F⟩
    case measure=>simp [intOf];omega
   | false =>
    have a5:Hid (R=false):=by show _=_;rw [S.out];exact qKn hlt M.out
    go_region_held3 (fun a=>(a.cell? ⟨w.heap.size,1+k*4,none⟩=some (I4 A)/\a.cell? ⟨w.heap.size,1+k*4+1,none⟩=some (U8 D)/\a.cell? ⟨w.heap.size,1+k*4+2,none⟩=some (U8 y)/\a.cell? ⟨w.heap.size,1+k*4+3,none⟩=some (I4 B))/\a.cell? ⟨wr.heap.size,0,none⟩=some (I4 g)/\a.cell? ⟨wr.heap.size,1,none⟩=some (U8 o)/\a.cell? ⟨wr.heap.size,2,none⟩=some (U8 l)/\a.cell? ⟨wr.heap.size,3,none⟩=some (I4 u))
     (first|exact n|exact ⟨⟨g0,J,I,K⟩,b0,G,b2,L⟩)
     (first|(go_at_call 136;go_must (refine (qRd T _).mono ?_);rintro e E ⟨rfl,c⟩;go_must (have d:Bw Y E:=qAg c;have n:=At2.below (⟨⟨g0,J,I,K⟩,b0,G,b2,L⟩:At2 Y w.heap.size (1+k*4) ⟨A,D,y,B⟩ wr.heap.size 0 ⟨g,o,l,u⟩) d (by omega) (by omega);have F:Bw b E:=(f.trans (Q.out.mono O)).trans (d.mono (by omega));clear c)))
    go_wp2;go_ret;exact ⟨by rw [a5.out];rfl,P.out.trans (F.mono (by omega))⟩
  ·obtain rfl:k=8:=by omega
   have a4:Hid (R=true):=by show _=_;rw [S.out];exact Z.out
   go_wp2;go_ret;exact ⟨by rw [a4.out];rfl,P.out.trans (f.mono (by omega))⟩
theorem qHf {r:Bool}{s:St}(h:s.length=8):(Tryz.prog.info? 156).map (·.size)=some (stC r s).length:=by rw [qKs r h];kernel_rfl
theorem qLi {r:Bool}{s:St}(h:s.length=8):(Tryz.prog.info? 156).map (·.size)=some (stC r s).toArray.size:=by rw [qGn r h];kernel_rfl
theorem Made8.ends {nm:Nat}{s:St}(h:Made8 nm s){k:Nat}(a:k<8):wfS ((s.getD k Ty.nil).lo,(s.getD k Ty.nil).hi):=(h.get a).ends
theorem qSn (w:World)(t:TypeId)(x X y Y:Int)(k:Nat)(a:k=w.heap.size):SeesS (w.alloc (.cells #[U8 x,U8 X,U8 y,U8 Y] t)) (.slice (some ⟨k,0,none⟩) 2 2) [(x,X),(y,Y)]:=by
 subst a;exact SeesS.lit w t [(x,X),(y,Y)] _ 2 rfl rfl (by simp)
theorem qSs {a A b B lo hi:Int}{d:Bool}(i:wfS (a,A))(g:wfS (b,B))(h:Hid (qBh (if qCj [(a,A),(b,B)]=true then some (qDe [(a,A),(b,B)]) else none)=.tuple #[.agg #[U8 lo,U8 hi],.bool d]))(v:Value)(w:World)(c:SeesS w v [(a,A),(b,B)]):Cl 130 #[v] w fun e f=>e=.returned (.tuple #[.agg #[U8 lo,U8 hi],.bool d])/\Bw w f:=by
 have:=yQv v [(a,A),(b,B)] w c (by intro s c;simp at c;rcases c with rfl|rfl<;>assumption);rw [h.out] at this;exact this
theorem yAt (a A b B:Int):∃ lo hi ok,Hid (qBh (if qCj [(a,A),(b,B)]=true then some (qDe [(a,A),(b,B)]) else none)=.tuple #[.agg #[U8 lo,U8 hi],.bool ok])/\Hid (qDe [(a,A),(b,B)]=(lo,hi)):=by
 by_cases h:qCj [(a,A),(b,B)]=true
 ·exact ⟨_,_,true,by show _=_;rw [if_pos h];rfl,rfl⟩
 ·exact ⟨0,0,false,by show _=_;rw [if_neg h];rfl,by show _=_;unfold qDe;rw [if_neg h]⟩
theorem qLo {c:Func}{p:Tmp}{w b:World}{n B:Nat}{a:Array Value}{k lo hi m:Int}(f:c.results=#[.cell p 153])(d:a.getD p undef=.pointer (some ⟨n,0,none⟩))(i:AtT b n 0 ⟨k,lo,hi,m⟩)(l:Below B w b):bodyPost Tryz.prog c (fun e g=>e=.returned (tyV ⟨k,lo,hi,m⟩)/\Below B w g) .ret ⟨a,[]⟩ b:=by
 refine bodyPost_ret (v:=tyV ⟨k,lo,hi,m⟩) ?_ rfl ⟨rfl,l⟩;rw [qAw f,d];simp only [asAddr,Sem.run_pure,Result.andThen];rw [qFl i]
theorem qSf {w c:World}{a b o:Obj}(h:Below ((((w.alloc a).alloc b).alloc (tyO Ty.nil)).alloc o).heap.size ((((w.alloc a).alloc b).alloc (tyO Ty.nil)).alloc o) c) :
  Bw w c/\w.heap.size+1+1+1<c.heap.size/\Hid (BxT c (w.heap.size+1+1) 0 Ty.nil)/\True/\True:=by
 have g:Below (((w.alloc a).alloc b).alloc (tyO Ty.nil)).heap.size (((w.alloc a).alloc b).alloc (tyO Ty.nil)) c:=((Below.refl _ _).alloc (Nat.le_refl _) o).trans (h.mono (by simp));obtain ⟨i,k,d,_⟩:=qEi g;have f:=h.size
 simp at f d
 exact ⟨((Below.refl _ _).alloc (Nat.le_refl _) a |>.alloc (by simp) b).trans (i.mono (by simp only [World.size_alloc];omega)),by omega,d,trivial,trivial⟩
theorem qRi {w b a:World}{n:Nat}{o:Obj}(f:Bw w b)(B:n+1<b.heap.size)(d:Hid (BxT b n 0 Ty.nil))(h:Below (b.alloc o).heap.size (b.alloc o) a) :
  Bw w a/\Hid (BxT a n 0 Ty.nil)/\a.cell? ⟨n,0,none⟩=some (I4 0)/\a.cell? ⟨n,1,none⟩=some (U8 0)/\a.cell? ⟨n,2,none⟩=some (U8 0)/\a.cell? ⟨n,3,none⟩=some (I4 0) /\
  a.frozen? ⟨n,0,none⟩=false/\a.frozen? ⟨n,1,none⟩=false/\a.frozen? ⟨n,2,none⟩=false/\a.frozen? ⟨n,3,none⟩=false:=by
 have r:=f.size;have c:Bw b a:=((Below.refl _ _).alloc (Nat.le_refl _) o).trans (h.mono (by simp));have y:=d.out.below c (by omega);obtain ⟨⟨k,u,g,i⟩,s,A,l,z⟩:=y;exact ⟨f.trans (c.mono r),d.out.below c (by omega),k,u,g,i,s,A,l,z⟩
theorem yKv (a:Ty):qGj a a=a:=by unfold qGj;rw [if_pos ((qKq a a).2 rfl)]
theorem yBv (a:Ty)(w:World):Cl 107 #[tyV a,tyV a] w fun e b=>e=.returned (tyV a)/\Bw w b:=by
 obtain ⟨k,lo,hi,m⟩:=a;go_enter Tryz.func107,Tryz.ntmps107;go_wp2;exact qLo rfl rfl ⟨by go_cell,by go_cell,by go_cell,by go_cell⟩ (by go_grown)
theorem qZd (ak g f am a b c i:Int)(h:¬ ak=a)(w:World):Cl 107 #[tyV ⟨ak,g,f,am⟩,tyV ⟨a,b,c,i⟩] w fun e d=>e=.returned (tyV ⟨0,0,0,0⟩)/\Bw w d:=by
 by_cases h1:ak=1
 ·subst h1
  have k:¬ a=1:=fun e=>h e.symm
  go_enter Tryz.func107,Tryz.ntmps107;go_wp2;exact qLo rfl rfl ⟨by go_cell,by go_cell,by go_cell,by go_cell⟩ (by go_grown)
 ·go_enter Tryz.func107,Tryz.ntmps107;go_wp2;exact qLo rfl rfl ⟨by go_cell,by go_cell,by go_cell,by go_cell⟩ (by go_grown)
theorem qZc (a d am b c z:Int)(h:¬ a=b)(lo hi:Int)(r:Bool)(y:wfS (a,d))(o:wfS (b,c))(A:Hid (qBh (if qCj [(a,d),(b,c)]=true then some (qDe [(a,d),(b,c)]) else none)=.tuple #[.agg #[U8 lo,U8 hi],.bool r]))(w:World) :
  Cl 107 #[tyV ⟨1,a,d,am⟩,tyV ⟨1,b,c,z⟩] w fun e u=>e=.returned (tyV ⟨1,lo,hi,0⟩)/\Bw w u:=by
 go_enter Tryz.func107,Tryz.ntmps107
 go_wp2_with (first
  | (go_at_call 130;go_must (refine (qSs y o A _ _ (qSn _ _ _ _ _ _ _ (by simp))).mono ?_);rintro e E ⟨rfl,f⟩;go_must (obtain ⟨g,n,k,I,J⟩:=qSf f;clear f))
  | (go_at_call 131;go_must (refine (qEt _ _ _).mono ?_);rintro e L ⟨rfl,i⟩;go_must (obtain ⟨l,s,G,B,F,N,K,M,O,D⟩:=qRi g n k i;clear i g)))
 exact qEg rfl rfl (t:=⟨1,lo,hi,0⟩) s.out l (by omega)
theorem qZi (ak b f am a c g:Int)(h:¬ b=a)(i:¬ ak=1)(w:World):Cl 107 #[tyV ⟨ak,b,f,am⟩,tyV ⟨ak,a,c,g⟩] w fun e d=>e=.returned (tyV ⟨0,0,0,0⟩)/\Bw w d:=by
 go_enter Tryz.func107,Tryz.ntmps107;go_wp2;exact qLo rfl rfl ⟨by go_cell,by go_cell,by go_cell,by go_cell⟩ (by go_grown)
theorem qZv (a c am b y:Int)(h:¬ c=b)(lo hi:Int)(o:Bool)(u:wfS (a,c))(n:wfS (a,b))(z:Hid (qBh (if qCj [(a,c),(a,b)]=true then some (qDe [(a,c),(a,b)]) else none)=.tuple #[.agg #[U8 lo,U8 hi],.bool o]))(w:World) :
  Cl 107 #[tyV ⟨1,a,c,am⟩,tyV ⟨1,a,b,y⟩] w fun e s=>e=.returned (tyV ⟨1,lo,hi,0⟩)/\Bw w s:=by
 go_enter Tryz.func107,Tryz.ntmps107
 go_wp2_with (first
  | (go_at_call 130;go_must (refine (qSs u n z _ _ (qSn _ _ _ _ _ _ _ (by simp))).mono ?_);rintro e D ⟨rfl,d⟩;go_must (obtain ⟨f,l,i,G,I⟩:=qSf d;clear d))
  | (go_at_call 131;go_must (refine (qEt _ _ _).mono ?_);rintro e K ⟨rfl,g⟩;go_must (obtain ⟨k,r,F,A,E,M,J,L,N,B⟩:=qRi f l i g;clear g f)))
 exact qEg rfl rfl (t:=⟨1,lo,hi,0⟩) r.out k (by omega)
theorem qZf (ak c b am a f:Int)(h:¬ b=a)(g:¬ ak=1)(w:World):Cl 107 #[tyV ⟨ak,c,b,am⟩,tyV ⟨ak,c,a,f⟩] w fun e d=>e=.returned (tyV ⟨0,0,0,0⟩)/\Bw w d:=by
 go_enter Tryz.func107,Tryz.ntmps107;go_wp2;exact qLo rfl rfl ⟨by go_cell,by go_cell,by go_cell,by go_cell⟩ (by go_grown)
theorem qZo (a b am k:Int)(h:¬ am=k)(lo hi:Int)(o:Bool)(u:wfS (a,b))(n:wfS (a,b))(y:Hid (qBh (if qCj [(a,b),(a,b)]=true then some (qDe [(a,b),(a,b)]) else none)=.tuple #[.agg #[U8 lo,U8 hi],.bool o]))(w:World) :
  Cl 107 #[tyV ⟨1,a,b,am⟩,tyV ⟨1,a,b,k⟩] w fun e s=>e=.returned (tyV ⟨1,lo,hi,0⟩)/\Bw w s:=by
 go_enter Tryz.func107,Tryz.ntmps107
 go_wp2_with (first
  | (go_at_call 130;go_must (refine (qSs u n y _ _ (qSn _ _ _ _ _ _ _ (by simp))).mono ?_);rintro e B ⟨rfl,c⟩;go_must (obtain ⟨d,l,g,F,G⟩:=qSf c;clear c))
  | (go_at_call 131;go_must (refine (qEt _ _ _).mono ?_);rintro e J ⟨rfl,f⟩;go_must (obtain ⟨i,r,E,z,D,L,I,K,M,A⟩:=qRi d l g f;clear f d)))
 exact qEg rfl rfl (t:=⟨1,lo,hi,0⟩) r.out i (by omega)
theorem qYy (ak b a am c:Int)(h:¬ am=c)(f:¬ ak=1)(w:World):Cl 107 #[tyV ⟨ak,b,a,am⟩,tyV ⟨ak,b,a,c⟩] w fun e d=>e=.returned (tyV ⟨0,0,0,0⟩)/\Bw w d:=by
 go_enter Tryz.func107,Tryz.ntmps107;go_wp2;exact qLo rfl rfl ⟨by go_cell,by go_cell,by go_cell,by go_cell⟩ (by go_grown)
theorem yEf (a b:Ty)(w:World)(d:wfS (a.lo,a.hi))(c:wfS (b.lo,b.hi)):Cl 107 #[tyV a,tyV b] w fun e y=>e=.returned (tyV (qGj a b))/\Bw w y:=by
 by_cases he:eqT a b=true
 ·have e:=(qKq a b).1 he;subst e;rw [yKv];exact yBv a w
 obtain ⟨lo,hi,i,f,o⟩:=yAt a.lo a.hi b.lo b.hi
 have r:qGj a b=if a.k=1/\b.k=1 then qHk lo hi else Ty.nil:=by unfold qGj;rw [if_neg he];simp only [o.out]
 rw [r];clear r o;obtain ⟨ak,u,s,am⟩:=a;obtain ⟨z,l,n,A⟩:=b;simp only at d c f ⊢
 by_cases e0:ak=z
 case neg =>
  rw [if_neg (by omega)];exact qZd _ _ _ _ _ _ _ _ e0 w
 subst e0
 by_cases h1:ak=1
 ·subst h1;rw [if_pos ⟨rfl,rfl⟩]
  by_cases e1:u=l
  case neg=>exact qZc _ _ _ _ _ _ e1 lo hi i d c f w
  subst e1
  by_cases e2:s=n
  case neg=>exact qZv _ _ _ _ _ e2 lo hi i d c f w
  subst e2;refine qZo _ _ _ _ (fun g=>?_) lo hi i d c f w;subst g;exact he ((qKq _ _).2 rfl)
 ·rw [if_neg (fun h=>h1 h.1)]
  by_cases e1:u=l
  case neg=>exact qZi _ _ _ _ _ _ _ e1 h1 w
  subst e1
  by_cases e2:s=n
  case neg=>exact qZf _ _ _ _ _ _ e2 h1 w
  subst e2;refine qYy _ _ _ _ _ (fun g=>?_) h1 w;subst g;exact he ((qKq _ _).2 rfl)
def qNn (xs:List Int) (x:Int):Bool:=(List.range xs.length).any fun k=>decide (xs.getD k 0=x)
theorem hasI_no {xs:List Int}{x:Int}:qNn xs x=false↔∀ k,k<xs.length->xs.getD k 0≠x:=by
 unfold qNn;rw [List.any_eq_false]
 constructor
 ·intro h k a;simpa using h k (List.mem_range.2 a)
 ·intro h k a;simpa using h k (List.mem_range.1 a)
theorem yRx {xs:List Int}{x:Int}{k:Nat}(a:k<xs.length)(h:xs.getD k 0=x):qNn xs x=true:=by
 unfold qNn;rw [List.any_eq_true];exact ⟨k,List.mem_range.2 a,by simpa using h⟩
theorem yKg (v:Value)(xs:List Int)(x:Int)(w:World)(l:Sees .i64 w v xs):Cl 126 #[v,I4 x] w fun e s=>∃ q:Int,e=.returned (I4 q)/\Hid (decide (0<=q)=qNn xs x)/\w=s:=by
 have E:=qAa l;obtain ⟨a,cap,rfl,z,u,G,F,o⟩:=l
 have hm:xs.length<=9223372036854775807:=by unfold maxLen at u;omega
 obtain ⟨N,c⟩:∃ N,Hid (xs.length=N):=⟨_,rfl⟩;rw [c.out] at hm z;rw [c.out];go_enter Tryz.func126,Tryz.ntmps126;go_wp2
 go_loopw [8] (fun i wr=>∃ k:Nat,k<=N/\i=I4 k/\Hid (∀ j,j<k->xs.getD j 0≠x)/\w=wr) (fun i _=>N-(intOf i).toNat)
 case atStart=>exact ⟨0,by omega,rfl,fun j A=>by omega,rfl⟩
 case round =>
  obtain ⟨k,I,rfl,n,rfl⟩:=hrel
  by_cases hlt:k<N
  ·obtain ⟨b,off,rfl,D,d⟩:=o (fun e=>by have:=c.out;rw [e] at this;simp at this;omega);obtain ⟨y,f⟩:∃ y,Hid (xs.getD k 0=y):=⟨_,rfl⟩;have r:=d k (by have:=c.out;omega);rw [f.out] at r
   have B:(k:Int)<N:=by omega
   clear o d
   by_cases hxy:x=y
   ·subst hxy
    have g:Hid (decide (0<=(k:Int))=qNn xs x):=by
     show _=_
     rw [yRx (k:=k) (by have:=c.out;omega) f.out]
     simp
    go_wp2;go_ret;exact ⟨_,rfl,g.out,rfl⟩
   ·go_wp2
    go_roundw
    case rel=>exact ⟨k+1,by omega,by go_num,fun j A=>by
     by_cases h:j=k
     ·subst h;rw [f.out];exact fun e=>hxy e.symm
     ·exact n.out j (by omega),by first|rfl|trivial⟩
    case measure=>simp [intOf];omega
  ·obtain rfl:k=N:=by omega
   have g:Hid (decide (0<=(-1:Int))=qNn xs x):=by
    show _=_
    rw [hasI_no.2 (by rw [c.out];exact n.out)]
    rfl
   go_wp2;go_ret;exact ⟨_,rfl,g.out,rfl⟩
theorem qQz (v:Value)(xs:List Int)(x:Int)(w:World)(b:Sees .i64 w v xs){r:Bool}(d:Hid (qNn xs x=r)):Cl 101 #[v,I4 x] w fun e c=>e=.returned (.bool r)/\w=c:=by
 have f:=qAa b;obtain ⟨a,cap,rfl,_⟩:=b;go_enter Tryz.func101,Tryz.ntmps101
 go_wp2_with (go_at_call 126;go_must (refine (yKg _ xs x _ f.out).mono ?_);rintro e c ⟨q,rfl,g,rfl⟩)
 go_ret;refine ⟨?_,rfl⟩;rw [<- d.out,<- g.out]
 rfl
def okM (ms:List Int) (i:Nat):Bool:=decide (0<=ms.getD i 0)&&decide (ms.getD i 0<=3)&&((List.range i).all fun k=>decide (ms.getD k 0≠ms.getD i 0))
theorem ySd {ms:List Int}{i:Nat}(hi:i<=ms.length)(x:Int):qNn (ms.take i) x = !((List.range i).all fun k=>decide (ms.getD k 0≠x)):=by
 unfold qNn;rw [List.length_take,Nat.min_eq_left hi,Bool.eq_iff_iff];simp only [List.any_eq_true,Bool.not_eq_true',List.all_eq_false,List.mem_range,decide_eq_true_eq]
 constructor
 ·rintro ⟨k,a,h⟩;exact ⟨k,a,by simpa [List.getD,List.getElem?_take,a] using h⟩
 ·rintro ⟨k,a,h⟩;exact ⟨k,a,by simpa [List.getD,List.getElem?_take,a] using h⟩
theorem qNp (v:Value)(ms:List Int)(w:World)(z:Sees .i64 w v ms){r:Bool}(o:Hid (qGa ms=r)):Cl 71 #[v] w fun e s=>e=.returned (.bool r)/\w=s:=by
 have B:=qAa z;obtain ⟨a,cap,rfl,K,I,Q,P,F⟩:=z;obtain ⟨N,d⟩:∃ N,Hid (ms.length=N):=⟨_,rfl⟩
 have J:cap<=9223372036854775807:=by unfold maxLen at I;omega
 rw [d.out] at K B ⊢
 by_cases hN:N<=4
 ·have f:Hid (r=(List.range N).all (okM ms)):=by
   show _=_
   rw [<- o.out];unfold qGa okM;rw [d.out,decide_eq_true hN,Bool.true_and]
  have A:(N:Int)<=4:=by omega
  clear o;go_enter Tryz.func71,Tryz.ntmps71;go_wp2
  go_loopw [10] (fun i wr=>∃ k:Nat,k<=N/\i=I4 k/\Hid ((List.range k).all (okM ms)=true)/\w=wr) (fun i _=>N-(intOf i).toNat)
  case atStart=>exact ⟨0,by omega,rfl,rfl,rfl⟩
  case round =>
   obtain ⟨k,R,rfl,D,rfl⟩:=hrel
   by_cases hlt:k<N
   ·obtain ⟨b,off,rfl,O,l⟩:=F (fun e=>by have:=d.out;rw [e] at this;simp at this;omega);obtain ⟨y,g⟩:∃ y,Hid (ms.getD k 0=y):=⟨_,rfl⟩;have G:=l k (by have:=d.out;omega);rw [g.out] at G
    have L:(k:Int)<N:=by omega
    clear F l
    by_cases hy0:y<0
    ·have c:Hid (r=false):=by show _=_;rw [f.out];exact qKn hlt (by unfold okM;rw [g.out,decide_eq_false (by omega)];rfl)
     go_wp2;go_ret;exact ⟨by rw [c.out];rfl,rfl⟩
    by_cases hy4:4<=y
    ·have c:Hid (r=false):=by show _=_;rw [f.out];exact qKn hlt (by unfold okM;rw [g.out,decide_eq_false (show ¬ y<=3 by omega),Bool.and_false];rfl)
     go_wp2;go_ret;exact ⟨by rw [c.out];rfl,rfl⟩
    obtain ⟨q,u⟩:∃ q,Hid (qNn (ms.take k) y=q):=⟨_,rfl⟩
    have n:Hid (okM ms k = !q):=by
     show _=_
     unfold okM;rw [g.out,decide_eq_true (show 0<=y by omega),decide_eq_true (show y<=3 by omega),<- u.out,ySd (by have:=d.out;omega)]
     simp
    have E:Hid (Sees .i64 w (qWg (some ⟨b,off,none⟩) 0 k cap) (ms.take k)):=by
     have:=Sees.cut (xs:=ms) (a:=some ⟨b,off,none⟩) (cap:=cap) (by rw [d.out];exact B.out) 0 k cap (by omega) (by have:=d.out;omega) (by omega) (Nat.le_refl _);rw [List.drop_zero] at this;exact this
    have M:=yWh (e:=3) Tryz.underlying22 (fun w=>by simp [Go.sizeOf];rfl) (some ⟨b,off,none⟩) N cap k (by omega)
    cases q with
    | true =>
     have c:Hid (r=false):=by show _=_;rw [f.out];exact qKn hlt (by rw [n.out];rfl)
     go_wp2_with (go_at_call 101;go_must (refine (qQz _ (ms.take k) y _ E.out u).mono ?_);rintro e s ⟨rfl,rfl⟩)
     go_ret;exact ⟨by rw [c.out];rfl,rfl⟩
    | false =>
     go_wp2_with (go_at_call 101;go_must (refine (qQz _ (ms.take k) y _ E.out u).mono ?_);rintro e s ⟨rfl,rfl⟩)
     go_roundw
     case rel=>exact ⟨k+1,by omega,by go_num,by show _=_;rw [qXq,D.out,n.out];rfl,by first|rfl|trivial⟩
     case measure=>simp [intOf];omega
   ·obtain rfl:k=N:=by omega
    have c:Hid (r=true):=by show _=_;rw [f.out];exact D.out
    go_wp2;go_ret;exact ⟨by rw [c.out];rfl,rfl⟩
 ·have c:Hid (r=false):=by
   show _=_
   rw [<- o.out];unfold qGa;rw [d.out,decide_eq_false hN,Bool.false_and]
  have A:4<(N:Int):=by omega
  go_enter Tryz.func71,Tryz.ntmps71;go_wp2;go_ret;exact ⟨by rw [c.out];rfl,rfl⟩
theorem qXj {B:Nat}{w Z:World}(h:Below B w Z):Below B w Z.drew:=⟨h.os,h.tape,h.output,h.size,h.block⟩
theorem qRt (v:Value)(ms:List Int)(w:World)(E:Sees .i64 w v ms){r:Bool}(s:Hid (qGa ms=r)):Cl 49 #[v] w fun e U=>e=.returned (.bool r)/\Bw w U:=by
 have S:=qAa E;obtain ⟨a,cap,rfl,Y,X,h3,h4,A⟩:=E;obtain ⟨N,g⟩:∃ N,Hid (ms.length=N):=⟨_,rfl⟩
 have V:cap<=9223372036854775807:=by unfold maxLen at X;omega
 rw [g.out] at Y S ⊢
 by_cases hN:N<=4
 ·have n:Hid (r=(List.range N).all (okM ms)):=by
   show _=_
   rw [<- s.out];unfold qGa okM;rw [g.out,decide_eq_true hN,Bool.true_and]
  have F:(N:Int)<=4:=by omega
  have a2:¬ (4:Int)<N:=by omega
  have R:=qAa A;clear s A;go_enter Tryz.func49,Tryz.ntmps49;go_wp2
  go_loopw [3] (fun i wr=>∃ k:Nat,k<=N/\i=I4 k/\Hid ((List.range k).all (okM ms)=true)/\Hid (Bw w wr)) (fun i _=>N-(intOf i).toNat)
  case atStart=>exact ⟨0,by omega,rfl,rfl,Below.refl _ _⟩
  case round =>
   rename World=>w0
   obtain ⟨k,hk,rfl,I,c⟩:=hrel;have K:=c.out.size
   by_cases hlt:k<N
   ·obtain ⟨b,off,rfl,Q,u⟩:=R.out (fun e=>by have:=g.out;rw [e] at this;simp at this;omega);obtain ⟨y,f⟩:∃ y,Hid (ms.getD k 0=y):=⟨_,rfl⟩
    have l:Hid (∀ B,Bw w B->∀ i,i<N->B.cell? ⟨b,off+i,none⟩=some (I4 (ms.getD i 0))):=fun B G i hi=>(G.cell (p:=⟨b,off+i,none⟩) Q).trans (u i (by have:=g.out;omega))
    have o:=l.out w0 c.out k hlt;rw [f.out] at o
    have J:(k:Int)<N:=by omega
    have M:b<w0.heap.size:=by omega
    clear u
    by_cases hy0:y<0
    ·have d:Hid (r=false):=by show _=_;rw [n.out];exact qKn hlt (by unfold okM;rw [f.out,decide_eq_false (by omega)];rfl)
     go_wp2;go_ret;exact ⟨by rw [d.out];rfl,c.out⟩
    by_cases hy4:3<y
    ·have d:Hid (r=false):=by show _=_;rw [n.out];exact qKn hlt (by unfold okM;rw [f.out,decide_eq_false (show ¬ y<=3 by omega),Bool.and_false];rfl)
     go_wp2;go_ret;exact ⟨by rw [d.out];rfl,c.out⟩
    go_wp2
    go_loopw [4] (fun i wr=>∃ j:Nat,j<=k/\i=I4 j/\Hid (∀ t,t<j->ms.getD t 0≠y)/\Hid (Bw w wr)) (fun i _=>k-(intOf i).toNat)
    case atStart=>exact ⟨0,by omega,rfl,fun t D=>by omega,c.out⟩
    case round =>
     clear o M c K
     rename World=>w1
     obtain ⟨j,hj,rfl,P,c⟩:=hrel;have a3:=c.out.size
     have Z:b<w1.heap.size:=by omega
     by_cases hjk:j<k
     ·have O:(j:Int)<k:=by omega
      have a0:(j:Int)<N:=by omega
      obtain ⟨x,z⟩:∃ x,Hid (ms.getD j 0=x):=⟨_,rfl⟩;have o:=l.out w1 c.out k hlt;have T:=l.out w1 c.out j (by omega);rw [f.out] at o;rw [z.out] at T
      by_cases hxy:x=y
      ·subst hxy
       have d:Hid (r=false):=by
        show _=_
        rw [n.out];refine qKn hlt ?_;unfold okM;rw [Bool.and_eq_false_iff]
        right
        rw [List.all_eq_false];exact ⟨j,List.mem_range.2 hjk,by rw [f.out,z.out];simp⟩
       go_wp2;go_region;go_wp2;go_ret;exact ⟨by rw [d.out];rfl,qXj c.out⟩
      ·have a1:(x==y)=false:=by simpa using hxy
       go_wp2;go_region;go_wp2
       go_roundw
       case rel=>exact ⟨j+1,by omega,by go_num,fun t D=>by
        by_cases h:t=j
        ·subst h;rw [z.out];exact hxy
        ·exact P.out t (by omega),qXj c.out⟩
       case measure=>simp [intOf];omega
     ·have O:¬ (j:Int)<k:=by omega
      have L:Hid (okM ms k=true):=by
       show _=_
       unfold okM;rw [f.out,decide_eq_true (show 0<=y by omega),decide_eq_true (show y<=3 by omega),Bool.true_and,Bool.true_and,List.all_eq_true];intro t D;exact decide_eq_true (P.out t (by have:=List.mem_range.1 D;omega))
      go_wp2
      go_roundw
      case rel=>exact ⟨k+1,by omega,by go_num,by show _=_;rw [List.range_succ,List.all_append,I.out];simpa using L.out,c.out⟩
      case measure=>simp [intOf];omega
   ·have J:¬ (k:Int)<N:=by omega
    have d:Hid (r=true):=by show _=_;rw [n.out,show N=k by omega];exact I.out
    go_wp2;go_ret;exact ⟨by rw [d.out];rfl,c.out⟩
 ·have d:Hid (r=false):=by
   show _=_
   rw [<- s.out];unfold qGa;rw [g.out,decide_eq_false hN,Bool.false_and]
  have F:(4:Int)<N:=by omega
  clear s A;go_enter Tryz.func49,Tryz.ntmps49;go_wp2;go_ret;exact ⟨by rw [d.out];rfl,Below.refl _ _⟩
end Go.Proofs.YtmdhljoicnommaaGreat
