/-
  JLit
  JLit2
  JFits
  JLit3
  JMaps
  RMaps
-/
import Derived.Test.YtmdhljoicnommaaGreatMS32
import Derived.Test.YtmdhljoicnommaaGreatMS15
namespace Go.Proofs.YtmdhljoicnommaaGreat
set_option maxHeartbeats 12800000
open Go.RowKit
set_option linter.unusedVariables false
set_option maxRecDepth 100000
set_option linter.unusedSimpArgs false
theorem qCf (lo hi:Int)(w:World):Cl 131 #[.agg #[U8 lo,U8 hi]] w fun e a=>e=.returned (tyV ⟨1,lo,hi,0⟩)/\Bw w a:=by
 go_enter Tryz.func131,Tryz.ntmps131;go_wp2;refine bodyPost_ret (v:=tyV ⟨1,lo,hi,0⟩) ?_ rfl ⟨rfl,by go_grown⟩;rw [qAm rfl]
 simp [asAddr,Result.andThen]
 rw [qCm (k:=1) (lo:=lo) (hi:=hi) (m:=0)]
 refine ⟨?_,?_,?_,?_⟩<;>go_cell
theorem stC_typ {r:Bool}{s:St}{n:Nat}{k lo hi m:Int}(d:s.length=8)(c:n<8)(h:s.getD n Ty.nil=⟨k,lo,hi,m⟩) :
  (stC r s)[1+n*4]? = some (I4 k)/\(stC r s)[1+n*4+1]? = some (U8 lo)/\(stC r s)[1+n*4+2]? = some (U8 hi)/\(stC r s)[1+n*4+3]? = some (I4 m):=by
 have a:=fun j b=>stC_at r s n j (by omega) b
 rw [h] at a;exact ⟨a 0 (by omega),a 1 (by omega),a 2 (by omega),a 3 (by omega)⟩
theorem two_alloc {w c:World}{a b:Obj}{n:Nat}(d:n=((w.alloc a).alloc b).heap.size)(h:Below n ((w.alloc a).alloc b) c):Bw w c:=by
 subst d;exact grow2b h
theorem lsource_any (i:In)(r:Bool)(s:St)(w:World)(I:s.length=8)(F:i.b=8∨(0<=i.b/\i.b<=7)) :
  Cl 110 #[stV r s,i.v] w fun e G=>e=.returned (tyV (srcT i s))/\Bw w G:=by
 obtain ⟨op,d,a,b,c⟩:=i;simp only at F
 by_cases hb8:b=8
 ·subst hb8
  have V:IntKind.u64.wrap c=u64 c:=by rw [IntKind.wrap_u64];rfl
  have z:Hid (srcT ⟨op,d,a,8,c⟩ s=num2 (u64 c) (u64 c)):=by show _=_;unfold srcT;rw [if_pos rfl]
  go_enter Tryz.func110,Tryz.ntmps110
  go_wp2_with (first
   | (go_at_call 134;go_must (refine (qCz _ _).mono ?_);rintro e U ⟨rfl,f⟩)
   | (go_at_call 131;go_must (refine (qCf _ _ _).mono ?_);rintro e P ⟨rfl,g⟩;go_must (obtain ⟨A,M,E,K,O,L,J,Q,S,R,f3⟩:=box_keptN (w.heap.size+1+1) (by simp) (f.trans (g.mono f.size));clear f g)))
  rw [z.out];exact qBx rfl rfl (t:=num2 (u64 c) (u64 c)) E.out (two_alloc (by simp) A) (by omega)
 ·obtain ⟨n,rfl⟩:=Int.eq_ofNat_of_zero_le (show 0<=b by omega)
  have D:n<8:=by omega
  obtain ⟨l,u,y,o,B⟩:∃ k lo hi m,Hid (s.getD n Ty.nil=⟨k,lo,hi,m⟩):=⟨_,_,_,_,rfl⟩;obtain ⟨q0,N,T,X⟩:=stC_typ (r:=r) I D B.out
  have z:Hid (srcT ⟨op,d,a,n,c⟩ s=⟨l,u,y,o⟩):=by show _=_;unfold srcT regT;rw [if_neg hb8];exact B.out
  go_enter Tryz.func110,Tryz.ntmps110;go_wp2;rw [z.out];refine bodyPost_ret (v:=tyV ⟨l,u,y,o⟩) ?_ rfl ⟨rfl,by go_grown⟩;rw [qAm rfl]
  simp [asAddr,Result.andThen]
  rw [qCm (k:=l) (lo:=u) (hi:=y) (m:=o)]
  refine ⟨?_,?_,?_,?_⟩<;>go_cell
def unlE (b:Bool) (x:Int):Int:=if b=true then 0 else x
theorem lunless_any (b:Bool)(x:Int)(w:World):Cl 111 #[.bool b,I4 x] w fun e a=>e=.returned (I4 (unlE b x))/\Bw w a:=by
 cases b
 all_goals go_enter Tryz.func111,Tryz.ntmps111
 all_goals go_wp2
 all_goals go_ret
 ·exact ⟨rfl,by go_grown⟩
 ·exact ⟨rfl,by go_grown⟩
theorem bcell9 {B:Nat}{W a:World}(c:Below B W a):(∀ b o,b<B->a.cell? ⟨b,o,none⟩=W.cell? ⟨b,o,none⟩)/\(∀ b o,b<B->a.frozen? ⟨b,o,none⟩=W.frozen? ⟨b,o,none⟩) :=
 ⟨fun b o h=>c.cell (p:=⟨b,o,none⟩) h,fun b o h=>c.frozen (p:=⟨b,o,none⟩) h⟩
def fitsS (a b:Ty):Bool:=if b.k=0 then true else if b.k=1 then decide (a.k=1)&&withinB a.lo a.hi b.lo b.hi else eqT a b
theorem fits_eq {nm:Nat}{a b:Ty}(d:Made nm a)(f:Made nm b):fitsS a b=fitsJ a b:=by
 unfold fitsS fitsJ
 by_cases h0:b.k=0
 ·rw [if_pos h0,if_pos h0]
 rw [if_neg h0,if_neg h0]
 by_cases h1:b.k=1
 ·rw [if_pos h1]
  by_cases hk:a.k=1
  ·rw [if_neg (by omega),if_pos h1,decide_eq_true hk,Bool.true_and]
  ·rw [if_pos (by omega),decide_eq_false hk,Bool.false_and]
 ·rw [if_neg h1]
  by_cases hk:a.k=b.k
  ·rw [if_neg (by omega),if_neg h1,Bool.eq_iff_iff,eqT_iff,ty_eq,decide_eq_true_eq]
   rcases d with h|h|h<;>rcases f with c|c|c<;>omega
  ·rw [if_pos hk,Bool.eq_false_iff,Ne,eqT_iff,ty_eq]
   omega
theorem ltypeFits_any (a b:Ty)(w:World):Cl 136 #[tyV a,tyV b] w fun e s=>e=.returned (.bool (fitsS a b))/\Bw w s:=by
 obtain ⟨ak,g,d,am⟩:=a;obtain ⟨n,f,i,l⟩:=b
 by_cases h0:n=0
 ·subst h0
  have c:Hid (fitsS ⟨ak,g,d,am⟩ ⟨0,f,i,l⟩=true):=by show _=_;unfold fitsS;simp
  go_enter Tryz.func136,Tryz.ntmps136;go_wp2;go_ret;exact ⟨rb c.out.symm,by go_grown⟩
 by_cases h1:n=1
 ·subst h1
  by_cases hk:ak=1
  ·subst hk;obtain ⟨r,k⟩:∃ r,Hid (r=withinB g d f i):=⟨_,rfl⟩
   have c:Hid (fitsS ⟨1,g,d,am⟩ ⟨1,f,i,l⟩=r):=by show _=_;unfold fitsS;simp [<- k.out]
   go_enter Tryz.func136,Tryz.ntmps136
   go_wp2_with (go_at_call 135;go_must (refine (lwithin_as k _).mono ?_);rintro e u ⟨rfl,o⟩)
   go_ret;exact ⟨rb c.out.symm,grow2b o⟩
  ·have c:Hid (fitsS ⟨ak,g,d,am⟩ ⟨1,f,i,l⟩=false):=by show _=_;unfold fitsS;simp [hk]
   go_enter Tryz.func136,Tryz.ntmps136;go_wp2;go_ret;exact ⟨rb c.out.symm,by go_grown⟩
 ·obtain ⟨r,k⟩:∃ r,Hid (r=eqT ⟨ak,g,d,am⟩ ⟨n,f,i,l⟩):=⟨_,rfl⟩
  have c:Hid (fitsS ⟨ak,g,d,am⟩ ⟨n,f,i,l⟩=r):=by show _=_;unfold fitsS;simp [h0,h1,k.out]
  go_enter Tryz.func136,Tryz.ntmps136;go_wp2
  all_goals go_ret
  all_goals refine ⟨rb ?_,by go_grown⟩
  all_goals rw [c.out,k.out]
  all_goals (simp [eqT];try omega)
def blurT (t:Ty):Ty:=if t.k=1 then fullT else Ty.nil
theorem lblurred_any (t:Ty)(w:World):Cl 109 #[tyV t] w fun e f=>e=.returned (tyV (blurT t))/\Bw w f:=by
 obtain ⟨k,lo,hi,m⟩:=t
 by_cases h1:k=1
 ·subst h1
  have c:Hid (blurT ⟨1,lo,hi,m⟩=fullT):=by show _=_;unfold blurT;rw [if_pos rfl]
  go_enter Tryz.func109,Tryz.ntmps109
  go_wp2_with (first
   | (go_at_call 133;go_must (refine (qBw _).mono ?_);rintro e o ⟨rfl,a⟩)
   | (go_at_call 131;go_must (refine (qCf _ _ _).mono ?_);rintro e n ⟨rfl,b⟩;go_must (obtain ⟨d,y,g,l,A,s,i,r,z,u,f3⟩:=box_keptN (w.heap.size+1) (by simp) (a.trans (b.mono a.size));clear a b)))
  rw [c.out];exact qBx rfl rfl (t:=fullT) g.out (box_one (by simp) d) (by omega)
 ·have c:Hid (blurT ⟨k,lo,hi,m⟩=Ty.nil):=by show _=_;unfold blurT;rw [if_neg h1]
  go_enter Tryz.func109,Tryz.ntmps109;go_wp2;rw [c.out];refine bodyPost_ret (v:=tyV Ty.nil) ?_ rfl ⟨rfl,by go_grown⟩;rw [qAm rfl]
  simp [asAddr,Result.andThen]
  rw [qCm (k:=0) (lo:=0) (hi:=0) (m:=0)]
  ·rfl
  ·refine ⟨?_,?_,?_,?_⟩<;>go_cell
def numsE (l:List Ty):Int:=if l.all (fun t=>decide (t.k=1))=true then 0 else 33
theorem lnums_any (v:Value)(l:List Ty)(w:World)(M:SeesT w v l):Cl 113 #[v] w fun e O=>e=.returned (I4 (numsE l))/\Bw w O:=by
 obtain ⟨L,cap,rfl,u,s,_,c⟩:=M;obtain ⟨R,o⟩:∃ R,Hid (R=numsE l):=⟨_,rfl⟩;rw [<- o.out];obtain ⟨n,d⟩:∃ n,Hid (n=l.length):=⟨_,rfl⟩;unfold maxLen at s;rw [<- d.out] at u ⊢;have N:Hid (l≠[]->∃ b off,L=some ⟨b,off,none⟩/\b<w.heap.size/\∀ k,k<l.length->AtT w b (off+k*4) (l.getD k Ty.nil)):=c;clear c;go_enter Tryz.func113,Tryz.ntmps113;go_wp2
 go_loopw [7] (fun i wr=>∃ k:Nat,k<=n/\i=I4 k/\Hid ((l.take k).all (fun t=>decide (t.k=1))=true)/\Bw w wr) (fun i _=>n-(intOf i).toNat)
 case atStart=>exact ⟨0,by omega,rfl,rfl,by go_grown⟩
 case round =>
  obtain ⟨k,Q,rfl,F,a⟩:=hrel;have hsz:=a.size
  by_cases hlt:k<n
  ·obtain ⟨b,off,rfl,E,f⟩:=N.out (fun e=>by have:=d.out;rw [e] at this;simp at this;omega);obtain ⟨y,S,T,P,D⟩:∃ k' lo hi m,Hid (l.getD k Ty.nil=⟨k',lo,hi,m⟩):=⟨_,_,_,_,rfl⟩;have hA:=(f k (by have:=d.out;omega)).below a E;rw [D.out] at hA;obtain ⟨e0,I,J,G⟩:=hA;simp only at e0 I J G;clear f
   have z:Hid ((l.take (k+1)).all (fun t=>decide (t.k=1))=decide (y=1)):=by
    show _=_
    have g:k<l.length:=by have:=d.out;omega
    have e:l.getD k Ty.nil=l[k]:=by simp [g]
    rw [List.take_succ_eq_append_getElem g,List.all_append,F.out,<- e,D.out]
    simp
   by_cases h1:y=1
   ·subst h1;go_wp2
    go_roundw
    case rel=>exact ⟨k+1,by omega,by go_num,z.out,a.alloc hsz _⟩
    case measure=>simp [intOf];omega
   ·have r:Hid (R=33):=by
     show _=_
     rw [o.out];unfold numsE;rw [if_neg];intro B
     have A:(l.take (k+1)).all (fun t=>decide (t.k=1))=true:=by
      rw [List.all_eq_true] at B ⊢
      exact fun x K=>B x (List.mem_of_mem_take K)
     rw [z.out] at A;exact h1 (of_decide_eq_true A)
    go_wp2;go_ret;exact ⟨reti r.out.symm,a.alloc hsz _⟩
  ·obtain rfl:k=n:=by omega
   have r:Hid (R=0):=by
    show _=_
    rw [o.out];have:=F.out;rw [d.out,List.take_length] at this;unfold numsE;rw [if_pos this]
   go_wp2;go_ret;exact ⟨reti r.out.symm,a⟩
theorem seesT_one (w:World)(t:TypeId)(x:Ty)(k:Nat)(a:k=w.heap.size):SeesT (w.alloc (.cells #[I4 x.k,U8 x.lo,U8 x.hi,I4 x.m] t)) (.slice (some ⟨k,0,none⟩) 1 1) [x]:=by
 subst a;exact SeesT.lit w t [x] _ 1 rfl rfl (by simp)
theorem seesT_two (w:World)(t:TypeId)(x y:Ty)(k:Nat)(a:k=w.heap.size):SeesT (w.alloc (.cells #[I4 x.k,U8 x.lo,U8 x.hi,I4 x.m,I4 y.k,U8 y.lo,U8 y.hi,I4 y.m] t)) (.slice (some ⟨k,0,none⟩) 2 2) [x,y]:=by
 subst a;exact SeesT.lit w t [x,y] _ 2 rfl rfl (by simp)
theorem kept1 {w a:World}{k lo hi m:Int}{o:Obj}{T:TypeId}(h:Below ((w.alloc (.cells #[I4 k,U8 lo,U8 hi,I4 m] T)).alloc o).heap.size ((w.alloc (.cells #[I4 k,U8 lo,U8 hi,I4 m] T)).alloc o) a) :
  a.cell? ⟨w.heap.size,0,none⟩=some (I4 k)/\a.cell? ⟨w.heap.size,1,none⟩=some (U8 lo)/\a.cell? ⟨w.heap.size,2,none⟩=some (U8 hi)/\a.cell? ⟨w.heap.size,3,none⟩=some (I4 m):=by
 obtain ⟨b,_⟩:=bcell9 h
 refine ⟨?_,?_,?_,?_⟩<;>(rw [b _ _ (by simp;omega)];go_cell)
def wordE (t:Ty):Int:=if t.k≠1 then 33 else if withinB t.lo t.hi 0 15=true then 0 else 35
theorem lword_any (t:Ty)(w:World):Cl 112 #[tyV t] w fun e s=>e=.returned (I4 (wordE t))/\Bw w s:=by
 obtain ⟨k,lo,hi,m⟩:=t
 by_cases h1:k=1
 ·subst h1;obtain ⟨r,n⟩:∃ r,Hid (r=withinB lo hi 0 15):=⟨_,rfl⟩
  have i:Hid (numsE [⟨1,lo,hi,m⟩]=0):=by show _=_;simp [numsE]
  have g:Hid (wordE ⟨1,lo,hi,m⟩=unlE r 35):=by show _=_;unfold wordE unlE;rw [n.out];simp
  go_enter Tryz.func112,Tryz.ntmps112
  go_wp2_with (first
   | (go_at_call 113;go_must (refine (lnums_any _ [⟨1,lo,hi,m⟩] _ (seesT_one _ _ ⟨1,lo,hi,m⟩ _ (by simp))).mono ?_);rintro e o ⟨rfl,a⟩;go_must (rw [i.out];obtain ⟨y,D,A,u⟩:=kept1 a;have b:=grow2b a;clear a))
   | (go_at_call 135;go_must (refine (lwithin_as n _).mono ?_);rintro e z ⟨rfl,d⟩;go_must (have c:=b.trans (d.mono b.size);clear d))
   | (go_at_call 111;go_must (refine (lunless_any r 35 _).mono ?_);rintro e B ⟨rfl,f⟩;go_must (have l:=c.trans (f.mono c.size);clear f)))
  go_ret;exact ⟨reti g.out.symm,l⟩
 ·have i:Hid (numsE [⟨k,lo,hi,m⟩]=33):=by show _=_;simp [numsE,h1]
  have g:Hid (wordE ⟨k,lo,hi,m⟩=33):=by show _=_;unfold wordE;rw [if_pos h1]
  go_enter Tryz.func112,Tryz.ntmps112
  go_wp2_with (first
   | (go_at_call 113;go_must (refine (lnums_any _ [⟨k,lo,hi,m⟩] _ (seesT_one _ _ ⟨k,lo,hi,m⟩ _ (by simp))).mono ?_);rintro e o ⟨rfl,a⟩;go_must (rw [i.out];have b:=grow2b a;clear a)))
  go_ret;exact ⟨reti g.out.symm,b⟩
theorem keepJ {p:Prop}(h:p):Hid p:=h
theorem flatT_part {h:St}{k:Nat}{d b c a:Int}(g:k<h.length)(i:h.getD k Ty.nil=⟨d,b,c,a⟩):(flatT h).toArray.extract (k*4) (k*4+4)=#[I4 d,U8 b,U8 c,I4 a]:=by
 apply Array.ext_getElem?
 intro j;rw [Array.getElem?_extract]
 by_cases hj:j<4
 ·have:=flatT_at h k j g hj;rw [i] at this;have f:(flatT h).length=h.length*4:=flatT_len h;rw [if_pos (by simp [f];omega)];simp only [List.getElem?_toArray];rw [this]
 ·rw [if_neg (by simp;omega)];rw [Array.getElem?_eq_none (by simp;omega)]
theorem run_index9 {h:St}{k:Nat}{d b c a:Int}(r:h.length=8)(o:k<8)(g:h.getD k Ty.nil=⟨d,b,c,a⟩)(w:World) :
  (Instr.index 154 (.agg (flatT h).toArray) (I4 k)).run Tryz.prog w=.ok (.agg #[I4 d,U8 b,U8 c,I4 a]) w:=by
 have e:=flatT_part (h:=h) (k:=k) (by omega) g
 have l:(k:Int)<8:=by omega
 have n:(List.take 4 (List.drop (k*4) (flatT h))).toArray=#[I4 d,U8 b,U8 c,I4 a]:=by
  rw [<- e];simp
 have i:(Go.sizeOf 153).run Tryz.prog w=.ok 4 w:=by simp [Go.sizeOf];rfl
 have f:(isAgg 153).run Tryz.prog w=.ok true w:=by kernel_rfl
 simp [Instr.index,asIntOf,run_underlying Tryz.underlying154,part,i,f,l,o,n]
theorem StAt.types {w:World}{b o:Nat}{r:Bool}{s:St}(h:StAt w b o r s):w.rangeAt b (o+1) (flatT s):=fun j v a=>by
 have:=h (j+1) v (by unfold stC;rw [List.getElem?_cons_succ];exact a);rw [show o+1+j=o+(j+1) by omega];exact this
theorem sizeA8 {s:St}(h:s.length=8):(Tryz.prog.info? 154).map (·.size)=some (flatT s).length:=by rw [flatT_len,h];kernel_rfl
def fitsAllS (s h:St):Bool:=(List.range 8).all fun k=>fitsS (s.getD k Ty.nil) (h.getD k Ty.nil)
theorem ltypeFits_as {a b:Ty}{r:Bool}(h:Hid (r=fitsS a b))(w:World):Cl 136 #[tyV a,tyV b] w fun e c=>e=.returned (.bool r)/\Bw w c:=by
 rw [h.out];exact ltypeFits_any a b w
theorem range_all {p:Nat->Bool}(k:Nat):(List.range (k+1)).all p=((List.range k).all p&&p k):=by rw [List.range_succ,List.all_append];simp
theorem range_no {p:Nat->Bool}{k n:Nat}(a:k<n)(h:p k=false):(List.range n).all p=false:=by
 rw [List.all_eq_false];exact ⟨k,List.mem_range.2 a,by simp [h]⟩
theorem lfits_any (r A:Bool)(s h:St)(w:World)(h8:s.length=8)(hh:h.length=8):Cl 115 #[stV r s,stV A h] w fun e a=>e=.returned (.bool (fitsAllS s h))/\Bw w a:=by
 obtain ⟨R,T⟩:∃ R,Hid (R=fitsAllS s h):=⟨_,rfl⟩;rw [<- T.out]
 have Z:Hid (((w.alloc (stO r s)).alloc (stO A h)).rangeAt (w.heap.size+1) 1 (flatT h)):=by
  have:=(stAt_new (w.alloc (stO r s)) A h).types
  show World.rangeAt _ _ _ _
  simpa using this
 have hsz:=sizeA8 hh;have HZ:Hid ((Tryz.prog.info? 154).map (·.size)=some (flatT h).length):=hsz;clear hsz
 have V:Hid (∀ wr,Below ((w.alloc (stO r s)).alloc (stO A h)).heap.size ((w.alloc (stO r s)).alloc (stO A h)) wr->∀ k,k<8->AtT wr w.heap.size (0+1+k*4) (s.getD k Ty.nil)):=fun wr hb k hk =>
  ((stAt_new w r s).below ((Below.refl _ _).alloc (Nat.le_refl _) _) (by simp) |>.typ h8 hk).below hb (by simp;omega)
 go_enter Tryz.func115,Tryz.ntmps115
 go_wp2_with ((with_reducible refine wpList_load_mid ?qa 154 (.tmp 7) ?qb (w.heap.size+1) 1 ?qc (flatT h) _ Z.out Tryz.underlying154 ?qd HZ.out ?qe);(case qa=>rfl);(case qb=>rfl);(case qc=>rfl);(case qd=>rfl))
 obtain ⟨c,O,Q,aa⟩:∃ c,Hid (c=(w.alloc (stO r s)).alloc (stO A h))/\Hid (Bw w c)/\c.heap.size<=w.heap.size+2/\w.heap.size+2<=c.heap.size:=⟨_,rfl,keepJ (by go_grown),by simp,by simp⟩;rw [<- O.out] at V ⊢;clear Z HZ O
 go_loopw [9] (fun i wr=>∃ k:Nat,k<=8/\i=I4 k/\Hid ((List.range k).all (fun k=>fitsS (s.getD k Ty.nil) (h.getD k Ty.nil))=true)/\Bw c wr) (fun i _=>8-(intOf i).toNat)
 case atStart=>exact ⟨0,by omega,rfl,rfl,Below.refl _ _⟩
 case round =>
  obtain ⟨k,hk,rfl,HI,d⟩:=hrel;have P:=d.size
  by_cases hlt:k<8
  ·obtain ⟨g,o,u,n,HT⟩:∃ k' lo hi m,Hid (h.getD k Ty.nil=⟨k',lo,hi,m⟩):=⟨_,_,_,_,rfl⟩;obtain ⟨B,y,D,z,HS⟩:∃ k' lo hi m,Hid (s.getD k Ty.nil=⟨k',lo,hi,m⟩):=⟨_,_,_,_,rfl⟩;have a6:=run_index9 hh hlt HT.out;obtain ⟨q,U⟩:∃ q,Hid (q=fitsS ⟨B,y,D,z⟩ ⟨g,o,u,n⟩):=⟨_,rfl⟩
   have N:Hid (fitsS (s.getD k Ty.nil) (h.getD k Ty.nil)=q):=by show _=_;rw [HS.out,HT.out];exact U.out.symm
   have hA:=V.out wr d k hlt;rw [HS.out] at hA;obtain ⟨a0,a1,X,a3⟩:=hA;simp only [Nat.zero_add] at a0 a1 X a3
   have a8:(k:Int)<8:=by omega
   have ac:¬ w.heap.size=wr.heap.size:=by omega
   have ab:¬ wr.heap.size=w.heap.size:=by omega
   have a7:w.heap.size<wr.heap.size:=by omega
   go_wp2;obtain ⟨Y,HY,S,a9,b0,M,G,J,g0,K,L,I⟩:∃ Y,Hid (Y=wr.alloc (Obj.cells #[I4 g,U8 o,U8 u,I4 n] 153))/\Hid (Bw wr Y)/\wr.heap.size<Y.heap.size /\
    Y.cell? ⟨wr.heap.size,0,none⟩=some (I4 g)/\Y.cell? ⟨wr.heap.size,1,none⟩=some (U8 o)/\Y.cell? ⟨wr.heap.size,2,none⟩=some (U8 u)/\Y.cell? ⟨wr.heap.size,3,none⟩=some (I4 n) /\
    Y.cell? ⟨w.heap.size,1+k*4,none⟩=some (I4 B)/\Y.cell? ⟨w.heap.size,1+k*4+1,none⟩=some (U8 y)/\Y.cell? ⟨w.heap.size,1+k*4+2,none⟩=some (U8 D)/\Y.cell? ⟨w.heap.size,1+k*4+3,none⟩=some (I4 z) :=
    ⟨_,rfl,keepJ (by go_grown),by simp,by go_cell,by go_cell,by go_cell,by go_cell,by go_cell,by go_cell,by go_cell,by go_cell⟩
   rw [<- HY.out];clear a0 a1 X a3
   cases q with
   | true =>
    go_region_held3 (fun a=>(a.cell? ⟨w.heap.size,1+k*4,none⟩=some (I4 B)/\a.cell? ⟨w.heap.size,1+k*4+1,none⟩=some (U8 y)/\a.cell? ⟨w.heap.size,1+k*4+2,none⟩=some (U8 D)/\a.cell? ⟨w.heap.size,1+k*4+3,none⟩=some (I4 z))/\a.cell? ⟨wr.heap.size,0,none⟩=some (I4 g)/\a.cell? ⟨wr.heap.size,1,none⟩=some (U8 o)/\a.cell? ⟨wr.heap.size,2,none⟩=some (U8 u)/\a.cell? ⟨wr.heap.size,3,none⟩=some (I4 n))
     (first|exact l|exact ⟨⟨g0,K,L,I⟩,b0,M,G,J⟩)
     (first|(go_at_call 136;go_must (refine (ltypeFits_as U _).mono ?_);rintro e F ⟨rfl,b⟩;go_must (have f:Bw Y F:=qAf b;have l:=At2.below (⟨⟨g0,K,L,I⟩,b0,M,G,J⟩:At2 Y w.heap.size (1+k*4) ⟨B,y,D,z⟩ wr.heap.size 0 ⟨g,o,u,n⟩) f (by omega) (by omega);have E:Bw c F:=(d.trans (S.out.mono P)).trans (f.mono (by omega));clear b)))
    go_wp2
    go_roundw
    case rel=>exact ⟨k+1,by omega,by go_num,by show _=_;rw [range_all,HI.out,N.out];rfl,E⟩
    case measure=>simp [intOf];omega
   | false =>
    have a4:Hid (R=false):=by show _=_;rw [T.out];exact range_no hlt N.out
    go_region_held3 (fun a=>(a.cell? ⟨w.heap.size,1+k*4,none⟩=some (I4 B)/\a.cell? ⟨w.heap.size,1+k*4+1,none⟩=some (U8 y)/\a.cell? ⟨w.heap.size,1+k*4+2,none⟩=some (U8 D)/\a.cell? ⟨w.heap.size,1+k*4+3,none⟩=some (I4 z))/\a.cell? ⟨wr.heap.size,0,none⟩=some (I4 g)/\a.cell? ⟨wr.heap.size,1,none⟩=some (U8 o)/\a.cell? ⟨wr.heap.size,2,none⟩=some (U8 u)/\a.cell? ⟨wr.heap.size,3,none⟩=some (I4 n))
     (first|exact l|exact ⟨⟨g0,K,L,I⟩,b0,M,G,J⟩)
     (first|(go_at_call 136;go_must (refine (ltypeFits_as U _).mono ?_);rintro e F ⟨rfl,b⟩;go_must (have f:Bw Y F:=qAf b;have l:=At2.below (⟨⟨g0,K,L,I⟩,b0,M,G,J⟩:At2 Y w.heap.size (1+k*4) ⟨B,y,D,z⟩ wr.heap.size 0 ⟨g,o,u,n⟩) f (by omega) (by omega);have E:Bw c F:=(d.trans (S.out.mono P)).trans (f.mono (by omega));clear b)))
    go_wp2;go_ret;exact ⟨by rw [a4.out];rfl,Q.out.trans (E.mono (by omega))⟩
  ·obtain rfl:k=8:=by omega
   have a5:Hid (R=true):=by show _=_;rw [T.out];exact HI.out
   go_wp2;go_ret;exact ⟨by rw [a5.out];rfl,Q.out.trans (d.mono (by omega))⟩
theorem sizeJ {r:Bool}{s:St}(h:s.length=8):(Tryz.prog.info? 156).map (·.size)=some (stC r s).length:=by rw [stC_len r h];kernel_rfl
theorem sizeJA {r:Bool}{s:St}(h:s.length=8):(Tryz.prog.info? 156).map (·.size)=some (stC r s).toArray.size:=by rw [qCw r h];kernel_rfl
theorem Made8.ends {nm:Nat}{s:St}(h:Made8 nm s){k:Nat}(a:k<8):wfS ((s.getD k Ty.nil).lo,(s.getD k Ty.nil).hi):=(h.get a).ends
theorem seesS_two (w:World)(t:TypeId)(x X y Y:Int)(k:Nat)(a:k=w.heap.size):SeesS (w.alloc (.cells #[U8 x,U8 X,U8 y,U8 Y] t)) (.slice (some ⟨k,0,none⟩) 2 2) [(x,X),(y,Y)]:=by
 subst a;exact SeesS.lit w t [(x,X),(y,Y)] _ 2 rfl rfl (by simp)
theorem ljoin2_as {a A b B lo hi:Int}{d:Bool}(i:wfS (a,A))(g:wfS (b,B))(h:Hid (optV (if joinB [(a,A),(b,B)]=true then some (joinL [(a,A),(b,B)]) else none)=.tuple #[.agg #[U8 lo,U8 hi],.bool d]))(v:Value)(w:World)(c:SeesS w v [(a,A),(b,B)]):Cl 130 #[v] w fun e f=>e=.returned (.tuple #[.agg #[U8 lo,U8 hi],.bool d])/\Bw w f:=by
 have:=ljoin_any v [(a,A),(b,B)] w c (by intro s c;simp at c;rcases c with rfl|rfl<;>assumption);rw [h.out] at this;exact this
theorem join_letters (a A b B:Int):∃ lo hi ok,Hid (optV (if joinB [(a,A),(b,B)]=true then some (joinL [(a,A),(b,B)]) else none)=.tuple #[.agg #[U8 lo,U8 hi],.bool ok])/\Hid (joinL [(a,A),(b,B)]=(lo,hi)):=by
 by_cases h:joinB [(a,A),(b,B)]=true
 ·exact ⟨_,_,true,by show _=_;rw [if_pos h];rfl,rfl⟩
 ·exact ⟨0,0,false,by show _=_;rw [if_neg h];rfl,by show _=_;unfold joinL;rw [if_neg h]⟩
theorem box_ret4 {c:Func}{p:Tmp}{w b:World}{n B:Nat}{a:Array Value}{k lo hi m:Int}(f:c.results=#[.cell p 153])(d:a.getD p undef=.pointer (some ⟨n,0,none⟩))(i:AtT b n 0 ⟨k,lo,hi,m⟩)(l:Below B w b):bodyPost Tryz.prog c (fun e g=>e=.returned (tyV ⟨k,lo,hi,m⟩)/\Below B w g) .ret ⟨a,[]⟩ b:=by
 refine bodyPost_ret (v:=tyV ⟨k,lo,hi,m⟩) ?_ rfl ⟨rfl,l⟩;rw [qAm f,d];simp only [asAddr,Sem.run_pure,Result.andThen];rw [qCm i]
theorem kept_box3 {w c:World}{a b o:Obj}(h:Below ((((w.alloc a).alloc b).alloc (tyO Ty.nil)).alloc o).heap.size ((((w.alloc a).alloc b).alloc (tyO Ty.nil)).alloc o) c) :
  Bw w c/\w.heap.size+1+1+1<c.heap.size/\Hid (BxT c (w.heap.size+1+1) 0 Ty.nil)/\True/\True:=by
 have f:Below (((w.alloc a).alloc b).alloc (tyO Ty.nil)).heap.size (((w.alloc a).alloc b).alloc (tyO Ty.nil)) c:=((Below.refl _ _).alloc (Nat.le_refl _) o).trans (h.mono (by simp));obtain ⟨i,k,d,_⟩:=qBz f;have g:=h.size
 simp at g d
 exact ⟨((Below.refl _ _).alloc (Nat.le_refl _) a |>.alloc (by simp) b).trans (i.mono (by simp only [World.size_alloc];omega)),by omega,d,trivial,trivial⟩
theorem kept_box4 {w b a:World}{n:Nat}{o:Obj}(f:Bw w b)(A:n+1<b.heap.size)(d:Hid (BxT b n 0 Ty.nil))(h:Below (b.alloc o).heap.size (b.alloc o) a) :
  Bw w a/\Hid (BxT a n 0 Ty.nil)/\a.cell? ⟨n,0,none⟩=some (I4 0)/\a.cell? ⟨n,1,none⟩=some (U8 0)/\a.cell? ⟨n,2,none⟩=some (U8 0)/\a.cell? ⟨n,3,none⟩=some (I4 0) /\
  a.frozen? ⟨n,0,none⟩=false/\a.frozen? ⟨n,1,none⟩=false/\a.frozen? ⟨n,2,none⟩=false/\a.frozen? ⟨n,3,none⟩=false:=by
 have l:=f.size;have c:Bw b a:=((Below.refl _ _).alloc (Nat.le_refl _) o).trans (h.mono (by simp));have i:=d.out.below c (by omega);obtain ⟨⟨k,z,s,g⟩,r,y,u,f3⟩:=i;exact ⟨f.trans (c.mono l),d.out.below c (by omega),k,z,s,g,r,y,u,f3⟩
theorem join2_same (a:Ty):join2 a a=a:=by unfold join2;rw [if_pos ((eqT_iff a a).2 rfl)]
theorem ljoined_same (a:Ty)(w:World):Cl 107 #[tyV a,tyV a] w fun e b=>e=.returned (tyV a)/\Bw w b:=by
 obtain ⟨k,lo,hi,m⟩:=a;go_enter Tryz.func107,Tryz.ntmps107;go_wp2;exact box_ret4 rfl rfl ⟨by go_cell,by go_cell,by go_cell,by go_cell⟩ (by go_grown)
theorem ljoined_k_nil (ak d b am a c i g:Int)(h:¬ ak=a)(w:World):Cl 107 #[tyV ⟨ak,d,b,am⟩,tyV ⟨a,c,i,g⟩] w fun e f=>e=.returned (tyV ⟨0,0,0,0⟩)/\Bw w f:=by
 by_cases h1:ak=1
 ·subst h1
  have k:¬ a=1:=fun e=>h e.symm
  go_enter Tryz.func107,Tryz.ntmps107;go_wp2;exact box_ret4 rfl rfl ⟨by go_cell,by go_cell,by go_cell,by go_cell⟩ (by go_grown)
 ·go_enter Tryz.func107,Tryz.ntmps107;go_wp2;exact box_ret4 rfl rfl ⟨by go_cell,by go_cell,by go_cell,by go_cell⟩ (by go_grown)
theorem ljoined_l_num (a d am b c A:Int)(h:¬ a=b)(lo hi:Int)(r:Bool)(o:wfS (a,d))(u:wfS (b,c))(y:Hid (optV (if joinB [(a,d),(b,c)]=true then some (joinL [(a,d),(b,c)]) else none)=.tuple #[.agg #[U8 lo,U8 hi],.bool r]))(w:World) :
  Cl 107 #[tyV ⟨1,a,d,am⟩,tyV ⟨1,b,c,A⟩] w fun e z=>e=.returned (tyV ⟨1,lo,hi,0⟩)/\Bw w z:=by
 go_enter Tryz.func107,Tryz.ntmps107
 go_wp2_with (first
  | (go_at_call 130;go_must (refine (ljoin2_as o u y _ _ (seesS_two _ _ _ _ _ _ _ (by simp))).mono ?_);rintro e N ⟨rfl,f⟩;go_must (obtain ⟨i,k,n,G,J⟩:=kept_box3 f;clear f))
  | (go_at_call 131;go_must (refine (qCf _ _ _).mono ?_);rintro e I ⟨rfl,g⟩;go_must (obtain ⟨l,s,D,F,E,B,K,M,L,f3⟩:=kept_box4 i k n g;clear g i)))
 exact qBx rfl rfl (t:=⟨1,lo,hi,0⟩) s.out l (by omega)
theorem ljoined_l_nil (ak b c am a g f:Int)(h:¬ b=a)(i:¬ ak=1)(w:World):Cl 107 #[tyV ⟨ak,b,c,am⟩,tyV ⟨ak,a,g,f⟩] w fun e d=>e=.returned (tyV ⟨0,0,0,0⟩)/\Bw w d:=by
 go_enter Tryz.func107,Tryz.ntmps107;go_wp2;exact box_ret4 rfl rfl ⟨by go_cell,by go_cell,by go_cell,by go_cell⟩ (by go_grown)
theorem ljoined_h_num (a c am b z:Int)(h:¬ c=b)(lo hi:Int)(o:Bool)(n:wfS (a,c))(s:wfS (a,b))(u:Hid (optV (if joinB [(a,c),(a,b)]=true then some (joinL [(a,c),(a,b)]) else none)=.tuple #[.agg #[U8 lo,U8 hi],.bool o]))(w:World) :
  Cl 107 #[tyV ⟨1,a,c,am⟩,tyV ⟨1,a,b,z⟩] w fun e y=>e=.returned (tyV ⟨1,lo,hi,0⟩)/\Bw w y:=by
 go_enter Tryz.func107,Tryz.ntmps107
 go_wp2_with (first
  | (go_at_call 130;go_must (refine (ljoin2_as n s u _ _ (seesS_two _ _ _ _ _ _ _ (by simp))).mono ?_);rintro e M ⟨rfl,d⟩;go_must (obtain ⟨g,i,l,F,I⟩:=kept_box3 d;clear d))
  | (go_at_call 131;go_must (refine (qCf _ _ _).mono ?_);rintro e G ⟨rfl,f⟩;go_must (obtain ⟨k,r,B,E,D,A,J,L,K,f3⟩:=kept_box4 g i l f;clear f g)))
 exact qBx rfl rfl (t:=⟨1,lo,hi,0⟩) r.out k (by omega)
theorem ljoined_h_nil (ak b a am c f:Int)(h:¬ a=c)(g:¬ ak=1)(w:World):Cl 107 #[tyV ⟨ak,b,a,am⟩,tyV ⟨ak,b,c,f⟩] w fun e d=>e=.returned (tyV ⟨0,0,0,0⟩)/\Bw w d:=by
 go_enter Tryz.func107,Tryz.ntmps107;go_wp2;exact box_ret4 rfl rfl ⟨by go_cell,by go_cell,by go_cell,by go_cell⟩ (by go_grown)
theorem ljoined_m_num (a b am l:Int)(h:¬ am=l)(lo hi:Int)(o:Bool)(n:wfS (a,b))(s:wfS (a,b))(u:Hid (optV (if joinB [(a,b),(a,b)]=true then some (joinL [(a,b),(a,b)]) else none)=.tuple #[.agg #[U8 lo,U8 hi],.bool o]))(w:World) :
  Cl 107 #[tyV ⟨1,a,b,am⟩,tyV ⟨1,a,b,l⟩] w fun e y=>e=.returned (tyV ⟨1,lo,hi,0⟩)/\Bw w y:=by
 go_enter Tryz.func107,Tryz.ntmps107
 go_wp2_with (first
  | (go_at_call 130;go_must (refine (ljoin2_as n s u _ _ (seesS_two _ _ _ _ _ _ _ (by simp))).mono ?_);rintro e L ⟨rfl,c⟩;go_must (obtain ⟨f,g,k,E,G⟩:=kept_box3 c;clear c))
  | (go_at_call 131;go_must (refine (qCf _ _ _).mono ?_);rintro e F ⟨rfl,d⟩;go_must (obtain ⟨i,r,A,D,B,z,I,K,J,f3⟩:=kept_box4 f g k d;clear d f)))
 exact qBx rfl rfl (t:=⟨1,lo,hi,0⟩) r.out i (by omega)
theorem ljoined_m_nil (ak b a am c:Int)(h:¬ am=c)(f:¬ ak=1)(w:World):Cl 107 #[tyV ⟨ak,b,a,am⟩,tyV ⟨ak,b,a,c⟩] w fun e d=>e=.returned (tyV ⟨0,0,0,0⟩)/\Bw w d:=by
 go_enter Tryz.func107,Tryz.ntmps107;go_wp2;exact box_ret4 rfl rfl ⟨by go_cell,by go_cell,by go_cell,by go_cell⟩ (by go_grown)
theorem ljoined_any (a b:Ty)(w:World)(f:wfS (a.lo,a.hi))(c:wfS (b.lo,b.hi)):Cl 107 #[tyV a,tyV b] w fun e y=>e=.returned (tyV (join2 a b))/\Bw w y:=by
 by_cases he:eqT a b=true
 ·have e:=(eqT_iff a b).1 he;subst e;rw [join2_same];exact ljoined_same a w
 obtain ⟨lo,hi,g,d,u⟩:=join_letters a.lo a.hi b.lo b.hi
 have n:join2 a b=if a.k=1/\b.k=1 then num2 lo hi else Ty.nil:=by unfold join2;rw [if_neg he];simp only [u.out]
 rw [n];clear n u;obtain ⟨ak,r,l,am⟩:=a;obtain ⟨z,o,s,A⟩:=b;simp only at f c d ⊢
 by_cases e0:ak=z
 case neg =>
  rw [if_neg (by omega)];exact ljoined_k_nil _ _ _ _ _ _ _ _ e0 w
 subst e0
 by_cases h1:ak=1
 ·subst h1;rw [if_pos ⟨rfl,rfl⟩]
  by_cases e1:r=o
  case neg=>exact ljoined_l_num _ _ _ _ _ _ e1 lo hi g f c d w
  subst e1
  by_cases e2:l=s
  case neg=>exact ljoined_h_num _ _ _ _ _ e2 lo hi g f c d w
  subst e2;refine ljoined_m_num _ _ _ _ (fun i=>?_) lo hi g f c d w;subst i;exact he ((eqT_iff _ _).2 rfl)
 ·rw [if_neg (fun h=>h1 h.1)]
  by_cases e1:r=o
  case neg=>exact ljoined_l_nil _ _ _ _ _ _ _ e1 h1 w
  subst e1
  by_cases e2:l=s
  case neg=>exact ljoined_h_nil _ _ _ _ _ _ e2 h1 w
  subst e2;refine ljoined_m_nil _ _ _ _ _ (fun i=>?_) h1 w;subst i;exact he ((eqT_iff _ _).2 rfl)
def hasI (xs:List Int) (x:Int):Bool:=(List.range xs.length).any fun k=>decide (xs.getD k 0=x)
theorem hasI_no {xs:List Int}{x:Int}:hasI xs x=false↔∀ k,k<xs.length->xs.getD k 0≠x:=by
 unfold hasI;rw [List.any_eq_false]
 constructor
 ·intro h k a;simpa using h k (List.mem_range.2 a)
 ·intro h k a;simpa using h k (List.mem_range.1 a)
theorem hasI_yes {xs:List Int}{x:Int}{k:Nat}(a:k<xs.length)(h:xs.getD k 0=x):hasI xs x=true:=by
 unfold hasI;rw [List.any_eq_true];exact ⟨k,List.mem_range.2 a,by simpa using h⟩
theorem lindex_any (v:Value)(xs:List Int)(x:Int)(w:World)(n:Sees .i64 w v xs):Cl 126 #[v,I4 x] w fun e A=>∃ q:Int,e=.returned (I4 q)/\Hid (decide (0<=q)=hasI xs x)/\w=A:=by
 have E:=keepJ n;obtain ⟨a,cap,rfl,u,s,I,F,l⟩:=n
 have hm:xs.length<=9223372036854775807:=by unfold maxLen at s;omega
 obtain ⟨N,c⟩:∃ N,Hid (xs.length=N):=⟨_,rfl⟩;rw [c.out] at hm u;rw [c.out];go_enter Tryz.func126,Tryz.ntmps126;go_wp2
 go_loopw [8] (fun i wr=>∃ k:Nat,k<=N/\i=I4 k/\Hid (∀ j,j<k->xs.getD j 0≠x)/\w=wr) (fun i _=>N-(intOf i).toNat)
 case atStart=>exact ⟨0,by omega,rfl,fun j z=>by omega,rfl⟩
 case round =>
  obtain ⟨k,D,rfl,o,rfl⟩:=hrel
  by_cases hlt:k<N
  ·obtain ⟨b,off,rfl,G,d⟩:=l (fun e=>by have:=c.out;rw [e] at this;simp at this;omega);obtain ⟨y,g⟩:∃ y,Hid (xs.getD k 0=y):=⟨_,rfl⟩;have r:=d k (by have:=c.out;omega);rw [g.out] at r
   have B:(k:Int)<N:=by omega
   clear l d
   by_cases hxy:x=y
   ·subst hxy
    have f:Hid (decide (0<=(k:Int))=hasI xs x):=by
     show _=_
     rw [hasI_yes (k:=k) (by have:=c.out;omega) g.out]
     simp
    go_wp2;go_ret;exact ⟨_,rfl,f.out,rfl⟩
   ·go_wp2
    go_roundw
    case rel=>exact ⟨k+1,by omega,by go_num,fun j z=>by
     by_cases h:j=k
     ·subst h;rw [g.out];exact fun e=>hxy e.symm
     ·exact o.out j (by omega),by first|rfl|trivial⟩
    case measure=>simp [intOf];omega
  ·obtain rfl:k=N:=by omega
   have f:Hid (decide (0<=(-1:Int))=hasI xs x):=by
    show _=_
    rw [hasI_no.2 (by rw [c.out];exact o.out)]
    rfl
   go_wp2;go_ret;exact ⟨_,rfl,f.out,rfl⟩
theorem lcontains_any (v:Value)(xs:List Int)(x:Int)(w:World)(b:Sees .i64 w v xs){r:Bool}(f:Hid (hasI xs x=r)):Cl 101 #[v,I4 x] w fun e c=>e=.returned (.bool r)/\w=c:=by
 have g:=keepJ b;obtain ⟨a,cap,rfl,_⟩:=b;go_enter Tryz.func101,Tryz.ntmps101
 go_wp2_with (go_at_call 126;go_must (refine (lindex_any _ xs x _ g.out).mono ?_);rintro e c ⟨q,rfl,d,rfl⟩)
 go_ret;refine ⟨?_,rfl⟩;rw [<- f.out,<- d.out]
 rfl
def okM (ms:List Int) (i:Nat):Bool:=decide (0<=ms.getD i 0)&&decide (ms.getD i 0<=3)&&((List.range i).all fun k=>decide (ms.getD k 0≠ms.getD i 0))
theorem has_take {ms:List Int}{i:Nat}(hi:i<=ms.length)(x:Int):hasI (ms.take i) x = !((List.range i).all fun k=>decide (ms.getD k 0≠x)):=by
 unfold hasI;rw [List.length_take,Nat.min_eq_left hi,Bool.eq_iff_iff];simp only [List.any_eq_true,Bool.not_eq_true',List.all_eq_false,List.mem_range,decide_eq_true_eq]
 constructor
 ·rintro ⟨k,a,h⟩;exact ⟨k,a,by simpa [List.getD,List.getElem?_take,a] using h⟩
 ·rintro ⟨k,a,h⟩;exact ⟨k,a,by simpa [List.getD,List.getElem?_take,a] using h⟩
theorem lmapsFit_any (v:Value)(ms:List Int)(w:World)(B:Sees .i64 w v ms){r:Bool}(o:Hid (mapsJ ms=r)):Cl 71 #[v] w fun e u=>e=.returned (.bool r)/\w=u:=by
 have z:=keepJ B;obtain ⟨a,cap,rfl,J,I,R,P,A⟩:=B;obtain ⟨N,d⟩:∃ N,Hid (ms.length=N):=⟨_,rfl⟩
 have K:cap<=9223372036854775807:=by unfold maxLen at I;omega
 rw [d.out] at J z ⊢
 by_cases hN:N<=4
 ·have g:Hid (r=(List.range N).all (okM ms)):=by
   show _=_
   rw [<- o.out];unfold mapsJ okM;rw [d.out,decide_eq_true hN,Bool.true_and]
  have E:(N:Int)<=4:=by omega
  clear o;go_enter Tryz.func71,Tryz.ntmps71;go_wp2
  go_loopw [10] (fun i wr=>∃ k:Nat,k<=N/\i=I4 k/\Hid ((List.range k).all (okM ms)=true)/\w=wr) (fun i _=>N-(intOf i).toNat)
  case atStart=>exact ⟨0,by omega,rfl,rfl,rfl⟩
  case round =>
   obtain ⟨k,O,rfl,F,rfl⟩:=hrel
   by_cases hlt:k<N
   ·obtain ⟨b,off,rfl,Q,l⟩:=A (fun e=>by have:=d.out;rw [e] at this;simp at this;omega);obtain ⟨y,f⟩:∃ y,Hid (ms.getD k 0=y):=⟨_,rfl⟩;have G:=l k (by have:=d.out;omega);rw [f.out] at G
    have L:(k:Int)<N:=by omega
    clear A l
    by_cases hy0:y<0
    ·have c:Hid (r=false):=by show _=_;rw [g.out];exact range_no hlt (by unfold okM;rw [f.out,decide_eq_false (by omega)];rfl)
     go_wp2;go_ret;exact ⟨by rw [c.out];rfl,rfl⟩
    by_cases hy4:4<=y
    ·have c:Hid (r=false):=by show _=_;rw [g.out];exact range_no hlt (by unfold okM;rw [f.out,decide_eq_false (show ¬ y<=3 by omega),Bool.and_false];rfl)
     go_wp2;go_ret;exact ⟨by rw [c.out];rfl,rfl⟩
    obtain ⟨q,s⟩:∃ q,Hid (hasI (ms.take k) y=q):=⟨_,rfl⟩
    have n:Hid (okM ms k = !q):=by
     show _=_
     unfold okM;rw [f.out,decide_eq_true (show 0<=y by omega),decide_eq_true (show y<=3 by omega),<- s.out,has_take (by have:=d.out;omega)]
     simp
    have D:Hid (Sees .i64 w (cutV (some ⟨b,off,none⟩) 0 k cap) (ms.take k)):=by
     have:=Sees.cut (xs:=ms) (a:=some ⟨b,off,none⟩) (cap:=cap) (by rw [d.out];exact z.out) 0 k cap (by omega) (by have:=d.out;omega) (by omega) (Nat.le_refl _);rw [List.drop_zero] at this;exact this
    have M:=run_upto (e:=3) Tryz.underlying22 (fun w=>by simp [Go.sizeOf];rfl) (some ⟨b,off,none⟩) N cap k (by omega)
    cases q with
    | true =>
     have c:Hid (r=false):=by show _=_;rw [g.out];exact range_no hlt (by rw [n.out];rfl)
     go_wp2_with (go_at_call 101;go_must (refine (lcontains_any _ (ms.take k) y _ D.out s).mono ?_);rintro e u ⟨rfl,rfl⟩)
     go_ret;exact ⟨by rw [c.out];rfl,rfl⟩
    | false =>
     go_wp2_with (go_at_call 101;go_must (refine (lcontains_any _ (ms.take k) y _ D.out s).mono ?_);rintro e u ⟨rfl,rfl⟩)
     go_roundw
     case rel=>exact ⟨k+1,by omega,by go_num,by show _=_;rw [range_all,F.out,n.out];rfl,by first|rfl|trivial⟩
     case measure=>simp [intOf];omega
   ·obtain rfl:k=N:=by omega
    have c:Hid (r=true):=by show _=_;rw [g.out];exact F.out
    go_wp2;go_ret;exact ⟨by rw [c.out];rfl,rfl⟩
 ·have c:Hid (r=false):=by
   show _=_
   rw [<- o.out];unfold mapsJ;rw [d.out,decide_eq_false hN,Bool.false_and]
  have E:4<(N:Int):=by omega
  go_enter Tryz.func71,Tryz.ntmps71;go_wp2;go_ret;exact ⟨by rw [c.out];rfl,rfl⟩
theorem below_dr9 {B:Nat}{w Z:World}(h:Below B w Z):Below B w Z.drew:=⟨h.os,h.tape,h.output,h.size,h.block⟩
theorem rmaps_any (v:Value)(ms:List Int)(w:World)(L:Sees .i64 w v ms){r:Bool}(o:Hid (mapsJ ms=r)):Cl 49 #[v] w fun e Y=>e=.returned (.bool r)/\Bw w Y:=by
 have T:=keepJ L;obtain ⟨a,cap,rfl,U,R,h3,h4,B⟩:=L;obtain ⟨N,l⟩:∃ N,Hid (ms.length=N):=⟨_,rfl⟩
 have X:cap<=9223372036854775807:=by unfold maxLen at R;omega
 rw [l.out] at U T ⊢
 by_cases hN:N<=4
 ·have s:Hid (r=(List.range N).all (okM ms)):=by
   show _=_
   rw [<- o.out];unfold mapsJ okM;rw [l.out,decide_eq_true hN,Bool.true_and]
  have O:(N:Int)<=4:=by omega
  have a1:¬ (4:Int)<N:=by omega
  have S:=keepJ B;clear o B;go_enter Tryz.func49,Tryz.ntmps49;go_wp2
  go_loopw [3] (fun i wr=>∃ k:Nat,k<=N/\i=I4 k/\Hid ((List.range k).all (okM ms)=true)/\Hid (Bw w wr)) (fun i _=>N-(intOf i).toNat)
  case atStart=>exact ⟨0,by omega,rfl,rfl,Below.refl _ _⟩
  case round =>
   rename World=>w0
   obtain ⟨k,hk,rfl,P,c⟩:=hrel;have E:=c.out.size
   by_cases hlt:k<N
   ·obtain ⟨b,off,rfl,V,u⟩:=S.out (fun e=>by have:=l.out;rw [e] at this;simp at this;omega);obtain ⟨y,f⟩:∃ y,Hid (ms.getD k 0=y):=⟨_,rfl⟩
    have g:Hid (∀ z,Bw w z->∀ i,i<N->z.cell? ⟨b,off+i,none⟩=some (I4 (ms.getD i 0))):=fun z G i hi=>(G.cell (p:=⟨b,off+i,none⟩) V).trans (u i (by have:=l.out;omega))
    have n:=g.out w0 c.out k hlt;rw [f.out] at n
    have F:(k:Int)<N:=by omega
    have J:b<w0.heap.size:=by omega
    clear u
    by_cases hy0:y<0
    ·have d:Hid (r=false):=by show _=_;rw [s.out];exact range_no hlt (by unfold okM;rw [f.out,decide_eq_false (by omega)];rfl)
     go_wp2;go_ret;exact ⟨by rw [d.out];rfl,c.out⟩
    by_cases hy4:3<y
    ·have d:Hid (r=false):=by show _=_;rw [s.out];exact range_no hlt (by unfold okM;rw [f.out,decide_eq_false (show ¬ y<=3 by omega),Bool.and_false];rfl)
     go_wp2;go_ret;exact ⟨by rw [d.out];rfl,c.out⟩
    go_wp2
    go_loopw [4] (fun i wr=>∃ j:Nat,j<=k/\i=I4 j/\Hid (∀ t,t<j->ms.getD t 0≠y)/\Hid (Bw w wr)) (fun i _=>k-(intOf i).toNat)
    case atStart=>exact ⟨0,by omega,rfl,fun t A=>by omega,c.out⟩
    case round =>
     clear n J c E
     rename World=>w1
     obtain ⟨j,hj,rfl,K,c⟩:=hrel;have a0:=c.out.size
     have Z:b<w1.heap.size:=by omega
     by_cases hjk:j<k
     ·have I:(j:Int)<k:=by omega
      have a2:(j:Int)<N:=by omega
      obtain ⟨x,D⟩:∃ x,Hid (ms.getD j 0=x):=⟨_,rfl⟩;have n:=g.out w1 c.out k hlt;have Q:=g.out w1 c.out j (by omega);rw [f.out] at n;rw [D.out] at Q
      by_cases hxy:x=y
      ·subst hxy
       have d:Hid (r=false):=by
        show _=_
        rw [s.out];refine range_no hlt ?_;unfold okM;rw [Bool.and_eq_false_iff]
        right
        rw [List.all_eq_false];exact ⟨j,List.mem_range.2 hjk,by rw [f.out,D.out];simp⟩
       go_wp2;go_region;go_wp2;go_ret;exact ⟨by rw [d.out];rfl,below_dr9 c.out⟩
      ·have a3:(x==y)=false:=by simpa using hxy
       go_wp2;go_region;go_wp2
       go_roundw
       case rel=>exact ⟨j+1,by omega,by go_num,fun t A=>by
        by_cases h:t=j
        ·subst h;rw [D.out];exact hxy
        ·exact K.out t (by omega),below_dr9 c.out⟩
       case measure=>simp [intOf];omega
     ·have I:¬ (j:Int)<k:=by omega
      have M:Hid (okM ms k=true):=by
       show _=_
       unfold okM;rw [f.out,decide_eq_true (show 0<=y by omega),decide_eq_true (show y<=3 by omega),Bool.true_and,Bool.true_and,List.all_eq_true];intro t A;exact decide_eq_true (K.out t (by have:=List.mem_range.1 A;omega))
      go_wp2
      go_roundw
      case rel=>exact ⟨k+1,by omega,by go_num,by show _=_;rw [List.range_succ,List.all_append,P.out];simpa using M.out,c.out⟩
      case measure=>simp [intOf];omega
   ·have F:¬ (k:Int)<N:=by omega
    have d:Hid (r=true):=by show _=_;rw [s.out,show N=k by omega];exact P.out
    go_wp2;go_ret;exact ⟨by rw [d.out];rfl,c.out⟩
 ·have d:Hid (r=false):=by
   show _=_
   rw [<- o.out];unfold mapsJ;rw [l.out,decide_eq_false hN,Bool.false_and]
  have O:(4:Int)<N:=by omega
  clear o B;go_enter Tryz.func49,Tryz.ntmps49;go_wp2;go_ret;exact ⟨by rw [d.out];rfl,Below.refl _ _⟩
end Go.Proofs.YtmdhljoicnommaaGreat
