/-
  J8Check
  J8RCheck
-/
import Derived.Test.YtmdhljoicnommaaGreatME11
import Derived.Deep.RegionHeld3
namespace Go.Proofs.YtmdhljoicnommaaGreat
set_option maxHeartbeats 12800000
open Go.RowKit
set_option linter.unusedVariables false
set_option maxRecDepth 100000
theorem yJe (h:Int)(w:World):Cl 137 #[I4 h] w fun e a=>e=.returned (.bool (decide (0<=h/\h<7)))/\w=a:=by
 by_cases h0:0<=h<;>by_cases h1:h<7
 all_goals go_enter Tryz.func137,Tryz.ntmps137
 all_goals go_wp2
 all_goals go_ret
 all_goals exact ⟨rb (by simp [h0,h1]),rfl⟩
theorem qUk {h:Int}{r:Bool}(b:Hid (r=decide (0<=h/\h<7)))(w:World):Cl 137 #[I4 h] w fun e a=>e=.returned (.bool r)/\w=a:=by
 rw [b.out];exact yJe h w
def qFi (a t:Ty):Int:=if a.k≠t.k then 33 else if t.k=1/\qDs a.lo a.hi t.lo t.hi=false then 35 else 0
def qFw:List Ty->List Ty->Int
 | a :: l,t :: ts=>if qFi a t≠0 then qFi a t else qFw l ts
 | _,_=>0
def qDr (h:Int) (xs:List Ty):Int:=if ¬ (0<=h/\h<7) then 34 else if xs.length≠(qEa h).length then 2 else qFw xs (qEa h)
theorem qNr {w c:World}{a b:Obj}(h:Below ((w.alloc a).alloc b).heap.size ((w.alloc a).alloc b) c):Bw w c :=
 (((Below.refl _ _).alloc (Nat.le_refl _) a).alloc (by simp) b).trans (h.mono (by simp;omega))
theorem qGu {a b:Int}(h:a=b):Ending.returned (I4 a)=.returned (I4 b):=by rw [h]
theorem qMx {a A b B:Int}{r:Bool}(h:Hid (r=qDs a A b B))(w:World):Cl 135 #[.agg #[U8 a,U8 A],.agg #[U8 b,U8 B]] w fun e c=>e=.returned (.bool r)/\Bw w c:=by
 rw [h.out];exact yEt a A b B w
theorem qUq {a A b B:Int}{r:Bool}(h:Hid (r=qDs a A b B))(w:World):Cl 125 #[.agg #[U8 a,U8 A],.agg #[U8 b,U8 B]] w fun e c=>e=.returned (.bool r)/\Bw w c:=by
 rw [h.out];exact qTh a A b B w
theorem yNs (a t:Ty)(w:World):Cl 138 #[tyV a,tyV t] w fun e o=>e=.returned (I4 (qFi a t))/\Bw w o:=by
 obtain ⟨ak,f,d,am⟩:=a;obtain ⟨n,c,g,k⟩:=t
 by_cases hk:ak=n
 ·subst hk
  by_cases h1:ak=1
  ·subst h1;obtain ⟨r,l⟩:∃ r,Hid (r=qDs f d c g):=⟨_,rfl⟩
   cases r
   ·have b:Hid (qFi ⟨1,f,d,am⟩ ⟨1,c,g,k⟩=35):=by show _=_;unfold qFi;simp [<- l.out]
    go_enter Tryz.func138,Tryz.ntmps138
    go_wp2_with (go_at_call 135;go_must (refine (qMx l _).mono ?_);rintro e s ⟨rfl,i⟩)
    go_ret;exact ⟨qGu b.out.symm,qNr i⟩
   ·have b:Hid (qFi ⟨1,f,d,am⟩ ⟨1,c,g,k⟩=0):=by show _=_;unfold qFi;simp [<- l.out]
    go_enter Tryz.func138,Tryz.ntmps138
    go_wp2_with (go_at_call 135;go_must (refine (qMx l _).mono ?_);rintro e s ⟨rfl,i⟩)
    go_ret;exact ⟨qGu b.out.symm,qNr i⟩
  ·have b:Hid (qFi ⟨ak,f,d,am⟩ ⟨ak,c,g,k⟩=0):=by show _=_;unfold qFi;simp [h1]
   go_enter Tryz.func138,Tryz.ntmps138;go_wp2;go_ret;exact ⟨qGu b.out.symm,by go_grown⟩
 ·have b:Hid (qFi ⟨ak,f,d,am⟩ ⟨n,c,g,k⟩=33):=by show _=_;unfold qFi;simp [hk]
  go_enter Tryz.func138,Tryz.ntmps138;go_wp2;go_ret;exact ⟨qGu b.out.symm,by go_grown⟩
theorem yBi {a t:Ty}{r:Int}(h:Hid (r=qFi a t))(w:World):Cl 138 #[tyV a,tyV t] w fun e b=>e=.returned (I4 r)/\Bw w b:=by
 rw [h.out];exact yNs a t w
theorem qAg {B:Nat}{Z w:World}(h:Below B Z.drew w):Below B Z w:=⟨h.os,h.tape,h.output,h.size,h.block⟩
theorem qXy {xs a:List Ty}{k:Nat}(h:xs.length=a.length)(b:k<a.length):qFw (xs.drop k) (a.drop k)=if qFi (xs.getD k Ty.nil) (a.getD k Ty.nil)≠0 then qFi (xs.getD k Ty.nil) (a.getD k Ty.nil) else qFw (xs.drop (k+1)) (a.drop (k+1)):=by
 have c:xs.drop k=xs.getD k Ty.nil :: xs.drop (k+1):=by rw [List.drop_eq_getElem_cons (by omega)];simp [List.getD,h ▸ b]
 have d:a.drop k=a.getD k Ty.nil :: a.drop (k+1):=by rw [List.drop_eq_getElem_cons (by omega)];simp [List.getD,b]
 rw [c,d];rfl
theorem yBb {xs a:List Ty}{k:Nat}(b:a.length<=k):qFw (xs.drop k) (a.drop k)=0:=by
 rw [List.drop_eq_nil_of_le b]
 cases xs.drop k<;>rfl
abbrev At2 (w:World) (b off:Nat) (x:Ty) (n off':Nat) (t:Ty):Prop :=
 (w.cell? ⟨b,off,none⟩=some (.int .i64 x.k)/\w.cell? ⟨b,off+1,none⟩=some (.int .u64 x.lo)/\w.cell? ⟨b,off+2,none⟩=some (.int .u64 x.hi)/\w.cell? ⟨b,off+3,none⟩=some (.int .i64 x.m)) /\
  w.cell? ⟨n,off',none⟩=some (.int .i64 t.k)/\w.cell? ⟨n,off'+1,none⟩=some (.int .u64 t.lo)/\w.cell? ⟨n,off'+2,none⟩=some (.int .u64 t.hi)/\w.cell? ⟨n,off'+3,none⟩=some (.int .i64 t.m)
theorem At2.below {w d:World}{b off n a B:Nat}{x t:Ty}(h:At2 w b off x n a t)(c:Below B w d)(f:b<B)(g:n<B):At2 d b off x n a t:=⟨AtT.below (t:=x) h.1 c f,AtT.below (t:=t) h.2 c g⟩
theorem yJy (h:Int)(v:Value)(xs:List Ty)(w:World)(M:SeesT w v xs):Cl 116 #[I4 h,v] w fun e c=>e=.returned (I4 (qDr h xs))/\Bw w c:=by
 by_cases hc:0<=h/\h<7
 ·have Y:Hid (true=decide (0<=h/\h<7)):=show true=decide (0<=h/\h<7) from (decide_eq_true hc).symm
  by_cases hl:xs.length=(qEa h).length
  ·have G:Hid (qDr h xs=qFw xs (qEa h)):=by show _=_;unfold qDr;rw [if_neg (by omega),if_neg (by omega)]
   have HL:Hid (xs.length=(qEa h).length):=hl;obtain ⟨a,cap,rfl,a8,a7,S,E⟩:=M;have HS:Hid (xs≠[]->∃ b off,a=some ⟨b,off,none⟩/\b<w.heap.size/\∀ k,k<xs.length->AtT w b (off+k*4) (xs.getD k Ty.nil)):=E;obtain ⟨n,z⟩:∃ n,Hid (xs.length=n):=⟨_,rfl⟩;obtain ⟨f,F⟩:∃ f,Hid (f=qEa h):=⟨_,rfl⟩
   have s:Hid (f.length=n):=by show _=_;rw [F.out,<- HL.out,z.out]
   rw [z.out] at a8 ⊢;unfold maxLen at a7;clear hl hc E S HL;go_enter Tryz.func116,Tryz.ntmps116
   go_wp2_with (first
    | (go_at_call 137;go_must (refine (qUk Y _).mono ?_);rintro e w1 ⟨rfl,rfl⟩)
    | (go_at_call 117;go_must (refine (qTz h _).mono ?_);rintro e u ⟨u2,rfl,d,o⟩;go_must (rw [<- F.out] at d;obtain ⟨a2,c2,rfl,O,R,_,y⟩:=qGc d;(have ab:Hid (f≠[]->∃ b off,a2=some ⟨b,off,none⟩/\b<u.heap.size/\∀ k,k<f.length->AtT u b (off+k*4) (f.getD k Ty.nil)):=y);rw [s.out] at O ⊢;unfold maxLen at R;clear d y)))
   have a5:=o.size
   go_loopw [21] (fun i wr=>∃ k:Nat,k<=n/\i=I4 k/\qFw xs f=qFw (xs.drop k) (f.drop k)/\Bw u wr) (fun i _=>n-(intOf i).toNat)
   case atStart=>exact ⟨0,by omega,rfl,rfl,Below.refl _ _⟩
   case round =>
    obtain ⟨k,hk,rfl,hf,l⟩:=hrel;have HF:Hid (qFw xs f=qFw (xs.drop k) (f.drop k)):=hf;have a6:=l.size;clear hf
    by_cases hlt:k<n
    ·obtain ⟨b,off,rfl,hb,a0⟩:=HS.out (fun h=>by have:=z.out;rw [h] at this;simp at this;omega);obtain ⟨b2,a9,rfl,aa,K⟩:=ab.out (fun h=>by have:=s.out;rw [h] at this;simp at this;omega);obtain ⟨x,HX⟩:∃ x,Hid (x=xs.getD k Ty.nil):=⟨_,rfl⟩;obtain ⟨t,a4⟩:∃ t,Hid (t=f.getD k Ty.nil):=⟨_,rfl⟩;obtain ⟨r,HR⟩:∃ r,Hid (r=qFi x t):=⟨_,rfl⟩
     have hA:AtT wr b (off+k*4) x:=by rw [HX.out];exact ((a0 k (by have:=z.out;omega)).below o hb).below l (by omega)
     have a3:AtT wr b2 (a9+k*4) t:=by rw [a4.out];exact (K k (by have:=s.out;omega)).below l aa
     have HQ:Hid (qFw xs f=if r≠0 then r else qFw (xs.drop (k+1)) (f.drop (k+1))):=by
      show _=_
      rw [HF.out,qXy (by rw [z.out,s.out]) (by rw [s.out];exact hlt),HR.out,HX.out,a4.out]
     obtain ⟨Q,P,V,X⟩:=x;obtain ⟨L,T,N,U⟩:=t;obtain ⟨g0,g1,g2,g3⟩:=id a3;simp only at g0 g1 g2 g3;obtain ⟨Z,HZ,D,a1,ac⟩:∃ Z,Hid (Z=wr.alloc (tyO ⟨L,T,N,U⟩))/\At2 Z b (off+k*4) ⟨Q,P,V,X⟩ wr.heap.size 0 ⟨L,T,N,U⟩/\Bw wr Z/\wr.heap.size<Z.heap.size :=
      ⟨_,rfl,⟨AtT.below (t:=⟨Q,P,V,X⟩) hA ((Below.refl wr.heap.size wr).alloc (Nat.le_refl _) _) (by omega),by go_cell,by go_cell,by go_cell,by go_cell⟩,(Below.refl _ _).alloc (Nat.le_refl _) _,by simp⟩
     clear a0 K hA a3 HF
     by_cases hr:r=0
     ·subst hr;go_wp2;rw [<- HZ.out];clear g0 g1 g2 g3
      go_region_held3 (fun c=>(c.cell? ⟨b,off+k*4,none⟩=some (I4 Q)/\c.cell? ⟨b,off+k*4+1,none⟩=some (U8 P)/\c.cell? ⟨b,off+k*4+2,none⟩=some (U8 V)/\c.cell? ⟨b,off+k*4+3,none⟩=some (I4 X))/\c.cell? ⟨wr.heap.size,0,none⟩=some (I4 L)/\c.cell? ⟨wr.heap.size,1,none⟩=some (U8 T)/\c.cell? ⟨wr.heap.size,2,none⟩=some (U8 N)/\c.cell? ⟨wr.heap.size,3,none⟩=some (I4 U))
       (first|exact B|exact D)
       (first|(go_at_call 138;go_must (refine (yBi HR _).mono ?_);rintro e I ⟨rfl,g⟩;go_must (have A:Bw Z I:=qAg g;have B:=At2.below D A (by omega) (by omega);have J:Bw u I:=(l.trans (a1.mono a6)).trans (A.mono (by omega));clear g)))
      go_wp2
      go_roundw
      case rel=>exact ⟨k+1,by omega,by go_num,by rw [HQ.out];simp,J⟩
      case measure=>simp [intOf];omega
     ·go_wp2;rw [<- HZ.out];clear g0 g1 g2 g3
      go_region_held3 (fun c=>(c.cell? ⟨b,off+k*4,none⟩=some (I4 Q)/\c.cell? ⟨b,off+k*4+1,none⟩=some (U8 P)/\c.cell? ⟨b,off+k*4+2,none⟩=some (U8 V)/\c.cell? ⟨b,off+k*4+3,none⟩=some (I4 X))/\c.cell? ⟨wr.heap.size,0,none⟩=some (I4 L)/\c.cell? ⟨wr.heap.size,1,none⟩=some (U8 T)/\c.cell? ⟨wr.heap.size,2,none⟩=some (U8 N)/\c.cell? ⟨wr.heap.size,3,none⟩=some (I4 U))
       (first|exact B|exact D)
       (first|(go_at_call 138;go_must (refine (yBi HR _).mono ?_);rintro e I ⟨rfl,g⟩;go_must (have A:Bw Z I:=qAg g;have B:=At2.below D A (by omega) (by omega);have J:Bw u I:=(l.trans (a1.mono a6)).trans (A.mono (by omega));clear g)))
      go_wp2;go_ret;exact ⟨qGu (by rw [G.out,<- F.out,HQ.out,if_pos hr]),o.trans (J.mono a5)⟩
    ·obtain rfl:k=n:=by omega
     go_wp2;go_ret;exact ⟨qGu (by rw [G.out,<- F.out,HF.out,yBb (by rw [s.out];exact Nat.le_refl _)]),o.trans (l.mono a5)⟩
  ·have G:Hid (qDr h xs=2):=by show _=_;unfold qDr;rw [if_neg (by omega),if_pos hl]
   obtain ⟨a,cap,rfl⟩:=M.shape;obtain ⟨n,z⟩:∃ n,Hid (xs.length=n):=⟨_,rfl⟩;obtain ⟨m,HM⟩:∃ m,Hid ((qEa h).length=m):=⟨_,rfl⟩;rw [z.out,HM.out] at hl;rw [z.out];clear M hc;go_enter Tryz.func116,Tryz.ntmps116
   go_wp2_with (first
    | (go_at_call 137;go_must (refine (qUk Y _).mono ?_);rintro e w1 ⟨rfl,rfl⟩)
    | (go_at_call 117;go_must (refine (qTz h _).mono ?_);rintro e u ⟨u2,rfl,d,o⟩;go_must (obtain ⟨a2,c2,rfl⟩:=(qGc d).shape;rw [HM.out];clear d)))
   go_ret;exact ⟨qGu G.out.symm,o⟩
 ·have Y:Hid (false=decide (0<=h/\h<7)):=show false=decide (0<=h/\h<7) from (decide_eq_false hc).symm
  have G:Hid (qDr h xs=34):=by show _=_;unfold qDr;rw [if_pos hc]
  clear M;go_enter Tryz.func116,Tryz.ntmps116
  go_wp2_with (go_at_call 137;go_must (refine (qUk Y _).mono ?_);rintro e w1 ⟨rfl,rfl⟩)
  go_ret;exact ⟨qGu G.out.symm,by go_grown⟩
theorem yFr (h:Int)(v:Value)(xs:List Ty)(w:World)(V:SeesT w v xs):Cl 89 #[I4 h,v] w fun e c=>e=.returned (I4 (qDr h xs))/\Bw w c:=by
 by_cases hc:0<=h/\h<7
 ·obtain ⟨ab,ac⟩:=id hc
  by_cases hl:xs.length=(qEa h).length
  ·have E:Hid (qDr h xs=qFw xs (qEa h)):=by show _=_;unfold qDr;rw [if_neg (by omega),if_neg (by omega)]
   have HL:Hid (xs.length=(qEa h).length):=hl;obtain ⟨a,cap,rfl,a7,a6,a0,Q⟩:=V;have HS:Hid (xs≠[]->∃ b off,a=some ⟨b,off,none⟩/\b<w.heap.size/\∀ k,k<xs.length->AtT w b (off+k*4) (xs.getD k Ty.nil)):=Q;obtain ⟨n,J⟩:∃ n,Hid (xs.length=n):=⟨_,rfl⟩;obtain ⟨f,I⟩:∃ f,Hid (f=qEa h):=⟨_,rfl⟩
   have A:Hid (f.length=n):=by show _=_;rw [I.out,<- HL.out,J.out]
   rw [J.out] at a7 ⊢;unfold maxLen at a6;clear hl hc Q a0 HL;go_enter Tryz.func89,Tryz.ntmps89
   go_wp2_with (first
    | (go_at_call 88;go_must (refine (qSa h _).mono ?_);rintro e B ⟨u2,rfl,g,z⟩;go_must (rw [<- I.out] at g;obtain ⟨a2,c2,rfl,Y,Z,_,D⟩:=qGc g;(have a9:Hid (f≠[]->∃ b off,a2=some ⟨b,off,none⟩/\b<B.heap.size/\∀ k,k<f.length->AtT B b (off+k*4) (f.getD k Ty.nil)):=D);rw [A.out] at Y ⊢;unfold maxLen at Z;clear g D)))
   have U:=z.size
   go_loopw [6] (fun i wr=>∃ k:Nat,k<=n/\i=I4 k/\qFw xs f=qFw (xs.drop k) (f.drop k)/\Bw B wr) (fun i _=>n-(intOf i).toNat)
   case atStart=>exact ⟨0,by omega,rfl,rfl,Below.refl _ _⟩
   case round =>
    obtain ⟨k,hk,rfl,hf,s⟩:=hrel;have HF:Hid (qFw xs f=qFw (xs.drop k) (f.drop k)):=hf;have a5:=s.size;clear hf
    by_cases hlt:k<n
    ·obtain ⟨b,off,rfl,hb,a1⟩:=HS.out (fun h=>by have:=J.out;rw [h] at this;simp at this;omega);obtain ⟨b2,d,rfl,a8,T⟩:=a9.out (fun h=>by have:=A.out;rw [h] at this;simp at this;omega);obtain ⟨x,HX⟩:∃ x,Hid (x=xs.getD k Ty.nil):=⟨_,rfl⟩;obtain ⟨t,a4⟩:∃ t,Hid (t=f.getD k Ty.nil):=⟨_,rfl⟩
     have hA:AtT wr b (off+k*4) x:=by rw [HX.out];exact ((a1 k (by have:=J.out;omega)).below z hb).below s (by omega)
     have a3:AtT wr b2 (d+k*4) t:=by rw [a4.out];exact (T k (by have:=A.out;omega)).below s a8
     have HQ:Hid (qFw xs f=if qFi x t≠0 then qFi x t else qFw (xs.drop (k+1)) (f.drop (k+1))):=by
      show _=_
      rw [HF.out,qXy (by rw [J.out,A.out]) (by rw [A.out];exact hlt),HX.out,a4.out]
     obtain ⟨N,G,M,P⟩:=x;obtain ⟨tk,L,F,O⟩:=t;have o:At2 wr b (off+k*4) ⟨N,G,M,P⟩ b2 (d+k*4) ⟨tk,L,F,O⟩:=⟨hA,a3⟩
     have ad:b<wr.heap.size:=by omega
     have aa:b2<wr.heap.size:=by omega
     clear a1 T hA a3 HF
     by_cases hkk:N=tk
     ·subst hkk
      by_cases h1:N=1
      ·subst h1;obtain ⟨r,X⟩:∃ r,Hid (r=qDs G M L F):=⟨_,rfl⟩
       cases r
       ·have y:Hid (qFw xs f=35):=by show _=_;rw [HQ.out];simp [qFi,<- X.out]
        go_wp2
        go_region_held3 (fun c=>(c.cell? ⟨b,off+k*4,none⟩=some (I4 1)/\c.cell? ⟨b,off+k*4+1,none⟩=some (U8 G)/\c.cell? ⟨b,off+k*4+2,none⟩=some (U8 M)/\c.cell? ⟨b,off+k*4+3,none⟩=some (I4 P))/\c.cell? ⟨b2,d+k*4,none⟩=some (I4 1)/\c.cell? ⟨b2,d+k*4+1,none⟩=some (U8 L)/\c.cell? ⟨b2,d+k*4+2,none⟩=some (U8 F)/\c.cell? ⟨b2,d+k*4+3,none⟩=some (I4 O))
         (first|exact l|exact o)
         (first|(fail))
        go_wp2
        go_region_held3 (fun c=>(c.cell? ⟨b,off+k*4,none⟩=some (I4 1)/\c.cell? ⟨b,off+k*4+1,none⟩=some (U8 G)/\c.cell? ⟨b,off+k*4+2,none⟩=some (U8 M)/\c.cell? ⟨b,off+k*4+3,none⟩=some (I4 P))/\c.cell? ⟨b2,d+k*4,none⟩=some (I4 1)/\c.cell? ⟨b2,d+k*4+1,none⟩=some (U8 L)/\c.cell? ⟨b2,d+k*4+2,none⟩=some (U8 F)/\c.cell? ⟨b2,d+k*4+3,none⟩=some (I4 O))
         (first|exact l|exact o)
         (first|(go_at_call 125;go_must (refine (qUq X _).mono ?_);rintro e R ⟨rfl,u⟩;go_must (have K:Bw wr R:=qAg (qAg u);have l:=At2.below o K (by omega) (by omega);have S:Bw B R:=s.trans (K.mono a5);clear u)))
        go_wp2;go_ret;exact ⟨qGu (by rw [E.out,<- I.out,y.out]),z.trans (S.mono U)⟩
       ·have y:Hid (qFw xs f=qFw (xs.drop (k+1)) (f.drop (k+1))):=by show _=_;rw [HQ.out];simp [qFi,<- X.out]
        go_wp2
        go_region_held3 (fun c=>(c.cell? ⟨b,off+k*4,none⟩=some (I4 1)/\c.cell? ⟨b,off+k*4+1,none⟩=some (U8 G)/\c.cell? ⟨b,off+k*4+2,none⟩=some (U8 M)/\c.cell? ⟨b,off+k*4+3,none⟩=some (I4 P))/\c.cell? ⟨b2,d+k*4,none⟩=some (I4 1)/\c.cell? ⟨b2,d+k*4+1,none⟩=some (U8 L)/\c.cell? ⟨b2,d+k*4+2,none⟩=some (U8 F)/\c.cell? ⟨b2,d+k*4+3,none⟩=some (I4 O))
         (first|exact l|exact o)
         (first|(fail))
        go_wp2
        go_region_held3 (fun c=>(c.cell? ⟨b,off+k*4,none⟩=some (I4 1)/\c.cell? ⟨b,off+k*4+1,none⟩=some (U8 G)/\c.cell? ⟨b,off+k*4+2,none⟩=some (U8 M)/\c.cell? ⟨b,off+k*4+3,none⟩=some (I4 P))/\c.cell? ⟨b2,d+k*4,none⟩=some (I4 1)/\c.cell? ⟨b2,d+k*4+1,none⟩=some (U8 L)/\c.cell? ⟨b2,d+k*4+2,none⟩=some (U8 F)/\c.cell? ⟨b2,d+k*4+3,none⟩=some (I4 O))
         (first|exact l|exact o)
         (first|(go_at_call 125;go_must (refine (qUq X _).mono ?_);rintro e R ⟨rfl,u⟩;go_must (have K:Bw wr R:=qAg (qAg u);have l:=At2.below o K (by omega) (by omega);have S:Bw B R:=s.trans (K.mono a5);clear u)))
        go_wp2
        go_roundw
        case rel=>exact ⟨k+1,by omega,by go_num,y.out,S⟩
        case measure=>simp [intOf];omega
      ·have hg:(N==1)=false:=by simp [h1]
       have y:Hid (qFw xs f=qFw (xs.drop (k+1)) (f.drop (k+1))):=by show _=_;rw [HQ.out];simp [qFi,h1]
       go_wp2
       go_region_held3 (fun c=>(c.cell? ⟨b,off+k*4,none⟩=some (I4 N)/\c.cell? ⟨b,off+k*4+1,none⟩=some (U8 G)/\c.cell? ⟨b,off+k*4+2,none⟩=some (U8 M)/\c.cell? ⟨b,off+k*4+3,none⟩=some (I4 P))/\c.cell? ⟨b2,d+k*4,none⟩=some (I4 N)/\c.cell? ⟨b2,d+k*4+1,none⟩=some (U8 L)/\c.cell? ⟨b2,d+k*4+2,none⟩=some (U8 F)/\c.cell? ⟨b2,d+k*4+3,none⟩=some (I4 O))
        (first|exact l|exact o)
        (first|(fail))
       go_wp2;obtain ⟨⟨g0,g1,g2,g3⟩,d0,d1,d2,d3⟩:=o;simp only at d0;go_region;go_wp2
       go_roundw
       case rel=>exact ⟨k+1,by omega,by go_num,y.out,qIv s 2⟩
       case measure=>simp [intOf];omega
     ·have y:Hid (qFw xs f=33):=by show _=_;rw [HQ.out];simp [qFi,hkk]
      go_wp2
      go_region_held3 (fun c=>(c.cell? ⟨b,off+k*4,none⟩=some (I4 N)/\c.cell? ⟨b,off+k*4+1,none⟩=some (U8 G)/\c.cell? ⟨b,off+k*4+2,none⟩=some (U8 M)/\c.cell? ⟨b,off+k*4+3,none⟩=some (I4 P))/\c.cell? ⟨b2,d+k*4,none⟩=some (I4 tk)/\c.cell? ⟨b2,d+k*4+1,none⟩=some (U8 L)/\c.cell? ⟨b2,d+k*4+2,none⟩=some (U8 F)/\c.cell? ⟨b2,d+k*4+3,none⟩=some (I4 O))
       (first|exact l|exact o)
       (first|(fail))
      go_wp2;go_ret;exact ⟨qGu (by rw [E.out,<- I.out,y.out]),qIv (z.trans (s.mono U)) 1⟩
    ·obtain rfl:k=n:=by omega
     go_wp2;go_ret;exact ⟨qGu (by rw [E.out,<- I.out,HF.out,yBb (by rw [A.out];exact Nat.le_refl _)]),z.trans (s.mono U)⟩
  ·have E:Hid (qDr h xs=2):=by show _=_;unfold qDr;rw [if_neg (by omega),if_pos hl]
   obtain ⟨a,cap,rfl⟩:=V.shape;obtain ⟨n,J⟩:∃ n,Hid (xs.length=n):=⟨_,rfl⟩;obtain ⟨m,HM⟩:∃ m,Hid ((qEa h).length=m):=⟨_,rfl⟩;rw [J.out,HM.out] at hl;rw [J.out];clear V hc;go_enter Tryz.func89,Tryz.ntmps89
   go_wp2_with (first
    | (go_at_call 88;go_must (refine (qSa h _).mono ?_);rintro e B ⟨u2,rfl,g,z⟩;go_must (obtain ⟨a2,c2,rfl⟩:=(qGc g).shape;rw [HM.out];clear g)))
   go_ret;exact ⟨qGu E.out.symm,z⟩
 ·have E:Hid (qDr h xs=34):=by show _=_;unfold qDr;rw [if_pos hc]
  clear V
  by_cases h0:0<=h
  ·have h1:¬ h<7:=by omega
   clear hc;go_enter Tryz.func89,Tryz.ntmps89;go_wp2;go_ret;exact ⟨qGu E.out.symm,by go_grown⟩
  ·clear hc;go_enter Tryz.func89,Tryz.ntmps89;go_wp2;go_ret;exact ⟨qGu E.out.symm,by go_grown⟩
end Go.Proofs.YtmdhljoicnommaaGreat
